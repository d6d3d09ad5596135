import PyProof.Rows.All
import Wide.All
import OpenK.AllK
import Wide.FinOn
import Lean
import PyProof.EqAt
import PyProof.EqKinds
import PyProof.TupleCall
import PySem.Challenge.RW_seatweave_k05_refused
set_option Elab.async false
set_option linter.all false
set_option maxRecDepth 100000
namespace L2
open PySem PySem.Spec PyProof.Rows
abbrev Key := Sum Int Str
def keyIs : Key → Value → Bool
  | .inl k, v => Value.isInt k v
  | .inr x, v => Value.isStrOf x v
def keyH (w : World) : Key → Int
  | .inl k => hashInt k
  | .inr x => hashStr w x
theorem keyIs_shape : ∀ {k : Key} {v : Value}, keyIs k v = true → (∃ i t, k = Sum.inl i ∧ v = Value.int i t) ∨ (∃ x t, k = Sum.inr x ∧ v = Value.str x t)
  | .inl i, v, h => by
    obtain ⟨t, e⟩ := Value.isInt_shape (k := i) (v := v) h
    exact .inl ⟨i, t, rfl, e⟩
  | .inr x, v, h => by
    obtain ⟨t, e⟩ := Value.isStrOf_shape (x := x) (v := v) h
    exact .inr ⟨x, t, rfl, e⟩
theorem key_ll (a b : Int) : decide ((Sum.inl a : Key) = Sum.inl b) = (a == b) := by
  by_cases e : a = b
  · subst e; simp
  · have h : ¬ (Sum.inl a : Key) = Sum.inl b := fun q => e (Sum.inl.inj q)
    rw [decide_eq_false h]
    exact (beq_eq_false_iff_ne.mpr e).symm
theorem key_rr (a b : Str) : decide ((Sum.inr a : Key) = Sum.inr b) = decide (a = b) := by
  by_cases e : a = b
  · subst e; simp
  · have h : ¬ (Sum.inr a : Key) = Sum.inr b := fun q => e (Sum.inr.inj q)
    rw [decide_eq_false h, decide_eq_false e]
theorem key_lr (a : Int) (b : Str) : decide ((Sum.inl a : Key) = Sum.inr b) = false := decide_eq_false (fun q => nomatch q)
theorem key_rl (a : Str) (b : Int) : decide ((Sum.inr a : Key) = Sum.inl b) = false := decide_eq_false (fun q => nomatch q)
def mixKind (prog : Program) (w : World) : PySem.KeyKind prog w Key where
  is := keyIs
  hash := keyH w
  inj := fun v a b ha hb => by
    rcases keyIs_shape ha with ⟨i, t, rfl, rfl⟩ | ⟨x, t, rfl, rfl⟩
    · rcases keyIs_shape hb with ⟨j, u, rfl, e⟩ | ⟨y, u, rfl, e⟩
      · injection e with e1 _; rw [e1]
      · exact nomatch e
    · rcases keyIs_shape hb with ⟨j, u, rfl, e⟩ | ⟨y, u, rfl, e⟩
      · exact nomatch e
      · injection e with e1 _; rw [e1]
  byValue := fun k v h => by
    rcases keyIs_shape h with ⟨i, t, rfl, rfl⟩ | ⟨x, t, rfl, rfl⟩ <;> rfl
  pyHash := fun hv h => by
    rcases keyIs_shape hv with ⟨i, t, rfl, rfl⟩ | ⟨x, t, rfl, rfl⟩
    · exact wpAny_pyHash_int h
    · exact wpAny_pyHash_str h
  eqBool := fun hu hv h => by
    rcases keyIs_shape hu with ⟨i, t, rfl, rfl⟩ | ⟨x, t, rfl, rfl⟩
    · rcases keyIs_shape hv with ⟨j, u, rfl, rfl⟩ | ⟨y, u, rfl, rfl⟩
      · rw [key_ll] at h; exact wpAny_eqBool_int h
      · rw [key_lr] at h; exact SeqAt.EqAt.int_str i t y u _ _ _ _ h
    · rcases keyIs_shape hv with ⟨j, u, rfl, rfl⟩ | ⟨y, u, rfl, rfl⟩
      · rw [key_rl] at h; exact SeqAt.EqAt.str_int x t j u _ _ _ _ h
      · rw [key_rr] at h; exact wpAny_eqBool_str h
  «strs» := fun k x t v h => by
    rcases keyIs_shape h with ⟨i, u, rfl, e⟩ | ⟨y, u, rfl, e⟩
    · exact nomatch e
    · injection e with e1 _
      subst e1
      cases v <;> rfl
end L2
namespace L2
open PySem PySem.Spec PyProof.Rows
inductive V where
  | non | bl (b : Bool) | int (i : Int) | str (x : Str) | byt (b : Array UInt8) | flt (b : UInt64) | ref (a : Addr) | ty (n : String)
  deriving DecidableEq
def RelV : V → Value → Prop
  | .non, u => u = Value.none
  | .bl b, u => u = Value.bool b
  | .int i, u => ∃ t, u = Value.int i t
  | .str x, u => ∃ t, u = Value.str x t
  | .byt b, u => ∃ t, u = Value.bytes b t
  | .flt b, u => ∃ t, u = Value.float b t
  | .ref a, u => u = Value.ref a
  | .ty n, u => u = Value.type n
abbrev Vals : List V → List Value → Prop := Paired RelV
theorem Vals.length {xs : List V} {us : List Value} (r : Vals xs us) : xs.length = us.length := Paired.length r
theorem Vals.get : ∀ {xs : List V} {us : List Value} {i : Nat} {x : V}, Vals xs us → xs[i]? = some x → ∃ u, us[i]? = some u ∧ RelV x u
  | _, _, _, _, .nil, e => by simp at e
  | _, _, 0, _, .cons r _, e => by simp at e; subst e; exact ⟨_, rfl, r⟩
  | _, _, i + 1, x, .cons _ t, e => by
    obtain ⟨u, h1, h2⟩ := Vals.get (i := i) (x := x) t (by simpa using e)
    exact ⟨u, by simpa using h1, h2⟩
theorem Vals.set {x : V} {u : Value} (r : RelV x u) : ∀ {xs : List V} {us : List Value} (i : Nat), Vals xs us → Vals (xs.set i x) (us.set i u)
  | _, _, _, .nil => .nil
  | _, _, 0, .cons _ t => .cons r t
  | _, _, i + 1, .cons q t => .cons q (Vals.set r i t)
theorem Vals.append : ∀ {xs ys : List V} {us ws : List Value}, Vals xs us → Vals ys ws → Vals (xs ++ ys) (us ++ ws)
  | _, _, _, _, .nil, s => s
  | _, _, _, _, .cons r t, s => .cons r (Vals.append t s)
theorem Vals.take : ∀ {xs : List V} {us : List Value} (n : Nat), Vals xs us → Vals (xs.take n) (us.take n)
  | _, _, 0, _ => .nil
  | _, _, _ + 1, .nil => .nil
  | _, _, n + 1, .cons r t => .cons r (Vals.take n t)
theorem Vals.drop : ∀ {xs : List V} {us : List Value} (n : Nat), Vals xs us → Vals (xs.drop n) (us.drop n)
  | _, _, 0, r => r
  | _, _, _ + 1, .nil => .nil
  | _, _, n + 1, .cons _ t => Vals.drop n t
def RelO : Option V → Option Value → Prop
  | some v, some u => RelV v u
  | none, none => True
  | _, _ => False
def KV {κ : Type} : List (κ × V) → List (κ × Value) → Prop := Paired fun (p : κ × V) (q : κ × Value) => p.1 = q.1 ∧ RelV p.2 q.2
def kV : Key → V
  | .inl i => .int i
  | .inr x => .str x
inductive HO where
  | lst (xs : List V)
  | tup (xs : List V)
  | dK (kvs : List (Key × V)) | dT (kvs : List (List Key × V))
  | set (S : Int → Bool) (n : Nat)
  | ins (C dx : Addr) (fs : List (Str × V))
  | own (x : Addr)
  | xd (fs : List (Str × V))
  | met (f x : Addr)
  | rng (lo hi : Int)
  | frz (o : Obj) (u : HO)
  | tbl (ps : Array Value)
  | ext (φ : Heap → Prop)
abbrev Hp := Addr → Option HO
def upd (H : Hp) (a : Addr) (o : HO) : Hp := fun b => if b = a then some o else H b
theorem upd_same {H : Hp} {a : Addr} {o : HO} : upd H a o a = some o := by unfold upd; rw [if_pos rfl]
theorem upd_ne {H : Hp} {a b : Addr} {o : HO} (h : b ≠ a) : upd H a o b = H b := by unfold upd; rw [if_neg h]
theorem ne_of {H : Hp} {a b : Addr} {o u : HO} (h : H a = some o) (h' : H b = some u) (d : o ≠ u) : a ≠ b := by
  intro e; subst e; rw [h] at h'; exact d (Option.some.inj h')
theorem ne_of_none {H : Hp} {a b : Addr} {o : HO} (h : H a = some o) (h' : H b = none) : a ≠ b := by
  intro e; subst e; rw [h] at h'; cases h'
section
variable (P : Program) (w : World)
def ObjOk (H : Hp) (h : Heap) (a : Addr) : HO → Prop
  | .lst xs => xs.length ≤ sizeLine ∧ ∃ (its : List Value) (n : Nat), Vals xs its ∧ h.get? a = some { cls := .type "list", data := .seq its.toArray n }
  | .tup xs => xs.length ≤ sizeLine ∧ ∃ its : List Value, Vals xs its ∧ IsTup h a its.toArray
  | .dK kvs => kvs.length ≤ sizeLine ∧ (a == sysModules) = false ∧ ∃ vs, KV kvs vs ∧ h.DictOf (mixKind P w) a vs
  | .dT kvs => kvs.length ≤ sizeLine ∧ (a == sysModules) = false ∧ ∃ xs : List (List Key × Addr × Value),
      Paired (fun (p : List Key × V) (q : List Key × Addr × Value) => p.1 = q.1 ∧ H q.2.1 = some (.tup (p.1.map kV)) ∧ RelV p.2 q.2.2) kvs xs ∧
      ∃ o es ep, h.get? a = some o ∧ o.ExactDict ∧ o.data = .dict es ep ∧ es.toList = xs.map (entryOfKey (tupleKind (mixKind P w))) ∧ (xs.map (·.1)).Nodup
  | .set S n => h.SetOf (intKind P w) a S n
  | .ins C dx fs => H dx = some (.own a) ∧ fs.length ≤ 1000 ∧ dx ≠ a ∧ h.get? a = some (PySem.W.instObj C dx) ∧
      ∃ mA, h.Ns1 dx mA ∧ (∀ f, RelO (fs.lookup f) (mA f)) ∧ PySem.Within mA (fs.map (·.1))
  | .own _ => ∃ o, h.get? a = some o
  | .xd fs => ∃ mA, h.Ns1 a mA ∧ ∀ f, RelO (fs.lookup f) (mA f)
  | .rng lo hi => ∃ t u v, h.get? a = some { cls := .type "range", data := .fields #[.int lo t, .int hi u, .int 1 v] }
  | .frz o u => h.get? a = some o ∧ ObjOk H h a u
  | .tbl ps => h.get? a = some { cls := .none, data := .fields ps }
  | .met f x => h.get? a = some (PySem.W.methodObj (.ref f) (.ref x))
  | .ext φ => φ h ∧ (∃ o, h.get? a = some o) ∧ ∀ h1 h2 : Heap, φ h1 → (∀ o, h1.get? a = some o → h2.get? a = some o) → φ h2
def HOk (H : Hp) (h : Heap) : Prop := ∀ a o, H a = some o → ObjOk P w H h a o
end
section
variable {P : Program} {w : World} {H H' : Hp} {h h' : Heap} {a : Addr} {o : HO}
theorem ObjOk.lt (x : ObjOk P w H h a o) : a < h.objs.size := by
  cases o with
  | lst xs => obtain ⟨_, _, _, _, e⟩ := x; exact Heap.lt_size e
  | tup xs => obtain ⟨_, _, _, p⟩ := x; exact p.lt
  | dK kvs => obtain ⟨_, _, _, _, o, _, _, e, _⟩ := x; exact Heap.lt_size e
  | dT kvs => obtain ⟨_, _, _, _, o, _, _, e, _⟩ := x; exact Heap.lt_size e
  | set S n => obtain ⟨o, _, _, _, e, _⟩ := x; exact Heap.lt_size e
  | ins C dx fs => obtain ⟨_, _, _, e, _⟩ := x; exact Heap.lt_size e
  | own y => obtain ⟨_, e⟩ := x; exact Heap.lt_size e
  | xd fs => obtain ⟨_, ⟨_, _, _, e, _⟩, _⟩ := x; exact Heap.lt_size e
  | rng lo hi => obtain ⟨_, _, _, e⟩ := x; exact Heap.lt_size e
  | frz ob u => obtain ⟨e, _⟩ := x; exact Heap.lt_size e
  | tbl ps => exact Heap.lt_size (show h.get? a = some _ from x)
  | met f y => exact Heap.lt_size (show h.get? a = some _ from x)
  | ext φ => obtain ⟨_, ⟨_, e⟩, _⟩ := x; exact Heap.lt_size e
theorem Paired.mapP {α β : Type} {F G : α → β → Prop} : ∀ {l₁ : List α} {l₂ : List β}, Paired F l₁ l₂ → (∀ a b, F a b → G a b) → Paired G l₁ l₂
  | _, _, .nil, _ => .nil
  | _, _, .cons r t, f => .cons (f _ _ r) (Paired.mapP t f)
theorem ObjOk.stay (x : ObjOk P w H h a o) (k : ∀ b u, (b = a ∨ H b = some (.own a)) → h.get? b = some u → h'.get? b = some u)
    (ho : ∀ b, H b = some (.own a) → H' b = some (.own a)) (ht : ∀ b xs, H b = some (.tup xs) → H' b = some (.tup xs)) : ObjOk P w H' h' a o := by
  induction o with
  | lst xs => obtain ⟨z, its, n, r, e⟩ := x; exact ⟨z, its, n, r, k _ _ (.inl rfl) e⟩
  | tup xs => obtain ⟨z, its, r, ob, e, c⟩ := x; exact ⟨z, its, r, ob, k _ _ (.inl rfl) e, c⟩
  | dK kvs => obtain ⟨z, y, vs, r, ob, es, ep, e, c⟩ := x; exact ⟨z, y, vs, r, ob, es, ep, k _ _ (.inl rfl) e, c⟩
  | dT kvs =>
    obtain ⟨z, y, xs, r, ob, es, ep, e, c⟩ := x
    exact ⟨z, y, xs, Paired.mapP r fun p q z => ⟨z.1, ht _ _ z.2.1, z.2.2⟩, ob, es, ep, k _ _ (.inl rfl) e, c⟩
  | set S n => obtain ⟨ob, es, ep, t, e, c⟩ := x; exact ⟨ob, es, ep, t, k _ _ (.inl rfl) e, c⟩
  | ins C dx fs =>
    obtain ⟨d, z, ne, e, mA, ⟨od, es, ep, e2, c⟩, r⟩ := x
    exact ⟨ho _ d, z, ne, k _ _ (.inl rfl) e, mA, ⟨od, es, ep, k _ _ (.inr d) e2, c⟩, r⟩
  | own y => obtain ⟨ob, e⟩ := x; exact ⟨ob, k _ _ (.inl rfl) e⟩
  | xd fs => obtain ⟨mA, ⟨od, es, ep, e, c⟩, r⟩ := x; exact ⟨mA, ⟨od, es, ep, k _ _ (.inl rfl) e, c⟩, r⟩
  | rng lo hi => obtain ⟨t, u, v, e⟩ := x; exact ⟨t, u, v, k _ _ (.inl rfl) e⟩
  | frz ob u ih => obtain ⟨e, q⟩ := x; exact ⟨k _ _ (.inl rfl) e, ih q⟩
  | tbl ps =>
    have e : h.get? a = some { cls := .none, data := .fields ps } := x
    show h'.get? a = some { cls := .none, data := .fields ps }
    exact k a _ (.inl rfl) e
  | met f y =>
    have e : h.get? a = some (PySem.W.methodObj (.ref f) (.ref y)) := x
    show h'.get? a = some (PySem.W.methodObj (.ref f) (.ref y))
    exact k a _ (.inl rfl) e
  | ext φ => obtain ⟨p, ⟨o, e⟩, st⟩ := x; exact ⟨st _ _ p fun o q => k _ _ (.inl rfl) q, ⟨o, k _ _ (.inl rfl) e⟩, st⟩
theorem HOk.lt (x : HOk P w H h) (e : H a = some o) : a < h.objs.size := (x a o e).lt
theorem HOk.fresh (x : HOk P w H h) (e : h.objs.size ≤ a) : H a = none := by
  cases q : H a with
  | none => rfl
  | some u => exact absurd (Nat.lt_of_lt_of_le (x.lt q) e) (Nat.lt_irrefl _)
theorem HOk.kept (x : HOk P w H h) (k : ∀ b u, h.get? b = some u → h'.get? b = some u) : HOk P w H h' := fun a o e =>
  (x a o e).stay (fun b u _ q => k b u q) (fun _ q => q) fun _ _ q => q
theorem HOk.laid (x : HOk P w H h) (k : ∀ b u, h.get? b = some u → h'.get? b = some u) (hp : h.objs.size ≤ a) (new : ObjOk P w (upd H a o) h' a o) : HOk P w (upd H a o) h' := fun b u e => by
  have hn := x.fresh hp
  by_cases hb : b = a
  · subst hb; rw [upd_same] at e; cases e; exact new
  · rw [upd_ne hb] at e
    exact (x b u e).stay (fun c v _ q => k c v q) (fun c q => by rw [upd_ne (ne_of_none q hn)]; exact q) fun c xs q => by rw [upd_ne (ne_of_none q hn)]; exact q
end
def Rd (H : Hp) (a : Addr) (u : HO) : Prop := H a = some u ∨ ∃ o, H a = some (.frz o u)
theorem Rd.ok {P : Program} {w : World} {H : Hp} {h : Heap} {a : Addr} {u : HO} (r : Rd H a u) (x : HOk P w H h) : ObjOk P w H h a u := by
  rcases r with r | ⟨o, r⟩
  · exact x a u r
  · obtain ⟨_, q⟩ := x a _ r
    exact q
def Mut : Option HO → Prop
  | some (.lst _) => True
  | some (.dK _) => True
  | some (.dT _) => True
  | some (.set _ _) => True
  | some (.ins _ _ _) => True
  | some (.ext _) => True
  | _ => False
section
variable {P : Program} {w : World} {H : Hp} {h h' : Heap} {x e : Addr} {o' : HO}
theorem HOk.write (ok : HOk P w H h) (mu : Mut (H x)) (he : e = x ∨ H e = some (.own x)) (k : ∀ b u, b ≠ e → h.get? b = some u → h'.get? b = some u) (heo : ∃ u, h'.get? e = some u)
    (new : ObjOk P w (upd H x o') h' x o') : HOk P w (upd H x o') h' := fun b u q => by
  have nown : ∀ c y, H c = some (.own y) → c ≠ x := fun c y r z => by subst z; rw [r] at mu; exact mu
  have ntup : ∀ c xs, H c = some (.tup xs) → c ≠ x := fun c xs r z => by subst z; rw [r] at mu; exact mu
  by_cases hb : b = x
  · subst hb; rw [upd_same] at q; cases q; exact new
  · rw [upd_ne hb] at q
    by_cases hbe : b = e
    · have q' : H b = some (.own x) := by
        rcases he with z | z
        · exact absurd (hbe.trans z) hb
        · rw [hbe]; exact z
      rw [q] at q'; cases q'
      obtain ⟨v, hv⟩ := heo
      exact ⟨v, by rw [hbe]; exact hv⟩
    · refine (ok b u q).stay (fun c v hc r => k c v ?_ r) (fun c r => by rw [upd_ne (nown c b r)]; exact r) fun c xs r => by rw [upd_ne (ntup c xs r)]; exact r
      rcases hc with rfl | hc
      · exact hbe
      · rintro rfl
        rcases he with z | z
        · exact nown c b hc z
        · rw [hc] at z; cases z; exact hb rfl
end
structure Un (fs ex : List Addr) (H H' : Hp) (h h' : Heap) : Prop where
  keep : ∀ b o, h.get? b = some o → H b = none → b ∉ fs → b ∉ ex → h'.get? b = some o
  slot : ∀ b o, h.get? b = some o → H b = none → b ∈ fs → b ∉ ex → ∃ sl, h'.get? b = some { o with slots := sl }
  free : ∀ b o, h.get? b = some o → H b = none → b ∉ ex → H' b = none
  there : ∀ b o, h.get? b = some o → b ∉ ex → ∃ o', h'.get? b = some o'
  tups : ∀ b xs, H b = some (.tup xs) → H' b = some (.tup xs)
  frzs : ∀ b o u, H b = some (.frz o u) → H' b = some (.frz o u)
  tbls : ∀ b ps, H b = some (.tbl ps) → ∃ more, H' b = some (.tbl (ps ++ more))
section
variable {fs fs' ex ex' : List Addr} {H H1 H2 : Hp} {h h1 h2 h' : Heap} {a x e : Addr} {o : HO}
theorem Un.any (u : Un fs ex H H1 h h1) {b : Addr} {ob : Obj} (q : h.get? b = some ob) (n : H b = none) (hx : b ∉ ex) : ∃ sl, h1.get? b = some { ob with slots := sl } := by
  by_cases hb : b ∈ fs
  · exact u.slot b ob q n hb hx
  · exact ⟨ob.slots, u.keep b ob q n hb hx⟩
theorem Un.kept (k : ∀ b u, h.get? b = some u → h'.get? b = some u) : Un fs ex H H h h' :=
  ⟨fun b ob q _ _ _ => k b ob q, fun b ob q _ _ _ => ⟨ob.slots, k b ob q⟩, fun _ _ _ n _ => n, fun b ob q _ => ⟨ob, k b ob q⟩, fun _ _ q => q, fun _ _ _ q => q, fun _ ps q => ⟨#[], by rw [q]; simp⟩⟩
theorem Un.refl : Un fs ex H H h h := Un.kept fun _ _ q => q
theorem Un.laid (k : ∀ b u, h.get? b = some u → h'.get? b = some u) (hp : h.objs.size ≤ a) (hn : H a = none) : Un fs ex H (upd H a o) h h' where
  keep := fun b u q _ _ _ => k b u q
  slot := fun b u q _ _ _ => ⟨u.slots, k b u q⟩
  free := fun b u q n _ => by rw [upd_ne (Nat.ne_of_lt (Nat.lt_of_lt_of_le (Heap.lt_size q) hp))]; exact n
  there := fun b u q _ => ⟨u, k b u q⟩
  tups := fun b xs q => by rw [upd_ne (ne_of_none q hn)]; exact q
  frzs := fun b u xs q => by rw [upd_ne (ne_of_none q hn)]; exact q
  tbls := fun b ps q => ⟨#[], by rw [upd_ne (ne_of_none q hn), q]; simp⟩
theorem Un.write (mu : Mut (H x)) (he : e = x ∨ H e = some (.own x)) (k : ∀ b u, b ≠ e → h.get? b = some u → h'.get? b = some u) (heo : ∃ u, h'.get? e = some u) : Un fs ex H (upd H x o) h h' := by
  have hx : ∀ b, H b = none → b ≠ x := fun b n z => by subst z; rw [n] at mu; exact mu
  have hb : ∀ b, H b = none → b ≠ e := fun b n z => by
    subst z
    rcases he with r | r
    · exact hx b n r
    · rw [n] at r; cases r
  have hm : ∀ b u, H b = some u → ¬ Mut (some u) → b ≠ x := fun b u q nm z => by subst z; rw [q] at mu; exact nm mu
  refine ⟨fun b u q n _ _ => k b u (hb b n) q, fun b u q n _ _ => ⟨u.slots, k b u (hb b n) q⟩, fun b u q n _ => by rw [upd_ne (hx b n)]; exact n, fun b u q _ => ?_,
    fun b xs q => by rw [upd_ne (hm b _ q fun z => z)]; exact q, fun b u xs q => by rw [upd_ne (hm b _ q fun z => z)]; exact q, fun b ps q => ⟨#[], by rw [upd_ne (hm b _ q fun z => z), q]; simp⟩⟩
  by_cases hbe : b = e
  · subst hbe; exact heo
  · exact ⟨u, k b u hbe q⟩
end
def trk (h : Heap) (H : Hp) : List Addr := (List.range h.objs.size).filter fun a => (H a).isSome
def hidT (h : Heap) (H : Hp) : Heap := PySem.W.hideAll h (trk h H)
theorem hidT_size (h : Heap) (H : Hp) : (hidT h H).objs.size = h.objs.size := PySem.W.hideAll_size _ _
theorem hidT_get {h : Heap} {H : Hp} {b : Addr} {o : Obj} (e : h.get? b = some o) (n : H b = none) : (hidT h H).get? b = some o :=
  PySem.W.hideAll_get _ e fun hm => by
    have q : (H b).isSome = true := (List.mem_filter.mp hm).2
    rw [n] at q; simp at q
theorem of_hidT {h : Heap} {H : Hp} {b : Addr} {o : Obj} (e : (hidT h H).get? b = some o) : h.get? b = some o ∧ H b = none := by
  have e' : h.get? b = some o := PySem.W.of_hideAll (trk h H) e
  refine ⟨e', ?_⟩
  cases q : H b with
  | none => rfl
  | some x =>
    have hm : b ∈ trk h H := List.mem_filter.mpr ⟨List.mem_range.mpr (Heap.lt_size e'), by simp [q]⟩
    have z : (hidT h H).get? b = none := PySem.W.hideAll_none (trk h H) hm
    rw [z] at e; cases e
def allNews (g h : Heap) (L : Addr) : List (Addr × Obj) := (List.range h.objs.size).filterMap fun a => if a = L ∨ (g.get? a).isSome = true then none else (h.get? a).map fun o => (a, o)
def rest (g h : Heap) (L d : Addr) : List (Addr × Obj) := (allNews g h L).filter fun p => decide (p.1 ≠ d)
end L2
namespace L2
open PySem PySem.Spec PyProof.Rows
structure Mod (K : PySem.W.Frag) (mg : Str → Option Value) (base : Heap) : Prop where
  kin : K.In base
  glob : base.Ns mainGlobals mg
  blt : ∃ mb, base.Ns builtinsNs mb ∧ ∀ x : Str, x ≠ "__name__" → mb x = bootBuiltins x
  nolimit : base.NoLimit
structure Cx where
  prog : Program
  w : World
  K : PySem.W.Frag
  mg : Str → Option Value
  base : Heap
  A : Around
  N : List Str
  s₀ : Shared
  H₀ : Hp
  env : Env
  outer : List Env
  stack : List Env
  ex : List Addr
  fn : Str → Bool
  calm : Bool
  pn : List (Addr × Obj)
  xe : Value → Shared → Prop
def frs (l : List Env) : List Addr := l.filterMap (·.frame)
abbrev Cx.fs (X : Cx) : List Addr := frs X.outer
def Vis (sc : Scope) (x : Str) : Prop := sc.names.lookup x = some .local ∨ sc.names.lookup x = some .cell ∨ sc.names.lookup x = some .free
def Loc (sc : Scope) (x : Str) : Prop := sc.names.lookup x = some .local ∨ sc.names.lookup x = some .cell
def Look (env : Env) (h : Heap) (m : Str → Option Value) (x : Str) (u : Value) : Prop :=
  (env.kindOf x = some .local ∧ m x = some u) ∨ ((env.kindOf x = some .cell ∨ env.kindOf x = some .free) ∧ ∃ c, env.cells.lookup x = some c ∧ h.IsCell c (some u))
structure Cx.Ok (X : Cx) : Prop where
  mod : Mod X.K X.mg X.base
  kind : X.env.scope.kind = .function
  glob : X.env.globals = mainGlobals
  blt : X.env.builtins = builtinsNs
  above : X.s₀.heap.objs.size ≤ X.env.locals
  inj : ∀ x y c, X.env.cells.lookup x = some c → X.env.cells.lookup y = some c → x = y
  has : ∀ x, (X.env.kindOf x = some .cell ∨ X.env.kindOf x = some .free) → ∃ c, X.env.cells.lookup x = some c
  cab : ∀ x c, X.fn x = true → X.env.cells.lookup x = some c → X.s₀.heap.objs.size ≤ c
  hd : X.calm = true → X.A.handled = none
  frames : X.A.frames = some X.stack
  stk : X.stack = X.outer ∨ (X.stack = X.env :: X.outer ∧ X.env.frame = some X.env.locals)
  exf : ∀ b ∈ X.ex, b ≠ X.env.locals ∧ ∀ x c, X.env.cells.lookup x = some c → c ≠ b
  bs : ∀ b o, X.base.get? b = some o → X.s₀.heap.get? b = some o ∧ X.H₀ b = none
  bsz : X.base.objs.size ≤ X.s₀.heap.objs.size
  noex : ∀ b o, X.base.get? b = some o → b ∉ X.ex
  exfs : ∀ b ∈ X.ex, b ∉ X.fs
  funs : X.s₀.heap.FunFrames X.base X.outer
  frf : ∀ b ∈ X.fs, X.H₀ b = none
structure Inv (X : Cx) (pins : List (Addr × Obj)) (σ : List (Option V)) (H : Hp) (s : Shared) : Prop where
  ok : X.Ok
  os : s.os = X.s₀.os
  bare : AllBare s.gens
  base : Un X.fs X.ex X.H₀ H X.s₀.heap s.heap
  loc : ∃ m, s.heap.Ns X.env.locals m ∧ ∀ (i : Nat) (x : Str) (v : V), X.N[i]? = some x → σ[i]? = some (some v) → Vis X.env.scope x → ∃ u, RelV v u ∧ Look X.env s.heap m x u
  cell : ∀ x c, X.env.cells.lookup x = some c → ∃ v, s.heap.IsCell c v
  free : H X.env.locals = none
  freeC : ∀ x c, X.env.cells.lookup x = some c → H c = none
  pin : ∀ p ∈ X.pn ++ pins, s.heap.get? p.1 = some p.2 ∧ H p.1 = none ∧ p.1 ≠ X.env.locals ∧ p.1 ∉ X.fs ∧ ∀ v, p.2.data ≠ .cell v
  hok : HOk X.prog X.w H s.heap
  len : σ.length = X.N.length
section
variable {X : Cx} {pins : List (Addr × Obj)} {σ : List (Option V)} {H H' : Hp} {s : Shared} {h' : Heap}
theorem Cx.Ok.nofr (ok : X.Ok) {b : Addr} {o : Obj} (e : X.base.get? b = some o) : b ∉ X.fs := fun hb => by
  have := (ok.funs.mem hb).1
  rw [e] at this; cases this
theorem Inv.bs (I : Inv X pins σ H s) : ∀ b o, X.base.get? b = some o → s.heap.get? b = some o ∧ H b = none := fun b o e =>
  ⟨I.base.keep b o (I.ok.bs b o e).1 (I.ok.bs b o e).2 (I.ok.nofr e) (I.ok.noex b o e), I.base.free b o (I.ok.bs b o e).1 (I.ok.bs b o e).2 (I.ok.noex b o e)⟩
theorem Inv.bk (I : Inv X pins σ H s) : ∀ b o, X.base.get? b = some o → s.heap.get? b = some o := fun b o e => (I.bs b o e).1
theorem Inv.mod (I : Inv X pins σ H s) : Mod X.K X.mg X.base := I.ok.mod
theorem Inv.kIn (I : Inv X pins σ H s) : X.K.In s.heap := I.ok.mod.kin.keeps I.bk
theorem Inv.lt (I : Inv X pins σ H s) : X.env.locals < s.heap.objs.size := let ⟨_, hn, _⟩ := I.loc; hn.lt
theorem Inv.sz (I : Inv X pins σ H s) : X.s₀.heap.objs.size ≤ s.heap.objs.size := Nat.le_trans I.ok.above (Nat.le_of_lt I.lt)
theorem Inv.nofs (I : Inv X pins σ H s) {a : Addr} (h : s.heap.objs.size ≤ a) : a ∉ X.fs := fun hb => by
  obtain ⟨_, o, ho, _⟩ := I.ok.funs.mem hb
  exact absurd (Nat.lt_of_lt_of_le (Heap.lt_size ho) (Nat.le_trans I.sz h)) (Nat.lt_irrefl _)
theorem Inv.cne (I : Inv X pins σ H s) : ∀ x c, X.env.cells.lookup x = some c → c ≠ X.env.locals := fun x c e z => by
  obtain ⟨v, o, ho, hd⟩ := I.cell x c e
  obtain ⟨m, ⟨o', es, ep, ho', hd', _⟩, _⟩ := I.loc
  rw [z, ho'] at ho; cases ho; rw [hd'] at hd; cases hd
theorem Inv.funs (I : Inv X pins σ H s) : s.heap.FunFrames X.base X.outer := by
  have all : ∀ (l : List Env), (∀ b ∈ frs l, b ∈ X.fs) → X.s₀.heap.FunFrames X.base l → s.heap.FunFrames X.base l := by
    intro l
    induction l with
    | nil => intro _ _; trivial
    | cons env r ih =>
      intro hs hl
      obtain ⟨hk, ⟨L, o, hf, hn, ho, hd⟩, hr⟩ := hl
      have hL : L ∈ X.fs := hs L (by unfold frs; rw [List.filterMap_cons, hf]; exact List.mem_cons_self)
      obtain ⟨sl, e⟩ := I.base.slot L o ho (I.ok.frf L hL) hL fun z => I.ok.exfs L z hL
      exact ⟨hk, ⟨L, _, hf, hn, e, hd⟩, ih (fun b hb => hs b (by unfold frs; rw [List.filterMap_cons, hf]; exact List.mem_cons_of_mem _ hb)) hr⟩
  exact all X.outer (fun _ hb => hb) I.ok.funs
theorem Inv.stack (I : Inv X pins σ H s) : s.heap.FunFrames X.base X.stack := by
  rcases I.ok.stk with e | ⟨e, hf⟩
  · rw [e]; exact I.funs
  · rw [e]
    obtain ⟨m, hn, _⟩ := I.loc
    refine .cons (by rw [I.ok.kind]; decide) hf hn ?_ I.funs
    exact Heap.get?_none_of_le (Nat.le_trans I.ok.bsz I.ok.above)
theorem Inv.stkSub (I : Inv X pins σ H s) : ∀ b ∈ frs X.stack, b ∈ X.env.locals :: X.fs := fun b hb => by
  rcases I.ok.stk with e | ⟨e, hf⟩
  · rw [e] at hb; exact List.mem_cons_of_mem _ hb
  · rw [e] at hb
    unfold frs at hb
    rw [List.filterMap_cons, hf] at hb
    exact hb
theorem Inv.stkFree (I : Inv X pins σ H s) : ∀ b ∈ frs X.stack, H b = none := fun b hb => by
  rcases List.mem_cons.mp (I.stkSub b hb) with e | hb
  · rw [e]; exact I.free
  · obtain ⟨_, o, ho, _⟩ := I.ok.funs.mem hb
    exact I.base.free b o ho (I.ok.frf b hb) fun z => I.ok.exfs b z hb
theorem Inv.step {g' : Array GenState} {t' : Nat} {d' : Drawn} {ch : List Addr} (I : Inv X pins σ H s)
    (hch : ∀ b ∈ ch, (b ∈ X.ex ∨ X.s₀.heap.objs.size ≤ b) ∧ b ≠ X.env.locals ∧ (∀ x c, X.env.cells.lookup x = some c → c ≠ b) ∧ ∀ p ∈ X.pn ++ pins, p.1 ≠ b)
    (keep : ∀ b o, b ≠ X.env.locals → b ∉ X.fs → b ∉ ch → s.heap.get? b = some o → H b = none → h'.get? b = some o)
    (slot : ∀ b o, b ≠ X.env.locals → b ∈ X.fs → b ∉ ch → s.heap.get? b = some o → H b = none → ∃ sl, h'.get? b = some { o with slots := sl }) (free : ∀ b o, b ∉ ch → s.heap.get? b = some o → H b = none → H' b = none)
    (there : ∀ b o, b ∉ ch → s.heap.get? b = some o → ∃ o', h'.get? b = some o')
    (tups : ∀ b xs, H b = some (.tup xs) → H' b = some (.tup xs)) (frzs : ∀ b o u, H b = some (.frz o u) → H' b = some (.frz o u)) (tbls : ∀ b ps, H b = some (.tbl ps) → ∃ more, H' b = some (.tbl (ps ++ more)))
    (ns : ∀ m, s.heap.Ns X.env.locals m → h'.Ns X.env.locals m) (hok : HOk X.prog X.w H' h') (hg : AllBare g') :
    Inv X pins σ H' { s with heap := h', gens := g', drawn := d', toks := t' } := by
  have neL : ∀ b o, X.s₀.heap.get? b = some o → b ≠ X.env.locals := fun b o e => Nat.ne_of_lt (Nat.lt_of_lt_of_le (Heap.lt_size e) I.ok.above)
  have neC : ∀ b o, X.s₀.heap.get? b = some o → b ∉ X.ex → b ∉ ch := fun b o e hx hb => by
    rcases (hch b hb).1 with z | z
    · exact hx z
    · exact absurd (Nat.lt_of_lt_of_le (Heap.lt_size e) z) (Nat.lt_irrefl _)
  have cellK : ∀ x c, X.env.cells.lookup x = some c → ∀ v, s.heap.IsCell c v → h'.IsCell c v := fun x c e v ⟨o, ho, hd⟩ => by
    have nch : c ∉ ch := fun z => (hch c z).2.2.1 x c e rfl
    by_cases hc : c ∈ X.fs
    · obtain ⟨sl, q⟩ := slot c o (I.cne x c e) hc nch ho (I.freeC x c e)
      exact ⟨_, q, hd⟩
    · exact ⟨o, keep c o (I.cne x c e) hc nch ho (I.freeC x c e), hd⟩
  refine ⟨I.ok, I.os, hg, ⟨fun b o e n hb hx => ?_, fun b o e n hb hx => ?_, fun b o e n hx => ?_, fun b o e hx => ?_, fun b xs e => tups b xs (I.base.tups b xs e), fun b o xs e => frzs b o xs (I.base.frzs b o xs e), fun b ps e => ?_⟩, ?_, fun x c e => ?_, ?_, fun x c e => ?_, fun p hp => ?_, hok, I.len⟩
  · exact keep b o (neL b o e) hb (neC b o e hx) (I.base.keep b o e n hb hx) (I.base.free b o e n hx)
  · obtain ⟨sl, e1⟩ := I.base.slot b o e n hb hx
    obtain ⟨sl', e2⟩ := slot b _ (neL b o e) hb (neC b o e hx) e1 (I.base.free b o e n hx)
    exact ⟨sl', e2⟩
  · obtain ⟨o', e1⟩ := I.base.there b o e hx
    exact free b o' (neC b o e hx) e1 (I.base.free b o e n hx)
  · obtain ⟨o', e1⟩ := I.base.there b o e hx
    exact there b o' (neC b o e hx) e1
  · obtain ⟨m1, e1⟩ := I.base.tbls b ps e
    obtain ⟨m2, e2⟩ := tbls b _ e1
    exact ⟨m1 ++ m2, by rw [e2, Array.append_assoc]⟩
  · obtain ⟨m, hn, hl⟩ := I.loc
    refine ⟨m, ns m hn, fun i x v e1 e2 e3 => ?_⟩
    obtain ⟨u, r, l⟩ := hl i x v e1 e2 e3
    refine ⟨u, r, ?_⟩
    rcases l with l | ⟨k, c, e, z⟩
    · exact .inl l
    · exact .inr ⟨k, c, e, cellK x c e _ z⟩
  · obtain ⟨v, z⟩ := I.cell x c e
    exact ⟨v, cellK x c e v z⟩
  · obtain ⟨m, ⟨o, _, _, ho, _⟩, _⟩ := I.loc
    exact free _ o (fun z => (hch _ z).2.1 rfl) ho I.free
  · obtain ⟨v, o, ho, hd⟩ := I.cell x c e
    exact free c o (fun z => (hch c z).2.2.1 x c e rfl) ho (I.freeC x c e)
  · obtain ⟨e, n, ne, nf, d⟩ := I.pin p hp
    have nch : p.1 ∉ ch := fun z => (hch p.1 z).2.2.2 p hp rfl
    exact ⟨keep p.1 p.2 ne nf nch e n, free p.1 p.2 nch e n, ne, nf, d⟩
theorem Inv.un {t' : Nat} (I : Inv X pins σ H s) (u : Un X.fs [] H H' s.heap h') (hok : HOk X.prog X.w H' h') : Inv X pins σ H' { s with heap := h', toks := t' } := by
  obtain ⟨m, ⟨o, es, ep, ho, r⟩, _⟩ := id I.loc
  obtain ⟨sl, hL⟩ := u.any ho I.free (by simp)
  exact I.step (g' := s.gens) (d' := s.drawn) (ch := []) (fun _ z => nomatch z) (fun b o _ hb _ e n => u.keep b o e n hb (by simp)) (fun b o _ hb _ e n => u.slot b o e n hb (by simp)) (fun b o _ e n => u.free b o e n (by simp)) (fun b o _ e => u.there b o e (by simp)) u.tups u.frzs u.tbls (fun m' hm => by
    obtain ⟨o', es', ep', ho', r'⟩ := hm
    rw [ho] at ho'; cases ho'
    exact ⟨_, es', ep', hL, r'⟩) hok I.bare
theorem Inv.call {g' : Array GenState} {t' : Nat} {d' : Drawn} {ch : List Addr} (I : Inv X pins σ H s) (u : Un (frs X.stack) ch H H' s.heap h') (hok : HOk X.prog X.w H' h') (hg : AllBare g')
    (hch : ∀ b ∈ ch, (b ∈ X.ex ∨ X.s₀.heap.objs.size ≤ b) ∧ b ≠ X.env.locals ∧ (∀ x c, X.env.cells.lookup x = some c → c ≠ b) ∧ ∀ p ∈ X.pn ++ pins, p.1 ≠ b) :
    Inv X pins σ H' { s with heap := h', gens := g', drawn := d', toks := t' } := by
  obtain ⟨m, ⟨o, es, ep, ho, r⟩, _⟩ := id I.loc
  obtain ⟨sl, hL⟩ := u.any ho I.free fun z => (hch _ z).2.1 rfl
  exact I.step (ch := ch) hch (fun b o hL hb hc e n => u.keep b o e n (fun z => (List.mem_cons.mp (I.stkSub b z)).elim hL hb) hc) (fun b o _ _ hc e n => u.any e n hc) (fun b o hc e n => u.free b o e n hc) (fun b o hc e => u.there b o e hc) u.tups u.frzs u.tbls (fun m' hm => by
    obtain ⟨o', es', ep', ho', r'⟩ := hm
    rw [ho] at ho'; cases ho'
    exact ⟨_, es', ep', hL, r'⟩) hok hg
theorem Inv.turned {t' : Nat} {it : Addr} (I : Inv X pins σ H s) (k : ∀ b o, b ≠ it → s.heap.get? b = some o → h'.get? b = some o) (hn : H it = none) (hL : it ≠ X.env.locals)
    (h1 : it ∈ X.ex ∨ X.s₀.heap.objs.size ≤ it) (h2 : ∀ x c, X.env.cells.lookup x = some c → c ≠ it) (h3 : ∀ p ∈ X.pn ++ pins, p.1 ≠ it) : Inv X pins σ H { s with heap := h', toks := t' } := by
  have nit : ∀ b u, H b = some u → b ≠ it := fun b u e z => by rw [z, hn] at e; cases e
  refine I.step (g' := s.gens) (d' := s.drawn) (ch := [it]) (fun b hb => ?_) (fun b o _ _ hc e _ => k b o (fun z => hc (by simp [z])) e) (fun b o _ _ hc e _ => ⟨o.slots, k b o (fun z => hc (by simp [z])) e⟩) (fun _ _ _ _ n => n)
    (fun b o hc e => ⟨o, k b o (fun z => hc (by simp [z])) e⟩) (fun _ _ e => e) (fun _ _ _ e => e) (fun b ps e => ⟨#[], by rw [e]; simp⟩) (fun m hm => ?_) (fun b u e => ?_) I.bare
  · have e : b = it := by simpa using hb
    subst e
    exact ⟨h1, hL, h2, h3⟩
  · obtain ⟨o, es, ep, ho, r⟩ := hm
    exact ⟨o, es, ep, k _ o (Ne.symm hL) ho, r⟩
  · refine (I.hok b u e).stay (fun c v hc q => k c v ?_ q) (fun _ q => q) fun _ _ q => q
    rcases hc with z | z
    · rw [z]; exact nit b u e
    · exact nit c _ z
theorem Inv.tok (I : Inv X pins σ H s) (t : Nat) : Inv X pins σ H { s with toks := t } := I.un (h' := s.heap) (t' := t) Un.refl I.hok
theorem Inv.kept {t' : Nat} (I : Inv X pins σ H s) (k : ∀ b u, s.heap.get? b = some u → h'.get? b = some u) : Inv X pins σ H { s with heap := h', toks := t' } := I.un (Un.kept k) (I.hok.kept k)
theorem Inv.laid {a : Addr} {o : HO} {t' : Nat} (I : Inv X pins σ H s) (k : ∀ b u, s.heap.get? b = some u → h'.get? b = some u) (hp : s.heap.objs.size ≤ a) (new : ObjOk X.prog X.w (upd H a o) h' a o) :
    Inv X pins σ (upd H a o) { s with heap := h', toks := t' } := I.un (Un.laid k hp (I.hok.fresh hp)) (I.hok.laid k hp new)
theorem Inv.write {x e : Addr} {o : HO} {t' : Nat} (I : Inv X pins σ H s) (mu : Mut (H x)) (he : e = x ∨ H e = some (.own x)) (k : ∀ b u, b ≠ e → s.heap.get? b = some u → h'.get? b = some u) (heo : ∃ u, h'.get? e = some u)
    (new : ObjOk X.prog X.w (upd H x o) h' x o) : Inv X pins σ (upd H x o) { s with heap := h', toks := t' } := I.un (Un.write mu he k heo) (I.hok.write mu he k heo new)
theorem Inv.weak {σ' : List (Option V)} (I : Inv X pins σ H s) (hl : σ'.length = σ.length) (w : ∀ (i : Nat) v, σ'[i]? = some (some v) → σ[i]? = some (some v)) : Inv X pins σ' H s :=
  ⟨I.ok, I.os, I.bare, I.base, let ⟨m, hn, hl'⟩ := I.loc; ⟨m, hn, fun i x v e1 e2 e3 => hl' i x v e1 (w i v e2) e3⟩, I.cell, I.free, I.freeC, I.pin, I.hok, hl.trans I.len⟩
theorem Inv.pins_of {pins' : List (Addr × Obj)} (I : Inv X pins σ H s) (h : ∀ p ∈ pins', s.heap.get? p.1 = some p.2 ∧ H p.1 = none ∧ p.1 ≠ X.env.locals ∧ p.1 ∉ X.fs ∧ ∀ v, p.2.data ≠ .cell v) : Inv X pins' σ H s :=
  ⟨I.ok, I.os, I.bare, I.base, I.loc, I.cell, I.free, I.freeC, fun p hp => (List.mem_append.mp hp).elim (fun z => I.pin p (List.mem_append_left _ z)) (h p), I.hok, I.len⟩
theorem nodup_ix {N : List Str} (hN : N.Nodup) {i j : Nat} {x : Str} (a : N[i]? = some x) (b : N[j]? = some x) : i = j := by
  obtain ⟨h1, e1⟩ := List.getElem?_eq_some_iff.mp a
  obtain ⟨h2, e2⟩ := List.getElem?_eq_some_iff.mp b
  exact (List.getElem_inj hN).mp (e1.trans e2.symm)
theorem store_ok2 {M : Model} {A : Around} {E : Value → Shared → Prop} {i : Nat} {x : Str} {v : V} {u : Value} {Q : Unit → Shared → Prop} (I : Inv X pins σ H s) (hN : X.N.Nodup) (hi : X.N[i]? = some x) (hx : Loc X.env.scope x) (r : RelV v u)
    (h : ∀ s', Inv X pins (σ.set i (some v)) H s' → (∃ a, Heap.SameBut a s.heap s'.heap ∧ (a = X.env.locals ∨ X.env.cells.lookup x = some a)) → Q () s') (hf : X.fn x = true ∨ X.env.scope.names.lookup x = some .local := by first | exact .inl rfl | exact .inr rfl | assumption) : wpAny M A (storeName X.env x u) Q E s := by
  obtain ⟨m, hn, hl⟩ := id I.loc
  have hcls : (X.env.scope.kind == .class || (X.env.scope.kind == .module && X.env.locals != X.env.globals)) = false := by rw [I.ok.kind]; rfl
  have hiσ : i < σ.length := by rw [I.len]; exact (List.getElem?_eq_some_iff.mp hi).1
  have cne := I.cne
  have tracked : ∀ {a : Addr} {h' : Heap}, (∃ o, s.heap.get? a = some o ∧ H a = none) → Heap.SameBut a s.heap h' → HOk X.prog X.w H h' := fun {a h'} ha hs b ob e => by
    obtain ⟨_, _, hfree⟩ := ha
    refine (I.hok b ob e).stay (fun c w' hc q => (hs.2 c ?_).trans q) (fun _ q => q) fun _ _ q => q
    rintro rfl
    rcases hc with rfl | hc
    · rw [hfree] at e; cases e
    · rw [hfree] at hc; cases hc
  rcases hx with hk | hk
  · refine wpAny_storeName_local hk hn (fun h' hn' hs => ?_) hcls
    obtain ⟨oL, _, _, hoL, _⟩ := id hn
    refine h _ ⟨I.ok, I.os, I.bare, ⟨fun b o e n hb hx => ?_, fun b o e n hb hx => ?_, I.base.free, fun b o e hx => ?_, I.base.tups, I.base.frzs, I.base.tbls⟩, ⟨_, hn', fun j y v' e1 e2 e3 => ?_⟩, fun y c e => ?_, I.free, I.freeC, fun p hp => ?_, tracked ⟨oL, hoL, I.free⟩ hs, by simpa using I.len⟩ ⟨_, hs, .inl rfl⟩
    · exact (hs.2 b (Nat.ne_of_lt (Nat.lt_of_lt_of_le (Heap.lt_size e) I.ok.above))).trans (I.base.keep b o e n hb hx)
    · obtain ⟨sl, e1⟩ := I.base.slot b o e n hb hx
      exact ⟨sl, (hs.2 b (Nat.ne_of_lt (Nat.lt_of_lt_of_le (Heap.lt_size e) I.ok.above))).trans e1⟩
    · obtain ⟨o', e1⟩ := I.base.there b o e hx
      exact ⟨o', (hs.2 b (Nat.ne_of_lt (Nat.lt_of_lt_of_le (Heap.lt_size e) I.ok.above))).trans e1⟩
    · by_cases hj : j = i
      · subst hj
        rw [hi] at e1; cases e1
        rw [List.getElem?_set_self hiσ] at e2
        cases e2
        exact ⟨u, r, .inl ⟨hk, by simp⟩⟩
      · rw [List.getElem?_set_ne (Ne.symm hj)] at e2
        obtain ⟨u', r', q⟩ := hl j y v' e1 e2 e3
        refine ⟨u', r', ?_⟩
        rcases q with ⟨k, e⟩ | ⟨k, c, e, z⟩
        · refine .inl ⟨k, ?_⟩
          have : y ≠ x := fun e => hj (nodup_ix hN e1 (e ▸ hi))
          simp [this, e]
        · exact .inr ⟨k, c, e, z.sameBut hs (cne y c e)⟩
    · obtain ⟨w', z⟩ := I.cell y c e
      exact ⟨w', z.sameBut hs (cne y c e)⟩
    · obtain ⟨e, n, ne, nf, d⟩ := I.pin p hp
      exact ⟨(hs.2 p.1 ne).trans e, n, ne, nf, d⟩
  · have hfn : X.fn x = true := by
      rcases hf with z | z
      · exact z
      · rw [z] at hk; cases hk
    obtain ⟨c, hc⟩ := I.ok.has x (.inl hk)
    obtain ⟨w', z⟩ := I.cell x c hc
    refine wpAny_storeName_cell I.ok.kind hk hc z (fun h' hc' hs => ?_)
    obtain ⟨oc, hoc, hocd⟩ := id z
    refine h { s with heap := h' } ⟨I.ok, I.os, I.bare, ⟨fun b o e n hb hx => ?_, fun b o e n hb hx => ?_, I.base.free, fun b o e hx => ?_, I.base.tups, I.base.frzs, I.base.tbls⟩, ⟨m, hn.sameBut hs (Ne.symm (cne x c hc)), fun j y v' e1 e2 e3 => ?_⟩, fun y c' e => ?_, I.free, I.freeC, fun p hp => ?_, tracked ⟨oc, hoc, I.freeC x c hc⟩ hs, by simpa using I.len⟩ ⟨c, hs, .inr hc⟩
    · exact (hs.2 b (Nat.ne_of_lt (Nat.lt_of_lt_of_le (Heap.lt_size e) (I.ok.cab x c hfn hc)))).trans (I.base.keep b o e n hb hx)
    · obtain ⟨sl, e1⟩ := I.base.slot b o e n hb hx
      exact ⟨sl, (hs.2 b (Nat.ne_of_lt (Nat.lt_of_lt_of_le (Heap.lt_size e) (I.ok.cab x c hfn hc)))).trans e1⟩
    · obtain ⟨o', e1⟩ := I.base.there b o e hx
      exact ⟨o', (hs.2 b (Nat.ne_of_lt (Nat.lt_of_lt_of_le (Heap.lt_size e) (I.ok.cab x c hfn hc)))).trans e1⟩
    · by_cases hj : j = i
      · subst hj
        rw [hi] at e1; cases e1
        rw [List.getElem?_set_self hiσ] at e2
        cases e2
        exact ⟨u, r, .inr ⟨.inl hk, c, hc, hc'⟩⟩
      · rw [List.getElem?_set_ne (Ne.symm hj)] at e2
        obtain ⟨u', r', q⟩ := hl j y v' e1 e2 e3
        refine ⟨u', r', ?_⟩
        rcases q with q | ⟨k, c', e, z'⟩
        · exact .inl q
        · refine .inr ⟨k, c', e, z'.sameBut hs ?_⟩
          rintro rfl
          exact hj (nodup_ix hN e1 (I.ok.inj _ _ _ e hc ▸ hi))
    · by_cases hcc : c' = c
      · subst hcc; exact ⟨_, hc'⟩
      · obtain ⟨w2, z2⟩ := I.cell y c' e
        exact ⟨w2, z2.sameBut hs hcc⟩
    · obtain ⟨e, n, ne, nf, d⟩ := I.pin p hp
      refine ⟨(hs.2 p.1 ?_).trans e, n, ne, nf, d⟩
      intro q
      rw [q, hoc] at e
      have q' : oc = p.2 := Option.some.inj e
      exact d w' (by rw [← q']; exact hocd)
theorem store_ok {M : Model} {A : Around} {E : Value → Shared → Prop} {i : Nat} {x : Str} {v : V} {u : Value} {Q : Unit → Shared → Prop} (I : Inv X pins σ H s) (hN : X.N.Nodup) (hi : X.N[i]? = some x) (hx : Loc X.env.scope x) (r : RelV v u)
    (h : ∀ s', Inv X pins (σ.set i (some v)) H s' → Q () s') (hf : X.fn x = true ∨ X.env.scope.names.lookup x = some .local := by first | exact .inl rfl | exact .inr rfl | assumption) : wpAny M A (storeName X.env x u) Q E s :=
  store_ok2 I hN hi hx r (fun s' I' _ => h s' I') hf
theorem Inv.call' {s' : Shared} {ch : List Addr} (I : Inv X pins σ H s) (ho : s'.os = s.os) (u : Un (frs X.stack) ch H H' s.heap s'.heap) (hok : HOk X.prog X.w H' s'.heap) (hg : AllBare s'.gens)
    (hch : ∀ b ∈ ch, (b ∈ X.ex ∨ X.s₀.heap.objs.size ≤ b) ∧ b ≠ X.env.locals ∧ (∀ x c, X.env.cells.lookup x = some c → c ≠ b) ∧ ∀ p ∈ X.pn ++ pins, p.1 ≠ b) : Inv X pins σ H' s' := by
  obtain ⟨h', g', d', t', o'⟩ := s'
  have e : o' = s.os := ho
  subst e
  exact I.call (g' := g') (t' := t') (d' := d') u hok hg hch
end
abbrev XK := Value → Option Addr → Hp → Prop
abbrev St := List (Option V)
abbrev VK := V → Hp → Prop
abbrev TE := St → Hp → VK → Prop
abbrev TT := St → Hp → (Bool → Hp → Prop) → Prop
abbrev TA := St → Hp → (List V → Hp → Prop) → Prop
structure Ends where
  nx : St → Hp → Prop
  rt : VK
  bk : St → Hp → Prop := fun _ _ => False
  ct : St → Hp → Prop := fun _ _ => False
abbrev TS := Ends → St → Hp → Prop
def EP (X : Cx) (pins : List (Addr × Obj)) (σ : St) (Q : VK) (u : Value) (s' : Shared) : Prop := ∃ v H', Inv X pins σ H' s' ∧ RelV v u ∧ Q v H'
def TP (X : Cx) (pins : List (Addr × Obj)) (σ : St) (Q : Bool → Hp → Prop) (b : Bool) (s' : Shared) : Prop := ∃ H', Inv X pins σ H' s' ∧ Q b H'
def AP (X : Cx) (pins : List (Addr × Obj)) (σ : St) (Q : List V → Hp → Prop) (us : List Value) (s' : Shared) : Prop := ∃ vs H', Inv X pins σ H' s' ∧ Vals vs us ∧ Q vs H'
def SP (X : Cx) (pins : List (Addr × Obj)) (D : Ends) (f : Flow) (s' : Shared) : Prop :=
  match f with
  | .next => ∃ σ' H', Inv X pins σ' H' s' ∧ D.nx σ' H'
  | .brk => ∃ σ' H', Inv X pins σ' H' s' ∧ D.bk σ' H'
  | .cont => ∃ σ' H', Inv X pins σ' H' s' ∧ D.ct σ' H'
  | .ret u => ∃ v σ' H', Inv X pins σ' H' s' ∧ RelV v u ∧ D.rt v H'
def PE (X : Cx) (e : Expr) (t : TE) : Prop :=
  ∀ (pins : List (Addr × Obj)) (s : Shared) (σ : St) (H : Hp) (Q : VK), Inv X pins σ H s → t σ H Q → wpAny (model X.prog X.w) X.A (eval e X.env) (EP X pins σ Q) X.xe s
def PT (X : Cx) (e : Expr) (t : TT) : Prop :=
  ∀ (pins : List (Addr × Obj)) (s : Shared) (σ : St) (H : Hp) (Q : Bool → Hp → Prop), Inv X pins σ H s → t σ H Q → wpAny (model X.prog X.w) X.A (isTrue e X.env (eval e X.env)) (TP X pins σ Q) X.xe s
def PW (X : Cx) (e : Expr) (t : TT) : Prop :=
  ∀ (whole : Sem Value) (pins : List (Addr × Obj)) (s : Shared) (σ : St) (H : Hp) (Q : Bool → Hp → Prop), Inv X pins σ H s → t σ H Q → wpAny (model X.prog X.w) X.A (isTrue e X.env whole) (TP X pins σ Q) X.xe s
theorem PW.pt {X : Cx} {e : Expr} {t : TT} (h : PW X e t) : PT X e t := h _
def PA (X : Cx) (es : List Expr) (t : TA) : Prop :=
  ∀ (pos : Pos) (pins : List (Addr × Obj)) (s : Shared) (σ : St) (H : Hp) (Q : List V → Hp → Prop), Inv X pins σ H s → t σ H Q → wpAny (model X.prog X.w) X.A (spliced (backTo pos (starEach es X.env))) (AP X pins σ Q) X.xe s
def PS (X : Cx) (st : Stmt) (t : TS) : Prop :=
  ∀ (pins : List (Addr × Obj)) (s : Shared) (σ : St) (H : Hp) (D : Ends), Inv X pins σ H s → t D σ H → wpAny (model X.prog X.w) X.A (exec st X.env) (SP X pins D) X.xe s
def PSs (X : Cx) (st : List Stmt) (t : TS) : Prop :=
  ∀ (pins : List (Addr × Obj)) (s : Shared) (σ : St) (H : Hp) (D : Ends), Inv X pins σ H s → t D σ H → wpAny (model X.prog X.w) X.A (execs st X.env) (SP X pins D) X.xe s
theorem thn {α : Type} {t : Sem α} {Q Q' : α → Shared → Prop} {M : Model} {A : Around} {E : Value → Shared → Prop} {s : Shared} (h : wpAny M A t Q E s) (hQ : ∀ a s, Q a s → Q' a s) : wpAny M A t Q' E s := wpAny_mono h hQ fun _ _ x => x
end L2
namespace L2
open PySem PySem.Spec PyProof.Rows
section
variable {X : Cx}
def tVar (i : Nat) : TE := fun σ H Q => ∃ v, σ[i]? = some (some v) ∧ Q v H
def tC (v : V) : TE := fun _ H Q => Q v H
theorem pe_var {i : Nat} {x : Str} {pos : Pos} (hN : X.N[i]? = some x) (hv : Vis X.env.scope x) (hd : (x == ("__debug__" : Str)) = false := by decide) (hcd : (x == ("__classdict__" : Str)) = false := by decide) : PE X (.Name x pos) (tVar i) := by
  intro pins s σ H Q I h
  obtain ⟨v, e, h⟩ := h
  obtain ⟨m, hn, hl⟩ := I.loc
  obtain ⟨u, r, l⟩ := hl i x v hN e hv
  have fin : EP X pins σ Q u s := ⟨v, H, I, r, h⟩
  rcases l with ⟨hk, hm⟩ | ⟨hk, c, hc, hcell⟩
  · exact wpAny_Name (wpAny_loadName_local I.ok.kind hk hn hm fin) hd
  · rcases hk with hk | hk
    · exact wpAny_Name (wpAny_loadName_cell I.ok.kind hk hc hcell fin) hd
    · exact wpAny_Name (wpAny_loadName_free I.ok.kind hk hc hcell fin hcd) hd
theorem pe_int {i j pos} : PE X (.Constant (.int i) j pos) (tC (.int i)) := fun _ _ _ H _ I h => wpAny_Constant_int ⟨.int i, H, I.tok _, ⟨_, rfl⟩, h⟩
theorem pe_bl {b j pos} : PE X (.Constant (.bool b) j pos) (tC (.bl b)) := fun _ _ _ H _ I h => Constant_bool ⟨.bl b, H, I, rfl, h⟩
theorem pe_str {x j pos} : PE X (.Constant (.str x) j pos) (tC (.str x)) := fun _ _ _ H _ I h => Calls.Constant_str ⟨.str x, H, I.tok _, ⟨_, rfl⟩, h⟩
def Gl (X : Cx) (x : Str) : Prop := X.env.kindOf x = some .globalImplicit
theorem ld_glob {E : Value → Shared → Prop} {pins : List (Addr × Obj)} {s : Shared} {σ : St} {H : Hp} {x : Str} {u : Value} {pos : Pos} {Q : Value → Shared → Prop} (I : Inv X pins σ H s) (hg : Gl X x) (hm : X.mg x = some u) (h : Q u s)
    (hd : (x == ("__debug__" : Str)) = false := by decide) : wpAny (model X.prog X.w) X.A (eval (.Name x pos) X.env) Q E s :=
  Calls.Name_function_global I.ok.kind hg (Calls.loadGlobal_global (by rw [I.ok.glob]; exact I.mod.glob.keeps I.bk) hm h) hd
theorem ld_blt {E : Value → Shared → Prop} {pins : List (Addr × Obj)} {s : Shared} {σ : St} {H : Hp} {x : Str} {u : Value} {pos : Pos} {Q : Value → Shared → Prop} (I : Inv X pins σ H s) (hg : Gl X x) (hm : X.mg x = none) (hv : bootBuiltins x = some u) (h : Q u s)
    (hn : x ≠ "__name__" := by decide) (hd : (x == ("__debug__" : Str)) = false := by decide) : wpAny (model X.prog X.w) X.A (eval (.Name x pos) X.env) Q E s := by
  obtain ⟨mb, h1, h2⟩ := I.mod.blt
  exact Calls.Name_function_global I.ok.kind hg (Calls.loadGlobal_builtin (by rw [I.ok.glob]; exact I.mod.glob.keeps I.bk) hm (by rw [I.ok.blt]; exact h1.keeps I.bk) ((h2 x hn).trans hv) h) hd
theorem pe_glob {x : Str} {v : V} {u : Value} {pos : Pos} (hg : Gl X x) (hm : X.mg x = some u) (r : RelV v u) (hd : (x == ("__debug__" : Str)) = false := by decide) : PE X (.Name x pos) (tC v) :=
  fun _ _ _ H _ I h => ld_glob I hg hm ⟨v, H, I, r, h⟩ hd
theorem pe_bltn {x : Str} {v : V} {u : Value} {pos : Pos} (hg : Gl X x) (hm : X.mg x = none) (hv : bootBuiltins x = some u) (r : RelV v u) (hn : x ≠ "__name__" := by decide) (hd : (x == ("__debug__" : Str)) = false := by decide) : PE X (.Name x pos) (tC v) :=
  fun _ _ _ H _ I h => ld_blt I hg hm hv ⟨v, H, I, r, h⟩ hn hd
def t2I (ta tb : TE) (k : Int → Int → Hp → Prop) : St → Hp → Prop := fun σ H => ta σ H fun x H1 => tb σ H1 fun y H2 => ∃ i j, x = .int i ∧ y = .int j ∧ k i j H2
def tAdd (ta tb : TE) : TE := fun σ H Q => t2I ta tb (fun i j H2 => Q (.int (i + j)) H2) σ H
def tSub (ta tb : TE) : TE := fun σ H Q => t2I ta tb (fun i j H2 => Q (.int (i - j)) H2) σ H
def tMul (ta tb : TE) : TE := fun σ H Q => t2I ta tb (fun i j H2 => (-(2 ^ 64) < i ∧ i < 2 ^ 64) ∧ Q (.int (i * j)) H2) σ H
variable {a b : Expr} {ta tb : TE} {pos : Pos}
def PC (X : Cx) (op : CmpOp) (a b : Expr) (t : TE) : Prop :=
  ∀ (pins : List (Addr × Obj)) (s : Shared) (σ : St) (H : Hp) (Q : VK), Inv X pins σ H s → t σ H Q →
    wpAny (model X.prog X.w) X.A (eval a X.env) (fun v s₁ => wpAny (model X.prog X.w) X.A (eval b X.env) (fun u s₂ => wpAny (model X.prog X.w) X.A (compareOp op v u) (EP X pins σ Q) X.xe s₂) X.xe s₁) X.xe s
def tCmp (p : Int → Int → Bool) (ta tb : TE) : TE := fun σ H Q => t2I ta tb (fun i j H2 => Q (.bl (p i j)) H2) σ H
abbrev tLt : TE → TE → TE := tCmp fun i j => decide (i < j)
abbrev tLe : TE → TE → TE := tCmp fun i j => decide (i ≤ j)
abbrev tGt : TE → TE → TE := tCmp fun i j => decide (j < i)
abbrev tGe : TE → TE → TE := tCmp fun i j => decide (j ≤ i)
abbrev tEqI : TE → TE → TE := tCmp fun i j => decide (i = j)
abbrev tNeI : TE → TE → TE := tCmp fun i j => !decide (i = j)
def tIsN (ta : TE) : TE := fun σ H Q => ta σ H fun x H1 => Q (.bl (decide (x = .non))) H1
def tNotN (ta : TE) : TE := fun σ H Q => ta σ H fun x H1 => Q (.bl (!decide (x = .non))) H1
def tB (t : TE) : TT := fun σ H Q => t σ H fun x H1 => ∃ c, x = .bl c ∧ Q c H1
theorem pt_val {e : Expr} {t : TE} (h : PE X e t) (he : ∀ whole, isTrue e X.env whole = (do let v ← whole; standAt e.pos; holding [v] (truthy v)) := by intro _; rfl) : PT X e (tB t) := by
  intro pins s σ H Q I hw
  refine isTrue_plain (thn (h pins s σ H _ I hw) fun v s1 ⟨x, H1, I1, r1, q1⟩ => ?_) (he _)
  obtain ⟨d, rfl, q⟩ := q1
  cases r1
  exact wpAny_truthy_bool ⟨H1, I1, q⟩
variable {tA tB' : TT} {rest : List Expr}
def tAnd (t u : TT) : TT := fun σ H Q => t σ H fun c H1 => if c = true then u σ H1 Q else Q false H1
def tOr (t u : TT) : TT := fun σ H Q => t σ H fun c H1 => if c = true then Q true H1 else u σ H1 Q
def tNot (t : TT) : TT := fun σ H Q => t σ H fun c H1 => Q (!c) H1
theorem pw_and1 (ha : PT X a tA) : PW X (.BoolOp .And [a] pos) tA := by
  intro wh pins s σ H Q I h
  refine isTrue_and (thn (ha pins s σ H Q I h) fun c s1 e => ?_)
  cases c with
  | true => exact isTrue_and_nil e
  | false => exact e
theorem pw_or1 (ha : PT X a tA) : PW X (.BoolOp .Or [a] pos) tA := by
  intro wh pins s σ H Q I h
  refine isTrue_or (thn (ha pins s σ H Q I h) fun c s1 e => ?_)
  cases c with
  | false => exact isTrue_or_nil e
  | true => exact e
theorem pw_and (ha : PT X a tA) (hb : PW X (.BoolOp .And (b :: rest) pos) tB') : PW X (.BoolOp .And (a :: b :: rest) pos) (tAnd tA tB') := by
  intro wh pins s σ H Q I h
  refine isTrue_and (thn (ha pins s σ H _ I h) fun c s1 ⟨H1, I1, q1⟩ => ?_)
  cases c with
  | true => exact hb wh pins s1 σ H1 Q I1 q1
  | false => exact ⟨H1, I1, q1⟩
theorem pw_or (ha : PT X a tA) (hb : PW X (.BoolOp .Or (b :: rest) pos) tB') : PW X (.BoolOp .Or (a :: b :: rest) pos) (tOr tA tB') := by
  intro wh pins s σ H Q I h
  refine isTrue_or (thn (ha pins s σ H _ I h) fun c s1 ⟨H1, I1, q1⟩ => ?_)
  cases c with
  | true => exact ⟨H1, I1, q1⟩
  | false => exact hb wh pins s1 σ H1 Q I1 q1
theorem pt_not (ha : PT X a tA) : PT X (.UnaryOp .Not a pos) (tNot tA) := by
  intro pins s σ H Q I h
  exact isTrue_not (ha pins s σ H (fun c H1 => Q (!c) H1) I h)
def tAndV (ta tb : TE) : TE := fun σ H Q => ta σ H fun x H1 => ∃ c, x = .bl c ∧ if c = true then tb σ H1 Q else Q (.bl false) H1
def tOrV (ta tb : TE) : TE := fun σ H Q => ta σ H fun x H1 => ∃ c, x = .bl c ∧ if c = true then Q (.bl true) H1 else tb σ H1 Q
def tNotV (ta : TE) : TE := fun σ H Q => ta σ H fun x H1 => ∃ c, x = .bl c ∧ Q (.bl (!c)) H1
theorem pe_one {op} {t : TE} (h : PE X a t) : PE X (.BoolOp op [a] pos) t := fun pins s σ H Q I hw => BoolOp_one (h pins s σ H Q I hw)
theorem pe_and (ha : PE X a ta) (hb : PE X (.BoolOp .And (b :: rest) pos) tb) : PE X (.BoolOp .And (a :: b :: rest) pos) (tAndV ta tb) := by
  intro pins s σ H Q I h
  refine BoolOp_and (thn (ha pins s σ H _ I h) fun v s1 ⟨x, H1, I1, r1, q1⟩ => ?_)
  obtain ⟨c, rfl, q1⟩ := q1
  cases r1
  refine wpAny_truthy_bool ?_
  cases c with
  | true => exact hb pins s1 σ H1 Q I1 q1
  | false => exact ⟨.bl false, H1, I1, rfl, q1⟩
def tIf (t : TT) (ta tb : TE) : TE := fun σ H Q => t σ H fun c H1 => if c = true then ta σ H1 Q else tb σ H1 Q
theorem pe_ifExp {c : Expr} (hc : PT X c tA) (ha : PE X a ta) (hb : PE X b tb) : PE X (.IfExp c a b pos) (tIf tA ta tb) := by
  intro pins s σ H Q I h
  refine wpAny_IfExp (thn (hc pins s σ H _ I h) fun d s1 ⟨H1, I1, q1⟩ => ?_)
  cases d with
  | true => exact ha pins s1 σ H1 Q I1 q1
  | false => exact hb pins s1 σ H1 Q I1 q1
end
end L2
namespace L2
open PySem PySem.Spec PyProof.Rows
def SqL (K : PySem.W.Frag) (H : Hp) (a : Addr) (xs : List V) : Prop :=
  Rd H a (.lst xs) ∨
    ∃ (o : Obj) (its : Array Value) (n : Nat), K.lookup a = some o ∧ o.cls = .type "list" ∧ o.dict = none ∧ o.data = .seq its n ∧ its.size ≤ sizeLine ∧ Vals xs its.toList
def SqT (K : PySem.W.Frag) (H : Hp) (a : Addr) (xs : List V) : Prop :=
  Rd H a (.tup xs) ∨
    ∃ (o : Obj) (its : Array Value) (n : Nat), K.lookup a = some o ∧ o.cls = .type "tuple" ∧ o.data = .seq its n ∧ its.size ≤ sizeLine ∧ Vals xs its.toList
def absV : Value → Option V
  | .none => some .non
  | .bool b => some (.bl b)
  | .int i _ => some (.int i)
  | .str x _ => some (.str x)
  | .bytes b _ => some (.byt b)
  | .float b _ => some (.flt b)
  | .ref a => some (.ref a)
  | .type n => some (.ty n)
  | _ => none
theorem RelV.abs {x : V} {u : Value} (r : RelV x u) : absV u = some x := by
  cases x with
  | non => cases r; rfl
  | bl _ => cases r; rfl
  | int _ => obtain ⟨t, rfl⟩ := r; rfl
  | str _ => obtain ⟨t, rfl⟩ := r; rfl
  | byt _ => obtain ⟨t, rfl⟩ := r; rfl
  | flt _ => obtain ⟨t, rfl⟩ := r; rfl
  | ref _ => cases r; rfl
  | ty _ => cases r; rfl
theorem RelV.inj {x y : V} {u : Value} (r : RelV x u) (q : RelV y u) : x = y := Option.some.inj (r.abs.symm.trans q.abs)
theorem Vals.inj : ∀ {xs ys : List V} {us : List Value}, Vals xs us → Vals ys us → xs = ys
  | _, _, _, .nil, .nil => rfl
  | _, _, _, .cons r t, .cons r' t' => by rw [r.inj r', Vals.inj t t']
section
variable {X : Cx} {pins : List (Addr × Obj)} {σ : St} {H : Hp} {s : Shared} {a : Addr} {xs ys : List V}
theorem SqL.of {K : PySem.W.Frag} (h : H a = some (.lst xs)) : SqL K H a xs := .inl (.inl h)
theorem SqT.of {K : PySem.W.Frag} (h : H a = some (.tup xs)) : SqT K H a xs := .inl (.inl h)
theorem Inv.list (I : Inv X pins σ H s) (h : SqL X.K H a xs) : ∃ its : List Value, Vals xs its ∧ PlainL s.heap a its.toArray ∧ xs.length ≤ sizeLine := by
  rcases h with h | ⟨o, its, n, hk, hc, hd, hs, hz, r⟩
  · obtain ⟨z, its, n, r, e⟩ := h.ok I.hok
    exact ⟨its, r, ⟨_, n, e, rfl, rfl, rfl⟩, z⟩
  · refine ⟨its.toList, r, ⟨o, n, I.kIn a o hk, hc, hd, by simpa using hs⟩, ?_⟩
    have e := r.length
    simp only [Array.length_toList] at e
    omega
theorem Inv.tuple (I : Inv X pins σ H s) (h : SqT X.K H a xs) : ∃ its : List Value, Vals xs its ∧ IsTup s.heap a its.toArray ∧ xs.length ≤ sizeLine := by
  rcases h with h | ⟨o, its, n, hk, hc, hs, hz, r⟩
  · obtain ⟨z, its, r, p⟩ := h.ok I.hok
    exact ⟨its, r, p, z⟩
  · refine ⟨its.toList, r, ⟨o, I.kIn a o hk, hc, n, by simpa using hs⟩, ?_⟩
    have e := r.length
    simp only [Array.length_toList] at e
    omega
theorem Inv.list_inj (I : Inv X pins σ H s) (h : SqL X.K H a xs) (h' : SqL X.K H a ys) : xs = ys := by
  obtain ⟨its, r, ⟨o, n, e, _, _, d⟩, _⟩ := I.list h
  obtain ⟨its', r', ⟨o', n', e', _, _, d'⟩, _⟩ := I.list h'
  rw [e] at e'; cases e'
  rw [d] at d'
  injection d' with d1 _
  have : its = its' := by simpa using congrArg Array.toList d1
  subst this
  exact r.inj r'
end
abbrev Cx.wish (X : Cx) (E : Value → Shared → Prop) : Cx := { X with xe := E }
abbrev Cx.nox (X : Cx) : Cx := X.wish fun _ _ => False
theorem Cx.Ok.wish {X : Cx} (ok : X.Ok) (E : Value → Shared → Prop) : (X.wish E).Ok :=
  ⟨ok.mod, ok.kind, ok.glob, ok.blt, ok.above, ok.inj, ok.has, ok.cab, ok.hd, ok.frames, ok.stk, ok.exf, ok.bs, ok.bsz, ok.noex, ok.exfs, ok.funs, ok.frf⟩
theorem Cx.Ok.unwish {X : Cx} {E : Value → Shared → Prop} (ok : (X.wish E).Ok) : X.Ok :=
  ⟨ok.mod, ok.kind, ok.glob, ok.blt, ok.above, ok.inj, ok.has, ok.cab, ok.hd, ok.frames, ok.stk, ok.exf, ok.bs, ok.bsz, ok.noex, ok.exfs, ok.funs, ok.frf⟩
section
variable {X : Cx} {pins : List (Addr × Obj)} {σ : St} {H : Hp} {s : Shared} {E : Value → Shared → Prop}
theorem Inv.wish (I : Inv X pins σ H s) (E : Value → Shared → Prop) : Inv (X.wish E) pins σ H s := ⟨I.ok.wish E, I.os, I.bare, I.base, I.loc, I.cell, I.free, I.freeC, I.pin, I.hok, I.len⟩
theorem Inv.unwish (I : Inv (X.wish E) pins σ H s) : Inv X pins σ H s := ⟨I.ok.unwish, I.os, I.bare, I.base, I.loc, I.cell, I.free, I.freeC, I.pin, I.hok, I.len⟩
theorem SP.unwish {D : Ends} {f : Flow} {s' : Shared} (h : SP (X.wish E) pins D f s') : SP X pins D f s' := by
  cases f with
  | next => obtain ⟨σ', H', I, q⟩ := h; exact ⟨σ', H', I.unwish, q⟩
  | brk => obtain ⟨σ', H', I, q⟩ := h; exact ⟨σ', H', I.unwish, q⟩
  | cont => obtain ⟨σ', H', I, q⟩ := h; exact ⟨σ', H', I.unwish, q⟩
  | ret u => obtain ⟨v, σ', H', I, r, q⟩ := h; exact ⟨v, σ', H', I.unwish, r, q⟩
theorem PSs.nox {st : List Stmt} {t : TS} (h : PSs X.nox st t) : PSs X st t := fun pins s σ H D I hw =>
  wpAny_mono (h pins s σ H D (I.wish _) hw) (fun _ _ q => q.unwish) fun _ _ z => False.elim z
end
section
variable {X : Cx} {st : Stmt} {rest : List Stmt} {t u : TS} {e : Expr} {te : TE} {pos : Pos}
def tNext : TS := fun D σ H => D.nx σ H
def tSeq (t u : TS) : TS := fun D σ H => t { D with nx := u D } σ H
theorem pss_nil : PSs X [] tNext := fun _ _ σ H _ I h => wpAny_execs_nil ⟨σ, H, I, h⟩
theorem pss_cons (h1 : PS X st t) (h2 : PSs X rest u) : PSs X (st :: rest) (tSeq t u) := by
  intro pins s σ H D I h
  refine wpAny_execs_cons (thn (h1 pins s σ H { D with nx := u D } I h) fun f s1 q => ?_)
  cases f with
  | next =>
    obtain ⟨σ', H', I', q⟩ := q
    exact h2 pins s1 σ' H' D I' q
  | ret v => exact q
  | brk => exact q
  | cont => exact q
theorem pss_one (h1 : PS X st t) : PSs X [st] t := by
  intro pins s σ H D I h
  refine wpAny_execs_cons (thn (h1 pins s σ H D I h) fun f s1 q => ?_)
  cases f with
  | next => exact wpAny_execs_nil q
  | ret v => exact q
  | brk => exact q
  | cont => exact q
def tBreak : TS := fun D σ H => D.bk σ H
def tCont : TS := fun D σ H => D.ct σ H
theorem Inv.quiet {pins : List (Addr × Obj)} {σ : St} {H : Hp} {s : Shared} (I : Inv X pins σ H s) : interactive X.env = false := by simp [interactive, I.ok.kind]
def tDrop (te : TE) : TS := fun D σ H => te σ H fun _ H1 => D.nx σ H1
theorem ps_expr (he : PE X e te) (hs : swapsWith e none pos.line X.env = pure false := by rfl) : PS X (.Expr e pos) (tDrop te) := by
  intro pins s σ H D I h
  exact wpAny_Expr_any (thn (he pins s σ H _ I h) fun v s1 ⟨x, H1, I1, r1, q1⟩ => ⟨σ, H1, I1, q1⟩) I.quiet hs
def tRet (te : TE) : TS := fun D σ H => te σ H D.rt
theorem ps_ret (he : PE X e te) : PS X (.Return (some e) pos) (tRet te) := by
  intro pins s σ H D I h
  exact wpAny_Return_some (thn (he pins s σ H _ I h) fun v s1 ⟨x, H1, I1, r1, q1⟩ => ⟨x, σ, H1, I1, r1, q1⟩)
def tRetN : TS := fun D _ H => D.rt .non H
def tIfS (c : TT) (t u : TS) : TS := fun D σ H => c σ H fun b H1 => if b = true then t D σ H1 else u D σ H1
theorem ps_if {c : Expr} {a b : List Stmt} {tc : TT} (hc : PT X c tc) (ha : PSs X a t) (hb : PSs X b u) : PS X (.If c a b pos) (tIfS tc t u) := by
  intro pins s σ H D I h
  refine wpAny_If (thn (hc pins s σ H _ I h) fun d s1 ⟨H1, I1, q1⟩ => ?_)
  cases d with
  | true => exact ha pins s1 σ H1 D I1 q1
  | false => exact hb pins s1 σ H1 D I1 q1
def tNever : TS := fun _ _ _ => False
end
abbrev TG := V → St → Hp → (St → Hp → Prop) → Prop
abbrev TGs := List V → St → Hp → (St → Hp → Prop) → Prop
def PG (X : Cx) (target : Expr) (t : TG) : Prop :=
  ∀ (pins : List (Addr × Obj)) (s : Shared) (σ : St) (H : Hp) (v : V) (u : Value) (Q : St → Hp → Prop), Inv X pins σ H s → RelV v u → t v σ H Q →
    wpAny (model X.prog X.w) X.A (assign target X.env u) (fun _ s' => ∃ σ' H', Inv X pins σ' H' s' ∧ Q σ' H') X.xe s
def PGs (X : Cx) (ts : List Expr) (t : TGs) : Prop :=
  ∀ (pins : List (Addr × Obj)) (s : Shared) (σ : St) (H : Hp) (vs : List V) (us : List Value) (Q : St → Hp → Prop), Inv X pins σ H s → Vals vs us → t vs σ H Q →
    wpAny (model X.prog X.w) X.A (assignInOrder ((assignEach ts X.env).map (·.2)) us) (fun _ s' => ∃ σ' H', Inv X pins σ' H' s' ∧ Q σ' H') X.xe s
abbrev TSet := V → V → V → Hp → (Hp → Prop) → Prop
def PSet (X : Cx) (t : TSet) : Prop :=
  ∀ (pins : List (Addr × Obj)) (s : Shared) (σ : St) (H : Hp) (o i v : V) (ov iv u : Value) (Q : Hp → Prop), Inv X pins σ H s → RelV o ov → RelV i iv → RelV v u → t o i v H Q →
    wpAny (model X.prog X.w) X.A (setItem ov iv u) (fun _ s' => ∃ H', Inv X pins σ H' s' ∧ Q H') X.xe s
abbrev TIp := V → V → Hp → VK → Prop
def PIp (X : Cx) (op : Operator) (t : TIp) : Prop :=
  ∀ (pins : List (Addr × Obj)) (s : Shared) (σ : St) (H : Hp) (x y : V) (v u : Value) (Q : VK), Inv X pins σ H s → RelV x v → RelV y u → t x y H Q →
    wpAny (model X.prog X.w) X.A (inplaceOp op v u) (EP X pins σ Q) X.xe s
section
variable {X : Cx} {pos : Pos}
def gName (i : Nat) : TG := fun v σ H Q => Q (σ.set i (some v)) H
theorem pg_name {i : Nat} {x : Str} (hN : X.N.Nodup) (hi : X.N[i]? = some x) (hx : Loc X.env.scope x) (hf : X.fn x = true ∨ X.env.scope.names.lookup x = some .local := by first | exact .inl rfl | exact .inr rfl | assumption) : PG X (.Name x pos) (gName i) := by
  intro pins s σ H v u Q I r h
  exact wpAny_assign_Name (store_ok I hN hi hx r (fun s' I' => ⟨_, H, I', h⟩) hf)
def gNil : TGs := fun vs σ H Q => vs = [] ∧ Q σ H
def gCons (t : TG) (u : TGs) : TGs := fun vs σ H Q => ∃ v r, vs = v :: r ∧ t v σ H fun σ' H' => u r σ' H' Q
theorem pgs_nil : PGs X [] gNil := by
  intro pins s σ H vs us Q I r h
  obtain ⟨e, h⟩ := h
  subst e
  cases r
  exact assignInOrder_nil ⟨σ, H, I, h⟩
theorem pgs_cons {e : Expr} {es : List Expr} {t : TG} {u : TGs} (h1 : PG X e t) (h2 : PGs X es u)
    (hs : (assignEach (e :: es) X.env).map (·.2) = assign e X.env :: (assignEach es X.env).map (·.2) := by rfl) : PGs X (e :: es) (gCons t u) := by
  intro pins s σ H vs us Q I r h
  obtain ⟨v, vr, e1, h⟩ := h
  subst e1
  cases r with
  | cons r rr =>
    rw [hs]
    refine assignInOrder_cons (thn (h1 pins s σ H _ _ _ I r h) fun _ s1 ⟨σ1, H1, I1, q1⟩ => ?_)
    exact h2 pins s1 σ1 H1 _ _ Q I1 rr q1
def gTup (K : PySem.W.Frag) (n : Nat) (t : TGs) : TG := fun v σ H Q => ∃ a xs, v = .ref a ∧ SqT K H a xs ∧ xs.length = n ∧ t xs σ H Q
theorem pg_tup {es : List Expr} {k : Nat} {t : TGs} {n : Nat} (hc : X.calm = true) (h : PGs X es t)
    (hn : (assignEach es X.env).length = n := by rfl) (hst : (assignEach es X.env).findIdx? (·.1) = none := by rfl) : PG X (.Tuple es k pos) (gTup X.K n t) := by
  intro pins s σ H v u Q I r hw
  obtain ⟨a, xs, e1, hq, hl, hw⟩ := hw
  subst e1
  cases r
  obtain ⟨its, rv, ht, hz⟩ := I.tuple hq
  refine assign_Tuple_tuple (I.ok.hd hc) ht (by simp [hn, ← hl, rv.length]) hst fun h' hx => ?_
  have I1 : Inv X pins σ H { s with heap := h' } := I.kept (t' := s.toks) fun b o e => hx b o (Nat.ne_of_lt (Heap.lt_size e)) e
  exact h pins _ σ H xs _ Q I1 (by simpa using rv) hw
def gSub (to ti : TE) (t : TSet) : TG := fun v σ H Q => to σ H fun o H1 => ti σ H1 fun i H2 => t o i v H2 fun H3 => Q σ H3
theorem pg_sub {o i : Expr} {to ti : TE} {t : TSet} (ho : PE X o to) (hi : PE X i ti) (hs : PSet X t)
    (ha : ∀ v, assign (.Subscript o i pos) X.env v = (do
      let ov ← holding [v] (eval o X.env)
      let iv ← holding [v, ov] (eval i X.env)
      standAt pos
      holding [v, ov, iv] (setItem ov iv v)
      release [v, ov, iv] []) := by intro _; rfl) : PG X (.Subscript o i pos) (gSub to ti t) := by
  intro pins s σ H v u Q I r h
  rw [ha]
  refine wpAny_bind (wpAny_holding (thn (ho pins s σ H _ I h) fun ov s1 ⟨x, H1, I1, r1, q1⟩ => ?_))
  refine wpAny_bind (wpAny_holding (thn (hi pins s1 σ H1 _ I1 q1) fun iv s2 ⟨y, H2, I2, r2, q2⟩ => ?_))
  refine wpAny_bind (wpAny_standAt (wpAny_bind (wpAny_holding (thn (hs pins s2 σ H2 x y v ov iv u _ I2 r1 r2 r q2) fun _ s3 ⟨H3, I3, q3⟩ => ?_))))
  exact wpAny_release ⟨σ, H3, I3, q3⟩
def tAsg (te : TE) (g : TG) : TS := fun D σ H => te σ H fun x H1 => g x σ H1 D.nx
theorem ps_asg {tg e : Expr} {te : TE} {g : TG} (he : PE X e te) (hg : PG X tg g) (hs : swapsWithSole [tg] e pos.line X.env = pure false := by rfl) (hw : swappedStores [tg] e X.env = pure none := by rfl)
    (h1 : (assignEach [tg] X.env).map (·.2) = [assign tg X.env] := by rfl) : PS X (.Assign [tg] e pos) (tAsg te g) := by
  intro pins s σ H D I h
  refine wpAny_Assign_stores (thn (he pins s σ H _ I h) fun v s1 ⟨x, H1, I1, r1, q1⟩ => ?_) hs hw
  rw [h1]
  exact thn (hg pins s1 σ H1 x v _ I1 r1 q1) fun _ s2 q => q
theorem ps_set {i : Nat} {x : Str} {e : Expr} {te : TE} {pos' : Pos} (hN : X.N.Nodup) (hi : X.N[i]? = some x) (hx : Loc X.env.scope x) (he : PE X e te) (hs : swapsWith e (some (.Name x pos')) pos.line X.env = pure false := by rfl) (hf : X.fn x = true ∨ X.env.scope.names.lookup x = some .local := by first | exact .inl rfl | exact .inr rfl | assumption) :
    PS X (.Assign [.Name x pos'] e pos) (tAsg te (gName i)) := by
  intro pins s σ H D I h
  refine wpAny_Assign_Name (thn (he pins s σ H _ I h) fun v s1 ⟨y, H1, I1, r1, q1⟩ => ?_) hs
  exact store_ok I1 hN hi hx r1 (fun s2 I2 => ⟨_, H1, I2, q1⟩) hf
def tPar (i j : Nat) (ta : TA) : TS := fun D σ H => ta σ H fun vs H1 => ∃ v w, vs = [v, w] ∧ D.nx ((σ.set i (some v)).set j (some w)) H1
theorem ps_par {i j : Nat} {x y : Str} {a b : Expr} {ta : TA} {px py pt : Pos} {kt k2 pt2} (hc : X.calm = true) (hN : X.N.Nodup) (hi : X.N[i]? = some x) (hj : X.N[j]? = some y) (hij : i ≠ j)
    (hx : X.env.scope.names.lookup x = some .local) (hy : X.env.scope.names.lookup y = some .local) (ha : PA X [a, b] ta)
    (hw : swappedStores [.Tuple [.Name x px, .Name y py] kt pt] (.Tuple [a, b] k2 pt2) X.env = pure (some [x, y]))
    (hs : swapsWithSole [.Tuple [.Name x px, .Name y py] kt pt] (.Tuple [a, b] k2 pt2) pos.line X.env = pure false := by rfl) :
    PS X (.Assign [.Tuple [.Name x px, .Name y py] kt pt] (.Tuple [a, b] k2 pt2) pos) (tPar i j ta) := by
  intro pins s σ H D I h
  rw [exec_Assign_arm]
  refine wpAny_bind (wpAny_standAt ?_)
  rw [hs]
  refine wpAny_bind (wpAny_pure ?_)
  rw [if_neg (by decide)]
  refine wpAny_bind (Tuple_ (thn (ha _ pins s σ H _ I h) fun us s1 ⟨vs, H1, I1, r1, q1⟩ => ?_))
  obtain ⟨v, w, e1, q1⟩ := q1
  subst e1
  obtain ⟨u1, u2, rfl, rv, rw'⟩ : ∃ u1 u2, us = [u1, u2] ∧ RelV v u1 ∧ RelV w u2 := by
    cases r1 with
    | cons p q =>
      cases q with
      | cons p' q' =>
        cases q'
        exact ⟨_, _, rfl, p, p'⟩
  refine wpAny_newObj_type ?_ (by show 2 ≤ sizeLine; decide)
  have I2 : Inv X pins σ H1 { s1 with heap := s1.heap.push { cls := .type "tuple", data := .seq [u1, u2].toArray } } := I1.kept (t' := s1.toks) fun b o e => Heap.get?_push_of_some _ e
  rw [hw]
  refine wpAny_bind (wpAny_pure ?_)
  show wpAny (model X.prog X.w) X.A (do rule "assign.swapped-stores"; let items ← unpackItems (.ref s1.heap.objs.size) 2 none; assignInOrder [fun v => bindName X.env y v, fun v => bindName X.env x v] items.reverse; pure Flow.next) _ _ _
  refine wpAny_bind (wpAny_rule (wpAny_bind (unpackItems_tuple (items := #[u1, u2]) (I.ok.hd hc) (IsTup.new s1.heap _) fun h' hx' => ?_)))
  have I3 := I2.kept (h' := h') (t' := s1.toks) fun b o e => hx' b o (Nat.ne_of_lt (Heap.lt_size e)) e
  show wpAny _ _ (assignInOrder [fun v => bindName X.env y v, fun v => bindName X.env x v] [u2, u1] >>= fun _ => pure Flow.next) _ _ _
  refine wpAny_bind (assignInOrder_cons (wpAny_bindName (store_ok I3 hN hj (.inl hy) rw' (fun s2 I4 => ?_) (.inr hy))))
  refine assignInOrder_cons (wpAny_bindName (store_ok I4 hN hi (.inl hx) rv (fun s3 I5 => assignInOrder_nil (wpAny_pure ?_)) (.inr hx)))
  rw [List.set_comm _ _ (Ne.symm hij)] at I5
  exact ⟨_, H1, I5, q1⟩
def tAug (i : Nat) (te : TE) (ti : TIp) : TS := fun D σ H => ∃ x, σ[i]? = some (some x) ∧ te σ H fun y H1 => ti x y H1 fun z H2 => D.nx (σ.set i (some z)) H2
def tAugS (to ti te : TE) (tget : V → V → Hp → VK → Prop) (tip : TIp) (tset : TSet) : TS := fun D σ H => to σ H fun o H1 => ti σ H1 fun i H2 => tget o i H2 fun x H3 => te σ H3 fun y H4 => tip x y H4 fun z H5 => tset o i z H5 fun H6 => D.nx σ H6
def PGet (X : Cx) (t : V → V → Hp → VK → Prop) : Prop :=
  ∀ (pins : List (Addr × Obj)) (s : Shared) (σ : St) (H : Hp) (o i : V) (ov iv : Value) (Q : VK), Inv X pins σ H s → RelV o ov → RelV i iv → t o i H Q →
    wpAny (model X.prog X.w) X.A (getItem ov iv) (EP X pins σ Q) X.xe s
theorem ps_augS {o i e : Expr} {to ti te : TE} {tget : V → V → Hp → VK → Prop} {tip : TIp} {tset : TSet} {op : Operator} {tpos : Pos} (ho : PE X o to) (hi : PE X i ti) (hg : PGet X tget) (he : PE X e te) (hp : PIp X op tip) (hs : PSet X tset)
    (ha : ∀ ov iv new, augStore i ov iv new = (do holding [new, ov, iv] (setItem ov iv new); release [new, ov, iv] []; pure .next) := by intros; rfl) : PS X (.AugAssign (.Subscript o i tpos) op e pos) (tAugS to ti te tget tip tset) := by
  intro pins s σ H D I h
  refine wpAny_AugAssign_SubscriptAny (thn (ho pins s σ H _ I h) fun ov s1 ⟨x1, H1, I1, r1, q1⟩ => ?_) ha
  refine thn (hi pins s1 σ H1 _ I1 q1) fun iv s2 ⟨x2, H2, I2, r2, q2⟩ => ?_
  refine thn (hg pins s2 σ H2 x1 x2 ov iv _ I2 r1 r2 q2) fun old s3 ⟨x3, H3, I3, r3, q3⟩ => ?_
  refine thn (he pins s3 σ H3 _ I3 q3) fun v s4 ⟨x4, H4, I4, r4, q4⟩ => ?_
  refine thn (hp pins s4 σ H4 x3 x4 old v _ I4 r3 r4 q4) fun new s5 ⟨x5, H5, I5, r5, q5⟩ => ?_
  exact thn (hs pins s5 σ H5 x1 x2 x5 ov iv new _ I5 r1 r2 r5 q5) fun _ s6 ⟨H6, I6, q6⟩ => ⟨σ, H6, I6, q6⟩
def ipI (f : Int → Int → Int) : TIp := fun x y H Q => ∃ i j, x = .int i ∧ y = .int j ∧ Q (.int (f i j)) H
theorem ip_add : PIp X .Add (ipI fun i j => i + j) := by
  intro pins s σ H x y v u Q I r1 r2 h
  obtain ⟨i, j, e1, e2, q⟩ := h
  subst e1; subst e2
  obtain ⟨t, rfl⟩ := r1
  obtain ⟨t', rfl⟩ := r2
  exact iadd_int ⟨.int _, H, I.tok _, ⟨_, rfl⟩, q⟩
end
section
variable {X : Cx} {pos : Pos}
def tWhile (c : TT) (tb : TS) : TS := fun D σ H => ∃ W : Nat → St → Hp → Prop, (∃ m, W m σ H) ∧ ∀ m σ H, W m σ H →
  c σ H fun b H1 => if b = true then ∃ N : St → Hp → Prop, (∀ σ' H', N σ' H' → ∃ m', m' < m ∧ W m' σ' H') ∧ tb { D with nx := N, ct := N, bk := D.nx } σ H1 else D.nx σ H1
end
structure It where
  go : Nat → Hp → Prop
  yld : Nat → Hp → V → Hp → Prop
  stop : Nat → Hp → Prop
def FpOk (X : Cx) (pins : List (Addr × Obj)) (H : Hp) (b : Addr) : Prop :=
  H b = none ∧ b ≠ X.env.locals ∧ b ∉ X.fs ∧ (b ∈ X.ex ∨ X.s₀.heap.objs.size ≤ b) ∧ (∀ x c, X.env.cells.lookup x = some c → c ≠ b) ∧ ∀ p ∈ X.pn ++ pins, p.1 ≠ b
theorem Inv.fpOk {X : Cx} {pins : List (Addr × Obj)} {σ : St} {H H' : Hp} {s : Shared} {b : Addr} (I : Inv X pins σ H s) (hb : s.heap.objs.size ≤ b) (hn : H' b = none) : FpOk X pins H' b := by
  refine ⟨hn, Nat.ne_of_gt (Nat.lt_of_lt_of_le I.lt hb), I.nofs hb, .inr (Nat.le_trans I.sz hb), fun x c e z => ?_, fun p hp z => ?_⟩
  · obtain ⟨v, q⟩ := I.cell x c e
    exact absurd (Nat.lt_of_lt_of_le q.lt (by rw [z]; exact hb)) (Nat.lt_irrefl _)
  · exact absurd (Nat.lt_of_lt_of_le (Heap.lt_size (I.pin p hp).1) (by rw [z]; exact hb)) (Nat.lt_irrefl _)
structure Turn (P : Program) (w : World) (K : PySem.W.Frag) (tg : Expr) (J : It) (fp : List Addr) (it : Addr) (tn : Nat → Heap → Prop) : Prop where
  mem : it ∈ fp
  obj : ∀ i h, tn i h → ∀ b ∈ fp, ∃ o, h.get? b = some o ∧ ∀ v, o.data ≠ .cell v
  keep : ∀ i h h', tn i h → (∀ b ∈ fp, ∀ o, h.get? b = some o → h'.get? b = some o) → tn i h'
  item : ∀ (X : Cx), X.prog = P → X.w = w → X.K = K → X.calm = true → ∀ (i : Nat) (pins : List (Addr × Obj)) (s : Shared) (σ : St) (H : Hp) (E : Value → Shared → Prop), Inv X pins σ H s → (∀ b ∈ fp, FpOk X pins H b) → tn i s.heap → J.go i H →
    wpAny (model P w) X.A (pyNext (.ref it)) (fun r s1 => ∃ u, r = some u ∧
      wpAny (model P w) X.A (letOwnedTupleGo tg (.ref it) u) (fun _ s2 => ∃ x H', Inv X pins σ H' s2 ∧ RelV x u ∧ J.yld i H x H' ∧ tn (i + 1) s2.heap ∧ ∀ b ∈ fp, H' b = none) E s1) E s
  done : ∀ (X : Cx), X.prog = P → X.w = w → X.K = K → X.calm = true → ∀ (i : Nat) (pins : List (Addr × Obj)) (s : Shared) (σ : St) (H : Hp) (E : Value → Shared → Prop), Inv X pins σ H s → (∀ b ∈ fp, FpOk X pins H b) → tn i s.heap → J.stop i H →
    wpAny (model P w) X.A (pyNext (.ref it)) (fun r s1 => r = none ∧ Inv X pins σ H s1) E s
  self : ∀ (A : Around) (i : Nat) (s : Shared) (Q : Value → Shared → Prop) (E : Value → Shared → Prop), tn i s.heap → Q (.ref it) s → wpAny (model P w) A (pyIter (.ref it)) Q E s
abbrev TI := St → Hp → (It → Hp → Prop) → Prop
def PIE (X : Cx) (pins : List (Addr × Obj)) (σ : St) (tg : Expr) (R : It → Hp → Prop) (itv : Value) (s2 : Shared) : Prop :=
  ∃ (it : Addr) (fp : List Addr) (tn : Nat → Heap → Prop) (J : It) (H' : Hp), itv = .ref it ∧ Inv X pins σ H' s2 ∧ Turn X.prog X.w X.K tg J fp it tn ∧ tn 0 s2.heap ∧ (∀ b ∈ fp, FpOk X pins H' b) ∧ R J H'
def PI (X : Cx) (tg iter : Expr) (wi : TI) : Prop :=
  ∀ (pins : List (Addr × Obj)) (s : Shared) (σ : St) (H : Hp) (R : It → Hp → Prop), Inv X pins σ H s → wi σ H R →
    wpAny (model X.prog X.w) X.A (eval iter X.env) (fun v s1 => wpAny (model X.prog X.w) X.A (pyIter v) (PIE X pins σ tg R) X.xe s1) X.xe s
theorem go_of {M : Model} {A : Around} {E : Value → Shared → Prop} {s : Shared} {tg : Expr} {it : Addr} {u : Value} {o : Obj} {n : String} {vs : Array Value} {Q : Unit → Shared → Prop} (ho : s.heap.get? it = some o) (hc : o.cls = .type n) (hd : o.data = .fields vs)
    (hn : ["enumerate", "zip", "dict_itemiterator", "dict_reverseitemiterator", "odict_iterator", "itertools.zip_longest", "itertools.pairwise"].contains n = false) (hQ : Q () s) : wpAny M A (letOwnedTupleGo tg (.ref it) u) Q E s := by
  unfold letOwnedTupleGo
  cases tg <;> first
    | exact wpAny_pure hQ
    | (cases u <;> first
        | exact wpAny_pure hQ
        | (refine wpAny_bind (wpAny_load ho ?_)
           rw [hc, hd]
           show wpAny M A (if (["enumerate", "zip", "dict_itemiterator", "dict_reverseitemiterator", "odict_iterator", "itertools.zip_longest", "itertools.pairwise"].contains n && vs[0]? == some (rawInt _)) = true then _ else _) Q E s
           rw [if_neg (by intro h; rw [hn, Bool.false_and] at h; cases h)]
           exact wpAny_pure hQ))
def Itl (K : PySem.W.Frag) (a : Addr) : It :=
  ⟨fun i H => ∃ xs x, SqL K H a xs ∧ xs[i]? = some x, fun i H x H' => H' = H ∧ ∀ xs, SqL K H a xs → xs[i]? = some x, fun i H => ∃ xs, SqL K H a xs ∧ xs.length ≤ i⟩
def Itt (K : PySem.W.Frag) (a : Addr) : It :=
  ⟨fun i H => ∃ xs x, SqT K H a xs ∧ xs[i]? = some x, fun i H x H' => H' = H ∧ ∀ xs, SqT K H a xs → xs[i]? = some x, fun i H => ∃ xs, SqT K H a xs ∧ xs.length ≤ i⟩
def Itr (lo : Int) (n : Nat) : It := ⟨fun i _ => i < n, fun i H x H' => H' = H ∧ x = .int (lo + i), fun i _ => n ≤ i⟩
theorem turn_list {P : Program} {w : World} {K : PySem.W.Frag} {tg : Expr} (a it : Addr) : Turn P w K tg (Itl K a) [it] it (fun i h => h.IsListIter it a i) where
  mem := by simp
  obj := fun i h st b hb => by
    have e : b = it := by simpa using hb
    subst e
    obtain ⟨o, e, c, d⟩ := st
    exact ⟨o, e, fun v z => by rw [d] at z; cases z⟩
  keep := fun i h h' st k => st.at fun o e => k it (by simp) o e
  item := by
    intro X hP hw hK hc i pins s σ H E I hf st hg
    subst hP hw hK
    obtain ⟨xs, x, hq, hx⟩ := hg
    obtain ⟨its, rv, p, hz⟩ := I.list hq
    obtain ⟨u, hu, ru⟩ := rv.get hx
    obtain ⟨f0, f1, f2, f3, f4, f5⟩ := hf it (by simp)
    refine wpAny_pyNext_list_item st p.isList (x := u) (by simpa using hu) fun h' st' sb => ?_
    have I1 : Inv X pins σ H { s with heap := h' } := I.turned (t' := s.toks) (fun b o hb e => (sb.2 b hb).trans e) f0 f1 f3 f4 f5
    obtain ⟨o, e, c, d⟩ := id st'
    exact ⟨u, rfl, go_of (s := { s with heap := h' }) e c d (by decide) ⟨x, H, I1, ru, ⟨rfl, fun ys hy => by rw [I.list_inj hy hq]; exact hx⟩, st', fun b hb => (hf b hb).1⟩⟩
  done := by
    intro X hP hw hK hc i pins s σ H E I hf st hg
    subst hP hw hK
    obtain ⟨xs, hq, hx⟩ := hg
    obtain ⟨its, rv, p, hz⟩ := I.list hq
    obtain ⟨f0, f1, f2, f3, f4, f5⟩ := hf it (by simp)
    have hl := rv.length
    exact wpAny_pyNext_list_end (I.ok.hd hc) st p.isList (by simp; omega) fun h' eb => ⟨rfl, I.turned (t' := s.toks) (fun b o hb e => eb b o hb e) f0 f1 f3 f4 f5⟩
  self := fun _ _ _ _ _ st h => wpAny_pyIter_listiter st h
theorem turn_range {P : Program} {w : World} {K : PySem.W.Frag} {tg : Expr} (it : Addr) (lo : Int) (n : Nat) : Turn P w K tg (Itr lo n) [it] it (fun i h => IsRangeIter h it (lo + (i : Nat) * 1) ((n : Int) - (i : Nat)) 1) where
  mem := by simp
  obj := fun i h st b hb => by
    have e : b = it := by simpa using hb
    subst e
    exact ⟨_, st, fun v z => by
      have z' : Data.fields _ = Data.cell v := z
      cases z'⟩
  keep := fun i h h' st k => k it (by simp) _ st
  item := by
    intro X hP hw hK hc i pins s σ H E I hf st hg
    subst hP hw hK
    obtain ⟨f0, f1, f2, f3, f4, f5⟩ := hf it (by simp)
    have W := Walks.range (prog := X.prog) (w := X.w) (I.ok.hd hc) it lo 1 n
    refine W.item i s _ _ hg st fun v h' tk hv st' kk => ?_
    obtain ⟨t, rfl⟩ := hv
    have I1 : Inv X pins σ H { s with heap := h', toks := tk } := I.turned (fun b o hb e => kk b o (by simpa using hb) e) f0 f1 f3 f4 f5
    refine ⟨_, rfl, go_of (s := { s with heap := h', toks := tk }) (n := "range_iterator") st' rfl rfl (by decide) ⟨.int (lo + i), H, I1, ⟨t, ?_⟩, ⟨rfl, rfl⟩, st', fun b hb => (hf b hb).1⟩⟩
    rw [Int.mul_one]
  done := by
    intro X hP hw hK hc i pins s σ H E I hf st hg
    subst hP hw hK
    obtain ⟨f0, f1, f2, f3, f4, f5⟩ := hf it (by simp)
    exact wpAny_pyNext_range_end (I.ok.hd hc) st (by have : n ≤ i := hg; omega) fun h' eb => ⟨rfl, I.turned (t' := s.toks) (fun b o hb e => eb b o hb e) f0 f1 f3 f4 f5⟩
  self := fun _ _ _ _ _ st h => wpAny_pyIter_rangeiter st h
end L2
namespace L2
open PySem PySem.Spec PyProof.Rows
section
variable {X : Cx} {tg : Expr}
def iList (K : PySem.W.Frag) (tl : TE) : TI := fun σ H R => tl σ H fun x H1 => ∃ a, x = .ref a ∧ (∃ xs, SqL K H1 a xs) ∧ R (Itl K a) H1
def iTup (K : PySem.W.Frag) (tl : TE) : TI := fun σ H R => tl σ H fun x H1 => ∃ a, x = .ref a ∧ (∃ xs, SqT K H1 a xs) ∧ R (Itt K a) H1
theorem pi_list {l : Expr} {tl : TE} (hl : PE X l tl) : PI X tg l (iList X.K tl) := by
  intro pins s σ H R I h
  refine thn (hl pins s σ H _ I h) fun v s1 ⟨x, H1, I1, r1, q1⟩ => ?_
  obtain ⟨a, e, ⟨xs, hq⟩, q⟩ := q1
  subst e
  cases r1
  obtain ⟨its, rv, p, hz⟩ := I1.list hq
  refine wpAny_pyIter_list p.isList ?_
  refine ⟨s1.heap.objs.size, [s1.heap.objs.size], _, _, H1, rfl, I1.kept (t' := s1.toks) fun b o e => Heap.get?_push_of_some _ e, turn_list a _, ⟨_, Heap.get?_push_size _ rfl, rfl, rfl⟩, fun b hb => ?_, q⟩
  have e : b = s1.heap.objs.size := by simpa using hb
  subst e
  exact I1.fpOk (Nat.le_refl _) (I1.hok.fresh (Nat.le_refl _))
theorem range_it {pins : List (Addr × Obj)} {σ : St} {H : Hp} {s : Shared} {R : It → Hp → Prop} {E : Value → Shared → Prop} {lo hi : Int} {t u v : Tok} {tk : Nat} (I : Inv X pins σ H s) (h1 : -(2 ^ 62) ≤ lo) (h2 : lo < 2 ^ 62) (h3 : -(2 ^ 62) ≤ hi) (h4 : hi < 2 ^ 62)
    (q : R (Itr lo (hi - lo).toNat) H) : wpAny (model X.prog X.w) X.A (pyIter (.ref s.heap.objs.size)) (PIE X pins σ tg R) E { s with heap := s.heap.push { cls := .type "range", data := .fields #[.int lo t, .int hi u, .int 1 v] }, toks := tk } := by
  refine wpAny_pyIter_range (IsRange.new ..) (small_one h1 h2 h3 h4) ?_
  have I1 : Inv X pins σ H { s with heap := s.heap.push { cls := .type "range", data := .fields #[.int lo t, .int hi u, .int 1 v] }, toks := tk } := I.kept fun b o e => Heap.get?_push_of_some _ e
  refine ⟨(s.heap.push { cls := .type "range", data := .fields #[.int lo t, .int hi u, .int 1 v] }).objs.size, [(s.heap.push { cls := .type "range", data := .fields #[.int lo t, .int hi u, .int 1 v] }).objs.size], _, _, H, rfl,
    I1.kept (t' := tk) fun b o e => Heap.get?_push_of_some _ e, turn_range _ lo (hi - lo).toNat, ?_, fun b hb => ?_, q⟩
  · have e1 : lo + ((0 : Nat) : Int) * 1 = lo := by simp
    have e2 : (((hi - lo).toNat : Nat) : Int) - ((0 : Nat) : Int) = Builtin.Range.rangeSize lo hi 1 := by rw [rangeSize_one]; split <;> omega
    show IsRangeIter _ _ (lo + ((0 : Nat) : Int) * 1) ((((hi - lo).toNat : Nat) : Int) - ((0 : Nat) : Int)) 1
    rw [e1, e2]
    exact Heap.get?_push_size _ rfl
  · have e : b = (s.heap.push { cls := .type "range", data := .fields #[.int lo t, .int hi u, .int 1 v] }).objs.size := by simpa using hb
    subst e
    exact I1.fpOk (Nat.le_refl _) (I1.hok.fresh (Nat.le_refl _))
def iRng1 (ta : TA) : TI := fun σ H R => ta σ H fun vs H1 => ∃ j : Int, vs = [.int j] ∧ -(2 ^ 62) ≤ j ∧ j < 2 ^ 62 ∧ R (Itr 0 j.toNat) H1
def iRng2 (ta : TA) : TI := fun σ H R => ta σ H fun vs H1 => ∃ i j : Int, vs = [.int i, .int j] ∧ (-(2 ^ 62) ≤ i ∧ i < 2 ^ 62 ∧ -(2 ^ 62) ≤ j ∧ j < 2 ^ 62) ∧ R (Itr i (j - i).toNat) H1
theorem pi_range1 {a : Expr} {ta : TA} {p pos : Pos} (hg : Gl X "range") (hm : X.mg "range" = none) (ha : PA X [a] ta) (hs : starEach [a] X.env = [(false, eval a X.env)] := by rfl) : PI X tg (.Call (.Name "range" p) [a] [] pos) (iRng1 ta) := by
  intro pins s σ H R I h
  refine Call_ (ld_blt I hg hm boot_range (PyProof.Rows.callWith_type1 (thn (ha pos pins s σ H _ I h) fun us s1 ⟨vs, H1, I1, r1, q1⟩ => ?_) hs rfl))
  obtain ⟨j, e, q1, q2, q⟩ := q1
  subst e
  cases r1 with
  | cons r rr =>
    cases rr
    obtain ⟨t, rfl⟩ := r
    exact call_range_1 (range_it I1 (by omega) (by omega) q1 q2 (by simpa using q))
def tFor (wi : TI) (g : TG) (tb : TS) : TS := fun D σ H => wi σ H fun J H1 => ∃ W : Nat → Nat → St → Hp → Prop, (∃ m, W 0 m σ H1) ∧ ∀ i m σ H, W i m σ H →
  (J.stop i H ∧ D.nx σ H) ∨ (J.go i H ∧ ∃ N : St → Hp → Prop, (∀ σ' H', N σ' H' → ∃ m', m' < m ∧ W (i + 1) m' σ' H') ∧ ∀ x H', J.yld i H x H' → g x σ H' fun σ2 H2 => tb { D with nx := N, ct := N, bk := D.nx } σ2 H2)
def pinsAt (fp : List Addr) (h : Heap) : List (Addr × Obj) := fp.filterMap fun b => (h.get? b).map fun o => (b, o)
theorem mem_pinsAt {fp : List Addr} {h : Heap} {b : Addr} {o : Obj} (hb : b ∈ fp) (e : h.get? b = some o) : (b, o) ∈ pinsAt fp h := List.mem_filterMap.mpr ⟨b, hb, by rw [e]; rfl⟩
theorem of_pinsAt {fp : List Addr} {h : Heap} {p : Addr × Obj} (hp : p ∈ pinsAt fp h) : p.1 ∈ fp ∧ h.get? p.1 = some p.2 := by
  obtain ⟨b, hb, e⟩ := List.mem_filterMap.mp hp
  cases q : h.get? b with
  | none => rw [q] at e; cases e
  | some o =>
    rw [q] at e
    have e' : (b, o) = p := Option.some.inj e
    subst e'
    exact ⟨hb, q⟩
theorem Inv.pinned {pins : List (Addr × Obj)} {σ : St} {H : Hp} {s : Shared} {fp : List Addr} (I : Inv X pins σ H s) (hf : ∀ b ∈ fp, FpOk X pins H b) (ho : ∀ b ∈ fp, ∃ o, s.heap.get? b = some o ∧ ∀ v, o.data ≠ .cell v) : Inv X (pins ++ pinsAt fp s.heap) σ H s :=
  I.pins_of fun p hp => (List.mem_append.mp hp).elim (fun z => I.pin p (List.mem_append_right _ z)) fun z => by
    obtain ⟨hb, e⟩ := of_pinsAt z
    obtain ⟨f0, f1, f2, _⟩ := hf p.1 hb
    obtain ⟨o, e', d⟩ := ho p.1 hb
    rw [e] at e'; cases e'
    exact ⟨e, f0, f1, f2, d⟩
theorem Inv.unpinned {pins pl : List (Addr × Obj)} {σ : St} {H : Hp} {s : Shared} (I : Inv X (pins ++ pl) σ H s) : Inv X pins σ H s := I.pins_of fun p hp => I.pin p (List.mem_append_right _ (List.mem_append_left _ hp))
theorem ps_for {iter : Expr} {body : List Stmt} {wi : TI} {g : TG} {tb : TS} {pos : Pos} (hp : PassesOwn (model X.prog X.w) X.A X.env X.xe) (hc : X.calm = true) (hi : PI X tg iter wi) (hg : PG X tg g) (hb : PSs X body tb)
    (hs : ∀ x, foldedSetIterable iter X.env x = pure x := by intro _; rfl) : PS X (.For tg iter body [] pos) (tFor wi g tb) := by
  intro pins s σ H D I h
  refine wpAny_For (thn (hi pins s σ H _ I h) fun v s1 h1 => thn h1 fun itv s2 h2 => ?_) hs
  obtain ⟨it, fp, tn, J, H2, e, I2, T, st2, f2, W, ⟨m0, w0⟩, turn⟩ := h2
  subst e
  have stat : ∀ {H' : Hp}, (∀ b ∈ fp, H' b = none) → ∀ b ∈ fp, FpOk X pins H' b := fun hn b hb => ⟨hn b hb, (f2 b hb).2⟩
  refine codeAny_forLoop_any (fun n s' => ∃ i σ' H', Inv X pins σ' H' s' ∧ tn i s'.heap ∧ (∀ b ∈ fp, H' b = none) ∧ W i n σ' H') ?_ m0 ⟨0, σ, H2, I2, st2, fun b hb => (f2 b hb).1, w0⟩
  rintro n s3 ⟨i, σ3, H3, I3, st3, fr3, w3⟩
  rcases turn i n σ3 H3 w3 with ⟨stop, qn⟩ | ⟨go, N, hN, step⟩
  · refine wpAny_passesOwn hp (thn (T.done X rfl rfl rfl hc i pins s3 σ3 H3 X.xe I3 (stat fr3) st3 stop) fun r s4 ⟨hr, I4⟩ => ?_)
    subst hr
    exact wpAny_execs_nil ⟨σ3, H3, I4, qn⟩
  · refine wpAny_passesOwn hp (thn (T.item X rfl rfl rfl hc i pins s3 σ3 H3 X.xe I3 (stat fr3) st3 go) fun r s4 ⟨u, hr, h4⟩ => ?_)
    subst hr
    refine wpAny_passesOwn hp (thn h4 fun _ s5 ⟨x, H5, I5, r5, y5, st5, fr5⟩ => ?_)
    have I5' := I5.pinned (stat fr5) (T.obj _ _ st5)
    refine wpAny_passesOwn hp (thn (hg _ s5 σ3 H5 x u _ I5' r5 (step x H5 y5)) fun _ s6 ⟨σ6, H6, I6, q6⟩ => ?_)
    refine wpAny_passesOwn hp (thn (hb _ s6 σ6 H6 _ I6 q6) fun f s7 q7 => ?_)
    have again : ∀ {σ7 : St} {H7 : Hp}, Inv X (pins ++ pinsAt fp s5.heap) σ7 H7 s7 → N σ7 H7 → ∃ m, m < n ∧ ∃ i σ' H', Inv X pins σ' H' s7 ∧ tn i s7.heap ∧ (∀ b ∈ fp, H' b = none) ∧ W i m σ' H' := fun {σ7 H7} I7 n7 => by
      obtain ⟨m', hm, w7⟩ := hN σ7 H7 n7
      refine ⟨m', hm, i + 1, σ7, H7, I7.unpinned, T.keep _ _ _ st5 fun b hb o e => (I7.pin (b, o) (List.mem_append_right _ (List.mem_append_right _ (mem_pinsAt hb e)))).1, fun b hb => ?_, w7⟩
      obtain ⟨o, e, d⟩ := T.obj _ _ st5 b hb
      exact (I7.pin (b, o) (List.mem_append_right _ (List.mem_append_right _ (mem_pinsAt hb e)))).2.1
    cases f with
    | next => obtain ⟨σ7, H7, I7, n7⟩ := q7; exact again I7 n7
    | cont => obtain ⟨σ7, H7, I7, n7⟩ := q7; exact again I7 n7
    | brk => obtain ⟨σ7, H7, I7, q7⟩ := q7; exact ⟨σ7, H7, I7.unpinned, q7⟩
    | ret v => obtain ⟨x7, σ7, H7, I7, r7, q7⟩ := q7; exact ⟨x7, σ7, H7, I7.unpinned, r7, q7⟩
end
theorem for_list {K : PySem.W.Frag} {a : Addr} {xs : List V} {g : TG} {tb : TS} {D : Ends} {σ : St} {H : Hp} (Pv : Nat → St → Hp → Prop) (h0 : Pv 0 σ H) (hl : ∀ i σ H, i ≤ xs.length → Pv i σ H → SqL K H a xs)
    (hs : ∀ i x σ H, xs[i]? = some x → Pv i σ H → g x σ H fun σ2 H2 => tb { D with nx := Pv (i + 1), ct := Pv (i + 1), bk := D.nx } σ2 H2) (hd : ∀ σ H, Pv xs.length σ H → D.nx σ H) :
    ∃ W : Nat → Nat → St → Hp → Prop, (∃ m, W 0 m σ H) ∧ ∀ i m σ H, W i m σ H →
      ((Itl K a).stop i H ∧ D.nx σ H) ∨ ((Itl K a).go i H ∧ ∃ N : St → Hp → Prop, (∀ σ' H', N σ' H' → ∃ m', m' < m ∧ W (i + 1) m' σ' H') ∧ ∀ x H', (Itl K a).yld i H x H' → g x σ H' fun σ2 H2 => tb { D with nx := N, ct := N, bk := D.nx } σ2 H2) := by
  refine ⟨fun i m σ H => m = xs.length - i ∧ i ≤ xs.length ∧ Pv i σ H, ⟨xs.length, by simp, Nat.zero_le _, h0⟩, ?_⟩
  rintro i m σ H ⟨rfl, hi, p⟩
  have q := hl i σ H hi p
  by_cases hlt : i < xs.length
  · refine .inr ⟨⟨xs, xs[i], q, by simp [hlt]⟩, Pv (i + 1), fun σ' H' p' => ⟨xs.length - (i + 1), by omega, rfl, hlt, p'⟩, fun x H' y => ?_⟩
    obtain ⟨e, y⟩ := y
    subst e
    exact hs i x σ _ (y xs q) p
  · have e : i = xs.length := by omega
    subst e
    exact .inl ⟨⟨xs, q, Nat.le_refl _⟩, hd σ H p⟩
theorem for_range {lo : Int} {n : Nat} {g : TG} {tb : TS} {D : Ends} {σ : St} {H : Hp} (Pv : Nat → St → Hp → Prop) (h0 : Pv 0 σ H)
    (hs : ∀ i σ H, i < n → Pv i σ H → g (.int (lo + i)) σ H fun σ2 H2 => tb { D with nx := Pv (i + 1), ct := Pv (i + 1), bk := D.nx } σ2 H2) (hd : ∀ σ H, Pv n σ H → D.nx σ H) :
    ∃ W : Nat → Nat → St → Hp → Prop, (∃ m, W 0 m σ H) ∧ ∀ i m σ H, W i m σ H →
      ((Itr lo n).stop i H ∧ D.nx σ H) ∨ ((Itr lo n).go i H ∧ ∃ N : St → Hp → Prop, (∀ σ' H', N σ' H' → ∃ m', m' < m ∧ W (i + 1) m' σ' H') ∧ ∀ x H', (Itr lo n).yld i H x H' → g x σ H' fun σ2 H2 => tb { D with nx := N, ct := N, bk := D.nx } σ2 H2) := by
  refine ⟨fun i m σ H => m = n - i ∧ i ≤ n ∧ Pv i σ H, ⟨n, by simp, Nat.zero_le _, h0⟩, ?_⟩
  rintro i m σ H ⟨rfl, hi, p⟩
  by_cases hlt : i < n
  · refine .inr ⟨hlt, Pv (i + 1), fun σ' H' p' => ⟨n - (i + 1), by omega, rfl, hlt, p'⟩, fun x H' y => ?_⟩
    obtain ⟨e, y⟩ := y
    subst e y
    exact hs i σ _ hlt p
  · have e : i = n := by omega
    subst e
    exact .inl ⟨Nat.le_refl _, hd σ H p⟩
end L2
namespace L2
open PySem PySem.Spec PyProof.Rows
abbrev R2 := V → V → Hp → VK → Prop
def OpR (X : Cx) (f : Value → Value → Sem Value) (r : R2) : Prop :=
  ∀ (pins : List (Addr × Obj)) (s : Shared) (σ : St) (H : Hp) (x y : V) (v u : Value) (Q : VK), Inv X pins σ H s → RelV x v → RelV y u → r x y H Q →
    wpAny (model X.prog X.w) X.A (f v u) (EP X pins σ Q) X.xe s
def UnR (X : Cx) (f : Value → Sem Value) (r : V → Hp → VK → Prop) : Prop :=
  ∀ (pins : List (Addr × Obj)) (s : Shared) (σ : St) (H : Hp) (x : V) (v : Value) (Q : VK), Inv X pins σ H s → RelV x v → r x H Q →
    wpAny (model X.prog X.w) X.A (f v) (EP X pins σ Q) X.xe s
def CallR (X : Cx) (f : Value) (r : List V → Hp → VK → Prop) : Prop :=
  ∀ (pins : List (Addr × Obj)) (s : Shared) (σ : St) (H : Hp) (xs : List V) (us : List Value) (Q : VK), Inv X pins σ H s → Vals xs us → r xs H Q →
    wpAny (model X.prog X.w) X.A (call f us) (EP X pins σ Q) X.xe s
def TruR (X : Cx) (r : V → Hp → (Bool → Hp → Prop) → Prop) : Prop :=
  ∀ (pins : List (Addr × Obj)) (s : Shared) (σ : St) (H : Hp) (x : V) (v : Value) (Q : Bool → Hp → Prop), Inv X pins σ H s → RelV x v → r x H Q →
    wpAny (model X.prog X.w) X.A (truthy v) (TP X pins σ Q) X.xe s
def tOp (r : R2) (ta tb : TE) : TE := fun σ H Q => ta σ H fun x H1 => tb σ H1 fun y H2 => r x y H2 Q
def tUn (r : V → Hp → VK → Prop) (ta : TE) : TE := fun σ H Q => ta σ H fun x H1 => r x H1 Q
def rI (C : Int → Int → Prop) (g : Int → Int → V) : R2 := fun x y H Q => ∃ i j, x = .int i ∧ y = .int j ∧ C i j ∧ Q (g i j) H
def rI0 (g : Int → Int → V) : R2 := fun x y H Q => ∃ i j, x = .int i ∧ y = .int j ∧ Q (g i j) H
def rU (g : Int → V) : V → Hp → VK → Prop := fun x H Q => ∃ i, x = .int i ∧ Q (g i) H
section
variable {X : Cx} {a b c : Expr} {ta tb tc : TE} {pos : Pos}
theorem binT (ha : PE X a ta) (hb : PE X b tb) {pins : List (Addr × Obj)} {s : Shared} {σ : St} {H : Hp} {R : V → V → Hp → Prop} (I : Inv X pins σ H s)
    (h : ta σ H fun x H1 => tb σ H1 fun y H2 => R x y H2) {Q : Value → Shared → Prop} {f : Value → Value → Sem Value}
    (hf : ∀ v u s2 x y H2, Inv X pins σ H2 s2 → RelV x v → RelV y u → R x y H2 → wpAny (model X.prog X.w) X.A (f v u) Q X.xe s2) :
    wpAny (model X.prog X.w) X.A (eval a X.env) (fun v s₁ => wpAny (model X.prog X.w) X.A (eval b X.env) (fun u s₂ => wpAny (model X.prog X.w) X.A (f v u) Q X.xe s₂) X.xe s₁) X.xe s := by
  refine thn (ha pins s σ H _ I h) fun v s1 ⟨x, H1, I1, r1, q1⟩ => ?_
  refine thn (hb pins s1 σ H1 _ I1 q1) fun u s2 ⟨y, H2, I2, r2, q2⟩ => ?_
  exact hf v u s2 x y H2 I2 r1 r2 q2
theorem pe_op {op : Operator} {r : R2} (ho : OpR X (binaryOp op) r) (ha : PE X a ta) (hb : PE X b tb) : PE X (.BinOp a op b pos) (tOp r ta tb) := by
  intro pins s σ H Q I h
  exact wpAny_BinOp (binT ha hb I h fun v u s2 x y H2 I2 rx ry q => ho pins s2 σ H2 x y v u Q I2 rx ry q)
theorem pe_un {op : UnaryOp} {r : V → Hp → VK → Prop} (ho : UnR X (unaryOp op) r) (ha : PE X a ta) : PE X (.UnaryOp op a pos) (tUn r ta) := by
  intro pins s σ H Q I h
  exact UnaryOp_ (thn (ha pins s σ H _ I h) fun v s1 ⟨x, H1, I1, r1, q1⟩ => ho pins s1 σ H1 x v Q I1 r1 q1)
theorem opI {f : Value → Value → Sem Value} {C : Int → Int → Prop} {g : Int → Int → Int}
    (rule : ∀ (i j : Int) (t u : Tok) (s : Shared) (Q : Value → Shared → Prop) (E : Value → Shared → Prop), C i j → Q (.int (g i j) s.toks) { s with toks := s.toks + 1 } → wpAny (model X.prog X.w) X.A (f (.int i t) (.int j u)) Q E s) :
    OpR X f (rI C fun i j => .int (g i j)) := by
  intro pins s σ H x y v u Q I rx ry h
  obtain ⟨i, j, rfl, rfl, hc, q⟩ := h
  obtain ⟨t, rfl⟩ := rx
  obtain ⟨t', rfl⟩ := ry
  exact rule i j t t' s _ _ hc ⟨.int (g i j), H, I.tok _, ⟨_, rfl⟩, q⟩
theorem opI0 {f : Value → Value → Sem Value} {g : Int → Int → Int}
    (rule : ∀ (i j : Int) (t u : Tok) (s : Shared) (Q : Value → Shared → Prop) (E : Value → Shared → Prop), Q (.int (g i j) s.toks) { s with toks := s.toks + 1 } → wpAny (model X.prog X.w) X.A (f (.int i t) (.int j u)) Q E s) :
    OpR X f (rI0 fun i j => .int (g i j)) := by
  intro pins s σ H x y v u Q I rx ry h
  obtain ⟨i, j, rfl, rfl, q⟩ := h
  obtain ⟨t, rfl⟩ := rx
  obtain ⟨t', rfl⟩ := ry
  exact rule i j t t' s _ _ ⟨.int (g i j), H, I.tok _, ⟨_, rfl⟩, q⟩
theorem opB0 {f : Value → Value → Sem Value} {g : Int → Int → Bool}
    (rule : ∀ (i j : Int) (t u : Tok) (s : Shared) (Q : Value → Shared → Prop) (E : Value → Shared → Prop), Q (.bool (g i j)) s → wpAny (model X.prog X.w) X.A (f (.int i t) (.int j u)) Q E s) :
    OpR X f (rI0 fun i j => .bl (g i j)) := by
  intro pins s σ H x y v u Q I rx ry h
  obtain ⟨i, j, rfl, rfl, q⟩ := h
  obtain ⟨t, rfl⟩ := rx
  obtain ⟨t', rfl⟩ := ry
  exact rule i j t t' s _ _ ⟨.bl (g i j), H, I, rfl, q⟩
def CDiv (i j : Int) : Prop := 0 < j ∧ j < 1073741824
def CDivN (i j : Int) : Prop := j ≠ 0 ∧ j.natAbs < 1073741824
def CPow (i j : Int) : Prop := 0 ≤ j ∧ j ≤ 1000000 ∧ i.natAbs < 2 ^ 64
def CMul (i j : Int) : Prop := (-(2 ^ 64) < i ∧ i < 2 ^ 64) ∨ (-(2 ^ 64) < j ∧ j < 2 ^ 64)
theorem CMul.ok {i j : Int} (h : CMul i j) : IntMulOk i j := by
  rcases h with ⟨h1, h2⟩ | ⟨h1, h2⟩
  · exact .of_left (intBits_le_64 h1 h2)
  · exact .of_right (intBits_le_64 h1 h2)
theorem op_add : OpR X (binaryOp .Add) (rI0 fun i j => .int (i + j)) := opI0 fun _ _ _ _ _ _ _ q => add_int q
theorem op_sub : OpR X (binaryOp .Sub) (rI0 fun i j => .int (i - j)) := opI0 fun _ _ _ _ _ _ _ q => sub_int q
theorem op_mod : OpR X (binaryOp .Mod) (rI (fun _ j => 0 < j) fun i j => .int (i % j)) := opI fun i j _ _ _ _ _ hc q => by
  have h1 : (0 : Int) < j := hc
  exact mod_int' (by omega) (by rw [Int.fmod_eq_emod_of_nonneg i (by omega)]; exact q)
theorem unI {f : Value → Sem Value} {g : Int → Int}
    (rule : ∀ (i : Int) (t : Tok) (s : Shared) (Q : Value → Shared → Prop) (E : Value → Shared → Prop), Q (.int (g i) s.toks) { s with toks := s.toks + 1 } → wpAny (model X.prog X.w) X.A (f (.int i t)) Q E s) :
    UnR X f (rU fun i => .int (g i)) := by
  intro pins s σ H x v Q I rx h
  obtain ⟨i, rfl, q⟩ := h
  obtain ⟨t, rfl⟩ := rx
  exact rule i t s _ _ ⟨.int (g i), H, I.tok _, ⟨_, rfl⟩, q⟩
theorem un_neg : UnR X (unaryOp .USub) (rU fun i => .int (-i)) := unI fun _ _ _ _ _ q => neg_int q
end
def scal : V → V → Bool
  | .non, .non => true | .non, .int _ => true | .int _, .non => true | .non, .bl _ => true | .bl _, .non => true | .non, .str _ => true | .str _, .non => true
  | .int _, .int _ => true | .bl _, .bl _ => true | .str _, .str _ => true | .byt _, .byt _ => true
  | .int _, .str _ => true | .str _, .int _ => true | .bl _, .str _ => true | .str _, .bl _ => true
  | _, _ => false
def rEq : R2 := fun x y H Q => scal x y = true ∧ Q (.bl (decide (x = y))) H
def rNe : R2 := fun x y H Q => scal x y = true ∧ Q (.bl (!decide (x = y))) H
theorem dec_int {i j : Int} : decide (V.int i = V.int j) = (i == j) := by
  rw [Bool.eq_iff_iff]
  simp
theorem dec_bl {i j : Bool} : decide (V.bl i = V.bl j) = (i == j) := by
  rw [Bool.eq_iff_iff]
  simp
theorem dec_str {i j : Str} : decide (V.str i = V.str j) = (i == j) := by
  rw [Bool.eq_iff_iff]
  simp
theorem dec_byt {i j : Array UInt8} : decide (V.byt i = V.byt j) = (i.toList == j.toList) := by
  rw [Bool.eq_iff_iff]
  cases i
  cases j
  simp
section
variable {X : Cx} {a b c : Expr} {ta tb tc : TE} {pos : Pos}
theorem fin_bl {pins : List (Addr × Obj)} {σ : St} {H : Hp} {s : Shared} {Q : VK} {k k' : Bool} (I : Inv X pins σ H s) (q : Q (.bl k) H) (e : k = k') : EP X pins σ Q (.bool k') s := by
  subst e
  exact ⟨.bl k, H, I, rfl, q⟩
theorem op_eq : OpR X (compareOp .Eq) rEq := by
  intro pins s σ H x y v u Q I rx ry h
  obtain ⟨hs, q⟩ := h
  cases x with
  | non =>
    cases rx
    cases y with
    | non => cases ry; exact PySem.EqNone.eq_none_none (fin_bl I q (by simp))
    | bl j => cases ry; exact PySem.EqNone.eq_none_bool (fin_bl I q (by simp))
    | int j => obtain ⟨t', rfl⟩ := ry; exact PySem.EqNone.eq_none_int (fin_bl I q (by simp))
    | str j => obtain ⟨t', rfl⟩ := ry; exact PySem.EqNone.eq_none_str (fin_bl I q (by simp))
    | _ => exact absurd (show false = true from hs) Bool.false_ne_true
  | bl i =>
    cases rx
    cases y with
    | non => cases ry; exact PySem.EqNone.eq_bool_none (fin_bl I q (by simp))
    | bl j => cases ry; exact eq_bool (fin_bl I q dec_bl)
    | str j => obtain ⟨t', rfl⟩ := ry; exact PySem.EqMixed.eq_bool_str (fin_bl I q (by simp))
    | _ => exact absurd (show false = true from hs) Bool.false_ne_true
  | int i =>
    obtain ⟨t, rfl⟩ := rx
    cases y with
    | non => cases ry; exact PySem.EqNone.eq_int_none (fin_bl I q (by simp))
    | int j => obtain ⟨t', rfl⟩ := ry; exact eq_int (fin_bl I q dec_int)
    | str j => obtain ⟨t', rfl⟩ := ry; exact PySem.EqMixed.eq_int_str (fin_bl I q (by simp))
    | _ => exact absurd (show false = true from hs) Bool.false_ne_true
  | str i =>
    obtain ⟨t, rfl⟩ := rx
    cases y with
    | non => cases ry; exact PySem.EqNone.eq_str_none (fin_bl I q (by simp))
    | bl j => cases ry; exact PySem.EqMixed.eq_str_bool (fin_bl I q (by simp))
    | int j => obtain ⟨t', rfl⟩ := ry; exact PySem.EqMixed.eq_str_int (fin_bl I q (by simp))
    | str j => obtain ⟨t', rfl⟩ := ry; exact eq_str (fin_bl I q dec_str)
    | _ => exact absurd (show false = true from hs) Bool.false_ne_true
  | byt i =>
    obtain ⟨t, rfl⟩ := rx
    cases y with
    | byt j => obtain ⟨t', rfl⟩ := ry; exact PySem.W.eq_bytes (fin_bl I q dec_byt)
    | _ => exact absurd (show false = true from hs) Bool.false_ne_true
  | _ => cases y <;> exact absurd (show false = true from hs) Bool.false_ne_true
theorem op_ne : OpR X (compareOp .NotEq) rNe := by
  intro pins s σ H x y v u Q I rx ry h
  obtain ⟨hs, q⟩ := h
  cases x with
  | non =>
    cases rx
    cases y with
    | non => cases ry; exact PySem.EqNone.ne_none_none (fin_bl I q (by simp))
    | bl j => cases ry; exact PySem.EqNone.ne_none_bool (fin_bl I q (by simp))
    | int j => obtain ⟨t', rfl⟩ := ry; exact PySem.EqNone.ne_none_int (fin_bl I q (by simp))
    | str j => obtain ⟨t', rfl⟩ := ry; exact PySem.EqNone.ne_none_str (fin_bl I q (by simp))
    | _ => exact absurd (show false = true from hs) Bool.false_ne_true
  | bl i =>
    cases rx
    cases y with
    | non => cases ry; exact PySem.EqNone.ne_bool_none (fin_bl I q (by simp))
    | bl j => cases ry; exact ne_bool (fin_bl I q (congrArg not dec_bl))
    | str j => obtain ⟨t', rfl⟩ := ry; exact PySem.EqMixed.ne_bool_str (fin_bl I q (by simp))
    | _ => exact absurd (show false = true from hs) Bool.false_ne_true
  | int i =>
    obtain ⟨t, rfl⟩ := rx
    cases y with
    | non => cases ry; exact PySem.EqNone.ne_int_none (fin_bl I q (by simp))
    | int j => obtain ⟨t', rfl⟩ := ry; exact ne_int (fin_bl I q (congrArg not dec_int))
    | str j => obtain ⟨t', rfl⟩ := ry; exact PySem.EqMixed.ne_int_str (fin_bl I q (by simp))
    | _ => exact absurd (show false = true from hs) Bool.false_ne_true
  | str i =>
    obtain ⟨t, rfl⟩ := rx
    cases y with
    | non => cases ry; exact PySem.EqNone.ne_str_none (fin_bl I q (by simp))
    | bl j => cases ry; exact PySem.EqMixed.ne_str_bool (fin_bl I q (by simp))
    | int j => obtain ⟨t', rfl⟩ := ry; exact PySem.EqMixed.ne_str_int (fin_bl I q (by simp))
    | str j => obtain ⟨t', rfl⟩ := ry; exact ne_str (fin_bl I q (congrArg not dec_str))
    | _ => exact absurd (show false = true from hs) Bool.false_ne_true
  | byt i =>
    obtain ⟨t, rfl⟩ := rx
    cases y with
    | byt j => obtain ⟨t', rfl⟩ := ry; exact PySem.W.ne_bytes (fin_bl I q (congrArg not dec_byt))
    | _ => exact absurd (show false = true from hs) Bool.false_ne_true
  | _ => cases y <;> exact absurd (show false = true from hs) Bool.false_ne_true
theorem op_lt : OpR X (compareOp .Lt) (rI0 fun i j => .bl (decide (i < j))) := opB0 fun _ _ _ _ _ _ _ q => lt_int q
theorem op_gt : OpR X (compareOp .Gt) (rI0 fun i j => .bl (decide (j < i))) := opB0 fun _ _ _ _ _ _ _ q => gt_int q
theorem op_in_str : OpR X (compareOp .In) (fun x y H Q => ∃ i j, x = .str i ∧ y = .str j ∧ Q (.bl (!(Builtin.Str.occurrences j i 0 j.length 1).isEmpty)) H) := by
  intro pins s σ H x y v u Q I rx ry h
  obtain ⟨i, j, rfl, rfl, q⟩ := h
  obtain ⟨t, rfl⟩ := rx
  obtain ⟨t', rfl⟩ := ry
  exact in_str (fin_bl I q rfl)
def isObj : HO → Bool
  | .lst _ => true
  | .ins _ _ _ => true
  | _ => false
theorem nomark (b : Expr) {op : CmpOp} (h : op ≠ .In := by decide) (h2 : op ≠ .NotIn := by decide) : behindInMarks op b = false := by
  have e1 : (op == CmpOp.In) = false := by cases op <;> first | rfl | exact absurd rfl h
  have e2 : (op == CmpOp.NotIn) = false := by cases op <;> first | rfl | exact absurd rfl h2
  cases b <;> simp [behindInMarks, e1, e2]
theorem pe_cmpR {op : CmpOp} {r : R2} (ho : OpR X (compareOp op) r) (ha : PE X a ta) (hb : PE X b tb) (hm : behindInMarks op b = false) : PE X (.Compare a [op] [b] pos) (tOp r ta tb) := by
  intro pins s σ H Q I h
  exact wpAny_Compare1 (binT ha hb I h fun v u s2 x y H2 I2 rx ry q => ho pins s2 σ H2 x y v u Q I2 rx ry q) hm
def tTest (t : TE) : TT := fun σ H Q => t σ H fun x H' => ∃ k, x = .bl k ∧ Q k H'
theorem pt_cmpR {op : CmpOp} {r : R2} (ho : OpR X (compareOp op) r) (ha : PE X a ta) (hb : PE X b tb) (hm : behindInMarks op b = false) : PT X (.Compare a [op] [b] pos) (tTest (tOp r ta tb)) := by
  intro pins s σ H Q I h
  refine wpAny_isTrue_Compare1 (thn (ha pins s σ H _ I h) fun v s1 ⟨x, H1, I1, r1, q1⟩ => thn (hb pins s1 σ H1 _ I1 q1) fun u s2 ⟨y, H2, I2, r2, q2⟩ =>
    thn (ho pins s2 σ H2 x y v u _ I2 r1 r2 q2) fun c s3 ⟨z, H3, I3, r3, k, e, q3⟩ => ?_) hm
  subst e
  cases r3
  exact wpAny_truthy_bool ⟨H3, I3, q3⟩
def tChain (r r' : R2) (ta tb tc : TE) : TE := fun σ H Q => ta σ H fun x H1 => tb σ H1 fun y H2 => r x y H2 fun z H3 => ∃ k, z = .bl k ∧
  (if k = true then tc σ H3 fun w' H4 => r' y w' H4 Q else Q (.bl false) H3)
def TruV (K : PySem.W.Frag) (x : V) (H : Hp) (k : Bool) : Prop :=
  match x with
  | .non => k = false
  | .bl b => k = b
  | .int i => k = (i != 0)
  | .str y => y.length ≤ sizeLine ∧ k = ((y.length : Int) != 0)
  | .byt y => y.size ≤ sizeLine ∧ k = ((y.size : Int) != 0)
  | .ref p => (∃ xs, SqL K H p xs ∧ k = !xs.isEmpty) ∨ (∃ xs, SqT K H p xs ∧ k = !xs.isEmpty) ∨ ∃ kvs, H p = some (.dK kvs) ∧ k = !kvs.isEmpty
  | _ => False
theorem line63 : (sizeLine : Nat) < 2 ^ 63 := by rw [sizeLine_eq]; decide
theorem op_add_str : OpR X (binaryOp .Add) (fun x y H Q => ∃ i j, x = .str i ∧ y = .str j ∧ i.length + j.length ≤ sizeLine ∧ Q (.str (i ++ j)) H) := by
  intro pins s σ H x y v u Q I rx ry h
  obtain ⟨i, j, rfl, rfl, hz, q⟩ := h
  obtain ⟨t, rfl⟩ := rx
  obtain ⟨t', rfl⟩ := ry
  exact add_str (fun t' tk => ⟨.str (i ++ j), H, I.tok _, ⟨_, rfl⟩, q⟩) hz
def PlainIxT (b : Expr) : Prop := ∀ o i, subscripted b false o i = operate [o, i] (getItem o i)
theorem vals1 {x : V} {us : List Value} (r : Vals [x] us) : ∃ u, us = [u] ∧ RelV x u := by
  cases r with
  | cons r1 r2 => cases r2; exact ⟨_, rfl, r1⟩
theorem vals2 {x y : V} {us : List Value} (r : Vals [x, y] us) : ∃ u w', us = [u, w'] ∧ RelV x u ∧ RelV y w' := by
  cases r with
  | cons r1 r2 =>
    cases r2 with
    | cons r3 r4 => cases r4; exact ⟨_, _, rfl, r1, r3⟩
theorem call_min2 (hc : X.calm = true) : CallR X (.builtin "min") (fun xs H Q => ∃ i j, xs = [.int i, .int j] ∧ Q (.int (if j < i then j else i)) H) := by
  intro pins s σ H xs us Q I r h
  obtain ⟨i, j, rfl, q⟩ := h
  obtain ⟨u, w', rfl, ⟨t, rfl⟩, ⟨t', rfl⟩⟩ := vals2 r
  refine min_two_ints (I.ok.hd hc) fun h' tk k => ⟨_, H, I.kept k, ?_, q⟩
  by_cases hj : j < i
  · rw [if_pos hj, if_pos hj]; exact ⟨_, rfl⟩
  · rw [if_neg hj, if_neg hj]; exact ⟨_, rfl⟩
theorem call_str_int : CallR X (.type "str") (fun xs H Q => ∃ i, xs = [.int i] ∧ i.natAbs.log2 < 1920 ∧ Q (.str (toString i)) H) := by
  intro pins s σ H xs us Q I r h
  obtain ⟨i, rfl, hz, q⟩ := h
  obtain ⟨u, rfl, t, rfl⟩ := vals1 r
  exact PySem.P.str_of_int hz ⟨.str _, H, I.tok _, ⟨_, rfl⟩, q⟩
def LenV (K : PySem.W.Frag) (x : V) (H : Hp) (n : Nat) : Prop :=
  match x with
  | .str y => y.length ≤ sizeLine ∧ n = y.length
  | .byt y => y.size ≤ sizeLine ∧ n = y.size
  | .ref p => (∃ xs, SqL K H p xs ∧ n = xs.length) ∨ ∃ xs, SqT K H p xs ∧ n = xs.length
  | _ => False
end
end L2
namespace L2
open PySem PySem.Spec PyProof.Rows
structure ObjM (h : Heap) (x dx C : Addr) (mA : Str → Option Value) : Prop where
  obj : h.get? x = some (PySem.W.instObj C dx)
  ns : h.Ns1 dx mA
  ne : dx ≠ x
theorem lookIn_ns {h : Heap} {dx : Addr} {mA : Str → Option Value} (n : h.Ns1 dx mA) : ∃ od, h.get? dx = some od ∧ ∀ name, PySem.W.lookIn name od = some (mA name) := by
  obtain ⟨o, es, ep, ho, hd, hk, _, hm⟩ := n
  refine ⟨o, ho, fun name => ?_⟩
  have e := hm name
  unfold nsFind findBy at e
  rw [← Array.find?_toList] at e
  unfold PySem.W.lookIn
  rw [hd]
  dsimp only
  split
  · rename_i y q
    rw [q] at e
    exact congrArg some e
  · rename_i q
    rw [q] at e
    have a : es.toList.any (·.refKey) = false := by
      rw [List.any_eq_false]
      intro y hy
      obtain ⟨z, t, hkey⟩ := hk y (Array.mem_toList_iff.mp hy)
      simp [DictEntry.refKey, hkey]
    have a' : ¬ es.toList.any (·.refKey) = true := by rw [a]; exact Bool.false_ne_true
    rw [if_neg a']
    exact congrArg some e
theorem ObjM.look {h : Heap} {x dx C : Addr} {mA : Str → Option Value} (I : ObjM h x dx C mA) : ∃ od, PySem.W.InstAt h x (PySem.W.instObj C dx) C (some od) ∧ ∀ name, PySem.W.lookIn name od = some (mA name) :=
  let ⟨od, ho, hl⟩ := lookIn_ns I.ns
  ⟨od, ⟨I.obj, rfl, rfl, ho⟩, hl⟩
section
variable {prog : Program} {w : World} {A : Around} {E : Value → Shared → Prop} {s : Shared} {K : PySem.W.Frag} {x dx C f : Addr} {mA : Str → Option Value} {name : Str} {v : Value}
theorem get_map {expr : Bool} {Q : Value → Shared → Prop} (X : K.In s.heap) (I : ObjM s.heap x dx C mA) (hg : PySem.W.plainGet K C name = true) (hh : PySem.W.hasDictIn K C = true)
    (ha : PySem.W.findIn K (.ref C) name = some none) (hv : mA name = some v) (hv' : PySem.W.handedIn v = true) (h : Q v { s with toks := s.toks + 1 }) :
    wpAny (model prog w) A (getAttr (.ref x) name expr) Q E s := by
  obtain ⟨od, J, hl⟩ := I.look
  exact PySem.W.get_value X J (PySem.W.plainGet_of hg).1 (PySem.W.findObj_own hh ha rfl (by rw [hl, hv])) hv' h
theorem set_map {ns : List Str} {Q : Unit → Shared → Prop} (X : K.In s.heap) (I : ObjM s.heap x dx C mA)
    (hs : PySem.W.findIn K (.ref C) "__setattr__" = some (some (.builtin "object.__setattr__"))) (hp : PySem.W.plainOver K C = true) (ht : PySem.W.takerIn K C name = some none) (hh : PySem.W.hasDictIn K C = true)
    (hw : PySem.Within mA ns) (hsz : ns.length ≤ sizeLine)
    (h : ∀ h', ObjM h' x dx C (fun y => if y = name then some v else mA y) → Heap.SameBut dx s.heap h' → Q () { s with heap := h', toks := s.toks + 2 }) :
    wpAny (model prog w) A (setAttr (.ref x) name v) Q E s := by
  obtain ⟨od, J, hl⟩ := I.look
  refine PySem.W.set_plain X J hs (PySem.W.osa_open (s := { s with toks := s.toks + 1 }) (r := none) X J hp ht fun b => ?_)
  obtain ⟨cd, hc, hd'⟩ := PySem.W.any_some hh
  have hx : s.heap.get? x = some ⟨.ref C, some dx, .plain, #[]⟩ := I.obj
  refine wpAny_bind (wpAny_pure (wpAny_bind (wpAny_bind (wpAny_loadPart hx (wpAny_bind (PySem.W.Looks.here (s := { s with toks := s.toks + 1 }) (PySem.W.looks_clsIn X hc) ?_))))))
  rw [hd']
  refine wpAny_pure (a := some dx) (wpAny_bind (wpAny_pure (wpAny_bind ?_)))
  refine wpAny_nsSet1 (s := { s with toks := s.toks + 1 }) I.ns fun h' hn2 hs2 => ?_
  obtain ⟨oD, esD, epD, hoD, hdD, hcD⟩ := hn2.count (PySem.Within.cons name v hw)
  refine wpAny_bind (wpAny_lookBehind hoD (by rw [hdD]; exact pastItsLine_dict (Nat.le_trans hcD (by rw [List.length_cons]; omega))) ?_)
  exact wpAny_pure (h _ ⟨(hs2.2 _ (Ne.symm I.ne)).trans I.obj, hn2, I.ne⟩ hs2)
theorem make_map {R : Result → Shared → Prop} {vs : List Value} {kw : List (Str × Value)} (X : K.In s.heap) (hm : PySem.W.makesIn K C = true)
    (hi : PySem.W.findIn K (.ref C) "__init__" = some (some (.ref f))) (hf : PySem.W.typeIn K (.ref f) = some (.type "function"))
    (h : codeAny (model prog w) (A.under (.builtin "type.__call__" ⟨.ref C :: vs, kw⟩)) (.call (.ref f) ⟨.ref (s.heap.objs.size + 1) :: vs, kw⟩) (PySem.W.InitBack (s.heap.objs.size + 1) R)
      { s with heap := (s.heap.push PySem.W.emptyDict).push (PySem.W.instObj C s.heap.objs.size) }) :
    codeAny (model prog w) A (.call (.ref C) ⟨vs, kw⟩) R s := by
  obtain ⟨hh, g, d, t, os⟩ := s
  exact PySem.W.make_core (PySem.W.makes_of X hm) (PySem.W.looks_findIn X hi) (fun self => PySem.W.bind_fn X self hf) (.inl rfl) h
end
def putF (f : Str) (v : V) : List (Str × V) → List (Str × V)
  | [] => [(f, v)]
  | (g, x) :: r => if g = f then (g, v) :: r else (g, x) :: putF f v r
theorem lookup_putF (f g : Str) (v : V) : ∀ fs : List (Str × V), (putF f v fs).lookup g = if g = f then some v else fs.lookup g
  | [] => by
    show List.lookup g [(f, v)] = _
    by_cases h : g = f
    · have hb : (g == f) = true := beq_iff_eq.mpr h
      simp only [List.lookup, hb, if_pos h]
    · have hb : (g == f) = false := beq_eq_false_iff_ne.mpr h
      simp only [List.lookup, hb, if_neg h]
  | (k, x) :: r => by
    have ih := lookup_putF f g v r
    rw [show putF f v ((k, x) :: r) = (if k = f then (k, v) :: r else (k, x) :: putF f v r) from rfl]
    by_cases hk : k = f
    · rw [if_pos hk]
      by_cases h : g = k
      · have hb : (g == k) = true := beq_iff_eq.mpr h
        simp only [List.lookup, hb, if_pos (h.trans hk)]
      · have hb : (g == k) = false := beq_eq_false_iff_ne.mpr h
        simp only [List.lookup, hb, if_neg (fun e : g = f => h (e.trans hk.symm))]
    · rw [if_neg hk]
      by_cases h : g = k
      · have hb : (g == k) = true := beq_iff_eq.mpr h
        simp only [List.lookup, hb, if_neg (fun e : g = f => hk (h.symm.trans e))]
      · have hb : (g == k) = false := beq_eq_false_iff_ne.mpr h
        simp only [List.lookup, hb]
        exact ih
theorem keys_putF (f : Str) (v : V) : ∀ fs : List (Str × V), f ∈ (putF f v fs).map (·.1) ∧ ∀ g, g ∈ fs.map (·.1) → g ∈ (putF f v fs).map (·.1)
  | [] => ⟨by simp [putF], fun g h => by simp at h⟩
  | (k, x) :: r => by
    obtain ⟨i1, i2⟩ := keys_putF f v r
    rw [show putF f v ((k, x) :: r) = (if k = f then (k, v) :: r else (k, x) :: putF f v r) from rfl]
    by_cases hk : k = f
    · rw [if_pos hk]
      subst hk
      exact ⟨by simp, fun g h => by simpa using h⟩
    · rw [if_neg hk]
      refine ⟨?_, fun g h => ?_⟩
      · rw [List.map_cons]
        exact List.mem_cons_of_mem _ i1
      · rw [List.map_cons] at h ⊢
        rcases List.mem_cons.mp h with e | e
        · exact List.mem_cons.mpr (.inl e)
        · exact List.mem_cons_of_mem _ (i2 g e)
theorem length_putF (f : Str) (v : V) : ∀ fs : List (Str × V), (putF f v fs).length ≤ fs.length + 1
  | [] => by simp [putF]
  | (k, x) :: r => by
    have ih := length_putF f v r
    rw [show putF f v ((k, x) :: r) = (if k = f then (k, v) :: r else (k, x) :: putF f v r) from rfl]
    by_cases hk : k = f
    · rw [if_pos hk, List.length_cons, List.length_cons]; omega
    · rw [if_neg hk, List.length_cons, List.length_cons]; omega
theorem RelO.some_of {v : V} {o : Option Value} (r : RelO (some v) o) : ∃ u, o = some u ∧ RelV v u := by
  cases o with
  | none => exact (show False from r).elim
  | some u => exact ⟨u, rfl, r⟩
theorem handed_of {v : V} {u : Value} (r : RelV v u) : PySem.W.handedIn u = true := by
  cases v with
  | non => cases (show u = Value.none from r); rfl
  | bl b => cases (show u = Value.bool b from r); rfl
  | int i => obtain ⟨t, e⟩ := (show ∃ t, u = Value.int i t from r); cases e; rfl
  | str x => obtain ⟨t, e⟩ := (show ∃ t, u = Value.str x t from r); cases e; rfl
  | byt b => obtain ⟨t, e⟩ := (show ∃ t, u = Value.bytes b t from r); cases e; rfl
  | flt b => obtain ⟨t, e⟩ := (show ∃ t, u = Value.float b t from r); cases e; rfl
  | ref a => cases (show u = Value.ref a from r); rfl
  | ty n => cases (show u = Value.type n from r); rfl
section
variable {P : Program} {w : World} {H H' : Hp} {h h' : Heap} {a C dx : Addr} {fs fs' : List (Str × V)}
theorem ins_get (hok : HOk P w H h) (e : H a = some (.ins C dx fs)) : ∃ mA, ObjM h a dx C mA ∧ (∀ f, RelO (fs.lookup f) (mA f)) ∧ PySem.Within mA (fs.map (·.1)) ∧ fs.length ≤ 1000 ∧ H dx = some (.own a) := by
  obtain ⟨d, z, ne, ob, mA, n, r, q⟩ := (show ObjOk P w H h a (.ins C dx fs) from hok a _ e)
  exact ⟨mA, ⟨ob, n, ne⟩, r, q, z, d⟩
end
structure Cls (K : PySem.W.Frag) (C : Addr) : Prop where
  pg : PySem.W.plainGet K C Str.empty = true
  hd : PySem.W.hasDictIn K C = true
  po : PySem.W.plainOver K C = true
  sa : PySem.W.findIn K (.ref C) "__setattr__" = some (some (.builtin "object.__setattr__"))
theorem Cls.get {K : PySem.W.Frag} {C : Addr} (c : Cls K C) (f : Str) : PySem.W.plainGet K C f = true := c.pg
def NoAttr (K : PySem.W.Frag) (C : Addr) (f : Str) : Prop := PySem.W.findIn K (.ref C) f = some none
theorem NoAttr.taker {K : PySem.W.Frag} {C : Addr} {f : Str} (n : NoAttr K C f) : PySem.W.takerIn K C f = some none := by
  unfold PySem.W.takerIn
  rw [show PySem.W.findIn K (.ref C) f = some none from n]
  rfl
structure Con (K : PySem.W.Frag) (C : Addr) (f : Str) (v : V) (u : Value) : Prop where
  at_ : PySem.W.findIn K (.ref C) f = some (some u)
  rel : RelV v u
  get : PySem.W.specialIn K u "__get__" = some none
  cp : PySem.W.copiedNames.contains f = false
structure Meth (K : PySem.W.Frag) (C : Addr) (m : Str) (f : Addr) : Prop where
  at_ : PySem.W.findIn K (.ref C) m = some (some (.ref f))
  fn : PySem.W.isFn K (.ref f) = true
  kp : PySem.W.keepIn K (.ref f) = true
section
variable {X : Cx} {pins : List (Addr × Obj)} {σ : St} {H : Hp} {s : Shared} {a C dx : Addr} {fs : List (Str × V)} {f : Str} {v : V} {A : Around} {E : Value → Shared → Prop}
theorem getattr_ok {b : Bool} {Q : Value → Shared → Prop} (I : Inv X pins σ H s) (e : H a = some (.ins C dx fs)) (c : Cls X.K C) (n : NoAttr X.K C f) (l : fs.lookup f = some v)
    (h : ∀ u s', Inv X pins σ H s' → RelV v u → Q u s') : wpAny (model X.prog X.w) A (getAttr (.ref a) f b) Q E s := by
  obtain ⟨mA, O, r, _, _, _⟩ := ins_get I.hok e
  obtain ⟨u, hu, ru⟩ := RelO.some_of (v := v) (o := mA f) (by rw [← l]; exact r f)
  exact get_map I.kIn O (c.get f) c.hd n hu (handed_of ru) (h u _ (I.tok _) ru)
theorem setattr_ok {y : V} {u : Value} {Q : Unit → Shared → Prop} (I : Inv X pins σ H s) (e : H a = some (.ins C dx fs)) (c : Cls X.K C) (n : NoAttr X.K C f) (hl : fs.length < 1000) (ry : RelV y u)
    (h : ∀ s', Inv X pins σ (upd H a (.ins C dx (putF f y fs))) s' → Q () s') : wpAny (model X.prog X.w) A (setAttr (.ref a) f u) Q E s := by
  obtain ⟨mA, O, r, wi, _, ho⟩ := ins_get I.hok e
  have hz : (fs.map (·.1)).length ≤ sizeLine := by rw [List.length_map, sizeLine_eq]; omega
  refine set_map I.kIn O c.sa c.po n.taker c.hd wi hz fun h' O' sb => h _ ?_
  have hd : ∃ o, h'.get? dx = some o := let ⟨o, _, _, e', _⟩ := O'.ns; ⟨o, e'⟩
  refine I.write (x := a) (e := dx) (by rw [e]; exact True.intro) (.inr ho) (fun b q hb z => (sb.2 b hb).trans z) hd ?_
  refine ⟨by rw [upd_ne O.ne]; exact ho, ?_, O.ne, O'.obj, _, O'.ns, fun g => ?_, fun g hg => ?_⟩
  · have := length_putF f y fs; omega
  · show RelO ((putF f y fs).lookup g) (if g = f then some u else mA g)
    rw [lookup_putF]
    by_cases q : g = f
    · rw [if_pos q, if_pos q]; exact ry
    · rw [if_neg q, if_neg q]; exact r g
  · by_cases q : g = f
    · rw [q]; exact (keys_putF f y fs).1
    · refine (keys_putF f y fs).2 g (wi g fun z => hg ?_)
      show (if g = f then some u else mA g) = none
      rw [if_neg q]; exact z
theorem Inv.made (I : Inv X pins σ H s) : Inv X pins σ (upd (upd H s.heap.objs.size (.own (s.heap.objs.size + 1))) (s.heap.objs.size + 1) (.ins C s.heap.objs.size []))
    { s with heap := (s.heap.push PySem.W.emptyDict).push (PySem.W.instObj C s.heap.objs.size) } := by
  have e1 : (s.heap.push PySem.W.emptyDict).get? s.heap.objs.size = some PySem.W.emptyDict := Heap.get?_push_size s.heap rfl
  have e2 : ((s.heap.push PySem.W.emptyDict).push (PySem.W.instObj C s.heap.objs.size)).get? (s.heap.objs.size + 1) = some (PySem.W.instObj C s.heap.objs.size) := by
    have := Heap.get?_push_size (s.heap.push PySem.W.emptyDict) (o := PySem.W.instObj C s.heap.objs.size) rfl
    rwa [Heap.size_push] at this
  have e3 : (s.heap.push PySem.W.emptyDict).Ns s.heap.objs.size (fun _ => none) := ⟨PySem.W.emptyDict, #[], _, e1, rfl, (fun e he => absurd he (by simp)), fun _ => rfl⟩
  have I1 := I.laid (a := s.heap.objs.size) (o := .own (s.heap.objs.size + 1)) (h' := s.heap.push PySem.W.emptyDict) (t' := s.toks) (fun b u q => Heap.get?_push_of_some _ q) (Nat.le_refl _) ⟨_, e1⟩
  refine I1.laid (a := s.heap.objs.size + 1) (o := .ins C s.heap.objs.size []) (t' := s.toks) (fun b u q => Heap.get?_push_of_some _ q) (Nat.le_of_eq (Heap.size_push _ _)) ?_
  have ne : s.heap.objs.size ≠ s.heap.objs.size + 1 := Nat.ne_of_lt (Nat.lt_succ_self _)
  refine ⟨by rw [upd_ne ne, upd_same], Nat.zero_le _, ne, e2, fun _ => none, (Heap.Ns1.of_empty e3).at fun o q => Heap.get?_push_of_some _ q, fun _ => True.intro, fun y hy => absurd rfl hy⟩
theorem attr_of {prog : Program} {w : World} {env : Env} {e : Expr} {f : Str} {pos : Pos} {s : Shared} {Q : Value → Shared → Prop} (hb : attributeBase e f env (eval e env) = eval e env)
    (h : wpAny (model prog w) A (eval e env) (fun o s₁ => wpAny (model prog w) A (getAttr o f true) Q E s₁) E s) : wpAny (model prog w) A (eval (.Attribute e f pos) env) Q E s :=
  Attribute_any_ h (by rw [arm_eval_Attribute, hb])
end
def tFld (K : PySem.W.Frag) (ta : TE) (f : Str) : TE := fun σ H Q => ta σ H fun x H1 => ∃ a C dx fs v, x = .ref a ∧ H1 a = some (.ins C dx fs) ∧ Cls K C ∧ NoAttr K C f ∧ fs.lookup f = some v ∧ Q v H1
def tCon (K : PySem.W.Frag) (ta : TE) (f : Str) : TE := fun σ H Q => ta σ H fun x H1 => ∃ a C dx fs v u, x = .ref a ∧ H1 a = some (.ins C dx fs) ∧ Cls K C ∧ Con K C f v u ∧ fs.lookup f = none ∧ Q v H1
def sFld (K : PySem.W.Frag) (ta tv : TE) (f : Str) : TS := fun D σ H => tv σ H fun y H1 => ta σ H1 fun x H2 => ∃ a C dx fs, x = .ref a ∧ H2 a = some (.ins C dx fs) ∧ Cls K C ∧ NoAttr K C f ∧ fs.length < 1000 ∧
  D.nx σ (upd H2 a (.ins C dx (putF f y fs)))
def InOp (X : Cx) (op : Operator) (rd : V → V → Hp → VK → Prop) : Prop :=
  ∀ (pins : List (Addr × Obj)) (s : Shared) (σ : St) (H : Hp) (x y : V) (u v : Value) (Q : VK), Inv X pins σ H s → RelV x u → RelV y v → rd x y H Q → wpAny (model X.prog X.w) X.A (inplaceOp op u v) (EP X pins σ Q) X.xe s
def sFldAug (K : PySem.W.Frag) (ta tv : TE) (rd : V → V → Hp → VK → Prop) (f : Str) : TS := fun D σ H => ta σ H fun x H1 => ∃ a C dx fs v, x = .ref a ∧ H1 a = some (.ins C dx fs) ∧ Cls K C ∧ NoAttr K C f ∧ fs.lookup f = some v ∧
  tv σ H1 fun y H2 => rd v y H2 fun z H3 => ∃ dx' fs', H3 a = some (.ins C dx' fs') ∧ fs'.length < 1000 ∧ D.nx σ (upd H3 a (.ins C dx' (putF f z fs')))
section
variable {X : Cx} {o e value : Expr} {f : Str} {pos pos' tpos : Pos} {ta tv : TE}
theorem pe_fld (he : PE X e ta) (hb : attributeBase e f X.env (eval e X.env) = eval e X.env) : PE X (.Attribute e f pos) (tFld X.K ta f) := by
  intro pins s σ H Q I h
  refine attr_of hb (thn (he pins s σ H _ I h) fun u s1 ⟨x, H1, I1, rx, a, C, dx, fs, v, ex, ea, c, n, l, q⟩ => ?_)
  subst ex
  obtain rfl : u = Value.ref a := rx
  exact getattr_ok I1 ea c n l fun u' s2 I2 ru => ⟨v, H1, I2, ru, q⟩
theorem ps_fld (ha : PE X o ta) (hv : PE X value tv) (hs : swapsWith value (some (.Attribute o f pos')) pos.line X.env = pure false) : PS X (.Assign [.Attribute o f pos'] value pos) (sFld X.K ta tv f) := by
  intro pins s σ H D I h
  refine plainObj_wpAny_Assign_Attribute (thn (hv pins s σ H _ I h) fun u s1 ⟨y, H1, I1, ry, q⟩ => thn (ha pins s1 σ H1 _ I1 q) fun ov s2 ⟨x, H2, I2, rx, a, C, dx, fs, ex, ea, c, n, l, q2⟩ => ?_) hs
  subst ex
  obtain rfl : ov = Value.ref a := rx
  exact setattr_ok I2 ea c n l ry fun s3 I3 => ⟨σ, _, I3, q2⟩
def rAdd : V → V → Hp → VK → Prop := fun x y H Q => ∃ i j, x = .int i ∧ y = .int j ∧ Q (.int (i + j)) H
def rSub : V → V → Hp → VK → Prop := fun x y H Q => ∃ i j, x = .int i ∧ y = .int j ∧ Q (.int (i - j)) H
end
section
variable {X : Cx} {pins : List (Addr × Obj)} {σ : St} {H : Hp} {s : Shared} {A : Around} {E : Value → Shared → Prop} {Q : Value → Shared → Prop} {c : Value} {b : Bool}
inductive TyOf (K : PySem.W.Frag) (H : Hp) : V → Value → Prop where
  | non : TyOf K H .non (.type "NoneType")
  | bl (x : Bool) : TyOf K H (.bl x) (.type "bool")
  | int (i : Int) : TyOf K H (.int i) (.type "int")
  | str (x : Str) : TyOf K H (.str x) (.type "str")
  | flt (x : UInt64) : TyOf K H (.flt x) (.type "float")
  | lst {a : Addr} {xs : List V} (e : H a = some (.lst xs)) : TyOf K H (.ref a) (.type "list")
  | frz {a : Addr} {o : Obj} {xs : List V} (e : H a = some (.frz o (.lst xs))) : TyOf K H (.ref a) (.type "list")
  | tup {a : Addr} {xs : List V} (e : H a = some (.tup xs)) : TyOf K H (.ref a) (.type "tuple")
  | dK {a : Addr} {kvs : List (Key × V)} (e : H a = some (.dK kvs)) : TyOf K H (.ref a) (.type "dict")
  | dT {a : Addr} {kvs : List (List Key × V)} (e : H a = some (.dT kvs)) : TyOf K H (.ref a) (.type "dict")
  | ins {a C dx : Addr} {fs : List (Str × V)} (e : H a = some (.ins C dx fs)) (cl : Cls K C) (ha : PySem.W.findIn K (.ref C) "__class__" = some (some (.builtin "object.__class__")))
      (hn : PySem.W.specialIn K (.builtin "object.__class__") "__get__" = some (some (.builtin "getset_descriptor.__get__"))) (htk : PySem.W.takesIn K (.builtin "object.__class__") = some true)
      (hm : PySem.W.mroIn K C (.type "object") = some true) : TyOf K H (.ref a) (.ref C)
end
end L2
namespace L2
open PySem PySem.Spec PyProof.Rows
structure Room (k : Nat) (A : Around) : Prop where
  hd : A.handled = none
  dp : A.depth + 3 * k + 5 < recursionLimit
  un : A.units + 16 * k + 200 < cLine
theorem Room.mono {j k : Nat} {A : Around} (r : Room k A) (h : j ≤ k) : Room j A := ⟨r.hd, by have := r.dp; omega, by have := r.un; omega⟩
theorem Room.deeper {k : Nat} {A : Around} (r : Room (k + 1) A) (env : Env) : Room k (A.deeper env) :=
  ⟨r.hd, by have := r.dp; show A.depth + 1 + 3 * k + 5 < _; omega, by have := r.un; show A.units + 3 + 16 * k + 200 < _; omega⟩
theorem make_depth {A : Around} {C : Addr} {us : List Value} {kw : List (Str × Value)} : (A.under (.builtin "type.__call__" ⟨.ref C :: us, kw⟩)).depth = A.depth + 1 := by
  first | rfl | simp [Around.under, Code.weight, Code.isCreation, Code.isGuard, Code.isCaller, Code.frames, Code.isFrame, guardIds]
theorem make_units {A : Around} {C : Addr} {us : List Value} {kw : List (Str × Value)} : (A.under (.builtin "type.__call__" ⟨.ref C :: us, kw⟩)).units = A.units + 1 := by
  first | rfl | simp [Around.under, Code.cUnits, Code.frames, Code.isFrame]
theorem Room.make {k : Nat} {A : Around} (r : Room (k + 1) A) (C : Addr) (us : List Value) (kw : List (Str × Value)) : Room k (A.under (.builtin "type.__call__" ⟨.ref C :: us, kw⟩)) :=
  ⟨r.hd, by have := r.dp; rw [make_depth]; omega, by have := r.un; rw [make_units]; omega⟩
theorem Room.depth {k : Nat} {A : Around} (r : Room k A) : A.depth < recursionLimit := by have := r.dp; omega
def tNil : TA := fun _ H Q => Q [] H
def tCons (ta : TE) (tr : TA) : TA := fun σ H Q => ta σ H fun x H1 => tr σ H1 fun xs H2 => Q (x :: xs) H2
section
variable {X : Cx} {e : Expr} {es : List Expr} {te : TE} {t : TA} {pos : Pos}
theorem pa_nil : PA X [] tNil := fun _ _ _ _ H Q I h => Calls.spliced_nil ⟨[], H, I, .nil, h⟩
theorem pa_cons (ha : PE X e te) (hr : PA X es t) (hs : starEach (e :: es) X.env = (false, eval e X.env) :: starEach es X.env := by rfl) : PA X (e :: es) (tCons te t) := by
  intro pos pins s σ H Q I h
  rw [hs]
  show wpAny _ _ (spliced ((false, eval e X.env) :: backTo pos (starEach es X.env))) _ _ s
  refine Calls.spliced_cons (thn (ha pins s σ H _ I h) fun u s1 ⟨x, H1, I1, r1, q1⟩ => ?_)
  exact thn (hr pos pins s1 σ H1 _ I1 q1) fun us s2 ⟨xs, H2, I2, r2, q2⟩ => ⟨x :: xs, H2, I2, .cons r1 r2, q2⟩
def tTup (t : TA) : TE := fun σ H Q => t σ H fun xs H1 => xs.length ≤ sizeLine ∧ ∀ p, H1 p = none → Q (.ref p) (upd H1 p (.tup xs))
def tLst (t : TA) : TE := fun σ H Q => t σ H fun xs H1 => xs.length ≤ sizeLine ∧ ∀ p, H1 p = none → Q (.ref p) (upd H1 p (.lst xs))
theorem pe_tup {x1} (h : PA X es t) : PE X (.Tuple es x1 pos) (tTup t) := by
  intro pins s σ H Q I hq
  refine wpAny_Tuple_spliced (thn (h pos pins s σ H _ I hq) fun us s1 ⟨xs, H1, I1, r, z, q⟩ => ⟨by rw [← r.length]; exact z, ?_⟩)
  have hf : H1 s1.heap.objs.size = none := I1.hok.fresh (Nat.le_refl _)
  refine ⟨.ref s1.heap.objs.size, upd H1 s1.heap.objs.size (.tup xs), I1.laid (t' := s1.toks) (fun b u e => Heap.get?_push_of_some _ e) (Nat.le_refl _) ?_, rfl, q _ hf⟩
  exact ⟨z, us, r, ⟨_, Heap.get?_push_size _ rfl, rfl, _, rfl⟩⟩
end
abbrev Sp := List V → Hp → VK → XK → Prop
abbrev CXT := List Env → Hp → Shared → XK → Value → Shared → Prop
structure Env0 (P : Program) (w : World) (K : PySem.W.Frag) (mg : Str → Option Value) (base : Heap) (A : Around) (outer : List Env) (s : Shared) (H : Hp) : Prop where
  frames : A.frames = some outer
  mod : Mod K mg base
  bs : ∀ b o, base.get? b = some o → s.heap.get? b = some o ∧ H b = none
  bsz : base.objs.size ≤ s.heap.objs.size
  funs : s.heap.FunFrames base outer
  frf : ∀ b ∈ frs outer, H b = none
  hok : HOk P w H s.heap
  bare : AllBare s.gens
def CE (outer : List Env) (P : Program) (w : World) (H : Hp) (s : Shared) (Q : VK) (u : Value) (s' : Shared) : Prop :=
  ∃ v H', s'.os = s.os ∧ AllBare s'.gens ∧ Un (frs outer) [] H H' s.heap s'.heap ∧ HOk P w H' s'.heap ∧ RelV v u ∧ Q v H'
def CR (CX : CXT) (outer : List Env) (P : Program) (w : World) (H : Hp) (s : Shared) (Q : VK) (E : XK) (r : Result) (s' : Shared) : Prop :=
  match r with
  | .ok (.ret u) => CE outer P w H s Q u s'
  | .ok _ => False
  | .error e => CX outer H s E e s'
structure FnOk (P : Program) (w : World) (K : PySem.W.Frag) (mg : Str → Option Value) (base : Heap) (CX : CXT) (k : Nat) (f : Addr) (fd : FuncData) (ps : List Str) (sp : Sp) : Prop where
  len : ∀ vs H Q E, sp vs H Q E → vs.length = ps.length
  run : ∀ (A : Around) (outer : List Env) (s : Shared) (H : Hp) (args : Args) (us : List Value) (vs : List V) (Q : VK) (E : XK), Room k A → Env0 P w K mg base A outer s H → BindsTo s fd args (ps.zip us) → Vals vs us → sp vs H Q E →
    codeAny (model P w) A (.call (.ref f) args) (CR CX outer P w H s Q E) s
theorem Env0.make {P : Program} {w : World} {K : PySem.W.Frag} {mg : Str → Option Value} {base : Heap} {A : Around} {outer : List Env} {s : Shared} {H : Hp} (e : Env0 P w K mg base A outer s H) (C : Addr) (us : List Value) (kw : List (Str × Value)) :
    Env0 P w K mg base (A.under (.builtin "type.__call__" ⟨.ref C :: us, kw⟩)) outer s H := ⟨by first | exact e.frames | (simpa [Around.under, Code.envs, Code.isFrame, pushEnvs] using e.frames), e.mod, e.bs, e.bsz, e.funs, e.frf, e.hok, e.bare⟩
section
variable {X : Cx} {pins : List (Addr × Obj)} {σ : St} {H : Hp} {s s' : Shared}
theorem Inv.env0 (I : Inv X pins σ H s) : Env0 X.prog X.w X.K X.mg X.base X.A X.stack s H :=
  ⟨I.ok.frames, I.ok.mod, I.bs, Nat.le_trans I.ok.bsz I.sz, I.stack, I.stkFree, I.hok, I.bare⟩
theorem Inv.after {Q : VK} {u : Value} (I : Inv X pins σ H s) (h : CE X.stack X.prog X.w H s Q u s') : EP X pins σ Q u s' := by
  obtain ⟨v, H', os, bare, un, hok, r, q⟩ := h
  obtain ⟨hh, g, d, t, os'⟩ := s'
  obtain rfl : os' = s.os := os
  exact ⟨v, H', I.call (h' := hh) (g' := g) (d' := d) (t' := t) (ch := []) un hok bare (fun b z => absurd z (by simp)), r, q⟩
end
def tCall (sp : Sp) (dvs : List V) (E : XK) (t : TA) : TE := fun σ H Q => t σ H fun vs H1 => sp (vs ++ dvs) H1 Q E
def tMeth (C : Addr) (m : Str) (sp : Sp) (dvs : List V) (E : XK) (ta : TE) (t : TA) : TE := fun σ H Q => ta σ H fun x H1 => ∃ a dx fs, x = .ref a ∧ H1 a = some (.ins C dx fs) ∧ fs.lookup m = none ∧
  t σ H1 fun vs H2 => sp (x :: (vs ++ dvs)) H2 Q E
def tMake (C : Addr) (sp : Sp) (dvs : List V) (E : XK) (t : TA) : TE := fun σ H Q => t σ H fun vs H1 => ∀ x dx, H1 x = none → H1 dx = none → dx ≠ x →
  sp (.ref x :: (vs ++ dvs)) (upd (upd H1 dx (.own x)) x (.ins C dx [])) (fun v H2 => v = .non ∧ Q (.ref x) H2) E
def Binds (K : PySem.W.Frag) (fd : FuncData) (ps : List Str) (ds : List Value) : Prop :=
  ∀ (s : Shared) (us : List Value), K.In s.heap → (us ++ ds).length = ps.length → BindsTo s fd ⟨us, []⟩ (ps.zip (us ++ ds))
theorem Binds.all {K : PySem.W.Frag} {fd : FuncData} {ps : List Str} (h : ∀ us : List Value, us.length = ps.length → bindArgs fd ⟨us, []⟩ = pure (ps.zip us)) : Binds K fd ps [] := fun s us _ hl => by
  rw [List.append_nil] at hl ⊢
  exact .of_eq (h us hl)
def Passes (CX : CXT) (X : Cx) (E : XK) : Prop := ∀ (pins : List (Addr × Obj)) (σ : St) (H : Hp) (s : Shared) (e : Value) (s' : Shared), Inv X pins σ H s → CX X.stack H s E e s' → X.xe e s'
section
variable {X : Cx} {CX : CXT} {k : Nat} {f C : Addr} {fd : FuncData} {ps : List Str} {sp : Sp} {dvs : List V} {ds : List Value} {E : XK} {x m : Str} {p pos apos : Pos} {e o : Expr} {es : List Expr} {ta : TE} {t : TA}
theorem run_fn {pins : List (Addr × Obj)} {σ : St} {H : Hp} {s : Shared} {Q : VK} {us : List Value} {vs : List V} (F : FnOk X.prog X.w X.K X.mg X.base CX k f fd ps sp) (hr : Room k X.A) (hb : Binds X.K fd ps ds) (hd : Vals dvs ds) (hx : Passes CX X E)
    (I : Inv X pins σ H s) (r : Vals vs us) (h : sp (vs ++ dvs) H Q E) : wpAny (model X.prog X.w) X.A (call (.ref f) us) (EP X pins σ Q) X.xe s := by
  have r2 : Vals (vs ++ dvs) (us ++ ds) := r.append hd
  have hl : (us ++ ds).length = ps.length := by rw [← r2.length]; exact F.len _ _ _ _ h
  refine wpAny_call (codeAny_mono (F.run X.A X.stack s H ⟨us, []⟩ (us ++ ds) (vs ++ dvs) Q E hr I.env0 (hb s us I.kIn hl) r2 h) fun r s' hq => ?_)
  cases r with
  | error e => exact hx pins σ H s e s' I hq
  | ok fl =>
    cases fl with
    | ret u => exact I.after hq
    | next => exact False.elim hq
    | brk => exact False.elim hq
    | cont => exact False.elim hq
theorem pe_call (F : FnOk X.prog X.w X.K X.mg X.base CX k f fd ps sp) (hr : Room k X.A) (hg : Gl X x) (hm : X.mg x = some (.ref f)) (hk : PySem.W.keepIn X.K (.ref f) = true) (hb : Binds X.K fd ps ds) (hd : Vals dvs ds) (hx : Passes CX X E)
    (ha : PA X (e :: es) t) (hdb : (x == ("__debug__" : Str)) = false := by decide) (he : starEach (e :: es) X.env = (false, eval e X.env) :: starEach es X.env := by rfl) (hpl : (backTo pos (starEach es X.env)).any (·.1) = false := by rfl) :
    PE X (.Call (.Name x p) (e :: es) [] pos) (tCall sp dvs E t) := by
  intro pins s σ H Q I h
  refine wpAny_Call_Name_kw (ld_glob I hg hm ?_ hdb)
  refine PySem.W.callWith_K (h₀ := X.base) I.ok.mod.kin hk (thn (ha pos pins s σ H _ I h) fun us s1 ⟨vs, H1, I1, r, q⟩ => ⟨I1.kIn, ?_⟩) he hpl
  exact run_fn F hr hb hd hx I1 r q
structure Mk (K : PySem.W.Frag) (C f : Addr) : Prop where
  makes : PySem.W.makesIn K C = true
  init : PySem.W.findIn K (.ref C) "__init__" = some (some (.ref f))
  fn : PySem.W.isFn K (.ref f) = true
  kp : PySem.W.keepIn K (.ref C) = true
theorem run_make {pins : List (Addr × Obj)} {σ : St} {H : Hp} {s : Shared} {Q : VK} {us : List Value} {vs : List V} (M : Mk X.K C f) (F : FnOk X.prog X.w X.K X.mg X.base CX k f fd ps sp) (hr : Room (k + 1) X.A) (hb : Binds X.K fd ps ds) (hd : Vals dvs ds)
    (hx : Passes CX X E) (I : Inv X pins σ H s) (r : Vals vs us)
    (h : ∀ x dx, H x = none → H dx = none → dx ≠ x → sp (.ref x :: (vs ++ dvs)) (upd (upd H dx (.own x)) x (.ins C dx [])) (fun v H2 => v = .non ∧ Q (.ref x) H2) E) :
    wpAny (model X.prog X.w) X.A (call (.ref C) us) (EP X pins σ Q) X.xe s := by
  have hq := h (s.heap.objs.size + 1) s.heap.objs.size (I.hok.fresh (Nat.le_succ _)) (I.hok.fresh (Nat.le_refl _)) (Nat.ne_of_lt (Nat.lt_succ_self _))
  have I2 := Inv.made (C := C) I
  have r2 : Vals (V.ref (s.heap.objs.size + 1) :: (vs ++ dvs)) (Value.ref (s.heap.objs.size + 1) :: (us ++ ds)) := .cons rfl (r.append hd)
  have hl : (Value.ref (s.heap.objs.size + 1) :: us ++ ds).length = ps.length := by
    have e := r2.length
    rw [F.len _ _ _ _ hq] at e
    exact e.symm
  refine wpAny_call (make_map (f := f) I.kIn M.makes M.init (beq_iff_eq.mp M.fn) (codeAny_mono (F.run _ X.stack _ _ ⟨Value.ref (s.heap.objs.size + 1) :: us, []⟩ (Value.ref (s.heap.objs.size + 1) :: (us ++ ds)) _ _ E (hr.make C us [])
    (I2.env0.make C us []) (hb _ (Value.ref (s.heap.objs.size + 1) :: us) I2.kIn hl) r2 hq) fun r s' hq' => ?_))
  cases r with
  | error e => exact hx pins σ _ _ e s' I2 hq'
  | ok fl =>
    cases fl with
    | ret u =>
      obtain ⟨v, H', I3, rv, ev, q3⟩ := I2.after hq'
      subst ev
      exact ⟨rv, ⟨V.ref (s.heap.objs.size + 1), H', I3, rfl, q3⟩⟩
    | next => exact False.elim hq'
    | brk => exact False.elim hq'
    | cont => exact False.elim hq'
theorem pe_make (M : Mk X.K C f) (F : FnOk X.prog X.w X.K X.mg X.base CX k f fd ps sp) (hr : Room (k + 1) X.A) (hg : Gl X x) (hm : X.mg x = some (.ref C)) (hb : Binds X.K fd ps ds) (hd : Vals dvs ds) (hx : Passes CX X E)
    (ha : PA X (e :: es) t) (hdb : (x == ("__debug__" : Str)) = false := by decide) (he : starEach (e :: es) X.env = (false, eval e X.env) :: starEach es X.env := by rfl) (hpl : (backTo pos (starEach es X.env)).any (·.1) = false := by rfl) :
    PE X (.Call (.Name x p) (e :: es) [] pos) (tMake C sp dvs E t) := by
  intro pins s σ H Q I h
  refine wpAny_Call_Name_kw (ld_glob I hg hm ?_ hdb)
  refine PySem.W.callWith_K (h₀ := X.base) I.ok.mod.kin M.kp (thn (ha pos pins s σ H _ I h) fun us s1 ⟨vs, H1, I1, r, q⟩ => ⟨I1.kIn, ?_⟩) he hpl
  exact run_make M F hr hb hd hx I1 r q
end
def PK (X : Cx) (kws : List Keyword) (t : TA) : Prop :=
  ∀ (pos : Pos) (pins : List (Addr × Obj)) (s : Shared) (σ : St) (H : Hp) (Q : List V → Hp → Prop), Inv X pins σ H s → t σ H Q → wpAny (model X.prog X.w) X.A (evalAll ((backToKw pos (keywordEach kws X.env)).map (·.2))) (AP X pins σ Q) X.xe s
section
variable {X : Cx} {CX : CXT} {k : Nat} {f C : Addr} {fd : FuncData} {ps ks : List Str} {sp : Sp} {E : XK} {x m : Str} {p pos apos kpos : Pos} {e o : Expr} {es : List Expr} {kws : List Keyword} {te ta : TE} {t tk : TA} {nm : Option Str}
structure KBinds (K : PySem.W.Frag) (fd : FuncData) (ps ks : List Str) (g : List Value → List Value → List Value) (gV : List V → List V → List V) : Prop where
  to : ∀ (s : Shared) (us ws : List Value), K.In s.heap → (g us ws).length = ps.length → BindsTo s fd ⟨us, ks.zip ws⟩ (ps.zip (g us ws))
  rel : ∀ {vs : List V} {us : List Value} {zs : List V} {ws : List Value}, Vals vs us → Vals zs ws → Vals (gV vs zs) (g us ws)
def tCallK (sp : Sp) (gV : List V → List V → List V) (E : XK) (t tk : TA) : TE := fun σ H Q => t σ H fun vs H1 => tk σ H1 fun zs H2 => sp (gV vs zs) H2 Q E
variable {g : List Value → List Value → List Value} {gV : List V → List V → List V}
end
structure FnScope (N P : List Str) (sc : Scope) : Prop where
  kind : sc.kind = .function
  co : sc.isCoroutine = false
  gen : sc.isGenerator = false
  nd : N.Nodup
  pre : N.take P.length = P
  par : ∀ x ∈ P, sc.names.lookup x = some .local ∨ sc.names.lookup x = some .cell
  nofree : ∀ y ∈ sc.names, y.2 ≠ .free
theorem bindL_out {kindOf : Str → Option NameKind} {x : Str} : ∀ {binds : List (Str × Value)} {m : Str → Option Value}, (∀ v, (x, v) ∉ binds) → bindL kindOf binds m x = m x
  | [], _, _ => rfl
  | (n, v) :: r, m, h => by
    unfold bindL
    rw [bindL_out fun w hw => h w (List.mem_cons_of_mem _ hw)]
    split
    · have : x ≠ n := by rintro rfl; exact h v List.mem_cons_self
      simp [this]
    · rfl
theorem bindC_out {kindOf : Str → Option NameKind} {x : Str} : ∀ {binds : List (Str × Value)} {m : Str → Option Value}, (∀ v, (x, v) ∉ binds) → bindC kindOf binds m x = m x
  | [], _, _ => rfl
  | (n, v) :: r, m, h => by
    unfold bindC
    rw [bindC_out fun w hw => h w (List.mem_cons_of_mem _ hw)]
    split
    · rfl
    · have : x ≠ n := by rintro rfl; exact h v List.mem_cons_self
      simp [this]
theorem bindL_get {kindOf : Str → Option NameKind} {x : Str} {v : Value} : ∀ {P : List Str} {vs : List Value} {i : Nat} {m : Str → Option Value}, P.Nodup → P[i]? = some x → vs[i]? = some v → kindOf x = some .local →
    bindL kindOf (P.zip vs) m x = some v
  | [], _, _, _, _, h, _, _ => by simp at h
  | _ :: _, [], _, _, _, _, h, _ => by simp at h
  | p :: P, w :: vs, 0, m, nd, h1, h2, hk => by
    simp at h1 h2; subst h1; subst h2
    show bindL kindOf ((p, w) :: P.zip vs) m p = _
    unfold bindL
    rw [bindL_out fun v hv => (List.nodup_cons.mp nd).1 (List.of_mem_zip hv).1, if_pos hk]
    simp
  | p :: P, w :: vs, i + 1, m, nd, h1, h2, hk => by
    show bindL kindOf ((p, w) :: P.zip vs) m x = _
    unfold bindL
    exact bindL_get (i := i) (List.nodup_cons.mp nd).2 (by simpa using h1) (by simpa using h2) hk
theorem bindC_get {kindOf : Str → Option NameKind} {x : Str} {v : Value} : ∀ {P : List Str} {vs : List Value} {i : Nat} {m : Str → Option Value}, P.Nodup → P[i]? = some x → vs[i]? = some v → kindOf x ≠ some .local →
    bindC kindOf (P.zip vs) m x = some v
  | [], _, _, _, _, h, _, _ => by simp at h
  | _ :: _, [], _, _, _, _, h, _ => by simp at h
  | p :: P, w :: vs, 0, m, nd, h1, h2, hk => by
    simp at h1 h2; subst h1; subst h2
    show bindC kindOf ((p, w) :: P.zip vs) m p = _
    unfold bindC
    rw [bindC_out fun v hv => (List.nodup_cons.mp nd).1 (List.of_mem_zip hv).1, if_neg hk]
    simp
  | p :: P, w :: vs, i + 1, m, nd, h1, h2, hk => by
    show bindC kindOf ((p, w) :: P.zip vs) m x = _
    unfold bindC
    exact bindC_get (i := i) (List.nodup_cons.mp nd).2 (by simpa using h1) (by simpa using h2) hk
def start (N : List Str) (vs : List V) : St := vs.map some ++ List.replicate (N.length - vs.length) none
def cxOf (CX : CXT) (P : Program) (w : World) (K : PySem.W.Frag) (mg : Str → Option Value) (base : Heap) (N : List Str) (qual : Str) (scope : Scope) (f : Addr) (cd : Value) (A : Around) (outer : List Env) (s : Shared) (H : Hp) (E : XK) : Cx where
  prog := P
  w := w
  K := K
  mg := mg
  base := base
  A := A.deeper (envOfC qual scope s.heap.objs.size f cd)
  N := N
  s₀ := s
  H₀ := H
  env := envOfC qual scope s.heap.objs.size f cd
  outer := outer
  stack := envOfC qual scope s.heap.objs.size f cd :: outer
  ex := []
  calm := true
  fn := fun _ => true
  pn := []
  xe := fun e s' => wpAny (model P w) (A.deeper (envOfC qual scope s.heap.objs.size f cd)) (leaving (envOfC qual scope s.heap.objs.size f cd) e) (fun _ s'' => CX outer H s E e s'') (fun e' s'' => CX outer H s E e' s'') s'
theorem cell_has {sc : Scope} {n : Nat} {x : Str} (h : sc.names.lookup x = some .cell) : ∃ c, (cellsFrom n sc.names []).lookup x = some c := by
  have q := PySem.W.cellsFrom_some sc.names n [] (.inl h)
  exact Option.isSome_iff_exists.mp q
theorem inv_start {CX : CXT} {P : Program} {w : World} {K : PySem.W.Frag} {mg : Str → Option Value} {base : Heap} {N ps : List Str} {qual : Str} {scope : Scope} {f : Addr} {cd : Value} {A : Around} {outer : List Env} {s s1 : Shared} {H : Hp} {E : XK} {us : List Value} {vs : List V}
    (S : FnScope N ps scope) (hd : A.handled = none) (e0 : Env0 P w K mg base A outer s H) (hl : vs.length = ps.length) (r : Vals vs us)
    (x : InCallC s s.heap.objs.size (bindL (envOfC qual scope s.heap.objs.size f cd).kindOf (ps.zip us) fun _ => none) (cellsFrom (s.heap.objs.size + 1) scope.names []) (bindC (envOfC qual scope s.heap.objs.size f cd).kindOf (ps.zip us) fun _ => none) s1) :
    Inv (cxOf CX P w K mg base N qual scope f cd A outer s H E) [] (start N vs) H s1 := by
  have hpl : ps.length ≤ N.length := by have := congrArg List.length S.pre; rw [List.length_take] at this; omega
  obtain ⟨h1, tk, rfl, hk⟩ := x.done
  have noA : ∀ b : Addr, b ∉ (cxOf CX P w K mg base N qual scope f cd A outer s H E).ex := fun b z => absurd (show b ∈ ([] : List Addr) from z) (by simp)
  refine ⟨⟨e0.mod, S.kind, rfl, rfl, Nat.le_refl _, fun y z c h1 h2 => ?_, fun y hy => ?_, fun y c _ h => ?_, fun _ => hd, Around.frames_deeper e0.frames, .inr ⟨rfl, rfl⟩, fun b z => absurd z (noA b), e0.bs, e0.bsz, fun b _ _ => noA b, fun b z => absurd z (noA b), e0.funs, e0.frf⟩,
    rfl, e0.bare, Un.kept hk, ⟨_, x.toInCall.ns, fun i y v h1 h2 h3 => ?_⟩, fun y c h => ⟨_, x.cell y c h⟩, e0.hok.fresh (Nat.le_refl _), fun y c h => ?_, fun p hp => absurd (show p ∈ ([] : List (Addr × Obj)) from hp) (by simp), e0.hok.kept hk, ?_⟩
  · exact name_of_addr x.apart (PySem.mem_of_lookup h1) (PySem.mem_of_lookup h2)
  · have hy : scope.names.lookup y = some .cell ∨ scope.names.lookup y = some .free := hy
    rcases hy with hy | hy
    · exact cell_has hy
    · exact absurd rfl (S.nofree _ (PySem.mem_of_lookup hy))
  · exact Nat.le_of_lt (x.above y c (PySem.mem_of_lookup h))
  · have hi : i < vs.length := by
      unfold start at h2
      by_cases hi : i < vs.length
      · exact hi
      · rw [List.getElem?_append_right (by simpa using hi)] at h2
        rw [List.getElem?_replicate] at h2
        split at h2 <;> cases h2
    have ha : vs[i]? = some v := by
      unfold start at h2
      rw [List.getElem?_append_left (by simpa using hi), List.getElem?_map] at h2
      cases e : vs[i]? with
      | none => rw [e] at h2; cases h2
      | some a => rw [e] at h2; cases h2; rfl
    obtain ⟨u, hu, rv⟩ := r.get ha
    have hp : ps[i]? = some y := by
      rw [← S.pre, List.getElem?_take_of_lt (by omega)]; exact h1
    have ndP : ps.Nodup := by rw [← S.pre]; exact S.nd.sublist (List.take_sublist _ _)
    refine ⟨u, rv, ?_⟩
    rcases S.par y (List.mem_of_getElem? hp) with k | k
    · exact .inl ⟨k, bindL_get ndP hp hu k⟩
    · obtain ⟨c, e⟩ := cell_has (n := s.heap.objs.size + 1) k
      refine .inr ⟨.inl k, c, e, ?_⟩
      have q := x.cell y c e
      rw [bindC_get ndP hp hu (by show scope.names.lookup y ≠ _; rw [k]; decide)] at q
      exact q
  · exact e0.hok.fresh (Nat.le_of_lt (x.above y c (PySem.mem_of_lookup h)))
  · unfold start
    show _ = N.length
    rw [List.length_append, List.length_map, List.length_replicate]
    omega
theorem fn_of {CX : CXT} {P : Program} {w : World} {K : PySem.W.Frag} {mg : Str → Option Value} {base : Heap} {k : Nat} {f : Addr} {name qual : Str} {params : Arguments} {body : List Stmt} {scope : Scope} {dV kV doc pm cdv ct oc : Value} {an od : Option Addr}
    {osl : Array (Option Value)} {N ps : List Str} {sp : Sp} (lk : K.lookup f = some ⟨oc, od, .func (PySem.W.fnOf name qual params body scope dV kV doc pm an cdv ct), osl⟩) (hcd : PySem.W.codeIn K cdv qual = true) (S : FnScope N ps scope)
    (len : ∀ vs H Q E, sp vs H Q E → vs.length = ps.length)
    (hbody : ∀ (A : Around) (outer : List Env) (s : Shared) (H : Hp) (vs : List V) (Q : VK) (E : XK), Room k (A.deeper (envOfC qual scope s.heap.objs.size f cdv)) → sp vs H Q E →
      ∃ t, PSs (cxOf CX P w K mg base N qual scope f cdv A outer s H E) body t ∧ t { nx := fun _ H' => Q .non H', rt := Q } (start N vs) H) :
    FnOk P w K mg base CX (k + 1) f (PySem.W.fnOf name qual params body scope dV kV doc pm an cdv ct) ps sp := by
  refine ⟨len, fun A outer s H args us vs Q E hr e0 hb r hsp => ?_⟩
  have hl := len _ _ _ _ hsp
  have KX : K.In s.heap := e0.mod.kin.keeps fun b o e => (e0.bs b o e).1
  have lim : s.heap.NoLimit := e0.mod.nolimit.keeps fun b o e => (e0.bs b o e).1
  have hkind : ∀ y ∈ ps.zip us, scope.names.lookup y.1 = some .local ∨ (scope.names.lookup y.1 = some .cell ∧ ((cellsFrom (s.heap.objs.size + 1) scope.names []).lookup y.1).isSome = true) := fun ⟨n, v⟩ hy => by
    rcases S.par n (List.of_mem_zip hy).1 with q | q
    · exact .inl q
    · exact .inr ⟨q, PySem.W.cellsFrom_some _ _ _ (.inl q)⟩
  refine codeAny_call_function hr.depth (KX _ _ lk) rfl S.co S.gen rfl (PySem.W.codeRec_of KX hcd) (hb _ _ _ _ ?_)
  refine wpAny_newFunctionEnv_cells S.kind hkind fun env he s1 x => ?_
  subst he
  refine ⟨lim.keeps x.toInCall.keep, codeAny_func ?_⟩
  obtain ⟨t, ht, hq⟩ := hbody A outer s H vs Q E (hr.deeper _) hsp
  have I : Inv (cxOf CX P w K mg base N qual scope f cdv A outer s H E) [] (start N vs) H s1 := inv_start S hr.hd e0 hl r x
  refine wpAny_mono (ht [] s1 (start N vs) H _ I hq) (fun fl s' hs => ?_) fun e s' hs => hs
  have fin : ∀ {σ' : St} {H' : Hp} {v : V} {u : Value}, Inv (cxOf CX P w K mg base N qual scope f cdv A outer s H E) [] σ' H' s' → RelV v u → Q v H' → CE outer P w H s Q u s' :=
    fun {σ' H' v u} J rv q => ⟨v, H', J.os, J.bare, J.base, J.hok, rv, q⟩
  cases fl with
  | ret u =>
    obtain ⟨v, σ', H', J, rv, q⟩ := hs
    exact fin J rv q
  | next =>
    obtain ⟨σ', H', J, q⟩ := hs
    exact fin (v := V.non) (u := Value.none) J rfl q
  | brk =>
    obtain ⟨_, _, _, q⟩ := hs
    exact False.elim q
  | cont =>
    obtain ⟨_, _, _, q⟩ := hs
    exact False.elim q
end L2
namespace L2
open PySem PySem.Spec PyProof.Rows
section
variable {X : Cx} {x : Str} {p pos : Pos} {e : Expr} {es : List Expr} {t : TA} {id T : String} {r : List V → Hp → VK → Prop}
def tCB (r : List V → Hp → VK → Prop) (t : TA) : TE := fun σ H Q => t σ H fun vs H1 => r vs H1 Q
theorem pe_callB (hc : CallR X (.builtin id) r) (hg : Gl X x) (hm : X.mg x = none) (hv : bootBuiltins x = some (.builtin id)) (ha : PA X (e :: es) t) (hn : x ≠ "__name__" := by decide) (hdb : (x == ("__debug__" : Str)) = false := by decide)
    (he : starEach (e :: es) X.env = (false, eval e X.env) :: starEach es X.env := by rfl) (hpl : (backTo pos (starEach es X.env)).any (·.1) = false := by rfl) : PE X (.Call (.Name x p) (e :: es) [] pos) (tCB r t) := by
  intro pins s σ H Q I h
  refine wpAny_Call_Name_kw (ld_blt I hg hm hv ?_ hn hdb)
  exact PyProof.Rows.callWith_builtin1 (thn (ha pos pins s σ H _ I h) fun us s1 ⟨vs, H1, I1, r1, q1⟩ => hc pins s1 σ H1 vs us Q I1 r1 q1) he hpl
theorem pe_callTy (hc : CallR X (.type T) r) (hg : Gl X x) (hm : X.mg x = none) (hv : bootBuiltins x = some (.type T)) (ha : PA X (e :: es) t) (hn : x ≠ "__name__" := by decide) (hdb : (x == ("__debug__" : Str)) = false := by decide)
    (he : starEach (e :: es) X.env = (false, eval e X.env) :: starEach es X.env := by rfl) (hpl : (backTo pos (starEach es X.env)).any (·.1) = false := by rfl) : PE X (.Call (.Name x p) (e :: es) [] pos) (tCB r t) := by
  intro pins s σ H Q I h
  refine wpAny_Call_Name_kw (ld_blt I hg hm hv ?_ hn hdb)
  exact PyProof.Rows.callWith_type1 (thn (ha pos pins s σ H _ I h) fun us s1 ⟨vs, H1, I1, r1, q1⟩ => hc pins s1 σ H1 vs us Q I1 r1 q1) he hpl
end
end L2
namespace HT
open PySem PyProof.Rows
def lexLt : List Int → List Int → Bool
  | [], [] => false
  | [], _ :: _ => true
  | _ :: _, [] => false
  | x :: xs, y :: ys => if x = y then lexLt xs ys else decide (x < y)
section
open PySem.SeqAt
open PySem.AutoSeq1 (wpAny_loadPart')
open PySem.MeetsSeq PySem.MeetsSeq2 PySem.MeetsSeq3
end
section
variable {prog : Program} {w : World} {A : Around} {E : Value → Shared → Prop} {s : Shared}
def sIx (n d : Nat) : Option Int → Nat
  | none => d
  | some v => if v < 0 then (v + (n : Int)).toNat else min v.toNat n
end
end HT
namespace L2
open PySem PySem.Spec PyProof.Rows
abbrev TO := St → Hp → (Option Int → Hp → Prop) → Prop
def PO (X : Cx) (e : Option Expr) (t : TO) : Prop :=
  ∀ (pins : List (Addr × Obj)) (s : Shared) (σ : St) (H : Hp) (Q : Option Int → Hp → Prop), Inv X pins σ H s → t σ H Q →
    wpAny (model X.prog X.w) X.A (evalPart e X.env) (fun u s' => ∃ o H', Inv X pins σ H' s' ∧ IsPart u o ∧ Q o H') X.xe s
def tNoPart : TO := fun _ H Q => Q none H
def tPart (t : TE) : TO := fun σ H Q => t σ H fun x H1 => ∃ i, x = .int i ∧ Q (some i) H1
section
variable {X : Cx} {e : Expr} {te : TE} {lo hi : Option Expr} {tl th : TO} {pos p2 : Pos}
theorem po_none : PO X none tNoPart := by
  intro pins s σ H Q I h
  rw [evalPart_none]
  exact wpAny_pure ⟨none, H, I, .none, h⟩
theorem po_some (h : PE X e te) : PO X (some e) (tPart te) := by
  intro pins s σ H Q I hw
  rw [evalPart_some]
  refine thn (h pins s σ H _ I hw) fun u s1 ⟨x, H1, I1, r1, q1⟩ => ?_
  obtain ⟨i, rfl, q⟩ := q1
  obtain ⟨t, rfl⟩ := r1
  exact ⟨some i, H1, I1, .int i t, q⟩
def SlR (X : Cx) (r : V → Option Int → Option Int → Hp → VK → Prop) : Prop :=
  ∀ (pins : List (Addr × Obj)) (s : Shared) (σ : St) (H : Hp) (x : V) (v vl vu : Value) (lo hi : Option Int) (sl : Addr) (Q : VK), Inv X pins σ H s → RelV x v → s.heap.IsSliceOf sl vl vu .none → IsPart vl lo → IsPart vu hi → r x lo hi H Q →
    ∃ T id, typeLookup (.type T) "__getitem__" = pure (some (.builtin id)) ∧ s.TypeIs v T ∧ wpAny (model X.prog X.w) X.A (getItem v (.ref sl)) (EP X pins σ Q) X.xe s
def tSl (r : V → Option Int → Option Int → Hp → VK → Prop) (te : TE) (tl th : TO) : TE := fun σ H Q => te σ H fun x H1 => tl σ H1 fun l H2 => th σ H2 fun u H3 => r x l u H3 Q
theorem pe_slice {r : V → Option Int → Option Int → Hp → VK → Prop} (hr : SlR X r) (he : PE X e te) (hl : PO X lo tl) (hu : PO X hi th) : PE X (.Subscript e (.Slice lo hi none p2) pos) (tSl r te tl th) := by
  intro pins s σ H Q I h
  refine Subscript_ (thn (he pins s σ H _ I h) fun v s1 ⟨x, H1, I1, r1, q1⟩ => ?_)
  refine wpAny_Slice (thn (hl pins s1 σ H1 _ I1 q1) fun vl s2 ⟨l, H2, I2, pl, q2⟩ => thn (hu pins s2 σ H2 _ I2 q2) fun vu s3 ⟨u, H3, I3, pu, q3⟩ => ?_)
  rw [evalPart_none]
  refine wpAny_pure ?_
  have I4 : Inv X pins σ H3 { s3 with heap := s3.heap.push { cls := .type "slice", data := .fields #[vl, vu, .none] } } := I3.kept (t' := s3.toks) fun b ob q => Heap.get?_push_of_some _ q
  obtain ⟨T, id, hT, ht, hg⟩ := hr pins { s3 with heap := s3.heap.push { cls := .type "slice", data := .fields #[vl, vu, .none] } } σ H3 x v vl vu l u s3.heap.objs.size Q I4 r1 (Heap.IsSliceOf.new ..) pl pu q3
  show wpAny (model X.prog X.w) X.A (subscriptTail e (.Slice lo hi none p2) v (.ref s3.heap.objs.size)) (EP X pins σ Q) X.xe { s3 with heap := s3.heap.push { cls := .type "slice", data := .fields #[vl, vu, .none] } }
  exact tail_any (ops := [.ref s3.heap.objs.size, v]) ht hT hg (by with_unfolding_all rfl)
def cutV (xs : List V) (lo hi : Option Int) : List V := (xs.drop (HT.sIx xs.length 0 lo)).take (HT.sIx xs.length xs.length hi - HT.sIx xs.length 0 lo)
theorem cutV_length (xs : List V) (lo hi : Option Int) : (cutV xs lo hi).length ≤ xs.length := by
  unfold cutV
  rw [List.length_take, List.length_drop]
  omega
def rSlT (K : PySem.W.Frag) : V → Option Int → Option Int → Hp → VK → Prop := fun x lo hi H Q => ∃ a xs, x = .ref a ∧ SqT K H a xs ∧
  ¬ (HT.sIx xs.length 0 lo = 0 ∧ HT.sIx xs.length xs.length hi = xs.length) ∧ ∀ p, H p = none → Q (.ref p) (upd H p (.tup (cutV xs lo hi)))
def rLtT (K : PySem.W.Frag) : R2 := fun x y H Q => ∃ a b ns ms, x = .ref a ∧ y = .ref b ∧ SqT K H a (ns.map V.int) ∧ SqT K H b (ms.map V.int) ∧ Q (.bl (HT.lexLt ns ms)) H
def rCatT (K : PySem.W.Frag) : R2 := fun x y H Q => ∃ a b xs ys, x = .ref a ∧ y = .ref b ∧ SqT K H a xs ∧ SqT K H b ys ∧ xs ≠ [] ∧ xs.length + ys.length ≤ sizeLine ∧
  (ys = [] → Q (.ref a) H) ∧ (ys ≠ [] → ∀ p, H p = none → Q (.ref p) (upd H p (.tup (xs ++ ys))))
end
end L2
namespace L2
open PySem PySem.Spec PyProof.Rows
def ixN (n : Nat) (i : Int) : Option Nat := if 0 ≤ i then (if i < n then some i.toNat else none) else if -(n : Int) ≤ i then some (i + n).toNat else none
def atI {α : Type} (xs : List α) (i : Int) : Option α := (ixN xs.length i).bind fun j => xs[j]?
theorem ixN_seq {n : Nat} {i : Int} {j : Nat} (h : ixN n i = some j) : seqIndex? i n = some j ∧ j < n ∧ -(n : Int) ≤ i ∧ i < n := by
  unfold ixN at h
  by_cases h0 : 0 ≤ i
  · rw [if_pos h0] at h
    by_cases h1 : i < n
    · rw [if_pos h1] at h
      have e : i.toNat = j := Option.some.inj h
      exact ⟨by rw [seqIndex_of h0 h1, e], by omega, by omega, h1⟩
    · rw [if_neg h1] at h; cases h
  · rw [if_neg h0] at h
    by_cases h1 : -(n : Int) ≤ i
    · rw [if_pos h1] at h
      have e : (i + n).toNat = j := Option.some.inj h
      exact ⟨by rw [seqIndex_neg (by omega) h1, e], by omega, h1, by omega⟩
    · rw [if_neg h1] at h; cases h
theorem atI_get {α : Type} {xs : List α} {i : Int} {v : α} (h : atI xs i = some v) : ∃ j, seqIndex? i xs.length = some j ∧ xs[j]? = some v ∧ j < xs.length ∧ -(xs.length : Int) ≤ i ∧ i < xs.length := by
  unfold atI at h
  cases e : ixN xs.length i with
  | none => rw [e] at h; cases h
  | some j =>
    rw [e] at h
    obtain ⟨h1, h2, h3, h4⟩ := ixN_seq e
    exact ⟨j, h1, h, h2, h3, h4⟩
theorem atI_nat {α : Type} {xs : List α} {j : Nat} {v : α} (h : xs[j]? = some v) : atI xs (j : Int) = some v := by
  have hj : j < xs.length := (List.getElem?_eq_some_iff.mp h).1
  have e : ixN xs.length (j : Int) = some j := by
    unfold ixN
    rw [if_pos (by omega), if_pos (by omega)]; simp
  unfold atI; rw [e]; exact h
def PlainIx (b : Expr) : Prop := ∀ o i, subscripted b false o i = operate [o, i] (getItem o i)
def IxR (X : Cx) (r : R2) : Prop :=
  ∀ (value slice : Expr) (pins : List (Addr × Obj)) (s : Shared) (σ : St) (H : Hp) (x y : V) (v u : Value) (Q : VK), Inv X pins σ H s → RelV x v → RelV y u → r x y H Q →
    subscripted slice false v u = operate [v, u] (getItem v u) → wpAny (model X.prog X.w) X.A (subscriptTail value slice v u) (EP X pins σ Q) X.xe s
def MtR (X : Cx) (id : String) (r : V → List V → Hp → VK → Prop) : Prop :=
  ∀ (pins : List (Addr × Obj)) (s : Shared) (σ : St) (H : Hp) (x : V) (xs : List V) (v : Value) (us : List Value) (Q : VK), Inv X pins σ H s → RelV x v → Vals xs us → r x xs H Q →
    wpAny (model X.prog X.w) X.A (call (.builtin id) (v :: us)) (EP X pins σ Q) X.xe s
section
variable {X : Cx} {a b : Expr} {ta tb : TE} {pos : Pos}
theorem pe_ix {r : R2} (hr : IxR X r) (ha : PE X a ta) (hb : PE X b tb) (hs : PlainIx b) : PE X (.Subscript a b pos) (tOp r ta tb) := by
  intro pins s σ H Q I h
  exact Subscript_ (binT ha hb I h fun v u s2 x y H2 I2 rx ry q => hr a b pins s2 σ H2 x y v u Q I2 rx ry q (hs _ _))
def rIxL (K : PySem.W.Frag) : R2 := fun x y H Q => ∃ p xs i v, x = .ref p ∧ y = .int i ∧ SqL K H p xs ∧ atI xs i = some v ∧ Q v H
def rIxT (K : PySem.W.Frag) : R2 := fun x y H Q => ∃ p xs i v, x = .ref p ∧ y = .int i ∧ SqT K H p xs ∧ atI xs i = some v ∧ Q v H
def rIxS : R2 := fun x y H Q => ∃ z i c, x = .str z ∧ y = .int i ∧ z.length ≤ sizeLine ∧ atI z.cps.toList i = some c ∧ Q (.str ⟨#[c]⟩) H
theorem ix_list : IxR X (rIxL X.K) := by
  intro value slice pins s σ H x y v u Q I rx ry h hs
  obtain ⟨p, xs, i, z, rfl, rfl, hq, he, q⟩ := h
  cases rx
  obtain ⟨t, rfl⟩ := ry
  obtain ⟨its, r, pl, hz⟩ := I.list hq
  obtain ⟨j, h1, h2, h3, h4, h5⟩ := atI_get he
  obtain ⟨w, ew, rw'⟩ := r.get h2
  have hl := r.length
  have hn := line63
  have fin : EP X pins σ Q w s := ⟨z, H, I, rw', q⟩
  by_cases h0 : 0 ≤ i
  · have hj : i.toNat = j := by
      rw [seqIndex_of h0 h5] at h1
      exact Option.some.inj h1
    exact item_listR pl.isList h0 (by omega) (by rw [hj]; simpa using ew) fin hs
  · have hj : (i + (its.toArray.size : Int)).toNat = j := by
      rw [seqIndex_neg (by omega) h4] at h1
      rw [List.size_toArray, ← hl]
      exact Option.some.inj h1
    exact subscriptTail_builtinR (x := w) pl.isList.typeIs slot_list_getitem.lookup
      (wpAny_getItem_list_neg (Q := fun r s' => r = w ∧ EP X pins σ Q r s') pl.isList (by omega) (by rw [List.size_toArray] <;> omega) (by omega) (by rw [hj]; simpa using ew) ⟨rfl, fin⟩) hs
theorem ix_tup : IxR X (rIxT X.K) := by
  intro value slice pins s σ H x y v u Q I rx ry h hs
  obtain ⟨p, xs, i, z, rfl, rfl, hq, he, q⟩ := h
  cases rx
  obtain ⟨t, rfl⟩ := ry
  obtain ⟨its, r, pl, hz⟩ := I.tuple hq
  obtain ⟨j, h1, h2, h3, h4, h5⟩ := atI_get he
  obtain ⟨w, ew, rw'⟩ := r.get h2
  have hl := r.length
  have hn := line63
  have fin : EP X pins σ Q w s := ⟨z, H, I, rw', q⟩
  exact subscriptTail_builtinR (x := w) pl.typeIs slot_tuple_getitem.lookup
    (getItem_tuple (j := j) (Q := fun r s' => r = w ∧ EP X pins σ Q r s') pl (by omega) (by omega) (by rw [List.size_toArray, ← hl]; exact h1) (by simpa using ew) ⟨rfl, fin⟩) hs
theorem ix_str : IxR X rIxS := by
  intro value slice pins s σ H x y v u Q I rx ry h hs
  obtain ⟨z, i, c, rfl, rfl, hz, he, q⟩ := h
  obtain ⟨t, rfl⟩ := rx
  obtain ⟨t', rfl⟩ := ry
  obtain ⟨j, h1, h2, h3, h4, h5⟩ := atI_get he
  have hl : z.cps.toList.length = z.length := by simp [Str.length]
  rw [hl] at h1 h4 h5
  have hn := line63
  exact tail_any (typeIs_str s z t) slot_str_getitem.lookup (getItem_str (c := c) (by
    have e1 : decide (i < -(2 ^ 63 : Int)) = false := decide_eq_false (by omega)
    have e2 : decide (i ≥ 2 ^ 63) = false := decide_eq_false (by omega)
    rw [e1, e2, Bool.or_false]) (by rw [h1]; simpa using h2) ⟨.str ⟨#[c]⟩, H, I.tok _, ⟨_, rfl⟩, q⟩) hs
def rIx (K : PySem.W.Frag) : R2 := fun x y H Q => rIxL K x y H Q ∨ rIxT K x y H Q ∨ rIxS x y H Q
theorem mapSeq_set (its : List Value) (n j : Nat) (u : Value) : Obj.mapSeq (·.setIfInBounds j u) { cls := .type "list", data := .seq its.toArray n } = { cls := .type "list", data := .seq (its.set j u).toArray n } := by
  simp [Obj.mapSeq]
theorem Inv.lst {pins : List (Addr × Obj)} {σ : St} {H : Hp} {s : Shared} {p : Addr} {xs : List V} (I : Inv X pins σ H s) (h : H p = some (.lst xs)) :
    ∃ (its : List Value) (n : Nat), Vals xs its ∧ s.heap.get? p = some { cls := .type "list", data := .seq its.toArray n } ∧ xs.length ≤ sizeLine := by
  obtain ⟨z, its, n, r, e⟩ := I.hok p _ h
  exact ⟨its, n, r, e, z⟩
theorem Inv.lstUpd {pins : List (Addr × Obj)} {σ : St} {H : Hp} {s : Shared} {p : Addr} {xs ys : List V} {its its' : List Value} {n n' : Nat} {f : Obj → Obj} (I : Inv X pins σ H s) (h : H p = some (.lst xs))
    (ho : s.heap.get? p = some { cls := .type "list", data := .seq its.toArray n }) (hf : f { cls := .type "list", data := .seq its.toArray n } = { cls := .type "list", data := .seq its'.toArray n' }) (r : Vals ys its') (hz : ys.length ≤ sizeLine) (t : Nat) :
    Inv X pins σ (upd H p (.lst ys)) { s with heap := s.heap.update p f, toks := t } := by
  have e : (s.heap.update p f).get? p = some { cls := .type "list", data := .seq its'.toArray n' } := by
    rw [Heap.get?_update_self f ho (by rw [hf] <;> rfl), hf]
  refine I.write (x := p) (e := p) (by rw [h]; trivial) (.inl rfl) (fun b u hb q => (Heap.get?_update_other _ _ (Ne.symm hb)).trans q) ⟨_, e⟩ ?_
  exact ⟨hz, its', n', r, e⟩
def rSetL : V → V → V → Hp → (Hp → Prop) → Prop := fun o i v H Q => ∃ p xs k j, o = .ref p ∧ i = .int k ∧ H p = some (.lst xs) ∧ ixN xs.length k = some j ∧ Q (upd H p (.lst (xs.set j v)))
theorem set_list : PSet X rSetL := by
  intro pins s σ H o i v ov iv u Q I ro ri rv h
  obtain ⟨p, xs, k, j, rfl, rfl, hp, hj, q⟩ := h
  cases ro
  obtain ⟨t, rfl⟩ := ri
  obtain ⟨its, n, r, ho, hz⟩ := I.lst hp
  obtain ⟨h1, h2, h3, h4⟩ := ixN_seq hj
  have hl := r.length
  have hn := line63
  have I' : Inv X pins σ (upd H p (.lst (xs.set j v))) { s with heap := s.heap.update p (Obj.mapSeq (·.setIfInBounds j u)) } :=
    I.lstUpd hp ho (mapSeq_set its n j u) (r.set rv j) (by rw [List.length_set]; exact hz) s.toks
  by_cases h0 : 0 ≤ k
  · have hk : k.toNat = j := by
      rw [seqIndex_of h0 h4] at h1
      exact Option.some.inj h1
    exact PySem.W.ki_setAt ho h0 (by omega) (by rw [List.size_toArray, ← hl]; exact h4) (by rw [hk]; exact ⟨_, I', q⟩)
  · have hk : (k + (its.toArray.size : Int)).toNat = j := by
      rw [seqIndex_neg (by omega) h3] at h1
      rw [List.size_toArray, ← hl]
      exact Option.some.inj h1
    exact PySem.W.ki_setBack ho (by omega) (by rw [List.size_toArray, ← hl]; exact h3) (by omega) (by rw [hk]; exact ⟨_, I', q⟩)
theorem slice_bounds (lo hi : Option Int) (n : Nat) : (sliceBounds lo hi none n).1 = ((HT.sIx n 0 lo : Nat) : Int) ∧ (sliceBounds lo hi none n).2.1 = ((HT.sIx n n hi : Nat) : Int) ∧ (sliceBounds lo hi none n).2.2 = 1 := by
  refine ⟨?_, ?_, rfl⟩
  · cases lo with
    | none => simp [sliceBounds, HT.sIx]
    | some i =>
      simp only [sliceBounds, HT.sIx, Option.getD_none, show (1 : Int) > 0 by decide, if_true]
      by_cases h : i < 0
      · simp only [h, if_true] <;> omega
      · simp only [h, if_false] <;> omega
  · cases hi with
    | none => simp [sliceBounds, HT.sIx]
    | some i =>
      simp only [sliceBounds, HT.sIx, Option.getD_none, show (1 : Int) > 0 by decide, if_true]
      by_cases h : i < 0
      · simp only [h, if_true] <;> omega
      · simp only [h, if_false] <;> omega
theorem slicePick_cut (its : List Value) (lo hi : Option Int) : slicePick its.toArray lo hi none = ((its.drop (HT.sIx its.length 0 lo)).take (HT.sIx its.length its.length hi - HT.sIx its.length 0 lo)).toArray := by
  obtain ⟨h1, h2, h3⟩ := slice_bounds lo hi its.toArray.size
  unfold slicePick
  rw [h1, h2, h3]
  simp only [sliceRange_one, pick_run, List.size_toArray] <;> rfl
def rSlL (K : PySem.W.Frag) : V → Option Int → Option Int → Hp → VK → Prop := fun x lo hi H Q => ∃ a xs, x = .ref a ∧ SqL K H a xs ∧ ∀ p, H p = none → Q (.ref p) (upd H p (.lst (cutV xs lo hi)))
theorem sl_list : SlR X (rSlL X.K) := by
  intro pins s σ H x v vl vu lo hi sl Q I rx hs pl pu h
  obtain ⟨a, xs, rfl, hx, q⟩ := h
  cases rx
  obtain ⟨its, r, ht, hz⟩ := I.list hx
  have hlen := r.length
  refine ⟨"list", _, slot_list_getitem.lookup, ht.isList.typeIs, ?_⟩
  refine wpAny_getItem_list_slice ht.isList hs pl pu .none (by simp) ?_ (by rw [List.size_toArray] <;> omega)
  rw [slicePick_cut, ← hlen]
  refine ⟨.ref s.heap.objs.size, _, I.laid (t' := s.toks) (o := .lst (cutV xs lo hi)) (fun b ob q => Heap.get?_push_of_some _ q) (Nat.le_refl _) ?_, rfl, q _ (I.hok.fresh (Nat.le_refl _))⟩
  exact ⟨Nat.le_trans (cutV_length xs lo hi) hz, _, 0, (r.drop (HT.sIx xs.length 0 lo)).take (HT.sIx xs.length xs.length hi - HT.sIx xs.length 0 lo), Heap.get?_push_size _ rfl⟩
def flatV : V → Bool
  | .non => true
  | .bl _ => true
  | .int _ => true
  | .str _ => true
  | _ => false
def eqV : V → V → Bool
  | .non, .non => true
  | .bl a, .bl b => a == b
  | .bl a, .int b => (if a then 1 else 0) == b
  | .int a, .bl b => a == (if b then 1 else 0)
  | .int a, .int b => a == b
  | .str a, .str b => a == b
  | _, _ => false
theorem eqAt_V {A : Around} {s : Shared} {y x : V} {u v : Value} (ry : RelV y u) (rx : RelV x v) (fy : flatV y = true) (fx : flatV x = true) : SeqAt.EqAt A s u v (eqV y x) := by
  cases y with
  | non =>
    cases ry
    cases x with
    | non => cases rx; exact SeqAt.EqAt.same _
    | bl b => cases rx; exact SeqAt.EqAt.none_bool b
    | int b => obtain ⟨t, rfl⟩ := rx; exact SeqAt.EqAt.none_int b t
    | str b => obtain ⟨t, rfl⟩ := rx; exact SeqAt.EqAt.none_str b t
    | _ => exact absurd (show false = true from fx) Bool.false_ne_true
  | bl a =>
    cases ry
    cases x with
    | non => cases rx; exact SeqAt.EqAt.bool_none a
    | bl b => cases rx; exact SeqAt.EqAt.bool_bool a b
    | int b => obtain ⟨t, rfl⟩ := rx; exact SeqAt.EqAt.bool_int a b t
    | str b => obtain ⟨t, rfl⟩ := rx; exact SeqAt.EqAt.bool_str a b t
    | _ => exact absurd (show false = true from fx) Bool.false_ne_true
  | int a =>
    obtain ⟨t', rfl⟩ := ry
    cases x with
    | non => cases rx; exact SeqAt.EqAt.int_none a t'
    | bl b => cases rx; exact SeqAt.EqAt.int_bool a t' b
    | int b => obtain ⟨t, rfl⟩ := rx; exact SeqAt.EqAt.int_int a t' b t
    | str b => obtain ⟨t, rfl⟩ := rx; exact SeqAt.EqAt.int_str a t' b t
    | _ => exact absurd (show false = true from fx) Bool.false_ne_true
  | str a =>
    obtain ⟨t', rfl⟩ := ry
    cases x with
    | non => cases rx; exact SeqAt.EqAt.str_none a t'
    | bl b => cases rx; exact SeqAt.EqAt.str_bool a t' b
    | int b => obtain ⟨t, rfl⟩ := rx; exact SeqAt.EqAt.str_int a t' b t
    | str b => obtain ⟨t, rfl⟩ := rx; exact SeqAt.EqAt.str_str a t' b t
    | _ => exact absurd (show false = true from fx) Bool.false_ne_true
  | _ => exact absurd (show false = true from fy) Bool.false_ne_true
def eqU (x : V) (u : Value) : Bool := match u with
  | .none => eqV .non x
  | .bool b => eqV (.bl b) x
  | .int i _ => eqV (.int i) x
  | .str z _ => eqV (.str z) x
  | _ => false
theorem eqU_of {x y : V} {u : Value} (r : RelV y u) (f : flatV y = true) : eqU x u = eqV y x := by
  cases y with
  | non => cases r; rfl
  | bl b => cases r; rfl
  | int i => obtain ⟨t, rfl⟩ := r; rfl
  | str z => obtain ⟨t, rfl⟩ := r; rfl
  | _ => exact absurd (show false = true from f) Bool.false_ne_true
theorem any_eqU {x : V} : ∀ {xs : List V} {us : List Value}, Vals xs us → xs.all flatV = true → us.any (eqU x) = xs.any fun y => eqV y x
  | _, _, .nil, _ => rfl
  | y :: xs, u :: us, .cons r t, f => by
    rw [List.all_cons, Bool.and_eq_true] at f
    rw [List.any_cons, List.any_cons, eqU_of r f.1, any_eqU t f.2]
theorem mem_eqAt {A : Around} {s : Shared} {x : V} {v : Value} (rx : RelV x v) (fx : flatV x = true) : ∀ {xs : List V} {us : List Value}, Vals xs us → xs.all flatV = true → ∀ u ∈ us, SeqAt.EqAt A s u v (eqU x u)
  | _, _, .nil, _ => fun u hu => by cases hu
  | y :: xs, u :: us, .cons r t, f => fun u' hu => by
    rw [List.all_cons, Bool.and_eq_true] at f
    rcases List.mem_cons.mp hu with rfl | hu
    · rw [eqU_of r f.1]; exact eqAt_V r rx f.1 fx
    · exact mem_eqAt rx fx t f.2 u' hu
def inV (x : V) (xs : List V) : Bool := xs.any fun y => eqV y x
def rIn (K : PySem.W.Frag) (neg : Bool) : R2 := fun x y H Q => ∃ p xs, y = .ref p ∧ (SqL K H p xs ∨ SqT K H p xs) ∧ flatV x = true ∧ xs.all flatV = true ∧ Q (.bl (if neg then !inV x xs else inV x xs)) H
theorem op_in_seq : OpR X (compareOp .In) (rIn X.K false) := by
  intro pins s σ H x y v u Q I rx ry h
  obtain ⟨p, xs, rfl, hq, fx, fs, q⟩ := h
  cases ry
  rcases hq with hq | hq
  · obtain ⟨its, r, pl, hz⟩ := I.list hq
    refine SeqAt.in_listAt (eqU x) pl.isList (fun w hw => mem_eqAt rx fx r fs w (by simpa using hw)) ⟨.bl _, H, I, rfl, ?_⟩
    rw [show its.toArray.any (eqU x) = its.any (eqU x) by simp, any_eqU r fs]
    exact q
  · obtain ⟨its, r, pl, hz⟩ := I.tuple hq
    refine SeqAt.in_tupleAt (eqU x) pl (fun w hw => mem_eqAt rx fx r fs w (by simpa using hw)) ⟨.bl _, H, I, rfl, ?_⟩
    rw [show its.toArray.any (eqU x) = its.any (eqU x) by simp, any_eqU r fs]
    exact q
theorem call_len_seq : CallR X (.builtin "len") (fun xs H Q => ∃ p ys, xs = [.ref p] ∧ (SqL X.K H p ys ∨ SqT X.K H p ys) ∧ Q (.int ys.length) H) := by
  intro pins s σ H xs us Q I r h
  obtain ⟨p, ys, rfl, hq, q⟩ := h
  obtain ⟨u, rfl, rx⟩ := vals1 r
  cases rx
  have hn := line63
  rcases hq with hq | hq
  · obtain ⟨its, r', pl, hz⟩ := I.list hq
    have hlen := r'.length
    exact Calls.call_len_list pl.isList (by simp only [List.size_toArray] <;> omega) ⟨.int ys.length, H, I.tok _, ⟨s.toks + 1, by rw [List.size_toArray, hlen]⟩, q⟩
  · obtain ⟨its, r', pl, hz⟩ := I.tuple hq
    have hlen := r'.length
    exact len_tuple pl (by simp only [List.size_toArray] <;> omega) ⟨.int ys.length, H, I.tok _, ⟨s.toks + 1, by rw [List.size_toArray, hlen]⟩, q⟩
theorem call_len_str : CallR X (.builtin "len") (fun xs H Q => ∃ z, xs = [.str z] ∧ z.length ≤ sizeLine ∧ Q (.int z.length) H) := by
  intro pins s σ H xs us Q I r h
  obtain ⟨z, rfl, hz, q⟩ := h
  obtain ⟨u, rfl, t, rfl⟩ := vals1 r
  have hn := line63
  exact len_str (by omega) ⟨.int z.length, H, I.tok _, ⟨_, rfl⟩, q⟩
def tyV (K : PySem.W.Frag) (T : String) (x : V) (H : Hp) : Prop := match x with
  | .str _ => T = "str"
  | .int _ => T = "int"
  | .ref p => (T = "list" ∧ ∃ xs, SqL K H p xs) ∨ (T = "tuple" ∧ ∃ o, K.lookup p = some o ∧ o.cls = .type "tuple" ∧ o.dict = none) ∨
      (T = "dict" ∧ ((∃ kvs, H p = some (.dK kvs)) ∨ ∃ kvs, H p = some (.dT kvs))) ∨ (T = "set" ∧ ∃ S n, H p = some (.set S n))
  | _ => False
theorem tyV_is {pins : List (Addr × Obj)} {σ : St} {H : Hp} {s : Shared} {T : String} {x : V} {v : Value} (I : Inv X pins σ H s) (r : RelV x v) (ty : tyV X.K T x H) :
    s.TypeIs v T ∧ ∀ a, v = .ref a → ∃ ob, s.heap.get? a = some ob ∧ ob.dict = none := by
  cases x with
  | str z =>
    obtain ⟨t, rfl⟩ := r
    cases (show T = "str" from ty)
    exact ⟨typeIs_str s z t, fun _ e => nomatch e⟩
  | int i =>
    obtain ⟨t, rfl⟩ := r
    cases (show T = "int" from ty)
    exact ⟨typeIs_int s i t, fun _ e => nomatch e⟩
  | ref p =>
    cases r
    rcases ty with ⟨rfl, xs, hq⟩ | ⟨rfl, o, hk, hc, hd⟩ | ⟨rfl, hk⟩ | ⟨rfl, S, n, hk⟩
    · obtain ⟨its, _, pl, _⟩ := I.list hq
      refine ⟨pl.isList.typeIs, fun a e => ?_⟩
      cases e
      obtain ⟨o, n, e, c, hd, _⟩ := pl
      exact ⟨o, e, hd⟩
    · refine ⟨⟨o, I.kIn p o hk, hc⟩, fun a e => ?_⟩
      cases e
      exact ⟨o, I.kIn _ o hk, hd⟩
    · have z : ∃ o, s.heap.get? p = some o ∧ o.ExactDict := by
        rcases hk with ⟨kvs, hk⟩ | ⟨kvs, hk⟩
        · obtain ⟨_, _, _, _, o, _, _, e, ex, _⟩ := I.hok p _ hk
          exact ⟨o, e, ex⟩
        · obtain ⟨_, _, _, _, o, _, _, e, ex, _⟩ := I.hok p _ hk
          exact ⟨o, e, ex⟩
      obtain ⟨o, e, ex⟩ := z
      refine ⟨⟨o, e, ex.1⟩, fun a e2 => ?_⟩
      cases e2
      exact ⟨o, e, ex.2.1⟩
    · obtain ⟨o, _, _, _, e, ex, _⟩ := I.hok p _ hk
      refine ⟨⟨o, e, ex.1⟩, fun a e2 => ?_⟩
      cases e2
      exact ⟨o, e, ex.2.1⟩
  | _ => exact False.elim ty
def tBM0 (K : PySem.W.Frag) (T : String) (r : V → List V → Hp → VK → Prop) (to : TE) : TE := fun σ H Q => to σ H fun x H1 => tyV K T x H1 ∧ r x [] H1 Q
def tBM (K : PySem.W.Frag) (T : String) (r : V → List V → Hp → VK → Prop) (to : TE) (t : TA) : TE := fun σ H Q => to σ H fun x H1 => tyV K T x H1 ∧ t σ H1 fun xs H2 => r x xs H2 Q
variable {o e : Expr} {es : List Expr} {to : TE} {t : TA} {name : Str} {apos cpos : Pos} {T id : String} {r : V → List V → Hp → VK → Prop}
theorem pe_bm (pa : PlainAttrs T) (slot : Slot T name id) (hty : typeOf (.builtin id) = pure (.type "method_descriptor")) (hm : MtR X id r) (ho : PE X o to) (ha : PA X (e :: es) t)
    (hbase : attributeBase o name X.env (eval o X.env) = eval o X.env := by rfl)
    (hfew : ((backTo cpos (starEach (e :: es) X.env)).all (fun x => !x.1) && (backToKw cpos (keywordEach [] X.env)).all (fun x => x.1.isSome)
      && decide ((e :: es).length + ([] : List Keyword).length + (if ([] : List Keyword).isEmpty then 0 else 1) < 30)) = true := by rfl)
    (hline : (apos.endLine == cpos.line) = true := by rfl) (hs : starEach (e :: es) X.env = (false, eval e X.env) :: starEach es X.env := by rfl) (hplain : (backTo cpos (starEach es X.env)).any (·.1) = false := by rfl) :
    PE X (.Call (.Attribute o name apos) (e :: es) [] cpos) (tBM X.K T r to t) := by
  intro pins s σ H Q I h
  refine wpAny_Call_method_late hbase hfew hline rfl (thn (ho pins s σ H _ I h) fun v s1 ⟨x, H1, I1, r1, ty, q1⟩ => ?_)
  obtain ⟨h1, h2⟩ := tyV_is I1 r1 ty
  refine ⟨T, id, pa, slot, hty, h1, h2, ?_⟩
  have hA := ha cpos pins s1 σ H1 _ I1 q1
  rw [hs] at hA ⊢
  refine Calls.callWith_builtin (by show (false || (backTo cpos (starEach es X.env)).any (·.1)) = false; rw [hplain] <;> rfl) (Calls.evalArgs_plain ?_)
  exact thn hA fun us s2 ⟨vs, H2, I2, r2, q2⟩ => hm pins s2 σ H2 x vs v us Q I2 r1 r2 q2
end
end L2
namespace L2
open PySem PySem.Spec PyProof.Rows
def MtM (X : Cx) (id : String) (r : V → List V → Hp → VK → Prop) : Prop :=
  ∀ (pins : List (Addr × Obj)) (s : Shared) (σ : St) (H : Hp) (x : V) (xs : List V) (v : Value) (us : List Value) (Q : VK), Inv X pins σ H s → RelV x v → Vals xs us → r x xs H Q →
    wpAny (model X.prog X.w) X.A (call (.builtin id) (v :: us)) (EP X pins σ Q) X.xe s
theorem Vals.one : ∀ {x : V} {us : List Value}, Vals [x] us → ∃ u, us = [u] ∧ RelV x u
  | _, _, .cons r .nil => ⟨_, rfl, r⟩
theorem Vals.rep {xs : List V} {us : List Value} (h : Vals xs us) : ∀ k : Nat, Vals (List.replicate k xs).flatten (List.replicate k us).flatten
  | 0 => .nil
  | k + 1 => by
    rw [List.replicate_succ, List.replicate_succ, List.flatten_cons, List.flatten_cons]
    exact Vals.append h (Vals.rep h k)
theorem foldl_rep (its : List Value) : ∀ (k : Nat) (acc : List Value),
    List.foldl (fun x1 x2 => x1 ++ x2) acc.toArray (List.replicate k its.toArray) = (acc ++ (List.replicate k its).flatten).toArray
  | 0, acc => by simp
  | k + 1, acc => by
    have e : acc.toArray ++ its.toArray = (acc ++ its).toArray := by simp
    have e2 : (acc ++ its) ++ (List.replicate k its).flatten = acc ++ (List.replicate (k + 1) its).flatten := by
      rw [List.replicate_succ, List.flatten_cons, List.append_assoc]
    rw [← e2, ← foldl_rep its k (acc ++ its), ← e, List.replicate_succ, List.foldl_cons]
section
variable {X : Cx} {pins : List (Addr × Obj)} {σ : St} {H : Hp} {s : Shared} {l b : Addr} {xs ys zs : List V}
theorem Inv.lset {its its' : List Value} {n : Nat} {f : Array Value → Array Value} {t' : Nat} (I : Inv X pins σ H s) (hH : H l = some (.lst xs))
    (e : s.heap.get? l = some { cls := .type "list", data := .seq its.toArray n }) (hf : f its.toArray = its'.toArray) (hv : Vals ys its') (hz : ys.length ≤ sizeLine) :
    Inv X pins σ (upd H l (.lst ys)) { s with heap := s.heap.update l (Obj.mapSeq f), toks := t' } := by
  have q := PySem.IsL.update e f
  rw [hf] at q
  refine I.write (x := l) (e := l) (by rw [hH]; exact trivial) (.inl rfl) (fun b' u hb hu => (Heap.get?_update_other s.heap (Obj.mapSeq f) (Ne.symm hb)).trans hu) ⟨_, q⟩ ?_
  exact ⟨hz, its', _, hv, q⟩
theorem Inv.lnew {its : List Value} {t' : Nat} (I : Inv X pins σ H s) (hv : Vals ys its) (hz : ys.length ≤ sizeLine) :
    Inv X pins σ (upd H s.heap.objs.size (.lst ys)) { s with heap := s.heap.push { cls := .type "list", data := .seq its.toArray }, toks := t' } :=
  I.laid (fun _ _ q => Heap.get?_push_of_some _ q) (Nat.le_refl _) ⟨hz, its, 0, hv, Heap.get?_push_size _ rfl⟩
theorem Inv.fresh (I : Inv X pins σ H s) : H s.heap.objs.size = none := I.hok.fresh (Nat.le_refl _)
theorem Inv.lstM (I : Inv X pins σ H s) (hH : H l = some (.lst xs)) : xs.length ≤ sizeLine ∧ ∃ (its : List Value) (n : Nat), Vals xs its ∧ xs.length = its.length ∧ s.heap.get? l = some { cls := .type "list", data := .seq its.toArray n } := by
  obtain ⟨z, its, n, r, e⟩ := I.hok l _ hH
  exact ⟨z, its, n, r, r.length, e⟩
theorem notLongL {n : Nat} (h : n ≤ sizeLine) : Builtin.List.listTooLong n = false := by
  unfold Builtin.List.listTooLong
  exact decide_eq_false (by omega)
end
section
variable {X : Cx}
def rAppend : V → List V → Hp → VK → Prop := fun x vs H Q => ∃ l xs y, x = .ref l ∧ vs = [y] ∧ H l = some (.lst xs) ∧ xs.length < sizeLine ∧ Q .non (upd H l (.lst (xs ++ [y])))
theorem mt_append : MtM X "list.append" rAppend := by
  intro pins s σ H x vs v us Q I rx rv h
  obtain ⟨l, xs, y, rfl, rfl, hH, hz, q⟩ := h
  cases rx
  obtain ⟨u, rfl, ru⟩ := rv.one
  obtain ⟨z, its, n, r, hl, e⟩ := I.lstM hH
  refine call_meets F.slot_list_append ⟨_, e, rfl⟩ F.entry_list_append (F.args_list_append_2 _ _) (PySem.list_append l its.toArray n u (by rw [List.size_toArray]; omega)) ⟨e, ?_⟩
  refine ⟨.non, _, I.lset (its' := its ++ [u]) hH e (by simp) (r.append (.cons ru .nil)) ?_, rfl, q⟩
  rw [List.length_append, List.length_singleton]
  omega
def rExtend : V → List V → Hp → VK → Prop := fun x vs H Q => ∃ l b xs zs, x = .ref l ∧ vs = [.ref b] ∧ H l = some (.lst xs) ∧ H b = some (.lst zs) ∧ xs.length + zs.length ≤ sizeLine ∧ Q .non (upd H l (.lst (xs ++ zs)))
def rPop : V → List V → Hp → VK → Prop := fun x vs H Q => ∃ l xs y, x = .ref l ∧ vs = [] ∧ H l = some (.lst xs) ∧ xs[xs.length - 1]? = some y ∧ Q y (upd H l (.lst xs.dropLast))
def rPopAt : V → List V → Hp → VK → Prop := fun x vs H Q => ∃ l xs i k y, x = .ref l ∧ vs = [.int i] ∧ H l = some (.lst xs) ∧ -(2 ^ 63) ≤ i ∧ i < 2 ^ 63 ∧ seqIndex? i xs.length = some k ∧ xs[k]? = some y ∧ Q y (upd H l (.lst (xs.eraseIdx k)))
def rReverse : V → List V → Hp → VK → Prop := fun x vs H Q => ∃ l xs, x = .ref l ∧ vs = [] ∧ H l = some (.lst xs) ∧ Q .non (upd H l (.lst xs.reverse))
def rClear : V → List V → Hp → VK → Prop := fun x vs H Q => ∃ l xs, x = .ref l ∧ vs = [] ∧ H l = some (.lst xs) ∧ Q .non (upd H l (.lst []))
def rCat : R2 := fun x y H Q => ∃ l b xs zs, x = .ref l ∧ y = .ref b ∧ H l = some (.lst xs) ∧ H b = some (.lst zs) ∧ xs.length + zs.length ≤ sizeLine ∧ ∀ p, H p = none → Q (.ref p) (upd H p (.lst (xs ++ zs)))
theorem op_cat : OpR X (binaryOp .Add) rCat := by
  intro pins s σ H x y v u Q I rx ry h
  obtain ⟨l, b, xs, zs, rfl, rfl, hH, hB, hz, q⟩ := h
  cases rx
  cases ry
  obtain ⟨z, its, n, r, hl, e⟩ := I.lstM hH
  obtain ⟨z2, its2, n2, r2, hl2, e2⟩ := I.lstM hB
  refine PySem.P.add_list e e2 ?_ (by rw [List.size_toArray, List.size_toArray]; omega)
  have ea : its.toArray ++ its2.toArray = (its ++ its2).toArray := by simp
  rw [ea]
  exact ⟨.ref _, _, I.lnew (t' := s.toks) (r.append r2) (by rw [List.length_append]; omega), rfl, q _ I.fresh⟩
def rRep : R2 := fun x y H Q => ∃ l k xs, x = .ref l ∧ y = .int k ∧ H l = some (.lst xs) ∧ -(2 ^ 63) ≤ k ∧ k < 2 ^ 63 ∧ xs.length * k.toNat ≤ sizeLine ∧
  ∀ p, H p = none → Q (.ref p) (upd H p (.lst (List.replicate k.toNat xs).flatten))
theorem len_rep {α : Type} (xs : List α) (k : Nat) : (List.replicate k xs).flatten.length = k * xs.length := by
  induction k with
  | zero => simp
  | succ k ih => rw [List.replicate_succ, List.flatten_cons, List.length_append, ih, Nat.succ_mul, Nat.add_comm]
theorem op_rep : OpR X (binaryOp .Mult) rRep := by
  intro pins s σ H x y v u Q I rx ry h
  obtain ⟨l, k, xs, rfl, rfl, hH, h1, h2, hz, q⟩ := h
  cases rx
  obtain ⟨t, rfl⟩ := ry
  obtain ⟨z, its, n, r, hl, e⟩ := I.lstM hH
  have hlen : its.toArray.size * k.toNat ≤ sizeLine := by rw [List.size_toArray, ← hl]; exact hz
  have hcap : ¬ its.toArray.size * k.toNat > (2 ^ 63 - 1) / 8 := by
    have : (sizeLine : Nat) ≤ (2 ^ 63 - 1) / 8 := by decide
    omega
  have hfit : ¬ (!Builtin.List.listFitsIndex k) = true := by
    rw [fitsIndex_both h1 h2]
    exact Bool.false_ne_true
  have hlong : ¬ Builtin.List.listTooLong (its.toArray.size * k.toNat) = true := by
    rw [notLongL hlen]
    exact Bool.false_ne_true
  have hnew : List.foldl (fun x1 x2 => x1 ++ x2) #[] (List.replicate (if its.toArray.isEmpty = true then 0 else k.toNat) its.toArray) = (List.replicate k.toNat its).flatten.toArray := by
    have f0 : ∀ m : Nat, List.foldl (fun x1 x2 => x1 ++ x2) #[] (List.replicate m its.toArray) = (List.replicate m its).flatten.toArray := fun m => by
      have := foldl_rep its m []
      rw [List.nil_append] at this
      exact this
    rw [f0]
    cases its with
    | nil => simp
    | cons a r' => rw [if_neg (by simp)]
  refine wpAny_binaryOp_repeat_ref (T := "list") (U := "int") (by decide) ⟨_, e, rfl⟩ (fun s' => typeIs_int s' k t) noFill_list_mul F.fills_int_mul F.slot_int_rmul repeat_list F.slot_int_index.lookup
    (call_meets F.slot_int_rmul (typeIs_int s k t) F.entry_int_rmul (F.args_int_rmul_2 _ _) (int___rmul___int_list k t l its.toArray n)
      ⟨e, rfl, ⟨_, e, rfl⟩, call_meets F.slot_list_mul ⟨_, e, rfl⟩ F.entry_list_mul (F.args_list_mul_2 _ _) (AutoListH.list___mul___list_int_3 l its.toArray n k t hfit hcap hlong) ⟨e, ?_⟩⟩)
  rw [hnew]
  exact ⟨.ref _, _, I.lnew (t' := s.toks) (r.rep k.toNat) (by rw [len_rep, Nat.mul_comm]; exact hz), rfl, q _ I.fresh⟩
end
section
variable {prog : Program} {w : World} {A : Around} {E : Value → Shared → Prop} {s : Shared}
set_option maxRecDepth 100000 in
end
section
variable {X : Cx}
end
end L2
namespace Att
open PySem PySem.W PySem.Calls PyProof.Rows
theorem ints_of_wellAll {P : Params} {h : Heap} : ∀ (ns : List Int) (vs : List Value), WellAll P h vs (ns.map WData.int) → IntsAre vs ns := by
  intro ns
  induction ns with
  | nil =>
    intro vs w
    rw [List.map_nil] at w
    cases w
    exact .nil
  | cons n ns ih =>
    intro vs w
    rw [List.map_cons] at w
    cases w with
    | cons a b =>
      cases a
      exact .cons _ _ (ih _ b)
theorem script_of {l : OpenLaw} {n : Nat} (hn : l.most = some n) {P : Params} {h : Heap} {args : List WData} {vals : List Value}
    (hpre : l.row.toRowW.claim.pre args = true) (hwl : WellAll P h vals args) :
    ∃ a vs ns, vals = [Value.ref a] ∧ args = [WData.list (ns.map WData.int)] ∧ h.get? a = some { cls := .type "list", data := .seq vs.toArray } ∧ IntsAre vs ns ∧ ns.length ≤ n := by
  have hsh : WShape.hasAll [] args [.list .int] = true := (pre_splitW hpre).1
  have hc : l.pre.holds [] { args := args } = true := (pre_splitW hpre).2
  obtain ⟨d, r, rfl, h1, h2⟩ := hasAllW_cons hsh
  obtain rfl := hasAllW_nil h2
  obtain ⟨xs, rfl, h3⟩ := hasW_list h1
  obtain ⟨ns, rfl⟩ := items_int h3
  have hlen : ns.length ≤ n := by
    unfold OpenLaw.pre at hc
    have h4 : (WTm.not (.lt (.lit (.int (n : Int))) (.len (.arg 0)))).holds [] { args := [.list (ns.map .int)] } = true := by
      have h4 := (holds_andW hc).1
      rw [hn] at h4
      exact h4
    have h5 := condW_of h4 (w_not (w_lt w_lit (w_len_list (w_arg rfl))))
    rw [List.length_map] at h5
    refine Nat.le_of_not_lt fun q => ?_
    have q' : (n : Int) < ((ns.length : Nat) : Int) := by omega
    first
      | (rw [decide_eq_true q'] at h5; exact absurd h5 (by decide))
      | (simp at h5; omega)
  cases hwl with
  | cons w1 w2 =>
    cases w2
    cases w1 with
    | list ho hall => exact ⟨_, _, ns, rfl, rfl, ho, ints_of_wellAll ns _ hall, hlen⟩
theorem post_true (l : OpenLaw) (args : List WData) : l.row.toRowW.claim.post args (.bool true) args = true :=
  postW_of (r := l.row.toRowW) (X := (true == true))
    (show WShape.has [] (.bool true) .bool = true by first | rfl | decide | simp [WShape.has, WShape.arms, WShape.armsAll])
    (show (WTm.eq .res (.lit (.bool true))).value [] { args := args, res := some (.bool true), after := args } = some (.bool (true == true)) from w_eq_bool (w_res rfl) w_lit) rfl
theorem attach_call {l : OpenLaw} {n : Nat} {q : Program} {loose : List Str} {XP : (Str → Option Value) → Heap → Prop} {YP : World → Heap → Prop} {d : DefRec}
    (hn : l.most = some n) (hdf : d.params.defaults = [])
    (call : ∀ (w : World) (s₀ s₁ : Shared) (mg mb : Str → Option Value) (fa : Addr) (o : Obj) (pm cd doc : Value) (a : Addr) (vs : List Value) (ns : List Int),
      Ground q loose [] XP w s₀ mg mb s₁.heap → YP w s₁.heap →
      s₁.heap.get? fa = some o → o.data = .func (docDef d.name d.params d.body d.scope pm cd doc) → s₁.heap.CodeRec cd d.name → mg d.name = some (.ref fa) →
      s₁.heap.get? a = some { cls := .type "list", data := .seq vs.toArray } → IntsAre vs ns → ns.length ≤ n → s₁.gens = #[] →
      codeAny (model l.prog w) callerA (.call (.ref fa) ⟨[.ref a], []⟩) (fun r s' => r = .ok (.ret (.bool true)) ∧ OldK s₁.heap s'.heap ∧ s'.os = s₁.os ∧ AllBare s'.gens) s₁) :
    WalkO q loose XP YP l.row.toRowW d [] (fun f vs => PySem.call f vs) := by
  intro w s₀ s₁ mg mb G Y fa o pm cd doc dV kV ho hd hcd hD hmg hg args vals as hpre hlay hrd hwl hlo
  obtain rfl : dV = .none := Dflts.none hD hdf
  obtain rfl : kV = .none := Dflts.noKw hD
  obtain ⟨a, vs, ns, rfl, rfl, hobj, hints, hlen⟩ := script_of hn hpre hwl
  refine enter_call (codeAny_mono (call w s₀ s₁ mg mb fa o pm cd doc a vs ns G Y ho (fd_plain hd) hcd hmg hobj hints hlen hg) fun r s' hq => ?_)
  obtain ⟨rfl, h2, h3, h4⟩ := hq
  exact ⟨.inl ⟨.bool true, .bool true, [], rfl, fun _ => rfl, .bool true, post_true l _, fun _ => ⟨List.Pairwise.nil, fun _ hm => (nomatch hm)⟩⟩, h2, h3, h4⟩
section
variable {prog : Program} {w : World} {A : Around} {E : Value → Shared → Prop} {s : Shared} {K : Frag}
def noObjs (h : Heap) : Heap := { h with objs := #[] }
def ledger (h : Heap) (L d : Addr) : List (Addr × Obj) := (List.range h.objs.size).filterMap fun a => if a = L ∨ a = d then none else (h.get? a).map fun o => (a, o)
end
end Att
namespace L2
open PySem PySem.Spec PyProof.Rows
theorem vals_ints : ∀ {vs : List Value} {ns : List Int}, IntsAre vs ns → Vals (ns.map V.int) vs
  | _, _, .nil => .nil
  | _, _, .cons n t h => .cons ⟨t, rfl⟩ (vals_ints h)
def Only (H : Hp) : Prop := ∀ b, H b = none ∨ ∃ o xs, H b = some (.frz o (.lst xs))
theorem law_call {P : Program} {w : World} {K : PySem.W.Frag} {mg mb : Str → Option Value} {CX : CXT} {k : Nat} {fa a : Addr} {fd : FuncData} {x : Str} {sp : Sp} {s₁ : Shared} {vs : List Value} {ns : List Int}
    (KX : K.In s₁.heap) (hns : s₁.heap.Ns mainGlobals mg) (hb : s₁.heap.Ns builtinsNs mb) (hbb : ∀ x : Str, x ≠ "__name__" → mb x = bootBuiltins x) (hlim : s₁.heap.NoLimit) (hg : s₁.gens = #[])
    (ha : s₁.heap.get? a = some { cls := .type "list", data := .seq vs.toArray }) (hi : IntsAre vs ns) (hl : ns.length ≤ sizeLine) (hr : Room k callerA)
    (F : ∀ base : Heap, K.In base → base.Ns mainGlobals mg → FnOk P w K mg base CX k fa fd [x] sp) (hbind : ∀ (s : Shared) (u : Value), BindsTo s fd ⟨[u], []⟩ [(x, u)])
    (hsp : ∀ H : Hp, Only H → SqL K H a (ns.map V.int) → sp [.ref a] H (fun v _ => v = .bl true) fun _ _ _ => False)
    (hCX : ∀ H e s', CX [] H s₁ (fun _ _ _ => False) e s' → False) :
    codeAny (model P w) callerA (.call (.ref fa) ⟨[.ref a], []⟩) (fun r s' => r = .ok (.ret (.bool true)) ∧ OldK s₁.heap s'.heap ∧ s'.os = s₁.os ∧ AllBare s'.gens) s₁ := by
  have rv := vals_ints hi
  have lenV := hi.length
  have core : ∀ H : Hp, Only H → SqL K H a (ns.map V.int) → HOk P w H s₁.heap → (∀ b, H b ≠ none → b = a) → (H a ≠ none → K.lookup a = none) →
      codeAny (model P w) callerA (.call (.ref fa) ⟨[.ref a], []⟩) (fun r s' => r = .ok (.ret (.bool true)) ∧ OldK s₁.heap s'.heap ∧ s'.os = s₁.os ∧ AllBare s'.gens) s₁ := by
    intro H hO hS hok hA hK
    have base_of : ∀ {b : Addr} {o : Obj}, s₁.heap.get? b = some o → H b = none → (hidT s₁.heap H).get? b = some o := fun e n => hidT_get e n
    have noA : ∀ {b : Addr} {o : Obj} {es : Array DictEntry} {ep : Nat}, s₁.heap.get? b = some o → o.data = .dict es ep → H b = none := fun {b o es ep} e d => by
      cases q : H b with
      | none => rfl
      | some u =>
        have e' : b = a := hA b (by rw [q]; simp)
        subst e'
        rw [ha] at e; cases e
        have d' : Data.seq vs.toArray _ = Data.dict es ep := d
        cases d'
    have nsK : ∀ {b : Addr} {m : Str → Option Value}, s₁.heap.Ns b m → (hidT s₁.heap H).Ns b m := fun {b m} ⟨o, es, ep, e, d, r⟩ => ⟨o, es, ep, base_of e (noA e d), d, r⟩
    have hKb : K.In (hidT s₁.heap H) := fun b o e => base_of (KX b o e) (by
      cases q : H b with
      | none => rfl
      | some u =>
        have e' : b = a := hA b (by rw [q]; simp)
        subst e'
        rw [hK (by rw [q]; simp)] at e; cases e)
    have hM : Mod K mg (hidT s₁.heap H) := ⟨hKb, nsK hns, ⟨mb, nsK hb, hbb⟩, let ⟨mc, h1, h2⟩ := hlim; ⟨mc, nsK h1, h2⟩⟩
    have e0 : Env0 P w K mg (hidT s₁.heap H) callerA [] s₁ H := ⟨rfl, hM, fun b o e => of_hidT e, Nat.le_of_eq (hidT_size _ _), trivial, fun b hb => absurd (show b ∈ ([] : List Addr) from hb) (by simp), hok, .of_eq hg⟩
    refine codeAny_mono ((F _ hKb (nsK hns)).run callerA [] s₁ H ⟨[.ref a], []⟩ [.ref a] [.ref a] _ _ hr e0 (hbind s₁ (.ref a)) (.cons rfl .nil) (hsp H hO hS)) fun r s' h => ?_
    cases r with
    | error e => exact (hCX H e s' h).elim
    | ok fl =>
      cases fl with
      | next => exact False.elim h
      | brk => exact False.elim h
      | cont => exact False.elim h
      | ret u =>
        obtain ⟨v, H', os, bare, un, hok', r', q⟩ := h
        have q' : v = .bl true := q
        subst q'
        obtain rfl : u = Value.bool true := r'
        refine ⟨rfl, OldK.of_keep fun b o e => ?_, os, bare⟩
        cases q : H b with
        | none => exact un.keep b o e q (by intro z; exact absurd (show b ∈ ([] : List Addr) from z) (by simp)) (by simp)
        | some u =>
          rcases hO b with z | ⟨ob, xs, z⟩
          · rw [q] at z; cases z
          · have z2 := un.frzs b ob _ z
            obtain ⟨e1, _⟩ := hok b _ z
            obtain ⟨e2, _⟩ := hok' b _ z2
            rw [e] at e1; cases e1
            exact e2
  cases hk : K.lookup a with
  | some o =>
    have e := KX a o hk
    rw [ha] at e
    cases e
    refine core (fun _ => none) (fun _ => .inl rfl) (.inr ⟨_, vs.toArray, _, hk, rfl, rfl, rfl, by rw [List.size_toArray, lenV]; exact hl, by simpa using rv⟩) (fun b u z => by have z' : (none : Option HO) = some u := z; cases z') (fun b z => absurd rfl z) fun z => absurd rfl z
  | none =>
    refine core (fun b => if b = a then some (.frz { cls := .type "list", data := .seq vs.toArray } (.lst (ns.map V.int))) else none) (fun b => ?_) (.inl (.inr ⟨{ cls := .type "list", data := .seq vs.toArray }, if_pos rfl⟩)) (fun b u z => ?_) (fun b z => ?_) fun _ => hk
    · by_cases hb : b = a
      · exact .inr ⟨_, _, if_pos hb⟩
      · exact .inl (if_neg hb)
    · by_cases hb : b = a
      · have z' := (if_pos hb).symm.trans z
        cases z'
        subst hb
        exact ⟨ha, by rw [List.length_map]; exact hl, vs, _, rv, ha⟩
      · have z' := (if_neg hb).symm.trans z
        cases z'
    · by_cases hb : b = a
      · exact hb
      · exact absurd (if_neg hb) z
end L2
namespace L2
open PySem PySem.Spec PyProof.Rows
abbrev KOf {K : PySem.W.Frag} {h : Heap} (_ : K.In h) : PySem.W.Frag := K
theorem walk_of {l : PySem.W.OpenLaw} {n k : Nat} {q : Program} {loose : List Str} {XP : (Str → Option Value) → Heap → Prop} {YP : World → Heap → Prop} {d : DefRec} {K : Params → PySem.W.Frag} {CX : World → CXT} {sp : World → Sp} {x : Str}
    (hn : l.most = some n) (hn2 : n ≤ sizeLine) (hdf : d.params.defaults = []) (hr : Room k callerA)
    (hY : ∀ (w : World) (h : Heap), YP w h → (K w.params).In h)
    (F : ∀ (w : World) (mg : Str → Option Value) (fa : Addr) (h : Heap), (K w.params).In h → h.Ns mainGlobals mg → mg d.name = some (.ref fa) →
      ∃ fd : FuncData, (∀ (s : Shared) (u : Value), BindsTo s fd ⟨[u], []⟩ [(x, u)]) ∧
        ∀ base : Heap, (K w.params).In base → base.Ns mainGlobals mg → FnOk l.prog w (K w.params) mg base (CX w) k fa fd [x] (sp w))
    (hsp : ∀ (w : World) (H : Hp) (a : Addr) (ns : List Int), ns.length ≤ n → Only H → SqL (K w.params) H a (ns.map V.int) → sp w [.ref a] H (fun v _ => v = .bl true) fun _ _ _ => False)
    (hCX : ∀ (w : World) (H : Hp) (s : Shared) (e : Value) (s' : Shared), CX w [] H s (fun _ _ _ => False) e s' → False) :
    PySem.W.WalkO q loose XP YP l.row.toRowW d [] (fun f vs => PySem.call f vs) := by
  refine Att.attach_call hn hdf fun w s₀ s₁ mg mb fa o pm cd doc a vs ns G Y ho hd hcd hmg hobj hints hlen hg => ?_
  have KX := hY w _ Y
  obtain ⟨fd, hb, hF⟩ := F w mg fa _ KX G.T.g hmg
  exact law_call KX G.T.g G.T.b G.T.builtins G.T.nolimit hg hobj hints (Nat.le_trans hlen hn2) hr hF hb (fun H hO hS => hsp w H a ns hlen hO hS) fun H e s' => hCX w H s₁ e s'
theorem walk_ofK {l : PySem.W.OpenLaw} {n k : Nat} {q : Program} {loose : List Str} {XP : (Str → Option Value) → Heap → Prop} {YP : World → Heap → Prop} {d : DefRec} {K : Params → PySem.W.Frag} {CX : CXT} {sp : PySem.W.Frag → Sp} {x : Str}
    (hn : l.most = some n) (hn2 : n ≤ sizeLine) (hdf : d.params.defaults = []) (hr : Room k callerA)
    (hY : ∀ (w : World) (h : Heap), YP w h → (K w.params).In h)
    (F : ∀ (w : World) (mg : Str → Option Value) (fa : Addr) (h : Heap), (K w.params).In h → h.Ns mainGlobals mg → mg d.name = some (.ref fa) →
      ∃ fd : FuncData, (∀ (s : Shared) (u : Value), BindsTo s fd ⟨[u], []⟩ [(x, u)]) ∧
        ∀ base : Heap, (K w.params).In base → base.Ns mainGlobals mg → FnOk l.prog w (K w.params) mg base CX k fa fd [x] (sp (K w.params)))
    (hsp : ∀ (K : PySem.W.Frag) (H : Hp) (a : Addr) (ns : List Int), ns.length ≤ n → Only H → SqL K H a (ns.map V.int) → sp K [.ref a] H (fun v _ => v = .bl true) fun _ _ _ => False)
    (hCX : ∀ (H : Hp) (s : Shared) (e : Value) (s' : Shared), CX [] H s (fun _ _ _ => False) e s' → False) :
    PySem.W.WalkO q loose XP YP l.row.toRowW d [] (fun f vs => PySem.call f vs) :=
  walk_of (K := K) (CX := fun _ => CX) (sp := fun w => sp (K w.params)) hn hn2 hdf hr hY F (fun w H a ns h1 h2 h3 => hsp (K w.params) H a ns h1 h2 h3) fun _ H s e s' => hCX H s e s'
end L2
namespace L2
open PySem PySem.Spec PyProof.Rows
def inClass (s : Stmt) (j : Nat) : Stmt := match s with
  | .ClassDef _ _ _ body _ _ _ _ _ _ _ => body.getD j (.Pass ⟨0, 0, 0, 0⟩)
  | _ => .Pass ⟨0, 0, 0, 0⟩
def defArgs (s : Stmt) : Arguments := match s with
  | .FunctionDef _ a _ _ _ _ _ _ _ _ => a
  | _ => { posonlyargs := [], args := [], vararg := none, kwonlyargs := [], kw_defaults := [], kwarg := none, defaults := [] }
def defBody (s : Stmt) : List Stmt := match s with
  | .FunctionDef _ _ b _ _ _ _ _ _ _ => b
  | _ => []
def defScope (s : Stmt) : Scope := match s with
  | .FunctionDef _ _ _ _ _ _ sc _ _ _ => sc
  | _ => { kind := .function, names := [], isGenerator := false, isCoroutine := false }
abbrev CX0 : CXT := fun _ _ _ _ _ _ => False
abbrev E0 : XK := fun _ _ _ => False
theorem pass0 {X : Cx} : Passes CX0 X E0 := fun _ _ _ _ _ _ _ h => h.elim
structure Fun (K : PySem.W.Frag) (x qual : Str) (st : Stmt) (f : Addr) (fd : FuncData) : Prop where
  ex : ∃ (oc : Value) (od : Option Addr) (kV doc pm : Value) (an : Option Addr) (cdv ct : Value) (osl : Array (Option Value)),
    fd = PySem.W.fnOf x qual (defArgs st) (defBody st) (defScope st) .none kV doc pm an cdv ct ∧ K.lookup f = some ⟨oc, od, .func fd, osl⟩ ∧ PySem.W.codeIn K cdv qual = true
  kp : PySem.W.keepIn K (.ref f) = true
section
variable {P : Program} {w : World} {K : PySem.W.Frag} {mg : Str → Option Value} {base : Heap}
theorem Fun.ok {x qual : Str} {st : Stmt} {f : Addr} {fd : FuncData} {N ps : List Str} {k : Nat} {sp : Sp} (F : Fun K x qual st f fd) (S : FnScope N ps (defScope st)) (len : ∀ vs H Q E, sp vs H Q E → vs.length = ps.length)
    (hbody : ∀ (cdv : Value) (A : Around) (outer : List Env) (s : Shared) (H : Hp) (vs : List V) (Q : VK) (E : XK), Room k (A.deeper (envOfC qual (defScope st) s.heap.objs.size f cdv)) → sp vs H Q E →
      ∃ t, PSs (cxOf CX0 P w K mg base N qual (defScope st) f cdv A outer s H E).nox (defBody st) t ∧ t { nx := fun _ H' => Q .non H', rt := Q } (start N vs) H) : FnOk P w K mg base CX0 (k + 1) f fd ps sp := by
  obtain ⟨oc, od, kV, doc, pm, an, cdv, ct, osl, rfl, lk, hcd⟩ := F.ex
  refine fn_of lk hcd S len fun A outer s H vs Q E hr hsp => ?_
  obtain ⟨t, h, q⟩ := hbody cdv A outer s H vs Q E hr hsp
  exact ⟨t, h.nox, q⟩
theorem Fun.binds {x qual : Str} {st : Stmt} {f : Addr} {fd : FuncData} {ps : List Str} (F : Fun K x qual st f fd)
    (h : ∀ (kV doc pm : Value) (an : Option Addr) (cdv ct : Value) (us : List Value), us.length = ps.length → bindArgs (PySem.W.fnOf x qual (defArgs st) (defBody st) (defScope st) .none kV doc pm an cdv ct) ⟨us, []⟩ = pure (ps.zip us)) : Binds K fd ps [] := by
  obtain ⟨oc, od, kV, doc, pm, an, cdv, ct, osl, rfl, lk, hcd⟩ := F.ex
  exact .all (h kV doc pm an cdv ct)
theorem fun_mk {x qual : Str} {st : Stmt} {f : Addr} {oc : Value} {od an : Option Addr} {osl : Array (Option Value)} {kV doc pm cdv ct : Value} (l : K.lookup f = some ⟨oc, od, .func (PySem.W.fnOf x qual (defArgs st) (defBody st) (defScope st) .none kV doc pm an cdv ct), osl⟩)
    (c : PySem.W.codeIn K cdv qual = true) (k : PySem.W.keepIn K (.ref f) = true) : Fun K x qual st f (PySem.W.fnOf x qual (defArgs st) (defBody st) (defScope st) .none kV doc pm an cdv ct) := ⟨⟨oc, od, kV, doc, pm, an, cdv, ct, osl, rfl, l, c⟩, k⟩
end
section
variable {X : Cx}
theorem pv (i : Nat) {x : Str} {pos : Pos} (hN : X.N[i]? = some x := by rfl) (hv : Vis X.env.scope x := by first | exact Or.inl rfl | exact Or.inr (Or.inl rfl) | exact Or.inr (Or.inr rfl)) (hd : (x == ("__debug__" : Str)) = false := by decide)
    (hcd : (x == ("__classdict__" : Str)) = false := by decide) : PE X (.Name x pos) (tVar i) := pe_var hN hv hd hcd
end
theorem iteF {A B : Prop} (h : B) : if false = true then A else B := by
  rw [if_neg Bool.false_ne_true]
  exact h
theorem iteT {A B : Prop} (h : A) : if true = true then A else B := by
  rw [if_pos rfl]
  exact h
theorem ite2 {c A B : Prop} [Decidable c] (h1 : c → A) (h2 : ¬ c → B) : if c then A else B := by
  by_cases h : c
  · rw [if_pos h]
    exact h1 h
  · rw [if_neg h]
    exact h2 h
def Same (H H' : Hp) : Prop := ∀ b o, H b = some o → H' b = some o
theorem Same.refl (H : Hp) : Same H H := fun _ _ h => h
theorem Same.trans {H H1 H2 : Hp} (a : Same H H1) (b : Same H1 H2) : Same H H2 := fun c o h => b c o (a c o h)
theorem Same.free {H H' : Hp} (e : Same H H') {l : Addr} (h : H' l = Option.none) : H l = Option.none := by
  cases q : H l with
  | none => rfl
  | some o =>
    rw [e l o q] at h
    cases h
theorem Same.seq {K : PySem.W.Frag} {H H' : Hp} {a : Addr} {xs : List V} (e : Same H H') (h : SqL K H a xs) : SqL K H' a xs := by
  rcases h with (h | ⟨o, h⟩) | h
  · exact .inl (.inl (e _ _ h))
  · exact .inl (.inr ⟨o, e _ _ h⟩)
  · exact .inr h
end L2
set_option maxHeartbeats 4000000
namespace L2
open PySem PySem.Spec PyProof.Rows
section
variable {κ : Type} [DecidableEq κ]
def valV (kvs : List (κ × V)) (k : κ) : Option V := (kvs.find? fun kv => decide (kv.1 = k)).map (·.2)
def putK (kvs : List (κ × V)) (k : κ) (v : V) : List (κ × V) :=
  if (kvs.any fun kv => decide (kv.1 = k)) = true then kvs.map (fun kv => if kv.1 = k then (kv.1, v) else kv) else kvs ++ [(k, v)]
def dropK (kvs : List (κ × V)) (k : κ) : List (κ × V) := kvs.filter fun kv => decide (kv.1 ≠ k)
end
abbrev KT (H : Hp) : List (List Key × V) → List (List Key × Addr × Value) → Prop := Paired fun p q => p.1 = q.1 ∧ H q.2.1 = some (.tup (p.1.map kV)) ∧ RelV p.2 q.2.2
section
variable {P : Program} {w : World} {H : Hp} {h : Heap} {a : Addr}
end
def DGet (H : Hp) (a : Addr) (y : V) (r : Option V) : Prop :=
  (∃ kvs k, Rd H a (.dK kvs) ∧ y = kV k ∧ r = valV kvs k) ∨ ∃ kvs k b, Rd H a (.dT kvs) ∧ y = .ref b ∧ H b = some (.tup (k.map kV)) ∧ r = valV kvs k
def DPut (H : Hp) (a : Addr) (y v : V) (H' : Hp) : Prop :=
  (∃ kvs k, H a = some (.dK kvs) ∧ y = kV k ∧ kvs.length < sizeLine ∧ H' = upd H a (.dK (putK kvs k v))) ∨
  ∃ kvs k b, H a = some (.dT kvs) ∧ y = .ref b ∧ H b = some (.tup (k.map kV)) ∧ kvs.length < sizeLine ∧ H' = upd H a (.dT (putK kvs k v))
section
variable {X : Cx} {pins : List (Addr × Obj)} {σ : St} {H : Hp} {s : Shared} {a : Addr} {y v : V} {u r : Value} {o : Option V} {A : Around} {E : Value → Shared → Prop}
end
section
variable {X : Cx} {pins : List (Addr × Obj)} {σ : St} {H : Hp} {s : Shared} {a : Addr} {kvs : List (Key × V)} {k : Key} {u : Value} {A : Around} {E : Value → Shared → Prop}
end
def NoSl (i : Expr) : Prop := ∀ ov iv, subscripted i false ov iv = operate [ov, iv] (getItem ov iv)
def tDGet (td ty : TE) : TE := fun σ H Q => td σ H fun x H1 => ty σ H1 fun y H2 => ∃ a v, x = .ref a ∧ DGet H2 a y (some v) ∧ Q v H2
def tDIn (ty td : TE) : TE := fun σ H Q => ty σ H fun y H1 => td σ H1 fun x H2 => ∃ a o, x = .ref a ∧ DGet H2 a y o ∧ Q (.bl o.isSome) H2
def tDNotIn (ty td : TE) : TE := fun σ H Q => ty σ H fun y H1 => td σ H1 fun x H2 => ∃ a o, x = .ref a ∧ DGet H2 a y o ∧ Q (.bl (!o.isSome)) H2
def sDPut (td ty tv : TE) : TS := fun D σ H => tv σ H fun v H1 => td σ H1 fun x H2 => ty σ H2 fun y H3 => ∃ a H4, x = .ref a ∧ DPut H3 a y v H4 ∧ D.nx σ H4
def sDAug (td ty tv : TE) (rd : V → V → Hp → VK → Prop) : TS := fun D σ H => td σ H fun x H1 => ty σ H1 fun y H2 => ∃ a v, x = .ref a ∧ DGet H2 a y (some v) ∧
  tv σ H2 fun y2 H3 => rd v y2 H3 fun z H4 => ∃ H5, DPut H4 a y z H5 ∧ D.nx σ H5
def sDDel (td ty : TE) : TS := fun D σ H => td σ H fun x H1 => ty σ H1 fun y H2 => ∃ a kvs k, x = .ref a ∧ H2 a = some (.dK kvs) ∧ y = kV k ∧ (valV kvs k).isSome = true ∧ D.nx σ (upd H2 a (.dK (dropK kvs k)))
section
variable {X : Cx} {o i e value : Expr} {pos pos' tpos : Pos} {td ty tv : TE}
end
def tDNewK : TE := fun _ H Q => ∀ p, H p = none → Q (.ref p) (upd H p (.dK []))
def tDNewT : TE := fun _ H Q => ∀ p, H p = none → Q (.ref p) (upd H p (.dT []))
section
variable {X : Cx} {pos : Pos}
end
def tPairs : List (TE × TE) → St → Hp → (List (V × V) → Hp → Prop) → Prop
  | [], _, H, Q => Q [] H
  | (tk, tv) :: r, σ, H, Q => tk σ H fun x H1 => tv σ H1 fun y H2 => tPairs r σ H2 fun ps H3 => Q ((x, y) :: ps) H3
abbrev VV : List (V × V) → List (Value × Value) → Prop := Paired fun p q => RelV p.1 q.1 ∧ RelV p.2 q.2
def PPs (X : Cx) (pos : Pos) (keys : List (Option Expr)) (values : List Expr) (trs : List (TE × TE)) : Prop :=
  ∀ (pins : List (Addr × Obj)) (s : Shared) (σ : St) (H : Hp) (Q : List (V × V) → Hp → Prop), Inv X pins σ H s → tPairs trs σ H Q →
    wpAny (model X.prog X.w) X.A (evalPairs (pairTrees keys values X.env pos)) (fun vs s' => ∃ ps H', Inv X pins σ H' s' ∧ VV ps vs ∧ Q ps H') X.xe s
def mergeK (kvs more : List (Key × V)) : List (Key × V) := more.foldl (fun acc kv => putK acc kv.1 kv.2) kvs
def tDisp (trs : List (TE × TE)) : TE := fun σ H Q => ∀ p, H p = none → tPairs trs σ (upd H p (.dK [])) fun ps H2 => H2 p = some (.dK []) ∧ ∃ kvs : List (Key × V), ps = kvs.map (fun kv => (kV kv.1, kv.2)) ∧ kvs.length ≤ 15 ∧ Q (.ref p) (upd H2 p (.dK (mergeK [] kvs)))
structure M1 (X : Cx) (o : Expr) (m : Str) (apos : Pos) (e : Expr) (cpos : Pos) : Prop where
  base : attributeBase o m X.env (eval o X.env) = eval o X.env
  few : ((backTo cpos (starEach [e] X.env)).all (fun x => !x.1) && (backToKw cpos (keywordEach [] X.env)).all (fun x => x.1.isSome)
    && decide (([e] : List Expr).length + ([] : List Keyword).length + (if ([] : List Keyword).isEmpty then 0 else 1) < 30)) = true
  line : (apos.endLine == cpos.line) = true
  trees : backTo cpos (starEach [e] X.env) = [(false, eval e X.env)]
structure M2 (X : Cx) (o : Expr) (m : Str) (apos : Pos) (e f : Expr) (cpos : Pos) : Prop where
  base : attributeBase o m X.env (eval o X.env) = eval o X.env
  few : ((backTo cpos (starEach [e, f] X.env)).all (fun x => !x.1) && (backToKw cpos (keywordEach [] X.env)).all (fun x => x.1.isSome)
    && decide (([e, f] : List Expr).length + ([] : List Keyword).length + (if ([] : List Keyword).isEmpty then 0 else 1) < 30)) = true
  line : (apos.endLine == cpos.line) = true
  trees : backTo cpos (starEach [e, f] X.env) = [(false, eval e X.env), (false, eval f X.env)]
def IsD (H : Hp) (a : Addr) : Prop := (∃ kvs, Rd H a (.dK kvs)) ∨ ∃ kvs, Rd H a (.dT kvs)
section
variable {X : Cx} {pins : List (Addr × Obj)} {σ : St} {H : Hp} {s : Shared} {a : Addr} {y d : V} {u r : Value} {o : Option V} {A : Around} {E : Value → Shared → Prop}
end
def tDGet1 (td ty : TE) : TE := fun σ H Q => td σ H fun x H1 => ∃ a, x = .ref a ∧ IsD H1 a ∧ ty σ H1 fun y H2 => ∃ o, DGet H2 a y o ∧ Q (o.getD .non) H2
def tDGet2 (td ty tx : TE) : TE := fun σ H Q => td σ H fun x H1 => ∃ a, x = .ref a ∧ IsD H1 a ∧ ty σ H1 fun y H2 => tx σ H2 fun z H3 => ∃ o, DGet H3 a y o ∧ Q (o.getD z) H3
def tDPop1 (td ty : TE) : TE := fun σ H Q => td σ H fun x H1 => ∃ a, x = .ref a ∧ IsD H1 a ∧ ty σ H1 fun y H2 => ∃ kvs k v, H2 a = some (.dK kvs) ∧ y = kV k ∧ valV kvs k = some v ∧ Q v (upd H2 a (.dK (dropK kvs k)))
def tDPop2 (td ty tx : TE) : TE := fun σ H Q => td σ H fun x H1 => ∃ a, x = .ref a ∧ IsD H1 a ∧ ty σ H1 fun y H2 => tx σ H2 fun z H3 => ∃ kvs k, H3 a = some (.dK kvs) ∧ y = kV k ∧
  (∀ v, valV kvs k = some v → Q v (upd H3 a (.dK (dropK kvs k)))) ∧ (valV kvs k = none → Q z H3)
section
variable {X : Cx} {o e f : Expr} {apos cpos : Pos} {td ty tx : TE}
end
section
variable {X : Cx} {pins : List (Addr × Obj)} {σ : St} {H : Hp} {s : Shared} {a : Addr} {kvs : List (Key × V)} {A : Around} {E : Value → Shared → Prop}
end
section
variable {X : Cx} {pins : List (Addr × Obj)} {σ : St} {H : Hp} {s : Shared} {a : Addr} {y : V} {u : Value} {A : Around} {E : Value → Shared → Prop}
end
end L2
namespace SW
def gcdI (a b : Int) : Int := (Int.gcd a b : Int)
def low (a b : Int) : Int × Int := (a / gcdI a b, b / gcdI a b)
structure Low (a b x y : Int) : Prop where
  x0 : 0 ≤ x
  y0 : 0 < y
  one : gcdI x y = 1
  eq : x * b = y * a
  lex : x ≤ a
  ley : y ≤ b
theorem mul_bd {a b m n : Int} (ha : 0 ≤ a) (ha' : a ≤ m) (hb : 0 ≤ b) (hb' : b ≤ n) : 0 ≤ a * b ∧ a * b ≤ m * n :=
  ⟨Int.mul_nonneg ha hb, Int.mul_le_mul ha' hb' hb (by omega)⟩
end SW
namespace SW
end SW
namespace L2
open PySem PySem.Spec PyProof.Rows
def Fits (i : Int) : Prop := i.natAbs < 2 ^ 8192
theorem Fits.log {i : Int} (h : Fits i) : i.natAbs.log2 < 8192 := by
  by_cases h0 : i.natAbs = 0
  · rw [h0]; exact (by decide : Nat.log2 0 < 8192)
  · exact (Nat.log2_lt h0).mpr h
theorem Fits.bits {i : Int} (h : Fits i) : Builtin.Int.intBits i ≤ 2 ^ 20 := by
  have h1 := h.log
  have h2 : (8193 : Nat) ≤ 2 ^ 20 := by decide
  unfold Builtin.Int.intBits
  split
  · exact Nat.zero_le _
  · omega
theorem pow100 : (10 ^ 100 : Nat) ≤ 2 ^ 8192 := Nat.le_trans (by decide +kernel : (10 ^ 100 : Nat) ≤ 2 ^ 340) (Nat.pow_le_pow_right (by decide) (by decide))
theorem fits_of {i : Int} (h1 : -(10 ^ 100) < i) (h2 : i < 10 ^ 100) : Fits i := by
  have h3 : i.natAbs < 10 ^ 100 := by omega
  exact Nat.lt_of_lt_of_le h3 pow100
def CMulF (i j : Int) : Prop := CMul i j ∨ (Fits i ∧ Fits j)
def CDivF (_ j : Int) : Prop := 0 < j ∧ Fits j
theorem CMulF.ok {i j : Int} (h : CMulF i j) : IntMulOk i j := by
  rcases h with h | ⟨h1, h2⟩
  · exact h.ok
  · exact .of_bits h1.bits h2.bits
section
variable {X : Cx}
theorem op_mulF : OpR X (binaryOp .Mult) (rI CMulF fun i j => .int (i * j)) := opI fun _ _ _ _ _ _ _ hc q => mul_int q hc.ok
theorem op_fdivF : OpR X (binaryOp .FloorDiv) (rI CDivF fun i j => .int (i / j)) := opI fun i j _ _ _ _ _ hc q => by
  have h1 : (0 : Int) < j := hc.1
  have h2 : j.natAbs.log2 < 9000 := by have := hc.2.log; omega
  refine floordiv_int (by omega) ?_ (.inl (PyProof.noPylong_of_log2 h2))
  rw [Int.fdiv_eq_ediv_of_nonneg i (by omega)]
  exact q
end
def Sq (K : PySem.W.Frag) (H : Hp) (a : Addr) (xs : List V) : Prop := SqL K H a xs ∨ SqT K H a xs
def rAt (K : PySem.W.Frag) : R2 := fun x y H Q => ∃ p xs i v, x = .ref p ∧ y = .int i ∧ Sq K H p xs ∧ atI xs i = some v ∧ Q v H
section
variable {X : Cx}
theorem ix_any : IxR X (rAt X.K) := by
  intro value slice pins s σ H x y v u Q I rx ry h hs
  obtain ⟨p, xs, i, z, e1, e2, hq | hq, he, q⟩ := h
  · exact ix_list value slice pins s σ H x y v u Q I rx ry ⟨p, xs, i, z, e1, e2, hq, he, q⟩ hs
  · exact ix_tup value slice pins s σ H x y v u Q I rx ry ⟨p, xs, i, z, e1, e2, hq, he, q⟩ hs
end
theorem atI_of {α : Type} {xs : List α} {i : Int} {v : α} (h0 : 0 ≤ i) (h : xs[i.toNat]? = some v) : atI xs i = some v := by
  obtain ⟨n, rfl⟩ := Int.eq_ofNat_of_zero_le h0
  exact atI_nat (by simpa using h)
theorem Same.tup {K : PySem.W.Frag} {H H' : Hp} {a : Addr} {xs : List V} (e : Same H H') (h : SqT K H a xs) : SqT K H' a xs := by
  rcases h with (h | ⟨o, h⟩) | h
  · exact .inl (.inl (e _ _ h))
  · exact .inl (.inr ⟨o, e _ _ h⟩)
  · exact .inr h
theorem Same.sq {K : PySem.W.Frag} {H H' : Hp} {a : Addr} {xs : List V} (e : Same H H') (h : Sq K H a xs) : Sq K H' a xs := h.elim (fun h => .inl (e.seq h)) fun h => .inr (e.tup h)
theorem same_new {H : Hp} {p : Addr} (h : H p = none) (o : HO) : Same H (upd H p o) := fun b u e => by
  rw [upd_ne (ne_of_none e h)]; exact e
mutual
def Rep (K : PySem.W.Frag) (H : Hp) : PyData → V → Prop
  | .none, v => v = .non
  | .bool b, v => v = .bl b
  | .int i, v => v = .int i
  | .str x, v => v = .str x
  | .list ds, v => ∃ p xs, v = .ref p ∧ SqL K H p xs ∧ RepAll K H ds xs
  | .tuple ds, v => ∃ p xs, v = .ref p ∧ SqT K H p xs ∧ RepAll K H ds xs
  | .dict _, _ => False
def RepAll (K : PySem.W.Frag) (H : Hp) : List PyData → List V → Prop
  | [], xs => xs = []
  | d :: ds, xs => ∃ x r, xs = x :: r ∧ Rep K H d x ∧ RepAll K H ds r
end
section
variable {X : Cx} {pins : List (Addr × Obj)} {σ : St} {H : Hp} {s : Shared}
mutual
theorem rep_reads (I : Inv X pins σ H s) : ∀ (d : PyData) (x : V) (u : Value), Rep X.K H d x → RelV x u → ∃ as, Reads s.heap u d as
  | .none, x, u, h, r => by
    rw [Rep] at h; subst h; cases r; exact ⟨_, .none⟩
  | .bool b, x, u, h, r => by
    rw [Rep] at h; subst h; cases r; exact ⟨_, .bool b⟩
  | .int i, x, u, h, r => by
    rw [Rep] at h; subst h; obtain ⟨t, rfl⟩ := r; exact ⟨_, .int i t⟩
  | .str i, x, u, h, r => by
    rw [Rep] at h; subst h; obtain ⟨t, rfl⟩ := r; exact ⟨_, .str i t⟩
  | .list ds, x, u, h, r => by
    rw [Rep] at h
    obtain ⟨p, xs, rfl, hq, ha⟩ := h
    cases r
    obtain ⟨its, rv, ⟨o, n, e, c, _, dd⟩, _⟩ := I.list hq
    obtain ⟨as, ra⟩ := repAll_reads I ds xs its ha rv
    exact ⟨_, .list e c dd (by simpa using ra)⟩
  | .tuple ds, x, u, h, r => by
    rw [Rep] at h
    obtain ⟨p, xs, rfl, hq, ha⟩ := h
    cases r
    obtain ⟨its, rv, ⟨o, e, c, n, dd⟩, _⟩ := I.tuple hq
    obtain ⟨as, ra⟩ := repAll_reads I ds xs its ha rv
    exact ⟨_, .tuple e c dd (by simpa using ra)⟩
  | .dict kvs, x, u, h, r => by
    rw [Rep] at h; exact h.elim
theorem repAll_reads (I : Inv X pins σ H s) : ∀ (ds : List PyData) (xs : List V) (us : List Value), RepAll X.K H ds xs → Vals xs us → ∃ as, ReadsAll s.heap us ds as
  | [], xs, us, h, r => by
    rw [RepAll] at h; subst h; cases r; exact ⟨_, .nil⟩
  | d :: ds, xs, us, h, r => by
    rw [RepAll] at h
    obtain ⟨x, t, rfl, h1, h2⟩ := h
    cases r with
    | cons r1 r2 =>
      obtain ⟨as, ra⟩ := rep_reads I d x _ h1 r1
      obtain ⟨bs, rb⟩ := repAll_reads I ds t _ h2 r2
      exact ⟨_, .cons ra rb⟩
end
def rEqD (K : PySem.W.Frag) : R2 := fun x y H Q => ∃ d e, Rep K H d x ∧ Rep K H e y ∧ d.canLay0 = true ∧ e.canLay0 = true ∧ d.depth ≤ 64 ∧ Q (.bl (PyData.eqv d e)) H
def rNeD (K : PySem.W.Frag) : R2 := fun x y H Q => ∃ d e, Rep K H d x ∧ Rep K H e y ∧ d.canLay0 = true ∧ e.canLay0 = true ∧ d.depth ≤ 64 ∧ Q (.bl (!PyData.eqv d e)) H
end
end L2
namespace L2
open PySem PySem.Spec PyProof.Rows
section
variable {X : Cx} {st : Stmt} {e : Expr}
def tMeet (t : TS) : TS := fun D σ H => ∃ M : St → Hp → Prop, t { D with nx := M } σ H ∧ ∀ σ' H', M σ' H' → D.nx σ' H'
theorem ps_meet {t : TS} (h : PS X st t) : PS X st (tMeet t) := by
  intro pins s σ H D I hw
  obtain ⟨M, hm, k⟩ := hw
  refine thn (h pins s σ H { D with nx := M } I hm) fun f s1 q => ?_
  cases f with
  | next => obtain ⟨σ', H', I', q⟩ := q; exact ⟨σ', H', I', k σ' H' q⟩
  | ret v => exact q
  | brk => exact q
  | cont => exact q
def tMeetE (t : TE) : TE := fun σ H Q => ∃ M : VK, t σ H M ∧ ∀ v H', M v H' → Q v H'
def tMeetT (t : TT) : TT := fun σ H Q => ∃ M : Bool → Hp → Prop, t σ H M ∧ ∀ b H', M b H' → Q b H'
end
end L2
namespace L2
open PySem PySem.Spec PyProof.Rows
section
variable {X : Cx} {a b c d : Expr} {ta tb tc td : TE} {pos : Pos}
def tChain3 (r r' r'' : R2) (ta tb tc td : TE) : TE := fun σ H Q => ta σ H fun x H1 => tb σ H1 fun y H2 => r x y H2 fun z H3 => ∃ k, z = .bl k ∧
  (if k = true then tc σ H3 fun u H4 => r' y u H4 fun z2 H5 => ∃ k2, z2 = .bl k2 ∧ (if k2 = true then td σ H5 fun v H6 => r'' u v H6 Q else Q (.bl false) H5) else Q (.bl false) H3)
def rCount (K : PySem.W.Frag) : V → List V → Hp → VK → Prop := fun x vs H Q => ∃ l xs y, x = .ref l ∧ vs = [y] ∧ SqL K H l xs ∧ flatV y = true ∧ xs.all flatV = true ∧ Q (.int (xs.countP fun z => eqV z y : Nat)) H
end
end L2
namespace L2
open PySem PySem.Spec PyProof.Rows
inductive Ints : List Expr → List Int → Prop where
  | nil : Ints [] []
  | cons {i : Int} {j pos} {es : List Expr} {is : List Int} : Ints es is → Ints (.Constant (.int i) j pos :: es) (i :: is)
def tInts (is : List Int) : TA := fun _ H Q => Q (is.map V.int) H
theorem pa_ints {X : Cx} {es : List Expr} {is : List Int} (h : Ints es is) : PA X es (tInts is) := by
  induction h with
  | nil => exact pa_nil
  | cons _ ih => exact pa_cons pe_int ih rfl
end L2
namespace L2
open PySem PySem.Spec PyProof.Rows
theorem ps_setInts {X : Cx} {i : Nat} {x : Str} {es : List Expr} {is : List Int} {x1} {p2 pos pos' : Pos} (hN : X.N.Nodup) (hi : X.N[i]? = some x) (hx : Loc X.env.scope x) (h : Ints es is) (hf : X.fn x = true ∨ X.env.scope.names.lookup x = some .local) :
    PS X (.Assign [.Name x pos'] (.Tuple es x1 p2) pos) (tAsg (tTup (tInts is)) (gName i)) := ps_set hN hi hx (pe_tup (pa_ints h)) rfl hf
end L2
namespace L2
open PySem PySem.Spec PyProof.Rows
structure New (H H' : Hp) (p : Addr) (o : HO) : Prop where
  same : Same H H'
  gone : H p = none
  at_ : H' p = some o
  back : ∀ q, q ≠ p → H' q = H q
theorem New.of {H : Hp} {p : Addr} {o : HO} (h : H p = none) : New H (upd H p o) p o := ⟨same_new h o, h, upd_same, fun _ n => upd_ne n⟩
section
variable {X : Cx} {es : List Expr} {t : TA} {pos : Pos}
def tTupA (t : TA) : TE := fun σ H Q => t σ H fun xs H1 => xs.length ≤ sizeLine ∧ ∀ p H', New H1 H' p (.tup xs) → Q (.ref p) H'
def tLstA (t : TA) : TE := fun σ H Q => t σ H fun xs H1 => xs.length ≤ sizeLine ∧ ∀ p H', New H1 H' p (.lst xs) → Q (.ref p) H'
theorem pe_tupA {x1} (h : PA X es t) : PE X (.Tuple es x1 pos) (tTupA t) := by
  intro pins s σ H Q I hq
  refine wpAny_Tuple_spliced (thn (h pos pins s σ H _ I hq) fun us s1 ⟨xs, H1, I1, r, z, q⟩ => ⟨by rw [← r.length]; exact z, ?_⟩)
  have hf : H1 s1.heap.objs.size = none := I1.hok.fresh (Nat.le_refl _)
  refine ⟨.ref s1.heap.objs.size, upd H1 s1.heap.objs.size (.tup xs), I1.laid (t' := s1.toks) (fun b u e => Heap.get?_push_of_some _ e) (Nat.le_refl _) ?_, rfl, q _ _ (.of hf)⟩
  exact ⟨z, us, r, ⟨_, Heap.get?_push_size _ rfl, rfl, _, rfl⟩⟩
theorem pe_lstA (h : PA X es t) : PE X (.List es pos) (tLstA t) := by
  intro pins s σ H Q I hq
  refine wpAny_List_spliced (thn (h pos pins s σ H _ I hq) fun us s1 ⟨xs, H1, I1, r, z, q⟩ => ⟨by rw [← r.length]; exact z, ?_⟩)
  have hf : H1 s1.heap.objs.size = none := I1.hok.fresh (Nat.le_refl _)
  refine ⟨.ref s1.heap.objs.size, upd H1 s1.heap.objs.size (.lst xs), I1.laid (t' := s1.toks) (fun b u e => Heap.get?_push_of_some _ e) (Nat.le_refl _) ?_, rfl, q _ _ (.of hf)⟩
  exact ⟨z, us, 0, r, Heap.get?_push_size _ rfl⟩
end
end L2
namespace L2
open PySem PySem.Spec PyProof.Rows
theorem dict_mapFields (o : Obj) (f : Array Value → Array Value) : (Obj.mapFields f o).dict = o.dict := by
  obtain ⟨c, d, dt, sl⟩ := o
  cases dt <;> rfl
def ExcAt (h base : Heap) (e : Addr) (cls : Value) (dd : Option Addr) (fl : Option Value) : Prop :=
  ∃ oe vs, h.get? e = some oe ∧ oe.cls = cls ∧ oe.dict = dd ∧ oe.data = .fields vs ∧ 1 < vs.size ∧
    match fl with
    | none => vs[1]? = some .none
    | some f => ∃ T oT ts, vs[1]? = some (.ref T) ∧ base.get? T = none ∧ T ≠ e ∧ h.get? T = some oT ∧ oT.data = .fields ts ∧ ts[3]? = some f
structure Go (base : Heap) (l : List Env) (h h' : Heap) : Prop where
  st : base.StaysIn h'
  fr : h'.FunFrames base l
  up : h.UpToSlots h'
section
variable {M : Model} {A : Around} {E : Value → Shared → Prop} {s : Shared} {base : Heap} {env : Env} {outer l : List Env} {L e : Addr} {cls : Value} {dd : Option Addr} {Q : Unit → Shared → Prop}
theorem not_rec {h : Heap} {a b : Addr} {o u : Obj} {vs : Array Value} (ha : h.get? a = some o) (hd : o.data = .fields vs) (hb : h.get? b = some u) (nu : ∀ ws, u.data ≠ .fields ws) : b ≠ a := fun q => by
  subst q
  rw [ha] at hb
  cases hb
  exact nu vs hd
theorem entry_exc {oe : Obj} {vs : Array Value} {head : Value} {hadNext : Bool} (hfr : A.frames = some (env :: outer)) (hl : s.heap.FunFrames base (env :: outer)) (hf : env.frame = some L)
    (he : s.heap.get? e = some oe) (st : base.StaysIn s.heap) (hen : base.get? e = none) (hd : oe.data = .fields vs) (hz : 1 < vs.size)
    (k : ∀ h', Go base (env :: outer) s.heap h' → ExcAt h' base e oe.cls oe.dict (some (rawInt L)) → Q () { s with heap := h' }) :
    wpAny M A (do let a ← frameOf env; let pl ← entryPlaceOf L hadNext; let b ← EntryCells.newEntry head a .none (rawInt L) .none pl; setField (.ref e) 1 b) Q E s := by
  have ef : e ∉ (env :: outer).filterMap (·.frame) := fun z => by
    obtain ⟨_, u, hu, nu⟩ := hl.mem z
    exact not_rec he hd hu nu rfl
  refine wpAny_bind (wpAny_frameOf_fun hfr hl hf fun g1 sl1 => ?_)
  refine wpAny_bind (wpAny_entryPlaceOf fun pl hpl => ?_)
  unfold EntryCells.newEntry newFields
  refine wpAny_bind (wpAny_newObj_type ?_ (hpl.sizeOk5 _ _ _ _ _))
  have g1e : g1.get? e = some oe := (sl1.2.1 e ef).trans he
  have st1 : base.StaysIn g1 := fun b o z => (sl1.2.1 b fun q => by rw [(hl.mem q).1] at z; cases z).trans (st b o z)
  generalize hob : ({ cls := .type "traceback", dict := none, data := .fields ([head, .ref L, .none, rawInt L, .none] ++ (if pl.isEmpty then List.replicate 6 Value.none else pl)).toArray } : Obj) = ob
  have g2e := Heap.get?_push_of_some ob g1e
  refine wpAny_setField g2e hd hz ?_
  have ne : g1.objs.size ≠ e := Nat.ne_of_gt (Heap.lt_size g1e)
  have nd := Obj.data_mapFields hd (·.setIfInBounds 1 (Value.ref g1.objs.size))
  have g3e := Heap.get?_update_self (Obj.mapFields (·.setIfInBounds 1 (Value.ref g1.objs.size))) g2e (Obj.isFreed_of_fields nd)
  have g3T : ((g1.push ob).update e (Obj.mapFields (·.setIfInBounds 1 (Value.ref g1.objs.size)))).get? g1.objs.size = some ob := (Heap.get?_update_other _ _ (Ne.symm ne)).trans (Heap.get?_push_size g1 (by rw [← hob]; rfl))
  have stay : ∀ b o, b ≠ e → g1.get? b = some o → ((g1.push ob).update e (Obj.mapFields (·.setIfInBounds 1 (Value.ref g1.objs.size)))).get? b = some o := fun b o nb z => by
    rw [Heap.get?_update_other _ _ (Ne.symm nb)]
    exact Heap.get?_push_of_some _ z
  refine k _ ⟨fun b o z => stay b o (fun q => by rw [q, hen] at z; cases z) (st1 b o z), hl.of_keeps fun b o z nz => ?_, fun b o z nz => ?_⟩ ?_
  · obtain ⟨sl, q⟩ := sl1.2.2 b o z
    exact ⟨_, stay b _ (not_rec he hd z nz) q, rfl⟩
  · obtain ⟨sl, q⟩ := sl1.2.2 b o z
    exact ⟨sl, stay b _ (not_rec he hd z nz) q⟩
  · refine ⟨_, _, g3e, Obj.cls_mapFields _ _, dict_mapFields _ _, nd, by simp [hz], g1.objs.size, ob, _, by simp [hz], st1.fresh, ne, g3T, by rw [← hob], ?_⟩
    first | (simp; done) | (rcases hpl with rfl | ⟨_, _, _, _, _, _, _, rfl⟩ <;> simp)
theorem note_exc {fl : Option Value} (hfr : A.frames = some (env :: outer)) (hl : s.heap.FunFrames base (env :: outer)) (hf : env.frame = some L) (st : base.StaysIn s.heap) (hen : base.get? e = none)
    (x : ExcAt s.heap base e cls dd fl) (hfl : fl = none ∨ fl = some .none) (k : ∀ h', Go base (env :: outer) s.heap h' → ExcAt h' base e cls dd (some (rawInt L)) → Q () { s with heap := h' }) :
    wpAny M A (noteFrame (.ref e) env) Q E s := by
  obtain ⟨oe, vs, he, rfl, rfl, hd, hz, hx⟩ := x
  unfold noteFrame
  simp only [hf]
  rcases hfl with rfl | rfl
  · refine wpAny_bind (wpAny_field he hd hx ?_)
    rw [if_neg (by decide)]
    exact entry_exc hfr hl hf he st hen hd hz k
  · obtain ⟨T, oT, ts, h1, nT, ne, hT, dT, h3⟩ := hx
    refine wpAny_bind (wpAny_field he hd h1 ?_)
    rw [if_pos (show (Value.ref T != Value.none) = true by simp)]
    refine wpAny_bind (wpAny_field hT dT h3 ?_)
    rw [if_neg (show ¬ ((Value.none == rawInt L) = true) by simp [rawInt])]
    refine wpAny_bind (wpAny_setField hT dT (Array.getElem?_eq_some_iff.mp h3).1 ?_)
    have ot : ∀ b, b ≠ T → (s.heap.update T (Obj.mapFields (·.setIfInBounds 3 Value.none))).get? b = s.heap.get? b := fun b nb => Heap.get?_update_other _ _ (Ne.symm nb)
    refine entry_exc (s := { s with heap := s.heap.update T (Obj.mapFields (·.setIfInBounds 3 Value.none)) }) hfr (hl.of_keeps fun b o z nz => ⟨o, (ot b (not_rec hT dT z nz)).trans z, rfl⟩) hf ((ot e (Ne.symm ne)).trans he)
      (fun b o z => (ot b fun q => by rw [q, nT] at z; cases z).trans (st b o z)) hen hd hz fun h' g x' => k h' ⟨g.st, g.fr, fun b o z nz => g.up b o ((ot b (not_rec hT dT z nz)).trans z) nz⟩ x'
theorem flight_exc {f : Value} (hl : s.heap.FunFrames base l) (st : base.StaysIn s.heap) (x : ExcAt s.heap base e cls dd (some f))
    (k : ∀ h', Go base l s.heap h' → ExcAt h' base e cls dd (some .none) → Q () { s with heap := h' }) : wpAny M A (setFlight (.ref e) none) Q E s := by
  obtain ⟨oe, vs, he, rfl, rfl, hd, hz, T, oT, ts, h1, nT, ne, hT, dT, h3⟩ := x
  have z3 : 3 < ts.size := (Array.getElem?_eq_some_iff.mp h3).1
  unfold setFlight
  refine wpAny_bind (wpAny_field he hd h1 ?_)
  rw [if_pos (show (Value.ref T != Value.none) = true by simp)]
  refine wpAny_setField hT dT z3 ?_
  have ot : ∀ b, b ≠ T → (s.heap.update T (Obj.mapFields (·.setIfInBounds 3 ((none : Option Addr).elim Value.none fun f => rawInt f)))).get? b = s.heap.get? b := fun b nb => Heap.get?_update_other _ _ (Ne.symm nb)
  refine k _ ⟨fun b o z => (ot b fun q => by rw [q, nT] at z; cases z).trans (st b o z), hl.of_keeps fun b o z nz => ⟨o, (ot b (not_rec hT dT z nz)).trans z, rfl⟩, fun b o z nz => ⟨o.slots, (ot b (not_rec hT dT z nz)).trans z⟩⟩ ?_
  exact ⟨oe, vs, (ot e (Ne.symm ne)).trans he, rfl, rfl, hd, hz, T, _, _, h1, nT, ne, Heap.get?_update_self _ hT (Obj.isFreed_of_fields (Obj.data_mapFields dT _)), Obj.data_mapFields dT _, by simp [z3]⟩
theorem Go.trans {h1 h2 h3 : Heap} (a : Go base l h1 h2) (b : Go base l h2 h3) : Go base l h1 h3 := ⟨b.st, b.fr, a.up.trans b.up⟩
theorem leave_exc {fl : Option Value} (hfr : A.frames = some (env :: outer)) (hl : s.heap.FunFrames base (env :: outer)) (hf : env.frame = some L) (st : base.StaysIn s.heap) (hen : base.get? e = none)
    (x : ExcAt s.heap base e cls dd fl) (hfl : fl = none ∨ fl = some .none) (k : ∀ h', Go base (env :: outer) s.heap h' → ExcAt h' base e cls dd (some .none) → Q () { s with heap := h' }) :
    wpAny M A (leaving env (.ref e)) Q E s := by
  unfold leaving
  refine wpAny_bind (note_exc hfr hl hf st hen x hfl fun h1 g1 x1 => ?_)
  exact flight_exc (s := { s with heap := h1 }) g1.fr g1.st x1 fun h2 g2 x2 => k h2 (g1.trans g2) x2
end
end L2
namespace L2
open PySem PySem.Spec PyProof.Rows
structure Fly (P : Program) (w : World) (outer : List Env) (H H' : Hp) (h h' : Heap) (e : Addr) (cls : Value) (dd : Option Addr) (B : Heap) : Prop where
  st : B.StaysIn h'
  en : B.get? e = none
  fr : h'.FunFrames B outer
  ex : ExcAt h' B e cls dd (some .none)
  hok : HOk P w H' B
  keep : ∀ b o, h.get? b = some o → H b = none → b ∉ frs outer → B.get? b = some o
  slot : ∀ b o, h.get? b = some o → H b = none → b ∈ frs outer → (∀ vs, o.data ≠ .fields vs) → ∃ sl, h'.get? b = some { o with slots := sl }
  free : ∀ b o, h.get? b = some o → H b = none → H' b = none
  there : ∀ b o, h.get? b = some o → b ∉ frs outer → ∃ o', B.get? b = some o'
  tups : ∀ b xs, H b = some (.tup xs) → H' b = some (.tup xs)
  frzs : ∀ b o u, H b = some (.frz o u) → H' b = some (.frz o u)
  tbls : ∀ b ps, H b = some (.tbl ps) → ∃ more, H' b = some (.tbl (ps ++ more))
def CX1 (P : Program) (w : World) : CXT := fun outer H s E ev s' => ∃ (e : Addr) (cls : Value) (dd : Option Addr) (B : Heap) (H' : Hp), ev = .ref e ∧ s'.os = s.os ∧ AllBare s'.gens ∧ Fly P w outer H H' s.heap s'.heap e cls dd B ∧ E cls dd H'
theorem frame_data {X : Cx} {pins : List (Addr × Obj)} {σ : St} {H : Hp} {s : Shared} (I : Inv X pins σ H s) {b : Addr} {o : Obj} (hb : b ∈ frs X.stack) (e : s.heap.get? b = some o) : ∀ vs, o.data ≠ .fields vs := by
  obtain ⟨_, o', e', d⟩ := I.stack.mem hb
  rw [e] at e'
  cases e'
  exact d
theorem frame_in {l : List Env} : ∀ env ∈ l, ∀ a, env.frame = some a → a ∈ frs l := fun env he a hf => List.mem_filterMap.mpr ⟨env, he, hf⟩
section
variable {X : Cx} {pins : List (Addr × Obj)} {σ : St} {H : Hp} {s : Shared}
def noFr (X : Cx) (h : Heap) : Heap := PySem.W.hideAll h (frs X.stack)
theorem noFr_get {h : Heap} {b : Addr} {o : Obj} (e : h.get? b = some o) (n : b ∉ frs X.stack) : (noFr X h).get? b = some o := PySem.W.hideAll_get _ e n
theorem noFr_ok (I : Inv X pins σ H s) : HOk X.prog X.w H (noFr X s.heap) := fun a o e => by
  refine (I.hok a o e).stay (fun b u hb q => noFr_get q fun z => ?_) (fun _ q => q) fun _ _ q => q
  have n := I.stkFree b z
  rcases hb with rfl | hb
  · rw [e] at n; cases n
  · rw [hb] at n; cases n
theorem old_ne (I : Inv X pins σ H s) {b : Addr} {o : Obj} (e : X.s₀.heap.get? b = some o) : b ≠ X.env.locals := Nat.ne_of_lt (Nat.lt_of_lt_of_le (Heap.lt_size e) I.ok.above)
theorem old_frs (I : Inv X pins σ H s) {b : Addr} {o : Obj} (e : X.s₀.heap.get? b = some o) (n : b ∉ X.fs) : b ∉ frs X.stack := fun z => by
  rcases List.mem_cons.mp (I.stkSub b z) with q | q
  · exact old_ne I e q
  · exact n q
theorem raise_leaves (I : Inv X pins σ H s) (hX : X.stack = X.env :: X.outer) (hf : X.env.frame = some X.env.locals) (hex : X.ex = []) {h' : Heap} {e : Addr} {cls : Value} {dd : Option Addr} {E : XK} {N : Value → Shared → Prop}
    (kp : ∀ b o, s.heap.get? b = some o → h'.get? b = some o) (new : s.heap.get? e = none) (x : ExcAt h' (noFr X s.heap) e cls dd none) (q : E cls dd H) :
    wpAny (model X.prog X.w) X.A (leaving X.env (.ref e)) (fun _ s2 => CX1 X.prog X.w X.outer X.H₀ X.s₀ E (.ref e) s2) N { s with heap := h' } := by
  have nex : ∀ b : Addr, b ∉ X.ex := fun b z => by rw [hex] at z; cases z
  have en : (noFr X s.heap).get? e = none := by
    cases z : (noFr X s.heap).get? e with
    | none => rfl
    | some o => have z' := PySem.W.of_hideAll _ z; rw [new] at z'; cases z'
  have fr0 : s.heap.FunFrames (noFr X s.heap) (X.env :: X.outer) := by
    have z := PySem.W.funFrames_hide (as := frs X.stack) I.stack frame_in
    rw [hX] at z
    unfold noFr
    rw [hX]
    exact z
  refine leave_exc (s := { s with heap := h' }) (by rw [I.ok.frames, hX]) (fr0.of_keeps fun b o z _ => ⟨o, kp b o z, rfl⟩) hf (fun b o z => kp b o (PySem.W.of_hideAll _ z)) en x (.inl rfl) fun h2 g2 x2 => ?_
  refine ⟨e, cls, dd, noFr X s.heap, H, rfl, I.os, I.bare, ⟨g2.st, en, g2.fr.2.2, x2, noFr_ok I, fun b o z n nf => ?_, fun b o z n hb _ => ?_, fun b o z n => I.base.free b o z n (nex b), fun b o z nf => ?_, I.base.tups, I.base.frzs, I.base.tbls⟩, q⟩
  · exact noFr_get (I.base.keep b o z n nf (nex b)) (old_frs I z nf)
  · obtain ⟨sl, e1⟩ := I.base.slot b o z n hb (nex b)
    have hb' : b ∈ frs X.stack := by rw [hX]; unfold frs; rw [List.filterMap_cons, hf]; exact List.mem_cons_of_mem _ hb
    obtain ⟨sl2, e2⟩ := g2.up b _ (kp b _ e1) (frame_data I hb' e1)
    exact ⟨sl2, e2⟩
  · obtain ⟨o', e1⟩ := I.base.there b o z (nex b)
    exact ⟨o', noFr_get e1 (old_frs I z nf)⟩
theorem passes_on (hX : X.stack = X.env :: X.outer) (hf : X.env.frame = some X.env.locals) (hex : X.ex = []) {E : XK}
    (hxe : X.xe = fun e s' => wpAny (model X.prog X.w) X.A (leaving X.env e) (fun _ s2 => CX1 X.prog X.w X.outer X.H₀ X.s₀ E e s2) (fun e' s2 => CX1 X.prog X.w X.outer X.H₀ X.s₀ E e' s2) s') : Passes (CX1 X.prog X.w) X E := by
  intro pins σ H s ev s' I h
  obtain ⟨e, cls, dd, B, H', rfl, os, bare, F, q⟩ := h
  have nex : ∀ b : Addr, b ∉ X.ex := fun b z => by rw [hex] at z; cases z
  rw [hxe]
  refine leave_exc (by rw [I.ok.frames, hX]) (by have z := F.fr; rw [hX] at z; exact z) hf F.st F.en F.ex (.inr rfl) fun h2 g2 x2 => ?_
  refine ⟨e, cls, dd, B, H', rfl, os.trans I.os, bare, ⟨g2.st, F.en, g2.fr.2.2, x2, F.hok, fun b o z n nf => ?_, fun b o z n hb nd => ?_, fun b o z n => ?_, fun b o z nf => ?_, fun b xs z => F.tups b xs (I.base.tups b xs z), fun b o u z => F.frzs b o u (I.base.frzs b o u z), fun b ps z => ?_⟩, q⟩
  · exact F.keep b o (I.base.keep b o z n nf (nex b)) (I.base.free b o z n (nex b)) (old_frs I z nf)
  · obtain ⟨sl, e1⟩ := I.base.slot b o z n hb (nex b)
    have hb' : b ∈ frs X.stack := by rw [hX]; unfold frs; rw [List.filterMap_cons, hf]; exact List.mem_cons_of_mem _ hb
    obtain ⟨sl1, e2⟩ := F.slot b _ e1 (I.base.free b o z n (nex b)) hb' nd
    obtain ⟨sl2, e3⟩ := g2.up b _ e2 nd
    exact ⟨sl2, e3⟩
  · obtain ⟨o', e1⟩ := I.base.there b o z (nex b)
    exact F.free b o' e1 (I.base.free b o z n (nex b))
  · obtain ⟨o', e1⟩ := I.base.there b o z (nex b)
    exact F.there b o' e1 (old_frs I z nf)
  · obtain ⟨m1, e1⟩ := I.base.tbls b ps z
    obtain ⟨m2, e2⟩ := F.tbls b _ e1
    exact ⟨m1 ++ m2, by rw [e2, Array.append_assoc]⟩
end
end L2
namespace L2
open PySem PySem.Spec PyProof.Rows
section
variable {X : Cx} {CX : CXT} {k : Nat} {f C : Addr} {fd : FuncData} {ps : List Str} {sp : Sp} {dvs : List V} {ds : List Value} {E : XK} {x c m : Str} {p np cpos pos apos : Pos} {e : Expr} {es : List Expr} {te : TE} {t : TA}
structure ClsFn (K : PySem.W.Frag) (C : Addr) (m : Str) (f : Addr) : Prop where
  ga : PySem.W.specialIn K (.ref C) "__getattribute__" = some (some (.builtin "type.__getattribute__"))
  rd : PySem.W.readsIn K C (.type "type") = true
  fn : PySem.W.findCls K (.ref C) (.type "type") m = some (.val (.ref f))
  kp : PySem.W.keepIn K (.ref f) = true
theorem exc_obj {K : PySem.W.Frag} {h : Heap} {bmB : List Value} {newId : String} (A : K.In h) (q : PySem.W.excIn K C bmB newId = true) :
    ∃ bm N nm qn bs hdct sn sub ab col dd k0 k1 k2 k3 k5 mN, h.get? C = some (excClassObj nm qn C N bs bm hdct sn sub ab col dd k0 k1 k2 k3 k5 newId) ∧ h.Ns N mN ∧ mN "__init__" = none ∧ OwnTail h bmB bm := by
  unfold PySem.W.excIn at q
  split at q
  case h_2 => cases q
  rename_i dd cd sl look
  split at q
  case h_2 => cases q
  rename_i C2 bm k0 k1 k2 k3 n k5 mroE slE
  simp only [Bool.and_eq_true, beq_iff_eq, Bool.not_eq_true'] at q
  obtain ⟨⟨⟨⟨⟨e1, e2⟩, e3⟩, e4⟩, e5⟩, e6⟩ := q
  subst e1 e2
  obtain ⟨nm, bs, mro, ns, qn, hdct, sn, sub, ab, col, del⟩ := cd
  dsimp only at mroE e3 e5 e6
  subst mroE e3
  have slA : sl = #[k0, k1, k2, k3, some (.builtin n), k5] := by
    cases sl with
    | mk l => exact congrArg Array.mk slE
  subst slA
  refine ⟨bm, ns, nm, qn, bs, hdct, sn, sub, ab, col, dd, k0, k1, k2, k3, k5, h.nsMap ns, A _ _ look, Heap.Ns.of_isNs (PySem.W.isNs_of_in A e5), ?_, PySem.W.tail_of_in A e4⟩
  exact PySem.W.nsMap_none_of_in A e5 e6
def XeIs (X : Cx) (E : XK) : Prop := X.xe = fun e s' => wpAny (model X.prog X.w) X.A (leaving X.env e) (fun _ s2 => CX1 X.prog X.w X.outer X.H₀ X.s₀ E e s2) (fun e' s2 => CX1 X.prog X.w X.outer X.H₀ X.s₀ E e' s2) s'
structure DefX (X : Cx) : Prop where
  st : X.stack = X.env :: X.outer
  fr : X.env.frame = some X.env.locals
  ex : X.ex = []
  calm : X.calm = true
def tRaise (C : Addr) (E : XK) (t : TA) : TS := fun _ σ H => t σ H fun vs H1 => vs.length ≤ 1000 ∧ E (.ref C) none H1
theorem ps_raise {B newId initId : String} {bmB : List Value} (FB : ExcBaseFacts B newId initId bmB) (dx : DefX X) (hxe : XeIs X E) (hg : Gl X x) (hm : X.mg x = some (.ref C)) (hq : PySem.W.excIn X.K C bmB newId = true) (ha : PA X (e :: es) t)
    (hdb : (x == ("__debug__" : Str)) = false := by decide) (hst : starEach (e :: es) X.env = (false, eval e X.env) :: starEach es X.env := by rfl) (hpl : (backTo cpos (starEach es X.env)).any (·.1) = false := by rfl) :
    PS X (.Raise (some (.Call (.Name x np) (e :: es) [] cpos)) none pos) (tRaise C E t) := by
  intro pins s σ H D I h
  obtain ⟨bm, N, nm, qn, bs, hdct, sn, sub, ab, col, dd, k0, k1, k2, k3, k5, mN, hC, hN, hni, TL⟩ := exc_obj I.mod.kin hq
  have hl : sizeLine = 16777216 := sizeLine_eq
  refine wpAny_Raise_call_subT (C := C) (nm := nm) (q := qn) (N := N) (bs := bs) (bm := bm) (hdct := hdct) (sn := sn) (sub := sub) (ab := ab) (col := col) (dd := dd) (k0 := k0) (k1 := k1) (k2 := k2) (k3 := k3) (k5 := k5) FB (mN := mN)
    (TL.hasType FB.hasBase) (I.ok.hd dx.calm) ?_ hni (ld_glob I hg hm ⟨rfl, ?_⟩ hdb)
  · rw [hst]
    show (false || (backTo cpos (starEach es X.env)).any (·.1)) = false
    rw [hpl]
    rfl
  have hs := ha cpos pins s σ H _ I h
  rw [hst] at hs ⊢
  refine Calls.evalArgs_plain (thn hs fun us s2 ⟨vs, H2, I2, r, hz, q⟩ => ?_)
  refine ⟨rfl, ?_, I2.bk _ _ hC, hN.keeps I2.bk, TL.keeps I2.bk, fun h' ea hx => ?_⟩
  · show us.length ≤ sizeLine
    rw [← r.length]
    omega
  · rw [hxe]
    obtain ⟨ta, te, _, _⟩ := hx.there
    exact raise_leaves (dd := none) I2 dx.st dx.fr dx.ex hx.keeps hx.new ⟨_, _, te, rfl, rfl, rfl, (by decide : 1 < 6), rfl⟩ q
end
end L2
namespace L2
open PySem PySem.Spec PyProof.Rows
theorem Inv.track {X : Cx} {pins : List (Addr × Obj)} {σ : St} {H : Hp} {s : Shared} {e : Addr} {o : HO} (I : Inv X pins σ H s) (hn : H e = none) (old : X.s₀.heap.get? e = none) (nl : e ≠ X.env.locals)
    (nc : ∀ x c, X.env.cells.lookup x = some c → c ≠ e) (np : ∀ p ∈ X.pn ++ pins, p.1 ≠ e) (new : ObjOk X.prog X.w (upd H e o) s.heap e o) : Inv X pins σ (upd H e o) s := by
  have ne : ∀ b u, H b = some u → b ≠ e := fun b u z q => by rw [q, hn] at z; cases z
  refine ⟨I.ok, I.os, I.bare, ⟨I.base.keep, I.base.slot, fun b ob z n hx => ?_, I.base.there, fun b xs z => ?_, fun b ob u z => ?_, fun b ps z => ?_⟩, I.loc, I.cell, ?_, fun x c z => ?_, fun p hp => ?_, fun b u z => ?_, I.len⟩
  · rw [upd_ne (fun q => by rw [q, old] at z; cases z)]; exact I.base.free b ob z n hx
  · rw [upd_ne (ne _ _ (I.base.tups b xs z))]; exact I.base.tups b xs z
  · rw [upd_ne (ne _ _ (I.base.frzs b ob u z))]; exact I.base.frzs b ob u z
  · obtain ⟨more, q⟩ := I.base.tbls b ps z
    exact ⟨more, by rw [upd_ne (ne _ _ q)]; exact q⟩
  · rw [upd_ne nl.symm]; exact I.free
  · rw [upd_ne (nc x c z)]; exact I.freeC x c z
  · obtain ⟨a1, a2, a3⟩ := I.pin p hp
    exact ⟨a1, by rw [upd_ne (np p hp)]; exact a2, a3⟩
  · by_cases hb : b = e
    · subst hb; rw [upd_same] at z; cases z; exact new
    · rw [upd_ne hb] at z
      exact (I.hok b u z).stay (fun c v _ q => q) (fun c q => by rw [upd_ne (ne _ _ q)]; exact q) fun c xs q => by rw [upd_ne (ne _ _ q)]; exact q
def excO (e : Addr) (cls : Value) (dd : Option Addr) : HO := .ext fun h => ∃ o vs, h.get? e = some o ∧ o.cls = cls ∧ o.dict = dd ∧ o.data = .fields vs
theorem excO_ok {P : Program} {w : World} {H : Hp} {h base : Heap} {e : Addr} {cls : Value} {dd : Option Addr} {fl : Option Value} (x : ExcAt h base e cls dd fl) : ObjOk P w H h e (excO e cls dd) := by
  obtain ⟨oe, vs, he, hc, hdd, hd, _⟩ := x
  refine ⟨⟨oe, vs, he, hc, hdd, hd⟩, ⟨oe, he⟩, fun h1 h2 ⟨o, ws, a1, a2⟩ k => ⟨o, ws, k o a1, a2⟩⟩
theorem exc_at {X : Cx} {pins : List (Addr × Obj)} {σ : St} {H : Hp} {s : Shared} {e : Addr} {cls : Value} {dd : Option Addr} (I : Inv X pins σ H s) (h : H e = some (excO e cls dd)) :
    ∃ o vs, s.heap.get? e = some o ∧ o.cls = cls ∧ o.dict = dd ∧ o.data = .fields vs := (I.hok e _ h).1
abbrev Cx.held (X : Cx) (e : Addr) : Cx := { X with A := X.A.mark (some (.ref e)), calm := false, xe := fun _ _ => False }
theorem Inv.held {X : Cx} {pins : List (Addr × Obj)} {σ : St} {H : Hp} {s : Shared} (I : Inv X pins σ H s) (e : Addr) : Inv (X.held e) pins σ H s :=
  ⟨⟨I.ok.mod, I.ok.kind, I.ok.glob, I.ok.blt, I.ok.above, I.ok.inj, I.ok.has, I.ok.cab, fun z => (nomatch z), I.ok.frames, I.ok.stk, I.ok.exf, I.ok.bs, I.ok.bsz, I.ok.noex, I.ok.exfs, I.ok.funs, I.ok.frf⟩, I.os, I.bare, I.base, I.loc, I.cell, I.free, I.freeC, I.pin, I.hok, I.len⟩
theorem Inv.letgo {X : Cx} {pins : List (Addr × Obj)} {σ : St} {H : Hp} {s : Shared} {e : Addr} (I : Inv (X.held e) pins σ H s) (ok : X.Ok) : Inv X pins σ H s :=
  ⟨ok, I.os, I.bare, I.base, I.loc, I.cell, I.free, I.freeC, I.pin, I.hok, I.len⟩
structure Catches (K : PySem.W.Frag) (C D : Addr) (b : Bool) : Prop where
  one : PySem.W.exmOne K (.ref C) (.ref D) = some b
theorem exc_matches {M : Model} {A : Around} {E : Value → Shared → Prop} {s : Shared} {K : PySem.W.Frag} {C D e : Addr} {b : Bool} {oe : Obj} {Q : Bool → Shared → Prop} (X : K.In s.heap) (c : Catches K C D b) (he : s.heap.get? e = some oe) (hc : oe.cls = .ref C) (q : Q b s) :
    wpAny M A (excMatches (.ref e) (.ref D)) Q E s := by
  have L3 : PySem.W.Looks M s.heap (typeOf (.ref e)) (.ref C) := hc ▸ (PySem.W.Looks.ld he).andThen .now
  exact (PySem.W.exm_one X L3 c.one).here q
end L2
namespace L2
open PySem PySem.Spec PySem.Calls PyProof.Rows
section
variable {prog : Program} {w : World} {A : Around} {E : Value → Shared → Prop} {s : Shared} {K : PySem.W.Frag} {x D : Addr} {ox : Obj} {odo : Option Obj} {name : Str}
theorem exc_check {M : Model} {nameV : Value} {Q : Unit → Shared → Prop} (X : K.In s.heap) (I : PySem.W.InstAt s.heap x ox D odo) (hb : PySem.W.mroIn K D (.type "BaseException") = some true) (hq : Q () s) :
    wpAny M A (checkBuiltinCall "BaseException.__getattribute__" ⟨[.ref x, nameV], []⟩) Q E s := by
  obtain ⟨hh, g, d, t, os⟩ := s
  have hk : builtinKind "BaseException.__getattribute__" = some .slot := by decide +kernel
  have hsplit : splitId "BaseException.__getattribute__" = some ("BaseException", "__getattribute__") := by decide +kernel
  have L : PySem.W.Looks M hh (isInstance (.ref x) (.type "BaseException")) true := (I.type (M := M)).andThen (PySem.W.looks_mroIn X hb)
  have ha := F.args_bexc_ga (.ref x) nameV
  simp only [checkBuiltinCall, hk, hsplit]
  refine wpAny_bind (L.at ?_)
  repeat (first | wp_step)
  exact hq
theorem exc_open {Q : Option Value → Shared → Prop} (X : K.In s.heap) (I : PySem.W.InstAt s.heap x ox D odo) (hga : PySem.W.findIn K (.ref D) "__getattribute__" = some (some (.builtin "BaseException.__getattribute__"))) (hgt : PySem.W.findIn K (.ref D) "__getattr__" = some none)
    (hb : PySem.W.mroIn K D (.type "BaseException") = some true)
    (h : wpAny (model prog w) A.in1 (Builtin.«object.__getattribute__» ⟨[.ref x, .str name s.toks], []⟩)
      (fun fin s' => match fin with | .done (.ret v) => wpAny (model prog w) A (handedOut v) (fun v s'' => Q (some v) s'') (fun _ _ => False) s' | _ => False) (fun _ _ => False) { s with toks := s.toks + 1 }) :
    wpAny (model prog w) A (getAttr? (.ref x) name) Q E s := by
  obtain ⟨hh, g, d, t, os⟩ := s
  have L0 := I.type (M := model prog w)
  have L1 := PySem.W.looks_findIn (M := model prog w) X hga
  have L2 := PySem.W.looks_findIn (M := model prog w) X hgt
  unfold getAttr? getAttrBy? getAttrBy
  refine wpAny_bind (wpAny_mkText (wpAny_bind (wpAny_attempt (wpAny_holding (wpAny_bind (L0.at (wpAny_bind (L1.at ?_))))))))
  have e1 : (onTheHeap (Value.ref D) && Value.builtin "BaseException.__getattribute__" == Value.builtin "object.__getattribute__") = false := by
    rw [show (Value.builtin "BaseException.__getattribute__" == Value.builtin "object.__getattribute__") = false by decide +kernel]; rfl
  dsimp only
  rw [e1, if_neg Bool.false_ne_true]
  unfold getAttrByItsOwn
  refine wpAny_bind ?_
  show wpAny _ _ (typeLookup (.ref D) "__getattr__") _ _ _
  refine L2.at ?_
  refine wpAny_bind (wpAny_attempt (wpAny_holding ?_))
  show wpAny _ _ (boundAndCalled _ _ _) _ _ _
  unfold boundAndCalled
  rw [F.attr_ValueError.ga.bind (.ref x)]
  refine wpAny_bind (wpAny_pure ?_)
  refine wpAny_call (codeAny_call_builtin F.attr_ValueError.ga.plain F.entry_bexc_ga ?_)
  refine exc_check X I hb ?_
  refine wpAny_mono h (fun fin s' z => ?_) (fun _ _ z => z.elim)
  rcases fin with (_ | _ | _ | _) | _ <;> first | exact wpAny_mono z (fun v s'' hv => wpAny_pure hv) (fun _ _ z => z.elim) | exact z.elim
theorem exc_entry_bind {g a : Value} {tk : Tok} {P : Value → Shared → Prop} (X : K.In s.heap) (I : PySem.W.InstAt s.heap x ox D odo) (hf : PySem.W.findObj K D odo name = some (.bind g a)) (h : wpAny (model prog w) A (call g [a, .ref x, .ref D]) P E s) :
    wpAny (model prog w) A (Builtin.«object.__getattribute__» ⟨[.ref x, .str name tk], []⟩) (fun fin s' => match fin with | .done (.ret v) => P v s' | _ => False) E s := by
  obtain ⟨hh, gg, d, t, os⟩ := s
  have L0 := I.type (M := model prog w)
  have L1 := PySem.W.looks_find (M := model prog w) X I hf
  refine wpAny_bind (wpAny_pure (wpAny_bind (wpAny_pure (wpAny_bind (L0.at (wpAny_bind (L1.at ?_)))))))
  show wpAny _ _ (holding [a] (call g [a, .ref x, .ref D]) >>= ret) _ _ _
  exact wpAny_bind (wpAny_holding (wpAny_mono h (fun v s' z => wpAny_pure z) fun _ _ z => z))
theorem exc_entry_value {v : Value} {tk : Tok} {P : Value → Shared → Prop} (X : K.In s.heap) (I : PySem.W.InstAt s.heap x ox D odo) (hf : PySem.W.findObj K D odo name = some (.value v)) (h : P v s) :
    wpAny (model prog w) A (Builtin.«object.__getattribute__» ⟨[.ref x, .str name tk], []⟩) (fun fin s' => match fin with | .done (.ret v) => P v s' | _ => False) E s := by
  obtain ⟨hh, gg, d, t, os⟩ := s
  have L0 := I.type (M := model prog w)
  have L1 := PySem.W.looks_find (M := model prog w) X I hf
  refine wpAny_bind (wpAny_pure (wpAny_bind (wpAny_pure (wpAny_bind (L0.at (wpAny_bind (L1.at ?_)))))))
  exact wpAny_pure h
end
end L2
namespace L2
open PySem PySem.Spec PyProof.Rows
structure ExcT (K : PySem.W.Frag) (C : Addr) : Prop where
  ga : PySem.W.findIn K (.ref C) "__getattribute__" = some (some (.builtin "BaseException.__getattribute__"))
  gt : PySem.W.findIn K (.ref C) "__getattr__" = some none
  be : PySem.W.mroIn K C (.type "BaseException") = some true
  hd : PySem.W.hasDictIn K C = true
  ha : PySem.W.findIn K (.ref C) "__class__" = some (some (.builtin "object.__class__"))
  hn : PySem.W.specialIn K (.builtin "object.__class__") "__get__" = some (some (.builtin "getset_descriptor.__get__"))
  tk : PySem.W.takesIn K (.builtin "object.__class__") = some true
  ob : PySem.W.mroIn K C (.type "object") = some true
theorem find_data {K : PySem.W.Frag} {C : Addr} {name : Str} {od : Option Obj} {a g : Value} (hc : (PySem.W.clsIn K C).isSome = true) (ha : PySem.W.findIn K (.ref C) name = some (some a)) (hg : PySem.W.specialIn K a "__get__" = some (some g)) (ht : PySem.W.takesIn K a = some true) :
    PySem.W.findObj K C od name = some (.bind g a) := by
  obtain ⟨cd, e⟩ := Option.isSome_iff_exists.mp hc
  unfold PySem.W.findObj
  rw [e, Option.bind_some, ha, Option.bind_some]
  simp [hg, ht]
theorem cls_some {K : PySem.W.Frag} {C : Addr} (h : PySem.W.hasDictIn K C = true) : (PySem.W.clsIn K C).isSome = true := by
  obtain ⟨cd, e, _⟩ := PySem.W.any_some h
  rw [e]
  rfl
theorem kitx_exc {K : PySem.W.Frag} {C e : Addr} {o : Obj} (T : ExcT K C) : PySem.W.KitX K (.ref e) (.ref C) (fun h => PySem.W.InstAt h e o C none) where
  ty := fun _ _ _ J => J.type
  it := fun _ _ Y _ => by
    obtain ⟨cd, e1⟩ := Option.isSome_iff_exists.mp (cls_some T.hd)
    unfold PySem.W.clsIn at e1
    split at e1
    · rename_i look
      intro A' Q' E' s' k q
      unfold isType loadHead
      exact wpAny_bind (wpAny_loadPart (k _ _ (Y _ _ look)) (wpAny_pure q))
    · cases e1
  ne := fun h tp dd its n sl Y htp => by
    refine Bool.eq_false_iff.mpr fun q => ?_
    have e2 : C = tp := Value.ref.inj (beq_iff_eq.mp q)
    subst e2
    obtain ⟨cd, e1⟩ := Option.isSome_iff_exists.mp (cls_some T.hd)
    unfold PySem.W.clsIn at e1
    split at e1
    · rename_i look
      have z := (Y _ _ look).symm.trans htp
      cases z
    · cases e1
  ca := fun {prog w A E Q s} Y J k =>
    exc_open Y J T.ga T.gt T.be (exc_entry_bind (s := { s with toks := s.toks + 1 }) Y J (find_data (cls_some T.hd) T.ha T.hn T.tk)
      (wpAny_call (PySem.W.class_get (s := { s with toks := s.toks + 1 }) Y J T.ob (PySem.W.handed_on rfl k))))
section
variable {X : Cx}
def rIsE (K : PySem.W.Frag) (c : V) (cv : Value) : List V → Hp → VK → Prop := fun xs H Q => ∃ e C b, xs = [.ref e, c] ∧ H e = some (excO e (.ref C) none) ∧ ExcT K C ∧ PySem.W.kitOne K (.ref C) cv = some b ∧ Q (.bl b) H
end
end L2
namespace L2
open PySem PySem.Spec PyProof.Rows
theorem Fly.un {P : Program} {w : World} {outer l : List Env} {H H' : Hp} {h h' h2 : Heap} {e : Addr} {cls : Value} {dd : Option Addr} {B : Heap} (F : Fly P w outer H H' h h' e cls dd B) (g : Go B l h' h2)
    (hd : ∀ b o, h.get? b = some o → b ∈ frs outer → ∀ vs, o.data ≠ .fields vs) (hn : ∀ b ∈ frs outer, H b = none) : Un (frs outer) [] H H' h h2 where
  keep := fun b o z n nf _ => g.st b o (F.keep b o z n nf)
  slot := fun b o z n hb _ => by
    obtain ⟨sl, q⟩ := F.slot b o z n hb (hd b o z hb)
    obtain ⟨sl2, q2⟩ := g.up b _ q (hd b o z hb)
    exact ⟨sl2, q2⟩
  free := fun b o z n _ => F.free b o z n
  there := fun b o z _ => by
    by_cases hb : b ∈ frs outer
    · obtain ⟨sl, q⟩ := F.slot b o z (hn b hb) hb (hd b o z hb)
      obtain ⟨sl2, q2⟩ := g.up b _ q (hd b o z hb)
      exact ⟨_, q2⟩
    · obtain ⟨o', q⟩ := F.there b o z hb
      exact ⟨o', g.st b o' q⟩
  tups := F.tups
  frzs := F.frzs
  tbls := F.tbls
theorem ObjOk.there {P : Program} {w : World} {H : Hp} {h : Heap} {a : Addr} {o : HO} (x : ObjOk P w H h a o) : ∃ ob, h.get? a = some ob := by
  cases o with
  | lst xs => obtain ⟨_, _, _, _, e⟩ := x; exact ⟨_, e⟩
  | tup xs => obtain ⟨_, _, _, ob, e, _⟩ := x; exact ⟨_, e⟩
  | dK kvs => obtain ⟨_, _, _, _, ob, _, _, e, _⟩ := x; exact ⟨_, e⟩
  | dT kvs => obtain ⟨_, _, _, _, ob, _, _, e, _⟩ := x; exact ⟨_, e⟩
  | set S n => obtain ⟨ob, _, _, _, e, _⟩ := x; exact ⟨_, e⟩
  | ins C dx fs => obtain ⟨_, _, _, e, _⟩ := x; exact ⟨_, e⟩
  | own y => exact x
  | xd fs => obtain ⟨_, ⟨_, _, _, e, _⟩, _⟩ := x; exact ⟨_, e⟩
  | rng lo hi => obtain ⟨_, _, _, e⟩ := x; exact ⟨_, e⟩
  | frz ob u => exact ⟨_, x.1⟩
  | tbl ps => exact ⟨_, (show h.get? a = some _ from x)⟩
  | met f y => exact ⟨_, (show h.get? a = some _ from x)⟩
  | ext φ => exact x.2.1
theorem Inv.forget {X : Cx} {pins : List (Addr × Obj)} {σ : St} {H : Hp} {s : Shared} {h' : Heap} {m' : Str → Option Value} {tk : Nat} (I : Inv X pins σ H s) (n : h'.Ns X.env.locals m') (sb : Heap.SameBut X.env.locals s.heap h') :
    Inv X pins (List.replicate X.N.length none) H { s with heap := h', toks := tk } := by
  have ne : ∀ b o, X.s₀.heap.get? b = some o → b ≠ X.env.locals := fun b o e => Nat.ne_of_lt (Nat.lt_of_lt_of_le (Heap.lt_size e) I.ok.above)
  refine ⟨I.ok, I.os, I.bare, ⟨fun b o e n' hb hx => ?_, fun b o e n' hb hx => ?_, I.base.free, fun b o e hx => ?_, I.base.tups, I.base.frzs, I.base.tbls⟩, ⟨m', n, fun j y v _ e2 _ => ?_⟩, fun y c e => ?_, I.free, I.freeC, fun p hp => ?_, fun a o e => ?_, by simp⟩
  · exact (sb.2 b (ne b o e)).trans (I.base.keep b o e n' hb hx)
  · obtain ⟨sl, e1⟩ := I.base.slot b o e n' hb hx
    exact ⟨sl, (sb.2 b (ne b o e)).trans e1⟩
  · obtain ⟨o', e1⟩ := I.base.there b o e hx
    exact ⟨o', (sb.2 b (ne b o e)).trans e1⟩
  · rw [List.getElem?_replicate] at e2
    split at e2 <;> cases e2
  · obtain ⟨v, z⟩ := I.cell y c e
    exact ⟨v, z.sameBut sb (I.cne y c e)⟩
  · obtain ⟨e, n', nl, nf, d⟩ := I.pin p hp
    exact ⟨(sb.2 p.1 nl).trans e, n', nl, nf, d⟩
  · refine (I.hok a o e).stay (fun b u hb z => (sb.2 b fun q => ?_).trans z) (fun _ z => z) fun _ _ z => z
    have fr := I.free
    rw [← q] at fr
    rcases hb with rfl | hb
    · rw [e] at fr; cases fr
    · rw [hb] at fr; cases fr
def retOnly (D : Ends) : Ends := { nx := fun _ _ => False, rt := D.rt }
def CatchE (K : PySem.W.Frag) (D : Addr) (i : Nat) (th : TS) (Dn : Ends) (σ : St) : XK := fun cls dd H' => ∃ C, cls = .ref C ∧ Catches K C D true ∧ ∀ e, H' e = none → th (retOnly Dn) (σ.set i (some (.ref e))) (upd H' e (excO e cls dd))
section
variable {X : Cx} {pins : List (Addr × Obj)} {σ : St} {H : Hp} {s : Shared}
theorem catch_as {n x : Str} {i : Nat} {D : Addr} {b₀ : Stmt} {suite : List Stmt} {hpos np : Pos} {ts : TS} {Dn : Ends} {ev : Value} {s' : Shared} (I : Inv X pins σ H s) (dx : DefX X) (hN : X.N.Nodup) (hi : X.N[i]? = some n)
    (hn : X.env.scope.names.lookup n = some .local) (hg : Gl X x) (hm : X.mg x = some (.ref D)) (hxd : (x == ("__debug__" : Str)) = false) (hs : ∀ e, PSs (X.held e) (b₀ :: suite) ts)
    (c : CX1 X.prog X.w X.stack H s (CatchE X.K D i ts Dn σ) ev s') :
    wpAny (model X.prog X.w) X.A (noteFrame ev X.env) (fun _ s2 => wpAny (model X.prog X.w) X.A (setFlight ev none) (fun _ s3 =>
      wpAny (model X.prog X.w) X.A (handleBy ev X.env [.ExceptHandler (some (.Name x np)) (some n) (b₀ :: suite) hpos]) (SP X pins Dn) X.xe s3) X.xe s2) X.xe s' := by
  obtain ⟨e, cls, dd, B, H', rfl, os, bare, F, C, rfl, cat, rd⟩ := c
  have fr := F.fr
  have stk : X.A.frames = some (X.env :: X.outer) := by rw [I.ok.frames, dx.st]
  rw [dx.st] at fr
  refine note_exc stk fr dx.fr F.st F.en F.ex (.inr rfl) fun h1 g1 x1 => ?_
  refine flight_exc (s := { s' with heap := h1 }) g1.fr g1.st x1 fun h2 g2 x2 => ?_
  have hd : ∀ b o, s.heap.get? b = some o → b ∈ frs X.stack → ∀ vs, o.data ≠ .fields vs := fun b o z hb => frame_data I hb z
  have mk : ∀ h3, Go B (X.env :: X.outer) s'.heap h3 → Inv X pins σ H' { s' with heap := h3 } := fun h3 g3 =>
    I.call' (s' := { s' with heap := h3 }) (ch := []) os (F.un g3 hd I.stkFree) (F.hok.kept fun b o z => g3.st b o z) bare fun b z => absurd z (by simp)
  have I2 := mk h2 (g1.trans g2)
  have gone : s.heap.get? e = none := by
    cases z : s.heap.get? e with
    | none => rfl
    | some o =>
      by_cases hb : e ∈ frs X.stack
      · have q := (F.fr.mem hb).2
        obtain ⟨u, hu, nu⟩ := q
        obtain ⟨oe, vs, he, _, _, hdd, _⟩ := F.ex
        rw [he] at hu
        cases hu
        exact absurd hdd (nu vs)
      · obtain ⟨o', q⟩ := F.there e o z hb
        rw [F.en] at q
        cases q
  refine wpAny_handleBy_cons (codeAny_handlers_test (ld_glob (X := X.held e) (I2.held e) hg hm ?_ hxd)) (by intro q; cases q)
  obtain ⟨oe, vs, he, hc, _⟩ := id x2
  refine exc_matches (s := { s' with heap := h2 }) I2.kIn cat he hc ?_
  refine codeAny_handlers_suite_as ?_
  refine flight_exc (s := { s' with heap := h2 }) g2.fr g2.st x2 fun h3 g3 x3 => ?_
  have I3 := mk h3 ((g1.trans g2).trans g3)
  have fn : H' e = none := by
    cases z : H' e with
    | none => rfl
    | some u => obtain ⟨ob, q⟩ := (F.hok e u z).there; rw [F.en] at q; cases q
  have I4 : Inv X pins σ (upd H' e (excO e (.ref C) dd)) { s' with heap := h3 } := by
    refine I3.track fn ?_ ?_ (fun y c' z q => ?_) (fun p hp q => ?_) (excO_ok x3)
    · cases z : X.s₀.heap.get? e with
      | none => rfl
      | some o => obtain ⟨o', q⟩ := I.base.there e o z (by rw [dx.ex]; simp); rw [gone] at q; cases q
    · intro q
      obtain ⟨m, ⟨o, _, _, ho, _⟩, _⟩ := I.loc
      rw [← q, gone] at ho
      cases ho
    · obtain ⟨v, o, ho, _⟩ := I.cell y c' z
      rw [q, gone] at ho
      cases ho
    · have z := (I.pin p hp).1
      rw [q, gone] at z
      cases z
  refine store_ok (v := .ref e) I4 hN hi (.inl hn) rfl (fun s5 I5 => ?_) (.inr hn)
  refine wpAny_mono (hs e pins s5 _ _ (retOnly Dn) (I5.held e) (rd e fn)) (fun f s6 q => ?_) fun _ _ z => z.elim
  cases f with
  | next => obtain ⟨_, _, _, z⟩ := q; exact z.elim
  | brk => obtain ⟨_, _, _, z⟩ := q; exact z.elim
  | cont => obtain ⟨_, _, _, z⟩ := q; exact z.elim
  | ret u =>
    obtain ⟨v, σ6, H6, I6, r6, q6⟩ := q
    have I7 := I6.letgo I.ok
    obtain ⟨m, hns, _⟩ := I7.loc
    refine wpAny_nameGoes hn hns (by rw [I.ok.kind]; rfl) fun h7 m7 n7 sb => ?_
    exact ⟨v, _, H6, I7.forget n7 sb, r6, q6⟩
end
end L2
namespace L2
open PySem PySem.Spec PyProof.Rows
section
variable {X : Cx} {CX : CXT} {k : Nat} {f C D : Addr} {fd : FuncData} {ps : List Str} {sp : Sp} {x d n : Str} {i : Nat} {p np cpos epos hpos pos : Pos} {e : Expr} {es : List Expr} {t : TA} {b₀ : Stmt} {suite : List Stmt} {th : TS}
theorem call_at {pins : List (Addr × Obj)} {σ : St} {H : Hp} {s : Shared} {Q : VK} {us : List Value} {vs : List V} {E : XK} {W : Value → Shared → Prop} (F : FnOk X.prog X.w X.K X.mg X.base CX k f fd ps sp) (hr : Room k X.A)
    (hb : Binds X.K fd ps []) (I : Inv X pins σ H s) (r : Vals vs us) (hx : ∀ H1 s1 ev s', Inv X pins σ H1 s1 → CX X.stack H1 s1 E ev s' → W ev s') (h : sp vs H Q E) :
    wpAny (model X.prog X.w) X.A (call (.ref f) us) (EP X pins σ Q) W s := by
  have hl : (us ++ []).length = ps.length := by rw [List.append_nil, ← r.length]; exact F.len _ _ _ _ h
  have bd := hb s us I.kIn hl
  rw [List.append_nil] at bd
  refine wpAny_call (codeAny_mono (F.run X.A X.stack s H ⟨us, []⟩ us vs Q E hr I.env0 bd r h) fun res s' z => ?_)
  cases res with
  | error ev => exact hx H s ev s' I z
  | ok fl =>
    cases fl with
    | ret u => exact I.after z
    | next => exact False.elim z
    | brk => exact False.elim z
    | cont => exact False.elim z
def tTryMake (K : PySem.W.Frag) (C D : Addr) (i : Nat) (sp : Sp) (t : TA) (th : TS) : TS := fun Dn σ H => t σ H fun vs H1 => ∀ a da, H1 a = none → H1 da = none → da ≠ a →
  sp (.ref a :: vs) (upd (upd H1 da (.own a)) a (.ins C da [])) (fun v H2 => v = .non ∧ Dn.nx σ H2) (CatchE K D i th Dn σ)
def tTryCall (K : PySem.W.Frag) (D : Addr) (i : Nat) (sp : Sp) (t : TA) (th : TS) : TS := fun Dn σ H => t σ H fun vs H1 => sp vs H1 (fun _ H2 => Dn.nx σ H2) (CatchE K D i th Dn σ)
theorem ps_tryCall (dx : DefX X) (F : FnOk X.prog X.w X.K X.mg X.base (CX1 X.prog X.w) k f fd ps sp) (hr : Room k X.A) (hg : Gl X x) (hm : X.mg x = some (.ref f)) (hk : PySem.W.keepIn X.K (.ref f) = true) (hb : Binds X.K fd ps [])
    (ha : ∀ W, PA (X.wish W) (e :: es) t) (hN : X.N.Nodup) (hi : X.N[i]? = some n) (hn : X.env.scope.names.lookup n = some .local) (hgd : Gl X d) (hmd : X.mg d = some (.ref D)) (hs : ∀ e, PSs (X.held e) (b₀ :: suite) th)
    (hdb : (x == ("__debug__" : Str)) = false := by decide) (hdd : (d == ("__debug__" : Str)) = false := by decide) (he : starEach (e :: es) X.env = (false, eval e X.env) :: starEach es X.env := by rfl) (hpl : (backTo cpos (starEach es X.env)).any (·.1) = false := by rfl)
    (hsw : swapsWith (.Call (.Name x p) (e :: es) [] cpos) none epos.line X.env = pure false := by rfl) :
    PS X (.Try [.Expr (.Call (.Name x p) (e :: es) [] cpos) epos] [.ExceptHandler (some (.Name d np)) (some n) (b₀ :: suite) hpos] [] [] pos) (tTryCall X.K D i sp t th) := by
  intro pins s σ H Dn I h
  refine wpAny_Try_except (wpAny_execs_cons (wpAny_Expr_any ?_ I.quiet hsw))
  refine wpAny_Call_Name_kw (ld_glob I hg hm ?_ hdb)
  refine PySem.W.callWith_K (h₀ := X.base) I.ok.mod.kin hk ?_ he hpl
  refine wpAny_mono (ha (fun e₀ s₁ => wpAny (model X.prog X.w) X.A (noteFrame e₀ X.env) (fun _ s₂ => wpAny (model X.prog X.w) X.A (setFlight e₀ none) (fun _ s₃ => wpAny (model X.prog X.w) X.A (handleBy e₀ X.env [.ExceptHandler (some (.Name d np)) (some n) (b₀ :: suite) hpos]) (SP X pins Dn) X.xe s₃) X.xe s₂) X.xe s₁) cpos pins s σ H _ (I.wish _) h) (fun us s1 z => ?_) (fun _ _ z => z)
  obtain ⟨vs, H1, I1', r, q⟩ := z
  refine ⟨I1'.kIn, ?_⟩
  have I1 := I1'.unwish
  refine thn (call_at (Q := fun _ H2 => Dn.nx σ H2) F hr hb I1 r (fun H2 s2 ev s' I2 z => catch_as I2 dx hN hi hn hgd hmd hdd hs z) q) fun u s2 ⟨v, H2, I2, _, q2⟩ => ?_
  exact wpAny_execs_nil (wpAny_execs_nil ⟨σ, H2, I2, q2⟩)
end
end L2
namespace L2
open PySem PySem.Spec PyProof.Rows
def relK (env : Env) (n : Str) (k : NameKind) : NameKind := if (k == .free && env.scope.kind == .function && env.kindOf n == some .cell) then .cell else k
theorem look_rel (env : Env) (x : Str) : ∀ names : List (Str × NameKind),
    (names.map fun (n, k) => if (k == NameKind.free && env.scope.kind == .function && env.kindOf n == some .cell) then (n, NameKind.cell) else (n, k)).lookup x = (names.lookup x).map (relK env x)
  | [] => rfl
  | (n, k) :: r => by
    have ih := look_rel env x r
    rw [List.map_cons]
    have e : (if (k == NameKind.free && env.scope.kind == .function && env.kindOf n == some .cell) = true then (n, NameKind.cell) else (n, k)) = (n, relK env n k) := by
      unfold relK; split <;> rfl
    show List.lookup x ((if (k == NameKind.free && env.scope.kind == .function && env.kindOf n == some .cell) = true then (n, NameKind.cell) else (n, k)) :: _) = _
    rw [e, List.lookup_cons, List.lookup_cons]
    cases hx : x == n with
    | true => obtain rfl : x = n := eq_of_beq hx; rfl
    | false => exact ih
theorem rel_look {sc : Scope} {env : Env} {x : Str} {k : NameKind} (h : (relabel sc env).names.lookup x = some k) : ∃ k0, sc.names.lookup x = some k0 ∧ relK env x k0 = k := by
  have e : (relabel sc env).names.lookup x = (sc.names.lookup x).map (relK env x) := look_rel env x sc.names
  rw [e] at h
  cases q : sc.names.lookup x with
  | none => rw [q] at h; cases h
  | some k0 => rw [q] at h; exact ⟨k0, rfl, Option.some.inj h⟩
def closL (cells : List (Str × Addr)) : List (Str × NameKind) → List (Str × Addr) → List (Str × Addr)
  | [], acc => acc
  | (n, k) :: r, acc => if k == .free then closL cells r ((n, (cells.lookup n).getD 0) :: acc) else closL cells r acc
theorem clos_run {env : Env} (f : Str × NameKind → List (Str × Addr) → Sem (ForInStep (List (Str × Addr))))
    (hf : ∀ n k c, f (n, k) c = if k == .free then (do let a ← cellOf env n; pure (.yield ((n, a) :: c))) else pure (.yield c)) :
    ∀ (names : List (Str × NameKind)) (acc : List (Str × Addr)), (∀ y ∈ names, y.2 = .free → ∃ c, env.cells.lookup y.1 = some c) → forIn names acc f = pure (closL env.cells names acc)
  | [], _, _ => rfl
  | (n, k) :: r, acc, h => by
    have ih := fun a => clos_run f hf r a fun y hy => h y (List.mem_cons_of_mem _ hy)
    rw [List.forIn_cons, hf]
    unfold closL
    by_cases hk : (k == NameKind.free) = true
    · obtain ⟨c, e⟩ := h (n, k) List.mem_cons_self (eq_of_beq hk)
      have e' : env.cells.lookup n = some c := e
      have ec : cellOf env n = pure c := by unfold cellOf; rw [e']
      rw [if_pos hk, if_pos hk, ec, e']
      exact ih _
    · rw [if_neg hk, if_neg hk]
      exact ih _
theorem clos_is {sc : Scope} {env : Env} (h : ∀ y ∈ sc.names, y.2 = .free → ∃ c, env.cells.lookup y.1 = some c) : closureFor sc env = pure (closL env.cells sc.names []) := by
  have q := clos_run (env := env) (fun (y : Str × NameKind) c => if y.2 == .free then (do let a ← cellOf env y.1; pure (.yield ((y.1, a) :: c))) else pure (.yield c)) (fun _ _ _ => rfl) sc.names [] h
  have e : closureFor sc env = (forIn sc.names ([] : List (Str × Addr)) (fun (y : Str × NameKind) c => if y.2 == .free then (do let a ← cellOf env y.1; pure (.yield ((y.1, a) :: c))) else pure (.yield c)) >>= fun cs => pure cs) := rfl
  rw [e, q]
  rfl
theorem clos_look {cells : List (Str × Addr)} {x : Str} : ∀ (names : List (Str × NameKind)) (acc : List (Str × Addr)),
    (closL cells names acc).lookup x = some ((cells.lookup x).getD 0) ∨ ((closL cells names acc).lookup x = acc.lookup x ∧ (x, NameKind.free) ∉ names)
  | [], acc => .inr ⟨rfl, by simp⟩
  | (n, k) :: r, acc => by
    unfold closL
    split
    · rename_i hk
      rcases clos_look (cells := cells) (x := x) r ((n, (cells.lookup n).getD 0) :: acc) with q | ⟨q, q2⟩
      · exact .inl q
      · rw [List.lookup_cons] at q
        cases hx : x == n with
        | true => obtain rfl : x = n := eq_of_beq hx; rw [hx] at q; exact .inl q
        | false =>
          rw [hx] at q
          refine .inr ⟨q, fun z => ?_⟩
          rcases List.mem_cons.mp z with z | z
          · cases z; simp at hx
          · exact q2 z
    · rename_i hk
      rcases clos_look (cells := cells) (x := x) r acc with q | ⟨q, q2⟩
      · exact .inl q
      · refine .inr ⟨q, fun z => ?_⟩
        rcases List.mem_cons.mp z with z | z
        · cases z; simp at hk
        · exact q2 z
theorem cf_look {x : Str} : ∀ (names : List (Str × NameKind)) (n : Nat) (acc : List (Str × Addr)),
    (∃ c : Nat, n ≤ c ∧ c < n + names.length ∧ (cellsFrom n names acc).lookup x = some c ∧ (x, NameKind.cell) ∈ names) ∨ ((cellsFrom n names acc).lookup x = acc.lookup x ∧ (x, NameKind.cell) ∉ names)
  | [], n, acc => .inr ⟨rfl, by simp⟩
  | (m, k) :: r, n, acc => by
    unfold cellsFrom
    split
    · rename_i hk
      rcases cf_look (x := x) r (n + 1) ((m, n) :: acc) with ⟨c, h1, h2, h3, h4⟩ | ⟨q, q2⟩
      · exact .inl ⟨c, by omega, by rw [List.length_cons]; omega, h3, List.mem_cons_of_mem _ h4⟩
      · rw [List.lookup_cons] at q
        cases hx : x == m with
        | true =>
          obtain rfl : x = m := eq_of_beq hx
          rw [hx] at q
          exact .inl ⟨n, Nat.le_refl _, by rw [List.length_cons]; omega, q, by rw [eq_of_beq hk]; exact List.mem_cons_self⟩
        | false =>
          rw [hx] at q
          refine .inr ⟨q, fun z => ?_⟩
          rcases List.mem_cons.mp z with z | z
          · cases z; simp at hx
          · exact q2 z
    · rename_i hk
      rcases cf_look (x := x) r n acc with ⟨c, h1, h2, h3, h4⟩ | ⟨q, q2⟩
      · exact .inl ⟨c, h1, by rw [List.length_cons]; omega, h3, List.mem_cons_of_mem _ h4⟩
      · refine .inr ⟨q, fun z => ?_⟩
        rcases List.mem_cons.mp z with z | z
        · cases z; simp at hk
        · exact q2 z
theorem cf_inj : ∀ (names : List (Str × NameKind)) (n : Nat) (acc : List (Str × Addr)), (∀ (x : Str) (c : Nat), acc.lookup x = some c → c < n) → ∀ (x y : Str) (c : Nat), n ≤ c → (cellsFrom n names acc).lookup x = some c → (cellsFrom n names acc).lookup y = some c → x = y
  | [], n, acc, h, x, y, c, hc, e1, e2 => absurd (h x c e1) (by omega)
  | (m, k) :: r, n, acc, h, x, y, c, hc, e1, e2 => by
    unfold cellsFrom at e1 e2
    split at e1
    · rename_i hk
      rw [if_pos hk] at e2
      by_cases hcn : n + 1 ≤ c
      · refine cf_inj r (n + 1) ((m, n) :: acc) (fun z c' q => ?_) x y c hcn e1 e2
        rw [List.lookup_cons] at q
        cases hz : z == m with
        | true => rw [hz] at q; cases q; exact Nat.lt_succ_self _
        | false => rw [hz] at q; have := h z c' q; omega
      · have ecn : c = n := by omega
        subst ecn
        have one : ∀ z, (cellsFrom (c + 1) r ((m, c) :: acc)).lookup z = some c → z = m := fun z q => by
          rcases cf_look (x := z) r (c + 1) ((m, c) :: acc) with ⟨c', h1, _, h3, _⟩ | ⟨q', _⟩
          · rw [h3] at q; cases q; omega
          · rw [q', List.lookup_cons] at q
            cases hz : z == m with
            | true => exact eq_of_beq hz
            | false => rw [hz] at q; have := h z c q; omega
        rw [one x e1, one y e2]
    · rename_i hk
      rw [if_neg hk] at e2
      exact cf_inj r n acc h x y c hc e1 e2
theorem pc_cell : ∀ (names : List (Str × NameKind)) (h : Heap) (acc : List (Str × Addr)) (x : Str) (c : Nat), h.objs.size ≤ c → (∀ (y : Str) (c' : Nat), acc.lookup y = some c' → c' < h.objs.size) → (cellsFrom h.objs.size names acc).lookup x = some c → (pushCells h names).IsCell c none
  | [], h, acc, x, c, hc, ha, e => absurd (ha x c e) (by omega)
  | (m, k) :: r, h, acc, x, c, hc, ha, e => by
    unfold cellsFrom at e
    unfold pushCells
    split
    · rename_i hk
      rw [if_pos hk] at e
      have hsz : (h.push { cls := .type "cell", data := .cell none }).objs.size = h.objs.size + 1 := Heap.size_push ..
      rw [← hsz] at e
      by_cases hcn : h.objs.size + 1 ≤ c
      · refine pc_cell r _ _ x c (by rw [hsz]; exact hcn) (fun y c' q => ?_) e
        rw [List.lookup_cons] at q
        cases hy : y == m with
        | true => rw [hy] at q; cases q; rw [hsz]; exact Nat.lt_succ_self _
        | false => rw [hy] at q; have := ha y c' q; rw [hsz]; omega
      · have ecn : c = h.objs.size := by omega
        refine ⟨{ cls := .type "cell", data := .cell none }, ?_, rfl⟩
        rw [ecn]
        exact pushCells_keeps r _ _ _ (Heap.get?_push_size _ rfl)
    · rename_i hk
      rw [if_neg hk] at e
      exact pc_cell r h acc x c hc ha e
end L2
namespace L2
open PySem PySem.Spec PyProof.Rows
structure BP where
  cl : List (Str × Addr)
  C : Addr
  s : Shared
  H : Hp
  ex : List Addr
  xe : Value → Shared → Prop
def blkEnv (sc : Scope) (cl : List (Str × Addr)) (C : Addr) (env : Env) : Env :=
  { scope := relabel sc env, locals := C, globals := env.globals, cells := cellsFrom (C + 1) sc.names cl, qual := env.qual, func := none, code := env.code, frame := env.frame, builtins := env.builtins }
def blk (X : Cx) (sc : Scope) (b : BP) : Cx :=
  { X with s₀ := b.s, H₀ := b.H, env := blkEnv sc b.cl b.C X.env, outer := X.stack, ex := b.ex, fn := fun x => sc.names.lookup x == some .cell, pn := [], xe := b.xe }
structure BlkOk (N : List Str) (outer sc : Scope) (own : List Nat) : Prop where
  kind : sc.kind = .function
  nd : (sc.names.map (·.1)).Nodup
  free : ∀ y ∈ sc.names, y.2 = .free → outer.names.lookup y.1 = some .cell ∨ outer.names.lookup y.1 = some .free
  own : ∀ y ∈ sc.names, (y.2 = .local ∨ y.2 = .cell) → ∀ i, N[i]? = some y.1 → i ∈ own
theorem look_mem {l : List (Str × NameKind)} (nd : (l.map (·.1)).Nodup) {x : Str} {k : NameKind} (h : (x, k) ∈ l) : l.lookup x = some k := by
  induction l with
  | nil => cases h
  | cons y r ih =>
    obtain ⟨n, k'⟩ := y
    rw [List.map_cons, List.nodup_cons] at nd
    rw [List.lookup_cons]
    rcases List.mem_cons.mp h with e | h
    · cases e; simp
    · have : (x == n) = false := by
        rw [beq_eq_false_iff_ne]
        intro e
        exact nd.1 (List.mem_map.mpr ⟨_, h, e⟩)
      rw [this]
      exact ih nd.2 h
def wipe (own : List Nat) (σ : St) : St := own.foldl (fun σ i => σ.set i none) σ
theorem wipe_len (own : List Nat) : ∀ σ : St, (wipe own σ).length = σ.length := by
  induction own with
  | nil => intro σ; rfl
  | cons i r ih => intro σ; show (wipe r (σ.set i none)).length = _; rw [ih]; simp
theorem wipe_get (own : List Nat) : ∀ (σ : St) (i : Nat) (v : V), (wipe own σ)[i]? = some (some v) → σ[i]? = some (some v) ∧ i ∉ own := by
  induction own with
  | nil => intro σ i v h; exact ⟨h, by simp⟩
  | cons j r ih =>
    intro σ i v h
    obtain ⟨h1, h2⟩ := ih (σ.set j none) i v h
    by_cases hj : j = i
    · subst hj
      rw [List.getElem?_set] at h1
      split at h1
      · split at h1 <;> cases h1
      · rename_i z; exact absurd rfl z
    · rw [List.getElem?_set_ne hj] at h1
      exact ⟨h1, by simp [h2, Ne.symm hj]⟩
def Back (σ σ' : St) : Prop := σ'.length = σ.length ∧ ∀ (i : Nat) v, σ[i]? = some (some v) → σ'[i]? = some (some v)
section
variable {X : Cx} {pins : List (Addr × Obj)} {σ : St} {H : Hp} {s : Shared} {sc : Scope} {own : List Nat} {fp : List Addr} {xe : Value → Shared → Prop}
theorem relK_vis {env : Env} {x : Str} {k k0 : NameKind} (e : relK env x k0 = k) (hk : k = .local ∨ k = .cell ∨ k = .free) : k0 = k ∨ (k0 = .free ∧ k = .cell) := by
  unfold relK at e
  split at e
  · rename_i hc
    rw [Bool.and_eq_true, Bool.and_eq_true] at hc
    exact .inr ⟨eq_of_beq hc.1.1, e.symm⟩
  · exact .inl e
theorem blk_start (I : Inv X pins σ H s) (B : BlkOk X.N X.env.scope sc own) (hf : ∀ b ∈ fp, FpOk X pins H b) (hfo : ∀ b ∈ fp, b < s.heap.objs.size) :
    Inv (blk X sc ⟨closL X.env.cells sc.names [], s.heap.objs.size + 1, s, H, fp, xe⟩) [(s.heap.objs.size, { cls := .type "list", data := .seq ([] : List Value).toArray })] (wipe own σ) H
      { s with heap := pushCells ((s.heap.push { cls := .type "list", data := .seq ([] : List Value).toArray }).push { cls := .type "dict", data := .dict #[] }) sc.names } := by
  generalize hh2 : s.heap.push { cls := .type "list", data := .seq ([] : List Value).toArray } = h2
  have sz2 : h2.objs.size = s.heap.objs.size + 1 := by rw [← hh2, Heap.size_push]
  generalize hh3 : h2.push { cls := .type "dict", data := .dict #[] } = h3
  have sz3 : h3.objs.size = s.heap.objs.size + 2 := by rw [← hh3, Heap.size_push, sz2]
  have k3 : ∀ b o, h3.get? b = some o → (pushCells h3 sc.names).get? b = some o := pushCells_keeps sc.names h3
  have k2 : ∀ b o, h2.get? b = some o → (pushCells h3 sc.names).get? b = some o := fun b o e => k3 b o (by rw [← hh3]; exact Heap.get?_push_of_some _ e)
  have k1 : ∀ b o, s.heap.get? b = some o → (pushCells h3 sc.names).get? b = some o := fun b o e => k2 b o (by rw [← hh2]; exact Heap.get?_push_of_some _ e)
  have free_has : ∀ x, (x, NameKind.free) ∈ sc.names → ∃ c, X.env.cells.lookup x = some c := fun x hx => I.ok.has x (B.free (x, .free) hx rfl)
  have clL : ∀ x c, (closL X.env.cells sc.names []).lookup x = some c → (x, NameKind.free) ∈ sc.names → X.env.cells.lookup x = some c := fun x c e hx => by
    obtain ⟨c', e'⟩ := free_has x hx
    rcases clos_look (cells := X.env.cells) (x := x) sc.names [] with q | ⟨q, q2⟩
    · rw [q, e'] at e; rw [e']; exact e
    · exact absurd hx q2
  have clM : ∀ x c, (closL X.env.cells sc.names []).lookup x = some c → (x, NameKind.free) ∈ sc.names ∨ (closL X.env.cells sc.names []).lookup x = none := fun x c e => by
    by_cases hx : (x, NameKind.free) ∈ sc.names
    · exact .inl hx
    · refine .inr ?_
      have : ∀ (names : List (Str × NameKind)) (acc : List (Str × Addr)), (x, NameKind.free) ∉ names → (closL X.env.cells names acc).lookup x = acc.lookup x := by
        intro names
        induction names with
        | nil => intro acc _; rfl
        | cons y r ih =>
          obtain ⟨n, k⟩ := y
          intro acc hn
          unfold closL
          split
          · rename_i hk
            rw [ih _ fun z => hn (List.mem_cons_of_mem _ z), List.lookup_cons]
            have : (x == n) = false := by
              rw [beq_eq_false_iff_ne]
              rintro rfl
              exact hn (by rw [eq_of_beq hk]; exact List.mem_cons_self)
            rw [this]
          · exact ih _ fun z => hn (List.mem_cons_of_mem _ z)
      exact this sc.names [] hx
  have clX : ∀ x c, (closL X.env.cells sc.names []).lookup x = some c → X.env.cells.lookup x = some c ∧ (x, NameKind.free) ∈ sc.names := fun x c e => by
    rcases clM x c e with hx | hx
    · exact ⟨clL x c e hx, hx⟩
    · rw [hx] at e; cases e
  have clLt : ∀ (x : Str) (c : Nat), (closL X.env.cells sc.names []).lookup x = some c → c < s.heap.objs.size := fun x c e => by
    obtain ⟨v, q⟩ := I.cell x c (clX x c e).1
    exact q.lt
  have cells : ∀ (x : Str) (c : Nat), (cellsFrom (s.heap.objs.size + 1 + 1) sc.names (closL X.env.cells sc.names [])).lookup x = some c →
      (s.heap.objs.size + 2 ≤ c ∧ (x, NameKind.cell) ∈ sc.names ∧ (pushCells h3 sc.names).IsCell c none) ∨ (X.env.cells.lookup x = some c ∧ (x, NameKind.free) ∈ sc.names) := fun x c e => by
    rcases cf_look (x := x) sc.names (s.heap.objs.size + 1 + 1) (closL X.env.cells sc.names []) with ⟨c', h1, _, h3', h4⟩ | ⟨q, _⟩
    · rw [h3'] at e; cases e
      refine .inl ⟨h1, h4, ?_⟩
      refine pc_cell sc.names h3 (closL X.env.cells sc.names []) x c (by rw [sz3]; exact h1) (fun y d q => ?_) (by rw [sz3]; exact h3')
      have := clLt y d q
      rw [sz3]; omega
    · rw [q] at e
      exact .inr (clX x c e)
  have hfrs : ∀ b ∈ frs X.stack, b < s.heap.objs.size := fun b hb => by
    obtain ⟨_, o, ho, _⟩ := I.stack.mem hb
    exact Heap.lt_size ho
  have newNs : (pushCells h3 sc.names).Ns (s.heap.objs.size + 1) fun _ => none := by
    have := (Heap.Ns.new h2 (.type "dict")).keeps (h' := pushCells h3 sc.names) (by rw [hh3]; exact k3)
    rw [sz2] at this
    exact this
  refine ⟨⟨I.ok.mod, B.kind, I.ok.glob, I.ok.blt, Nat.le_succ _, fun x y c e1 e2 => ?_, fun x hx => ?_, fun x c hx e => ?_, I.ok.hd, I.ok.frames, .inl rfl, fun b hb => ⟨?_, fun x c e => ?_⟩, fun b o e => I.bs b o e, Nat.le_trans I.ok.bsz I.sz, fun b o e hb => ?_, fun b hb hb' => ?_, I.stack, I.stkFree⟩,
    rfl, I.bare, Un.kept k1, ⟨_, newNs, fun i x v h1 h2' h3' => ?_⟩, fun x c e => ?_, I.hok.fresh (Nat.le_succ _), fun x c e => ?_, fun p hp => ?_, I.hok.kept k1, ?_⟩
  · 
    rcases cells x c e1 with ⟨a1, a2, _⟩ | ⟨a1, _⟩ <;> rcases cells y c e2 with ⟨b1, b2, _⟩ | ⟨b1, _⟩
    · exact cf_inj sc.names _ _ (fun z d q => by have := clLt z d q; omega) x y c a1 e1 e2
    · obtain ⟨v, q⟩ := I.cell y c b1
      exact absurd q.lt (Nat.not_lt.mpr (Nat.le_trans (Nat.le_add_right _ 2) (by assumption)))
    · obtain ⟨v, q⟩ := I.cell x c a1
      exact absurd q.lt (Nat.not_lt.mpr (Nat.le_trans (Nat.le_add_right _ 2) (by assumption)))
    · exact I.ok.inj x y c a1 b1
  · 
    have hx : (relabel sc X.env).names.lookup x = some .cell ∨ (relabel sc X.env).names.lookup x = some .free := hx
    have : (x, NameKind.cell) ∈ sc.names ∨ (x, NameKind.free) ∈ sc.names := by
      rcases hx with hx | hx
      · obtain ⟨k0, q1, q2⟩ := rel_look hx
        rcases relK_vis q2 (.inr (.inl rfl)) with rfl | ⟨rfl, _⟩
        · exact .inl (PySem.mem_of_lookup q1)
        · exact .inr (PySem.mem_of_lookup q1)
      · obtain ⟨k0, q1, q2⟩ := rel_look hx
        rcases relK_vis q2 (.inr (.inr rfl)) with rfl | ⟨_, z⟩
        · exact .inr (PySem.mem_of_lookup q1)
        · cases z
    show ∃ c, (cellsFrom (s.heap.objs.size + 1 + 1) sc.names (closL X.env.cells sc.names [])).lookup x = some c
    rcases cf_look (x := x) sc.names (s.heap.objs.size + 1 + 1) (closL X.env.cells sc.names []) with ⟨c', _, _, h3', _⟩ | ⟨q, qn⟩
    · exact ⟨c', h3'⟩
    · rcases this with z | z
      · exact absurd z qn
      · rw [q]
        rcases clos_look (cells := X.env.cells) (x := x) sc.names [] with q' | ⟨_, q2⟩
        · exact ⟨_, q'⟩
        · exact absurd z q2
  · 
    rcases cells x c e with ⟨a1, _⟩ | ⟨_, a2⟩
    · show s.heap.objs.size ≤ c; omega
    · have hx' : sc.names.lookup x = some .cell := eq_of_beq hx
      rw [look_mem B.nd a2] at hx'
      cases hx'
  · exact Nat.ne_of_lt (Nat.lt_succ_of_lt (hfo b hb))
  · have := hfo b hb
    rcases cells x c e with ⟨a1, _⟩ | ⟨a1, _⟩
    · exact fun z => absurd this (Nat.not_lt.mpr (by rw [← z]; exact Nat.le_trans (Nat.le_add_right _ 2) a1))
    · exact (hf b hb).2.2.2.2.1 x c a1
  · 
    rcases (hf b hb).2.2.2.1 with z | z
    · exact I.ok.noex b o e z
    · exact absurd (Heap.lt_size e) (Nat.not_lt.mpr (Nat.le_trans I.ok.bsz z))
  · rcases List.mem_cons.mp (I.stkSub b hb') with z | z
    · exact (hf b hb).2.1 z
    · exact (hf b hb).2.2.1 z
  · 
    obtain ⟨h2a, h2b⟩ := wipe_get own σ i v h2'
    have h3c : (relabel sc X.env).names.lookup x = some .local ∨ (relabel sc X.env).names.lookup x = some .cell ∨ (relabel sc X.env).names.lookup x = some .free := h3'
    have notown : ∀ k, sc.names.lookup x = some k → k ≠ .local ∧ k ≠ .cell := fun k q => ⟨fun z => h2b (B.own (x, k) (PySem.mem_of_lookup q) (.inl z) i h1), fun z => h2b (B.own (x, k) (PySem.mem_of_lookup q) (.inr z) i h1)⟩
    have fr : (x, NameKind.free) ∈ sc.names := by
      rcases h3c with z | z | z
      · obtain ⟨k0, q1, q2⟩ := rel_look z
        rcases relK_vis q2 (.inl rfl) with rfl | ⟨_, z⟩
        · exact absurd rfl (notown _ q1).1
        · cases z
      · obtain ⟨k0, q1, q2⟩ := rel_look z
        rcases relK_vis q2 (.inr (.inl rfl)) with rfl | ⟨rfl, _⟩
        · exact absurd rfl (notown _ q1).2
        · exact PySem.mem_of_lookup q1
      · obtain ⟨k0, q1, q2⟩ := rel_look z
        rcases relK_vis q2 (.inr (.inr rfl)) with rfl | ⟨_, z⟩
        · exact PySem.mem_of_lookup q1
        · cases z
    obtain ⟨m, hn, hl⟩ := I.loc
    have hv : Vis X.env.scope x := by
      rcases B.free _ fr rfl with z | z
      · exact .inr (.inl z)
      · exact .inr (.inr z)
    obtain ⟨u, r, l⟩ := hl i x v h1 h2a hv
    refine ⟨u, r, ?_⟩
    have kk : (blkEnv sc (closL X.env.cells sc.names []) (s.heap.objs.size + 1) X.env).kindOf x = some .cell ∨ (blkEnv sc (closL X.env.cells sc.names []) (s.heap.objs.size + 1) X.env).kindOf x = some .free := by
      rcases h3c with z | z | z
      · obtain ⟨k0, q1, q2⟩ := rel_look z
        rw [look_mem B.nd fr] at q1
        cases q1
        rcases relK_vis q2 (.inl rfl) with z | ⟨_, z⟩ <;> cases z
      · exact .inl z
      · exact .inr z
    rcases l with ⟨l1, _⟩ | ⟨_, c, ec, z⟩
    · have l1 : X.env.scope.names.lookup x = some .local := l1
      rcases B.free _ fr rfl with z | z <;> (rw [l1] at z; cases z)
    · refine .inr ⟨kk, c, ?_, z.keeps k1⟩
      show (cellsFrom (s.heap.objs.size + 1 + 1) sc.names (closL X.env.cells sc.names [])).lookup x = some c
      rcases cf_look (x := x) sc.names (s.heap.objs.size + 1 + 1) (closL X.env.cells sc.names []) with ⟨c', _, _, _, h4⟩ | ⟨q, _⟩
      · have := look_mem B.nd h4
        rw [look_mem B.nd fr] at this
        cases this
      · rw [q]
        rcases clos_look (cells := X.env.cells) (x := x) sc.names [] with q' | ⟨_, q2⟩
        · rw [q', ec]; rfl
        · exact absurd fr q2
  · 
    rcases cells x c e with ⟨_, _, a3⟩ | ⟨a1, _⟩
    · exact ⟨_, a3⟩
    · obtain ⟨v, q⟩ := I.cell x c a1
      exact ⟨v, q.keeps k1⟩
  · 
    rcases cells x c e with ⟨a1, _⟩ | ⟨a1, _⟩
    · exact I.hok.fresh (by show s.heap.objs.size ≤ c; omega)
    · exact I.freeC x c a1
  · 
    have hp' : p ∈ ([(s.heap.objs.size, { cls := .type "list", data := .seq ([] : List Value).toArray })] : List (Addr × Obj)) := hp
    obtain rfl : p = (s.heap.objs.size, { cls := .type "list", data := .seq ([] : List Value).toArray }) := by simpa using hp'
    refine ⟨k2 _ _ (by rw [← hh2]; exact Heap.get?_push_size _ rfl), I.hok.fresh (Nat.le_refl _), Nat.ne_of_lt (Nat.lt_succ_self _), fun z => Nat.lt_irrefl _ (hfrs _ z), fun v z => ?_⟩
    have z' : Data.seq ([] : List Value).toArray 0 = Data.cell v := z
    cases z'
  · rw [wipe_len]; exact I.len
end
end L2
namespace L2
open PySem PySem.Spec PyProof.Rows
def testsOf (ifs : List Expr) (env : Env) : Sem Bool :=
  forIn ifs true fun c r => if r = true then (do let ok ← isTrue c env (eval c env); pure (ForInStep.yield ok)) else pure (ForInStep.yield r)
def PTs (X : Cx) (ifs : List Expr) (t : TT) : Prop :=
  ∀ (pins : List (Addr × Obj)) (s : Shared) (σ : St) (H : Hp) (Q : Bool → Hp → Prop), Inv X pins σ H s → t σ H Q → wpAny (model X.prog X.w) X.A (testsOf ifs X.env) (TP X pins σ Q) X.xe s
def tYes : TT := fun _ H Q => Q true H
theorem pts_nil {X : Cx} : PTs X [] tYes := fun _ _ _ H _ I h => wpAny_tests_nil ⟨H, I, h⟩
theorem pts_one {X : Cx} {c : Expr} {t : TT} (hc : PT X c t) : PTs X [c] t := fun pins s σ H Q I h => wpAny_tests_one (hc pins s σ H Q I h)
section
variable {prog : Program} {w : World} {A : Around} {E : Value → Shared → Prop} {R : Result → Shared → Prop} {s : Shared}
theorem newEnv_run {M : Model} {sc : Scope} {g : Addr} {cl : List (Str × Addr)} {qual : Str} {env : Env} {bl : Addr} {Q : Env → Shared → Prop}
    (h : Q { scope := sc, locals := s.heap.objs.size, globals := g, cells := cellsFrom (s.heap.objs.size + 1) sc.names cl, qual := qual, func := none, code := env.code, frame := env.frame, builtins := env.builtins }
      { s with heap := pushCells (s.heap.push { cls := .type "dict", data := .dict #[] }) sc.names }) : wpAny M A (newFunctionEnv sc g cl [] qual none .none (some env) bl) Q E s := by
  simp only [newFunctionEnv, Option.isSome_some, if_true]
  refine wpAny_bind (wpAny_alloc ?_)
  refine wpAny_bind (wpAny_layCells _ (fun name kind cells => by cases hkc : kind == NameKind.cell <;> simp [hkc]) _ _ _ _ ?_)
  rw [show ({ s with heap := s.heap.push { cls := .type "dict", data := .dict #[] } } : Shared).heap.objs.size = s.heap.objs.size + 1 from Heap.size_push ..]
  exact wpAny_bind (wpAny_pure (wpAny_pure h))
theorem comp_loop {elt tg iter : Expr} {ifs : List Expr} {sc : Scope} {pos : Pos} {it acc : Value} {env : Env} (J : Nat → Shared → Prop)
    (turn : ∀ n s, J n s → wpAny (model prog w) A (pyNext it) (fun r s1 => match r with
      | none => R (.ok .next) s1
      | some v => wpAny (model prog w) A (letOwnedTupleGo tg it v) (fun _ s2 => wpAny (model prog w) A (assign tg env v) (fun _ s3 => wpAny (model prog w) A (testsOf ifs env) (fun ok s4 =>
          if ok = true then wpAny (model prog w) A (eval elt env) (fun x s5 => wpAny (model prog w) A (call (.builtin "list.append") [acc, x]) (fun _ s6 => ∃ m, m < n ∧ J m s6) (notedBy (model prog w) A env fun e s' => R (.error e) s') s5) (notedBy (model prog w) A env fun e s' => R (.error e) s') s4
          else ∃ m, m < n ∧ J m s4) (notedBy (model prog w) A env fun e s' => R (.error e) s') s3) (notedBy (model prog w) A env fun e s' => R (.error e) s') s2) (notedBy (model prog w) A env fun e s' => R (.error e) s') s1) (notedBy (model prog w) A env fun e s' => R (.error e) s') s)
    (n : Nat) (h : J n s) : codeAny (model prog w) A (.compLoop (.ListComp elt [⟨tg, iter, ifs, 0⟩] sc pos) 0 it acc env) R s := by
  refine codeAny_loop rfl J (fun n s hJ => ?_) n h
  show wpAny _ A ((compTurn (.ListComp elt [⟨tg, iter, ifs, 0⟩] sc pos) 0 it acc env).onRaise fun x => (do noteFrame x env; theTreesLotGoes x)) _ _ s
  refine wpAny_noted ?_
  rw [compTurn_list]
  refine wpAny_bind (wpAny_standAt (wpAny_bind (thn (turn n s hJ) fun r s1 h1 => ?_)))
  cases r with
  | none => exact wpAny_pure h1
  | some v =>
    refine wpAny_bind (thn h1 fun _ s2 h2 => wpAny_bind (thn h2 fun _ s3 h3 => wpAny_bind (thn h3 fun ok s4 h4 => ?_)))
    cases ok with
    | false => exact wpAny_pure ⟨rfl, h4⟩
    | true => exact wpAny_bind (wpAny_bind (thn h4 fun x s5 h5 => wpAny_bind (thn h5 fun _ s6 h6 => wpAny_pure (wpAny_pure ⟨rfl, h6⟩))))
end
theorem HOk.track {P : Program} {w : World} {H : Hp} {h : Heap} {a : Addr} {o : HO} (x : HOk P w H h) (n : H a = none) (new : ObjOk P w (upd H a o) h a o) : HOk P w (upd H a o) h := fun b u e => by
  by_cases hb : b = a
  · subst hb; rw [upd_same] at e; cases e; exact new
  · rw [upd_ne hb] at e
    exact (x b u e).stay (fun c v _ q => q) (fun c q => by rw [upd_ne (ne_of_none q n)]; exact q) fun c xs q => by rw [upd_ne (ne_of_none q n)]; exact q
theorem Un.track {fs ex : List Addr} {H H' : Hp} {h h' : Heap} {a : Addr} {o : HO} (u : Un fs ex H H' h h') (n : H' a = none) (hz : h.objs.size ≤ a) : Un fs ex H (upd H' a o) h h' where
  keep := u.keep
  slot := u.slot
  free := fun b ob q m hx => by rw [upd_ne (Nat.ne_of_lt (Nat.lt_of_lt_of_le (Heap.lt_size q) hz))]; exact u.free b ob q m hx
  there := u.there
  tups := fun b xs q => by have := u.tups b xs q; rw [upd_ne (ne_of_none this n)]; exact this
  frzs := fun b ob w q => by have := u.frzs b ob w q; rw [upd_ne (ne_of_none this n)]; exact this
  tbls := fun b ps q => by obtain ⟨m, e⟩ := u.tbls b ps q; exact ⟨m, by rw [upd_ne (ne_of_none e n)]; exact e⟩
def CompW (J : It) (g : TG) (tt : TT) (te : TE) (σ0 : St) (R : List V → Hp → Prop) (H1 : Hp) : Prop :=
  ∃ W : Nat → Nat → List V → Hp → Prop, (∃ m, W 0 m [] H1) ∧ ∀ i m ys H, W i m ys H →
    (J.stop i H ∧ R ys H) ∨ (J.go i H ∧ i < sizeLine ∧ ∃ N : List V → Hp → Prop, (∀ ys' H', N ys' H' → ∃ m', m' < m ∧ W (i + 1) m' ys' H') ∧ ∀ x H', J.yld i H x H' → g x σ0 H' fun σ2 H2 => Back σ0 σ2 ∧ tt σ2 H2 fun b H3 =>
      if b = true then te σ2 H3 fun y H4 => N (ys ++ [y]) H4 else N ys H3)
section
variable {X : Cx} {sc : Scope} {own : List Nat} {tg iter elt : Expr} {ifs : List Expr} {wi : TI} {g : TG} {tt : TT} {te : TE}
theorem comp_run {pins : List (Addr × Obj)} {σ : St} {H : Hp} {s : Shared} {pos ppos : Pos} {use : Option (Value → Sem Unit)} {Qc : Value → Shared → Prop} {R : List V → Hp → Prop}
    (hc : X.calm = true) (B : BlkOk X.N X.env.scope sc own) (hi : PI X tg iter wi) (hg : ∀ b, PG (blk X sc b) tg g) (ht : ∀ b, PTs (blk X sc b) ifs tt) (he : ∀ b, PE (blk X sc b) elt te)
    (hs : ∀ x, foldedSetIterable iter X.env x = pure x) (I : Inv X pins σ H s) (h : wi σ H fun J H1 => CompW J g tt te (wipe own σ) R H1)
    (fin : ∀ D C H' ys s' m, Inv X pins σ (upd H' D (.lst ys)) s' → H' D = none → R ys H' → s'.heap.Ns C m → FpOk X pins (upd H' D (.lst ys)) C → compPost (model X.prog X.w) X.A X.xe use Qc (.ref D) C (.ok .next) s') :
    wpAny (model X.prog X.w) X.A (comprehension (.ListComp elt [⟨tg, iter, ifs, 0⟩] sc pos) sc X.env ppos (newList []) false (eval iter X.env) use) Qc X.xe s := by
  have hnames : ∀ x ∈ sc.names, x.2 = .local → sc.names.lookup x.1 = some .local := fun x hx e => look_mem B.nd (by rw [← e]; exact hx)
  refine wpAny_comprehension_free (cl := closL X.env.cells sc.names []) (use := use) rfl hs (clos_is fun y hy e => I.ok.has y.1 (B.free y hy e)) B.kind hnames ?_
  refine thn (hi pins s σ H _ I h) fun v s1 h1 => thn h1 fun itv s2 h2 => ?_
  obtain ⟨it, fp, tn, J, H2, e, I2, T, st2, f2, W, ⟨m0, w0⟩, turn⟩ := h2
  subst e
  refine wpAny_newObj_type (newEnv_run ?_)
  have fpo : ∀ b ∈ fp, b < s2.heap.objs.size := fun b hb => let ⟨o, ho, _⟩ := T.obj _ _ st2 b hb; Heap.lt_size ho
  obtain ⟨D, hD⟩ : ∃ D, D = s2.heap.objs.size := ⟨_, rfl⟩
  obtain ⟨C, hC⟩ : ∃ C, C = s2.heap.objs.size + 1 := ⟨_, rfl⟩
  have szp : (s2.heap.push { cls := .type "list", dict := none, data := .seq ([] : List Value).toArray }).objs.size = C := by rw [hC, Heap.size_push]
  have hDC : D ≠ C := by rw [hD, hC]; exact Nat.ne_of_lt (Nat.lt_succ_self _)
  have st := blk_start (xe := notedBy (model X.prog X.w) X.A (blkEnv sc (closL X.env.cells sc.names []) C X.env) fun e s' => compPost (model X.prog X.w) X.A X.xe use Qc (.ref D) C (.error e) s') I2 B f2 fpo
  dsimp only
  rw [szp, ← hD]
  rw [← hC, ← hD] at st
  generalize hX : blk X sc ⟨closL X.env.cells sc.names [], C, s2, H2, fp, notedBy (model X.prog X.w) X.A (blkEnv sc (closL X.env.cells sc.names []) C X.env) fun e s' => compPost (model X.prog X.w) X.A X.xe use Qc (.ref D) C (.error e) s'⟩ = Y at st
  have eY : Y.env = blkEnv sc (closL X.env.cells sc.names []) C X.env := by rw [← hX]; rfl
  have exY : Y.xe = notedBy (model X.prog X.w) X.A Y.env fun e s' => compPost (model X.prog X.w) X.A X.xe use Qc (.ref D) C (.error e) s' := by rw [eY, ← hX]; rfl
  have pY : Y.prog = X.prog := by rw [← hX]; rfl
  have wY : Y.w = X.w := by rw [← hX]; rfl
  have KY : Y.K = X.K := by rw [← hX]; rfl
  have AY : Y.A = X.A := by rw [← hX]; rfl
  have cY : Y.calm = true := by rw [← hX]; exact hc
  have gY := hg ⟨closL X.env.cells sc.names [], C, s2, H2, fp, notedBy (model X.prog X.w) X.A (blkEnv sc (closL X.env.cells sc.names []) C X.env) fun e s' => compPost (model X.prog X.w) X.A X.xe use Qc (.ref D) C (.error e) s'⟩
  have tY := ht ⟨closL X.env.cells sc.names [], C, s2, H2, fp, notedBy (model X.prog X.w) X.A (blkEnv sc (closL X.env.cells sc.names []) C X.env) fun e s' => compPost (model X.prog X.w) X.A X.xe use Qc (.ref D) C (.error e) s'⟩
  have lY := he ⟨closL X.env.cells sc.names [], C, s2, H2, fp, notedBy (model X.prog X.w) X.A (blkEnv sc (closL X.env.cells sc.names []) C X.env) fun e s' => compPost (model X.prog X.w) X.A X.xe use Qc (.ref D) C (.error e) s'⟩
  rw [hX] at gY tY lY
  have fsY : Y.fs = frs X.stack := by rw [← hX]; rfl
  have exfY : Y.ex = fp := by rw [← hX]; rfl
  have s0Y : Y.s₀ = s2 := by rw [← hX]; rfl
  have H0Y : Y.H₀ = H2 := by rw [← hX]; rfl
  have LY : Y.env.locals = C := by rw [eY]; rfl
  have pnY : Y.pn = [] := by rw [← hX]; rfl
  have eEnv : ({ scope := relabel sc X.env, locals := C, globals := X.env.globals, cells := cellsFrom (C + 1) sc.names (closL X.env.cells sc.names []), qual := X.env.qual, func := none, code := X.env.code, frame := X.env.frame, builtins := X.env.builtins } : Env) = Y.env := by rw [eY]; rfl
  rw [eEnv]
  have TY : Turn Y.prog Y.w Y.K tg J fp it tn := by rw [pY, wY, KY]; exact T
  have dfp : ∀ b ∈ fp, b ≠ D := fun b hb => by rw [hD]; exact Nat.ne_of_lt (fpo b hb)
  have stat : ∀ {pl : List (Addr × Obj)} {H' : Hp}, (∀ p ∈ pl, p.1 = D) → (∀ b ∈ fp, H' b = none) → ∀ b ∈ fp, FpOk Y pl H' b := fun {pl H'} hpl hn b hb => by
    have f := st.ok.exf b (by rw [exfY]; exact hb)
    refine ⟨hn b hb, f.1, st.ok.exfs b (by rw [exfY]; exact hb), .inl (by rw [exfY]; exact hb), f.2, fun p hp => ?_⟩
    rw [pnY, List.nil_append] at hp
    rw [hpl p hp]
    exact Ne.symm (dfp b hb)
  let Lp : Nat → Shared → Prop := fun n s' => ∃ i ys us k H', Inv Y [(D, { cls := .type "list", data := .seq (us : List Value).toArray k })] (wipe own σ) H' s' ∧ tn i s'.heap ∧ (∀ b ∈ fp, H' b = none) ∧ Vals ys us ∧ ys.length ≤ sizeLine ∧ ys.length ≤ i ∧ W i n ys H'
  have start : Lp m0 { s2 with heap := pushCells ((s2.heap.push { cls := .type "list", dict := none, data := .seq ([] : List Value).toArray }).push { cls := .type "dict", data := .dict #[] }) sc.names } := by
    refine ⟨0, [], [], 0, H2, st, T.keep _ _ _ st2 fun b hb o e => ?_, fun b hb => (f2 b hb).1, .nil, Nat.zero_le _, Nat.zero_le _, w0⟩
    exact pushCells_keeps sc.names _ _ _ (Heap.get?_push_of_some _ (Heap.get?_push_of_some _ e))
  have loop : ∀ s4, Lp m0 s4 → codeAny (model X.prog X.w) X.A (.compLoop (.ListComp elt [⟨tg, iter, ifs, 0⟩] sc pos) 0 (.ref it) (.ref D) Y.env) (compPost (model X.prog X.w) X.A X.xe use Qc (.ref D) C) s4 := by
    intro s4 h4
    refine comp_loop Lp ?_ m0 h4
    rintro n s5 ⟨i, ys, us, k, H5, I5, st5, fr5, vs5, le5, ll5, w5⟩
    rw [← exY, ← pY, ← wY, ← AY]
    have pinD : ∀ p ∈ ([(D, { cls := .type "list", data := .seq us.toArray k })] : List (Addr × Obj)), p.1 = D := fun p hp => by
      obtain rfl : p = (D, { cls := .type "list", data := .seq us.toArray k }) := by simpa using hp
      rfl
    rcases turn i n ys H5 w5 with ⟨stop, qn⟩ | ⟨go, lt, N, hN, step⟩
    · refine thn (TY.done Y rfl rfl rfl cY i _ s5 _ H5 Y.xe I5 (stat pinD fr5) st5 stop) fun r s6 ⟨hr, I6⟩ => ?_
      subst hr
      obtain ⟨p1, p2, p3, p4, _⟩ := I6.pin (D, { cls := .type "list", data := .seq us.toArray k }) (List.mem_append_right _ (by simp))
      have u6 : Un (frs X.stack) fp H2 (upd H5 D (.lst ys)) s2.heap s6.heap := by
        have u := I6.base
        rw [fsY, exfY, s0Y, H0Y] at u
        exact u.track p2 (by rw [hD]; exact Nat.le_refl _)
      have hok : HOk X.prog X.w (upd H5 D (.lst ys)) s6.heap := by
        have := I6.hok
        rw [pY, wY] at this
        exact this.track p2 ⟨le5, us, k, vs5, p1⟩
      have I7 : Inv X pins σ (upd H5 D (.lst ys)) s6 := I2.call' (ch := fp) (by rw [← s0Y]; exact I6.os) u6 hok I6.bare fun b hb => ⟨(f2 b hb).2.2.2.1, (f2 b hb).2.1, (f2 b hb).2.2.2.2.1, (f2 b hb).2.2.2.2.2⟩
      obtain ⟨m, hn, _⟩ := I6.loc
      rw [LY] at hn
      rw [pY, wY, AY]
      refine fin D C H5 ys s6 m I7 p2 qn hn (I2.fpOk (by rw [hC]; exact Nat.le_succ _) ?_)
      rw [upd_ne (Ne.symm hDC), ← LY]
      exact I6.free
    · refine thn (TY.item Y rfl rfl rfl cY i _ s5 _ H5 Y.xe I5 (stat pinD fr5) st5 go) fun r s6 ⟨u, hr, h6⟩ => ?_
      subst hr
      refine thn h6 fun _ s7 ⟨x, H7, I7, r7, y7, st7, fr7⟩ => ?_
      have I7' := I7.pinned (stat pinD fr7) (T.obj _ _ st7)
      refine thn (gY _ s7 _ H7 x u _ I7' r7 (step x H7 y7)) fun _ s8 ⟨σ8, H8, I8, bk, q8⟩ => ?_
      refine thn (tY _ s8 σ8 H8 _ I8 q8) fun ok s9 ⟨H9, I9, q9⟩ => ?_
      have fpk : ∀ {σ' : St} {H' : Hp} {s' : Shared}, Inv Y ([(D, { cls := .type "list", data := .seq us.toArray k })] ++ pinsAt fp s7.heap) σ' H' s' → tn (i + 1) s'.heap ∧ (∀ b ∈ fp, H' b = none) := fun {σ' H' s'} I' =>
        ⟨T.keep _ _ _ st7 fun b hb o e => (I'.pin (b, o) (List.mem_append_right _ (List.mem_append_right _ (mem_pinsAt hb e)))).1, fun b hb => by
          obtain ⟨o, e, d⟩ := T.obj _ _ st7 b hb
          exact (I'.pin (b, o) (List.mem_append_right _ (List.mem_append_right _ (mem_pinsAt hb e)))).2.1⟩
      cases ok with
      | false =>
        obtain ⟨m', hm, w'⟩ := hN _ _ q9
        obtain ⟨t9, fr9⟩ := fpk I9
        exact ⟨m', hm, i + 1, ys, us, k, H9, I9.unpinned.weak bk.1.symm bk.2, t9, fr9, vs5, le5, Nat.le_succ_of_le ll5, w'⟩
      | true =>
        refine thn (lY _ s9 σ8 H9 _ I9 q9) fun yv sa ⟨y, Ha, Ia, ra, qa⟩ => ?_
        obtain ⟨m', hm, w'⟩ := hN _ _ qa
        obtain ⟨ta, fra⟩ := fpk Ia
        obtain ⟨p1, p2, p3, p4, _⟩ := Ia.pin (D, { cls := .type "list", data := .seq us.toArray k }) (List.mem_append_right _ (List.mem_append_left _ (by simp)))
        have lus := vs5.length
        refine call_meets F.slot_list_append ⟨_, p1, rfl⟩ F.entry_list_append (F.args_list_append_2 _ _) (PySem.list_append D us.toArray k yv (by rw [List.size_toArray]; omega)) ⟨p1, ?_⟩
        have q := PySem.IsL.update p1 (fun z => z.push yv)
        have Ib : Inv Y [] (wipe own σ) Ha { sa with heap := sa.heap.update D (Obj.mapSeq fun z => z.push yv) } := by
          have I0 : Inv Y [] (wipe own σ) Ha sa := (Ia.pins_of (pins' := []) fun p hp => absurd hp (by simp)).weak bk.1.symm bk.2
          refine I0.turned (t' := sa.toks) (it := D) (fun b o hb e => (Heap.get?_update_other sa.heap _ (Ne.symm hb)).trans e) p2 (by rw [LY]; exact hDC) (.inr (by rw [s0Y, hD]; exact Nat.le_refl _)) (fun z c e => ?_) fun p hp => absurd (show p ∈ ([] : List (Addr × Obj)) by rw [← pnY]; simpa using hp) (by simp)
          obtain ⟨v, o, ho, hd⟩ := st.cell z c e
          rintro rfl
          obtain ⟨o1, _⟩ := st.pin (c, { cls := .type "list", data := .seq ([] : List Value).toArray }) (List.mem_append_right _ (by simp))
          rw [o1] at ho
          cases ho
          cases hd
        have q' : (sa.heap.update D (Obj.mapSeq fun z => z.push yv)).get? D = some { cls := .type "list", data := .seq (us ++ [yv]).toArray (if (us.toArray.push yv).size == us.toArray.size then k else k + 1) } := by
          have e1 : (us ++ [yv]).toArray = us.toArray.push yv := by simp
          rw [e1]; exact q
        refine ⟨m', hm, i + 1, ys ++ [y], us ++ [yv], (if (us.toArray.push yv).size == us.toArray.size then k else k + 1), Ha, Ib.pins_of fun p hp => ?_, T.keep _ _ _ ta fun b hb o e => (Heap.get?_update_other sa.heap _ (Ne.symm (dfp b hb))).trans e, fra, vs5.append (.cons ra .nil), by rw [List.length_append, List.length_singleton]; omega, by rw [List.length_append, List.length_singleton]; omega, w'⟩
        obtain rfl : p = (D, { cls := .type "list", data := .seq (us ++ [yv]).toArray (if (us.toArray.push yv).size == us.toArray.size then k else k + 1) }) := by simpa using hp
        exact ⟨q', p2, by rw [LY]; exact hDC, p4, fun v z => by
          have z' : Data.seq (us ++ [yv]).toArray (if (us.toArray.push yv).size == us.toArray.size then k else k + 1) = Data.cell v := z
          cases z'⟩
  refine codeAny_compStart_list (loop _ start) ?_
  refine T.self X.A 0 _ _ _ ?_ (loop _ start)
  exact T.keep _ _ _ st2 fun b hb o e => pushCells_keeps sc.names _ _ _ (Heap.get?_push_of_some _ (Heap.get?_push_of_some _ e))
end
end L2
namespace L2
open PySem PySem.Spec PyProof.Rows
def nodupS : List Str → Bool
  | [] => true
  | x :: r => !(r.contains x) && nodupS r
theorem nodupS_of : ∀ {l : List Str}, nodupS l = true → l.Nodup
  | [], _ => List.nodup_nil
  | x :: r, h => by
    unfold nodupS at h
    rw [Bool.and_eq_true] at h
    refine List.nodup_cons.mpr ⟨fun z => ?_, nodupS_of h.2⟩
    have : r.contains x = true := List.contains_iff_mem.mpr z
    rw [this] at h
    exact absurd h.1 (by decide)
def blkB (N : List Str) (outer sc : Scope) (own : List Nat) : Bool :=
  sc.kind == .function && nodupS (sc.names.map (·.1)) && sc.names.all (fun y => !(y.2 == .free) || (outer.names.lookup y.1 == some .cell || outer.names.lookup y.1 == some .free)) &&
    sc.names.all (fun y => !(y.2 == .local || y.2 == .cell) || (List.range N.length).all fun i => !(N[i]? == some y.1) || own.contains i)
theorem blk_of {N : List Str} {outer sc : Scope} {own : List Nat} (h : blkB N outer sc own = true) : BlkOk N outer sc own := by
  unfold blkB at h
  rw [Bool.and_eq_true, Bool.and_eq_true, Bool.and_eq_true] at h
  obtain ⟨⟨⟨h1, h2⟩, h3⟩, h4⟩ := h
  refine ⟨eq_of_beq h1, nodupS_of h2, fun y hy e => ?_, fun y hy e i hi => ?_⟩
  · have := List.all_eq_true.mp h3 y hy
    rw [e] at this
    rw [show (!(NameKind.free == NameKind.free)) = false from rfl, Bool.false_or, Bool.or_eq_true] at this
    exact this.imp eq_of_beq eq_of_beq
  · have := List.all_eq_true.mp h4 y hy
    have e' : (y.2 == NameKind.local || y.2 == NameKind.cell) = true := by
      rcases e with e | e <;> rw [e] <;> rfl
    rw [e', Bool.not_true, Bool.false_or] at this
    have hlt : i < N.length := (List.getElem?_eq_some_iff.mp hi).1
    have := List.all_eq_true.mp this i (List.mem_range.mpr hlt)
    rw [hi, beq_self_eq_true, Bool.not_true, Bool.false_or] at this
    exact List.contains_iff_mem.mp this
def tComp (wi : TI) (g : TG) (tt : TT) (te : TE) (own : List Nat) : TE := fun σ H Q => wi σ H fun J H1 => CompW J g tt te (wipe own σ) (fun ys H' => ∀ p H2, New H' H2 p (.lst ys) → Q (.ref p) H2) H1
section
variable {X : Cx} {sc : Scope} {tg iter elt : Expr} {ifs : List Expr} {wi : TI} {g : TG} {tt : TT} {te : TE} {pos : Pos}
theorem Heap.SameBut.keeps {a : Addr} {h h' : Heap} (x : Heap.SameBut a h h') : ∀ b o, b ≠ a → h.get? b = some o → h'.get? b = some o := fun b o hb e => (x.2 b hb).trans e
theorem FpOk.turned {pins : List (Addr × Obj)} {σ : St} {H : Hp} {s : Shared} {C : Addr} {h' : Heap} (I : Inv X pins σ H s) (f : FpOk X pins H C) (sb : Heap.SameBut C s.heap h') : Inv X pins σ H { s with heap := h' } :=
  I.turned (t' := s.toks) (Heap.SameBut.keeps sb) f.1 f.2.1 f.2.2.2.1 f.2.2.2.2.1 f.2.2.2.2.2
theorem pe_comp (own : List Nat) (hc : X.calm = true) (B : BlkOk X.N X.env.scope sc own) (hi : PI X tg iter wi) (hg : ∀ b, PG (blk X sc b) tg g) (ht : ∀ b, PTs (blk X sc b) ifs tt) (he : ∀ b, PE (blk X sc b) elt te)
    (hs : ∀ x, foldedSetIterable iter X.env x = pure x := by intro _; rfl) : PE X (.ListComp elt [⟨tg, iter, ifs, 0⟩] sc pos) (tComp wi g tt te own) := by
  intro pins s σ H Q I h
  rw [eval_ListComp]
  refine comp_run (use := none) hc B hi hg ht he hs I h fun D C H' ys s' m I' n r hn f => ⟨m, hn, fun h' sb => ?_⟩
  exact ⟨.ref D, _, f.turned I' sb, rfl, r D _ (.of n)⟩
theorem ps_setC {i : Nat} {y : Str} {py spos : Pos} (own : List Nat) (hc : X.calm = true) (B : BlkOk X.N X.env.scope sc own) (hi : PI X tg iter wi) (hg : ∀ b, PG (blk X sc b) tg g) (ht : ∀ b, PTs (blk X sc b) ifs tt) (he : ∀ b, PE (blk X sc b) elt te)
    (hN : X.N.Nodup) (hy : X.N[i]? = some y) (hl : X.env.scope.names.lookup y = some .local)
    (hsw : swapsWith (.ListComp elt [⟨tg, iter, ifs, 0⟩] sc pos) (some (.Name y py)) spos.line X.env = pure true := by rfl)
    (hs : ∀ x, foldedSetIterable iter X.env x = pure x := by intro _; rfl) : PS X (.Assign [.Name y py] (.ListComp elt [⟨tg, iter, ifs, 0⟩] sc pos) spos) (tAsg (tComp wi g tt te own) (gName i)) := by
  intro pins s σ H D I h
  rw [exec_Assign_Name_used _ _ _ _ hsw]
  refine wpAny_bind (wpAny_standAt (wpAny_bind ?_))
  show wpAny _ X.A (comprehension (.ListComp elt [⟨tg, iter, ifs, 0⟩] sc pos) sc X.env _ (newList []) false (eval iter X.env) (some (assign (.Name y py) X.env)) >>= fun _ => pure ()) _ _ s
  refine wpAny_bind (comp_run (use := some (assign (.Name y py) X.env)) (Qc := fun _ s' => wpAny (model X.prog X.w) X.A (pure ()) (fun _ s'' => wpAny (model X.prog X.w) X.A (pure Flow.next) (SP X pins D) X.xe s'') X.xe s') hc B hi hg ht he hs I h fun L C H' ys s' m I' n r hn f => ?_)
  refine wpAny_assign_Name (store_ok2 I' hN hy (.inl hl) (v := .ref L) rfl (fun s2 I2 hsb => ?_) (.inr hl))
  obtain ⟨a, sb, ha⟩ := hsb
  have hCa : C ≠ a := by
    rcases ha with z | z
    · rw [z]; exact f.2.1
    · exact Ne.symm (f.2.2.2.2.1 y a z)
  refine ⟨m, hn.sameBut sb hCa, fun h' sb2 => wpAny_pure (wpAny_pure ?_)⟩
  exact ⟨_, _, f.turned I2 sb2, r L _ (.of n)⟩
end
theorem back_set {σ : St} {j : Nat} {v : Option V} (h : ∀ x, σ[j]? ≠ some (some x)) : Back σ (σ.set j v) := by
  refine ⟨by simp, fun i x e => ?_⟩
  by_cases hij : j = i
  · subst hij; exact absurd e (h x)
  · rw [List.getElem?_set_ne hij]; exact e
theorem wipe_one {σ : St} {j : Nat} : ∀ x, (wipe [j] σ)[j]? ≠ some (some x) := fun x e => by
  have := (wipe_get [j] σ j x e).2
  simp at this
theorem wipe_set {σ : St} {j : Nat} {v : Option V} : (wipe [j] σ).set j v = σ.set j v := by
  show (σ.set j none).set j v = _
  simp
section
variable {K : PySem.W.Frag} {tt : TT} {te : TE} {σ : St} {j : Nat} {R : List V → Hp → Prop} {H1 : Hp}
theorem comp_list {a : Addr} {xs : List V} (Pv : Nat → List V → Hp → Prop) (hz : xs.length ≤ sizeLine) (h0 : Pv 0 [] H1) (hl : ∀ i ys H, i ≤ xs.length → Pv i ys H → SqL K H a xs)
    (hs : ∀ i x ys H, xs[i]? = some x → Pv i ys H → tt (σ.set j (some x)) H fun b H3 => if b = true then te (σ.set j (some x)) H3 fun y H4 => Pv (i + 1) (ys ++ [y]) H4 else Pv (i + 1) ys H3) (hd : ∀ ys H, Pv xs.length ys H → R ys H) :
    CompW (Itl K a) (gName j) tt te (wipe [j] σ) R H1 := by
  refine ⟨fun i m ys H => m = xs.length - i ∧ i ≤ xs.length ∧ Pv i ys H, ⟨xs.length, by simp, Nat.zero_le _, h0⟩, ?_⟩
  rintro i m ys H ⟨rfl, hi, p⟩
  have q := hl i ys H hi p
  by_cases hlt : i < xs.length
  · refine .inr ⟨⟨xs, xs[i], q, by simp [hlt]⟩, by omega, Pv (i + 1), fun ys' H' q' => ⟨xs.length - (i + 1), by omega, rfl, hlt, q'⟩, fun x H' y => ?_⟩
    obtain ⟨e, y⟩ := y
    subst e
    show Back _ _ ∧ _
    refine ⟨back_set wipe_one, ?_⟩
    rw [wipe_set]
    exact hs i x ys _ (y xs q) p
  · have e : i = xs.length := by omega
    subst e
    exact .inl ⟨⟨xs, q, Nat.le_refl _⟩, hd ys H p⟩
theorem comp_range {lo : Int} {n : Nat} (Pv : Nat → List V → Hp → Prop) (hz : n ≤ sizeLine) (h0 : Pv 0 [] H1)
    (hs : ∀ i ys H, i < n → Pv i ys H → tt (σ.set j (some (.int (lo + i)))) H fun b H3 => if b = true then te (σ.set j (some (.int (lo + i)))) H3 fun y H4 => Pv (i + 1) (ys ++ [y]) H4 else Pv (i + 1) ys H3) (hd : ∀ ys H, Pv n ys H → R ys H) :
    CompW (Itr lo n) (gName j) tt te (wipe [j] σ) R H1 := by
  refine ⟨fun i m ys H => m = n - i ∧ i ≤ n ∧ Pv i ys H, ⟨n, by simp, Nat.zero_le _, h0⟩, ?_⟩
  rintro i m ys H ⟨rfl, hi, p⟩
  by_cases hlt : i < n
  · refine .inr ⟨hlt, by omega, Pv (i + 1), fun ys' H' q' => ⟨n - (i + 1), by omega, rfl, hlt, q'⟩, fun x H' y => ?_⟩
    obtain ⟨e, y⟩ := y
    subst e y
    show Back _ _ ∧ _
    refine ⟨back_set wipe_one, ?_⟩
    rw [wipe_set]
    exact hs i ys _ hlt p
  · have e : i = n := by omega
    subst e
    exact .inl ⟨Nat.le_refl _, hd ys H p⟩
end
end L2
namespace L2
open PySem PySem.Spec PyProof.Rows
theorem ints_of : ∀ {ns : List Int} {us : List Value}, Vals (ns.map V.int) us → ∃ xs : Array (Int × Tok), us.toArray = intItems xs ∧ ns = xs.toList.map (·.1)
  | [], _, .nil => ⟨#[], by simp [intItems], rfl⟩
  | n :: ns, u :: us, .cons r t => by
    obtain ⟨tk, rfl⟩ := r
    obtain ⟨xs, e1, e2⟩ := ints_of t
    refine ⟨((n, tk) :: xs.toList).toArray, ?_, by simp [e2]⟩
    have e3 : us = (intItems xs).toList := by rw [← e1]
    rw [e3]
    simp [intItems]
theorem bools_of : ∀ {bs : List Bool} {us : List Value}, Vals (bs.map V.bl) us → us = bs.map Value.bool
  | [], _, .nil => rfl
  | b :: bs, u :: us, .cons r t => by
    have r' : u = Value.bool b := r
    rw [r', bools_of t]
    rfl
section
variable {X : Cx}
theorem call_sumL (hc : X.calm = true) : CallR X (.builtin "sum") (fun xs H Q => ∃ (p : Addr) (ns : List Int), xs = [.ref p] ∧ SqL X.K H p (ns.map V.int) ∧ Q (.int ns.sum) H) := by
  intro pins s σ H xs us Q I r h
  obtain ⟨p, ns, rfl, hq, q⟩ := h
  obtain ⟨u, rfl, rx⟩ := vals1 r
  cases rx
  obtain ⟨its, rv, pl, _⟩ := I.list hq
  obtain ⟨xs, e1, e2⟩ := ints_of rv
  have hl := pl.isList
  rw [e1] at hl
  refine sum_intListG (I.ok.hd hc) hl fun h' tk t' k => ⟨.int ns.sum, H, I.kept k, ⟨t', ?_⟩, q⟩
  rw [preSum_eq, List.take_of_length_le (by simp), e2]
theorem keptIt {h h' : Heap} {o : Obj} (hk : ∀ b x, b ∉ [h.objs.size] → (h.push o).get? b = some x → h'.get? b = some x) : ∀ b x, h.get? b = some x → h'.get? b = some x :=
  fun b x e => hk b x (fun hm => by rw [List.mem_singleton.mp hm] at e; exact Nat.lt_irrefl _ (Heap.lt_size e)) (Heap.get?_push_of_some _ e)
theorem call_allL (hc : X.calm = true) : CallR X (.builtin "all") (fun xs H Q => ∃ (p : Addr) (bs : List Bool), xs = [.ref p] ∧ SqL X.K H p (bs.map V.bl) ∧ Q (.bl (bs.all id)) H) := by
  intro pins s σ H xs us Q I r h
  obtain ⟨p, bs, rfl, hq, q⟩ := h
  obtain ⟨u, rfl, rx⟩ := vals1 r
  cases rx
  obtain ⟨its, rv, pl, _⟩ := I.list hq
  have eb := bools_of rv
  subst eb
  have hl := pl.isList
  have hlt : p < s.heap.objs.size := by obtain ⟨_, e, _⟩ := hl; exact Heap.lt_size e
  refine call_all_walk (wpAny_pyIter_list hl ?_)
  refine ⟨s.heap.objs.size, [s.heap.objs.size, p], [s.heap.objs.size], (bs.map Value.bool).toArray.size, _, _, fun i => (bs[i]?).getD true, rfl, Walks.list (A := X.A.in1) (I.ok.hd hc) _ p (Nat.ne_of_lt hlt) (bs.map Value.bool).toArray,
    ⟨⟨_, Heap.get?_push_size _ rfl, rfl, rfl⟩, hl.push _⟩, fun i v s' Q' E' hP hQ => ?_, fun h' tk hk => ?_⟩
  · have hP' : (bs.map Value.bool)[i]? = some v := by simpa using hP
    rw [List.getElem?_map] at hP'
    cases e : bs[i]? with
    | none => rw [e] at hP'; cases hP'
    | some b =>
      rw [e] at hP'
      cases hP'
      simp only [e, Option.getD_some] at hQ
      exact wpAny_truthy_bool hQ
  · have e : ((List.range (bs.map Value.bool).toArray.size).all fun i => (bs[i]?).getD true) = bs.all id := by
      rw [List.size_toArray, List.length_map]; exact LSm.range_all bs
    rw [e]
    exact ⟨.bl _, H, I.kept (keptIt hk), rfl, q⟩
end
section
variable {X : Cx}
theorem op_catN : OpR X (binaryOp .Add) (fun x y H Q => ∃ l b xs zs, x = .ref l ∧ y = .ref b ∧ H l = some (.lst xs) ∧ H b = some (.lst zs) ∧ xs.length + zs.length ≤ sizeLine ∧ ∀ p H', New H H' p (.lst (xs ++ zs)) → Q (.ref p) H') := by
  intro pins s σ H x y v u Q I rx ry h
  obtain ⟨l, b, xs, zs, e1, e2, h1, h2, h3, q⟩ := h
  exact op_cat pins s σ H x y v u Q I rx ry ⟨l, b, xs, zs, e1, e2, h1, h2, h3, fun p hp => q p _ (.of hp)⟩
end
end L2
namespace L2
open PySem PySem.Spec PyProof.Rows
section
variable {X : Cx}
theorem get_list : PGet X (rIxL X.K) := by
  intro pins s σ H x y v u Q I rx ry h
  obtain ⟨p, xs, i, z, rfl, rfl, hq, he, q⟩ := h
  cases rx
  obtain ⟨t, rfl⟩ := ry
  obtain ⟨its, r, pl, hz⟩ := I.list hq
  obtain ⟨j, h1, h2, h3, h4, h5⟩ := atI_get he
  obtain ⟨w, ew, rw'⟩ := r.get h2
  have hl := r.length
  have hn := line63
  have fin : EP X pins σ Q w s := ⟨z, H, I, rw', q⟩
  by_cases h0 : 0 ≤ i
  · have hj : i.toNat = j := by
      rw [seqIndex_of h0 h5] at h1
      exact Option.some.inj h1
    exact wpAny_getItem_list pl.isList h0 (by omega) (by rw [hj]; simpa using ew) fin
  · have hj : (i + (its.toArray.size : Int)).toNat = j := by
      rw [seqIndex_neg (by omega) h4] at h1
      rw [List.size_toArray, ← hl]
      exact Option.some.inj h1
    exact wpAny_getItem_list_neg pl.isList (by omega) (by rw [List.size_toArray] <;> omega) (by omega) (by rw [hj]; simpa using ew) fin
end
section
variable {K : PySem.W.Frag} {tt : TT} {te : TE} {σ : St} {j : Nat} {R : List V → Hp → Prop} {H1 : Hp}
theorem yes {σ : St} {H : Hp} {F G : Hp → Prop} (h : F H) : tYes σ H (fun b H3 => if b = true then F H3 else G H3) := by
  show if true = true then F H else G H
  exact iteT h
theorem take_map {α β : Type} (f : α → β) {xs : List α} {i : Nat} {x : α} (e : xs[i]? = some x) : (xs.take i).map f ++ [f x] = (xs.take (i + 1)).map f := by
  rw [List.take_add_one, e]; simp
theorem comp_mapL {a : Addr} {xs : List V} (f : V → V) (hl : SqL K H1 a xs) (hz : xs.length ≤ sizeLine) (hs : ∀ (i : Nat) x (Q : VK), xs[i]? = some x → Q (f x) H1 → te (σ.set j (some x)) H1 Q) (hd : R (xs.map f) H1) :
    CompW (Itl K a) (gName j) tYes te (wipe [j] σ) R H1 := by
  refine comp_list (fun i ys H => H = H1 ∧ ys = (xs.take i).map f) hz ⟨rfl, rfl⟩ (fun i ys H _ h => by rw [h.1]; exact hl) (fun i x ys H e h => ?_) (fun ys H h => ?_)
  · obtain ⟨rfl, rfl⟩ := h
    exact yes (hs i x _ e ⟨rfl, take_map f e⟩)
  · obtain ⟨rfl, rfl⟩ := h
    rw [List.take_length]
    exact hd
theorem comp_mapR {lo : Int} {n : Nat} (f : Nat → V) (hz : n ≤ sizeLine) (hs : ∀ (i : Nat) (Q : VK), i < n → Q (f i) H1 → te (σ.set j (some (.int (lo + i)))) H1 Q) (hd : R ((List.range n).map f) H1) :
    CompW (Itr lo n) (gName j) tYes te (wipe [j] σ) R H1 := by
  refine comp_range (fun i ys H => H = H1 ∧ ys = (List.range i).map f) hz ⟨rfl, rfl⟩ (fun i ys H e h => ?_) (fun ys H h => ?_)
  · obtain ⟨rfl, rfl⟩ := h
    refine yes (hs i _ e ⟨rfl, ?_⟩)
    rw [List.range_succ, List.map_append]; rfl
  · obtain ⟨rfl, rfl⟩ := h
    exact hd
theorem comp_filL {a : Addr} {xs : List V} (p : V → Bool) (f : V → V) (hl : SqL K H1 a xs) (hz : xs.length ≤ sizeLine) (ht : ∀ (i : Nat) x (Q : Bool → Hp → Prop), xs[i]? = some x → Q (p x) H1 → tt (σ.set j (some x)) H1 Q)
    (hs : ∀ (i : Nat) x (Q : VK), xs[i]? = some x → p x = true → Q (f x) H1 → te (σ.set j (some x)) H1 Q) (hd : R ((xs.filter p).map f) H1) : CompW (Itl K a) (gName j) tt te (wipe [j] σ) R H1 := by
  refine comp_list (fun i ys H => H = H1 ∧ ys = ((xs.take i).filter p).map f) hz ⟨rfl, rfl⟩ (fun i ys H _ h => by rw [h.1]; exact hl) (fun i x ys H e h => ?_) (fun ys H h => ?_)
  · obtain ⟨rfl, rfl⟩ := h
    refine ht i x _ e ?_
    cases hp : p x with
    | true =>
      refine iteT (hs i x _ e hp ⟨rfl, ?_⟩)
      rw [List.take_add_one, e, List.filter_append, Option.toList_some, List.filter_cons, List.filter_nil, hp]; simp
    | false =>
      refine iteF ⟨rfl, ?_⟩
      rw [List.take_add_one, e, List.filter_append, Option.toList_some, List.filter_cons, List.filter_nil, hp]; simp
  · obtain ⟨rfl, rfl⟩ := h
    rw [List.take_length]
    exact hd
end
theorem Same.upd {H0 H : Hp} {l : Addr} {o : HO} (S : Same H0 H) (n : H0 l = none) : Same H0 (upd H l o) := fun b u e => by
  rw [upd_ne (ne_of_none e n)]
  exact S b u e
end L2
namespace L2
open PySem PySem.Spec PyProof.Rows
def rLen (K : PySem.W.Frag) : List V → Hp → VK → Prop := fun xs H Q => ∃ (p : Addr) (ys : List V), xs = [.ref p] ∧ Sq K H p ys ∧ Q (.int ys.length) H
theorem call_lenQ {X : Cx} : CallR X (.builtin "len") (rLen X.K) := call_len_seq
def rSumL (K : PySem.W.Frag) : List V → Hp → VK → Prop := fun xs H Q => ∃ (p : Addr) (ns : List Int), xs = [.ref p] ∧ SqL K H p (ns.map V.int) ∧ Q (.int ns.sum) H
def rIsT (K : PySem.W.Frag) (c : V) (cv : Value) : List V → Hp → VK → Prop := fun xs H Q => ∃ x t b, xs = [x, c] ∧ TyOf K H x t ∧ PySem.W.kitOne K t cv = some b ∧ Q (.bl b) H
def rMaxL (K : PySem.W.Frag) : List V → Hp → VK → Prop := fun xs H Q => ∃ (p : Addr) (ns : List Int), xs = [.ref p] ∧ SqL K H p (ns.map V.int) ∧ 0 < ns.length ∧ ∀ M, M ∈ ns → (∀ a, a ∈ ns → a ≤ M) → Q (.int M) H
def rMinL (K : PySem.W.Frag) : List V → Hp → VK → Prop := fun xs H Q => ∃ (p : Addr) (ns : List Int), xs = [.ref p] ∧ SqL K H p (ns.map V.int) ∧ 0 < ns.length ∧ ∀ M, M ∈ ns → (∀ a, a ∈ ns → M ≤ a) → Q (.int M) H
def rAllL (K : PySem.W.Frag) : List V → Hp → VK → Prop := fun xs H Q => ∃ (p : Addr) (bs : List Bool), xs = [.ref p] ∧ SqL K H p (bs.map V.bl) ∧ Q (.bl (bs.all id)) H
def rAnyL (K : PySem.W.Frag) : List V → Hp → VK → Prop := fun xs H Q => ∃ (p : Addr) (bs : List Bool), xs = [.ref p] ∧ SqL K H p (bs.map V.bl) ∧ Q (.bl (bs.any id)) H
def rListN (K : PySem.W.Frag) : List V → Hp → VK → Prop := fun xs H Q => ∃ p ys, xs = [.ref p] ∧ Sq K H p ys ∧ ∀ l H', New H H' l (.lst ys) → Q (.ref l) H'
section
variable {X : Cx} (K : PySem.W.Frag)
theorem ix_Q (h : X.K = K := by rfl) : IxR X (rAt K) := by subst h; exact ix_any
theorem len_Q (h : X.K = K := by rfl) : CallR X (.builtin "len") (rLen K) := by subst h; exact call_lenQ
theorem sum_Q (hc : X.calm = true) (h : X.K = K := by rfl) : CallR X (.builtin "sum") (rSumL K) := by subst h; exact call_sumL hc
theorem all_Q (hc : X.calm = true) (h : X.K = K := by rfl) : CallR X (.builtin "all") (rAllL K) := by subst h; exact call_allL hc
theorem pi_listQ {tg l : Expr} {tl : TE} (hl : PE X l tl) (h : X.K = K := by rfl) : PI X tg l (iList K tl) := by subst h; exact pi_list hl
theorem in_Q (h : X.K = K := by rfl) : OpR X (compareOp .In) (rIn K false) := by subst h; exact op_in_seq
theorem getL_Q (h : X.K = K := by rfl) : PGet X (rIxL K) := by subst h; exact get_list
theorem pg_tupQ {es : List Expr} {k : Nat} {t : TGs} {n : Nat} {pos : Pos} (hc : X.calm = true) (ht : PGs X es t) (hn : (assignEach es X.env).length = n := by rfl) (hst : (assignEach es X.env).findIdx? (·.1) = none := by rfl) (h : X.K = K := by rfl) :
    PG X (.Tuple es k pos) (gTup K n t) := by subst h; exact pg_tup hc ht hn hst
theorem op_eqI : OpR X (compareOp .Eq) (rI0 fun i j => .bl (decide (i = j))) := by
  intro pins s σ H x y v u Q I rx ry ⟨i, j, e1, e2, q⟩
  subst e1 e2
  refine op_eq pins s σ H _ _ v u Q I rx ry ⟨rfl, ?_⟩
  rw [dec_int, Bool.beq_eq_decide_eq]
  exact q
theorem op_neI : OpR X (compareOp .NotEq) (rI0 fun i j => .bl (!decide (i = j))) := by
  intro pins s σ H x y v u Q I rx ry ⟨i, j, e1, e2, q⟩
  subst e1 e2
  refine op_ne pins s σ H _ _ v u Q I rx ry ⟨rfl, ?_⟩
  rw [dec_int, Bool.beq_eq_decide_eq]
  exact q
end
theorem iteDT {c A B : Prop} [Decidable c] (hc : c) (h : A) : if decide c = true then A else B := by
  rw [decide_eq_true hc]
  exact iteT h
theorem iteDF {c A B : Prop} [Decidable c] (hc : ¬ c) (h : B) : if decide c = true then A else B := by
  rw [decide_eq_false hc]
  exact iteF h
theorem iteNT {c A B : Prop} [Decidable c] (hc : c) (h : B) : if (!decide c) = true then A else B := by
  rw [decide_eq_true hc]
  exact iteF h
theorem iteNF {c A B : Prop} [Decidable c] (hc : ¬ c) (h : A) : if (!decide c) = true then A else B := by
  rw [decide_eq_false hc]
  exact iteT h
theorem ite3 {c A B : Prop} [Decidable c] (h1 : c → A) (h2 : ¬ c → B) : if decide c = true then A else B := by
  by_cases h : c
  · exact iteDT h (h1 h)
  · exact iteDF h (h2 h)
end L2
namespace L2
open PySem PySem.Spec PyProof.Rows
section
variable {X : Cx}
def tRng1 (ta : TA) : TE := fun σ H Q => ta σ H fun vs H1 => ∃ j : Int, vs = [.int j] ∧ ∀ p H2, New H1 H2 p (.rng 0 j) → Q (.ref p) H2
def tRng2 (ta : TA) : TE := fun σ H Q => ta σ H fun vs H1 => ∃ i j : Int, vs = [.int i, .int j] ∧ ∀ p H2, New H1 H2 p (.rng i j) → Q (.ref p) H2
def upZ (lo : Int) (n : Nat) : List Int := (List.range n).map fun (k : Nat) => lo + (k : Int)
def rListR : List V → Hp → VK → Prop := fun xs H Q => ∃ (p : Addr) (lo hi : Int), xs = [.ref p] ∧ H p = some (.rng lo hi) ∧ -(2 ^ 62) ≤ lo ∧ lo < 2 ^ 62 ∧ -(2 ^ 62) ≤ hi ∧ hi < 2 ^ 62 ∧ (hi - lo).toNat ≤ 16777216 ∧ ∀ l H', New H H' l (.lst ((upZ lo (hi - lo).toNat).map V.int)) → Q (.ref l) H'
end
section
variable {prog : Program} {w : World} {A : Around} {R : Result → Shared → Prop} {I : Addr} {fp wr : List Addr} {n : Nat} {P : Nat → Value → Prop} {St : Nat → Heap → Prop} {d : Value}
end
section
variable {prog : Program} {w : World} {A : Around} {E : Value → Shared → Prop} {s : Shared}
end
def tMaxd (K : PySem.W.Frag) (ta : TA) (td : TE) : TE := fun σ H Q => ta σ H fun vs H1 => td σ H1 fun _ H2 => ∃ (p : Addr) (ns : List Int), vs = [.ref p] ∧ SqL K H2 p (ns.map V.int) ∧ 0 < ns.length ∧ ∀ M, M ∈ ns → (∀ a, a ∈ ns → a ≤ M) → Q (.int M) H2
section
variable {X : Cx}
def twoV (xs : List V) (lo : Option Int) : List V := (sliceRange (sliceBounds lo none (some 2) xs.length).1 (sliceBounds lo none (some 2) xs.length).2.1 2).filterMap (xs[·]?)
def tSl2 (K : PySem.W.Frag) (te : TE) (tl : TO) : TE := fun σ H Q => te σ H fun x H1 => tl σ H1 fun l H2 => ∃ (p : Addr) (xs : List V), x = .ref p ∧ SqL K H2 p xs ∧ ∀ q H', New H2 H' q (.lst (twoV xs l)) → Q (.ref q) H'
def rIndex (K : PySem.W.Frag) : V → List V → Hp → VK → Prop := fun x vs H Q => ∃ l xs y j, x = .ref l ∧ vs = [y] ∧ SqL K H l xs ∧ flatV y = true ∧ xs.all flatV = true ∧ (∃ z, xs[j]? = some z ∧ eqV z y = true) ∧ (∀ m z, m < j → xs[m]? = some z → eqV z y = false) ∧ Q (.int (j : Nat)) H
end
end L2
namespace L2
open PySem PySem.Spec PyProof.Rows
def rSlN (K : PySem.W.Frag) : V → Option Int → Option Int → Hp → VK → Prop := fun x lo hi H Q => ∃ a xs, x = .ref a ∧ SqL K H a xs ∧ ∀ p H', New H H' p (.lst (cutV xs lo hi)) → Q (.ref p) H'
theorem sl_Q {X : Cx} (K : PySem.W.Frag) (h : X.K = K := by rfl) : SlR X (rSlN K) := by
  subst h
  intro pins s σ H x v vl vu lo hi sl Q I rx hs pl pu ⟨a, xs, e, hx, q⟩
  exact sl_list pins s σ H x v vl vu lo hi sl Q I rx hs pl pu ⟨a, xs, e, hx, fun p hp => q p _ (.of hp)⟩
end L2
namespace L2
open PySem PySem.Spec PyProof.Rows
section
variable {X : Cx} {pins : List (Addr × Obj)} {σ : St} {H : Hp} {s : Shared} {a : Addr} {kvs : List (Key × V)} {o : Obj}
end
def Itd (a : Addr) (o : Obj) (kvs : List (Key × V)) : It :=
  ⟨fun i H => H a = some (.frz o (.dK kvs)) ∧ ∃ kv, kvs[i]? = some kv, fun i H x H' => H' = H ∧ ∀ kv, kvs[i]? = some kv → x = kV kv.1, fun i H => H a = some (.frz o (.dK kvs)) ∧ kvs.length ≤ i⟩
def iDict (td : TE) : TI := fun σ H R => td σ H fun x H1 => ∃ a kvs, x = .ref a ∧ H1 a = some (.dK kvs) ∧ ∀ o, R (Itd a o kvs) (upd H1 a (.frz o (.dK kvs)))
def tThaw (H0 : Hp) (t : TS) : TS := fun D σ H => t { D with nx := fun σ' H' => ∃ a o kvs, H' a = some (.frz o (.dK kvs)) ∧ (∀ o u, H0 a ≠ some (.frz o u)) ∧ D.nx σ' (upd H' a (.dK kvs)) } σ H
end L2
namespace L2
open PySem PySem.Spec PyProof.Rows
section
variable {X : Cx}
def rIns0 : V → List V → Hp → VK → Prop := fun x vs H Q => ∃ l xs y, x = .ref l ∧ vs = [.int 0, y] ∧ H l = some (.lst xs) ∧ xs.length < sizeLine ∧ Q .non (upd H l (.lst (y :: xs)))
end
end L2
namespace L2
open PySem PySem.Spec PyProof.Rows
def rFld (K : PySem.W.Frag) (f : Str) : V → Hp → VK → Prop := fun x H Q => ∃ a C dx fs v, x = .ref a ∧ H a = some (.ins C dx fs) ∧ Cls K C ∧ NoAttr K C f ∧ fs.lookup f = some v ∧ Q v H
def tU1 (r : V → Hp → VK → Prop) (ta : TE) : TE := fun σ H Q => ta σ H fun x H1 => r x H1 Q
section
variable {X : Cx} (K : PySem.W.Frag)
theorem pe_fldR {e : Expr} {ta : TE} {f : Str} {pos : Pos} (he : PE X e ta) (hb : attributeBase e f X.env (eval e X.env) = eval e X.env) (h : X.K = K := by rfl) : PE X (.Attribute e f pos) (tU1 (rFld K f) ta) := by subst h; exact pe_fld he hb
end
def rDGet : R2 := fun x y H Q => ∃ a v, x = .ref a ∧ DGet H a y (some v) ∧ Q v H
def tR2 (r : R2) (ta tb : TE) : TE := fun σ H Q => ta σ H fun x H1 => tb σ H1 fun y H2 => r x y H2 Q
def rDPut : V → V → V → Hp → (Hp → Prop) → Prop := fun x y v H Q => ∃ a kvs k, x = .ref a ∧ y = kV k ∧ H a = some (.dK kvs) ∧ kvs.length < sizeLine ∧ Q (upd H a (.dK (putK kvs k v)))
def sR3 (r : V → V → V → Hp → (Hp → Prop) → Prop) (td ty tv : TE) : TS := fun D σ H => tv σ H fun v H1 => td σ H1 fun x H2 => ty σ H2 fun y H3 => r x y v H3 fun H4 => D.nx σ H4
def tDPopN (td ty : TE) : TE := fun σ H Q => td σ H fun x H1 => ∃ a kvs, x = .ref a ∧ H1 a = some (.dK kvs) ∧ ty σ H1 fun y H2 => ∃ kvs k, H2 a = some (.dK kvs) ∧ y = kV k ∧
  (∀ v, valV kvs k = some v → Q v (upd H2 a (.dK (dropK kvs k)))) ∧ (valV kvs k = none → Q .non H2)
section
variable {X : Cx} {o i e value : Expr} {pos pos' apos cpos p : Pos} {td ty tv : TE}
end
def rIsN : R2 := fun x y H Q => y = .non ∧ Q (.bl (decide (x = .non))) H
def rNotN : R2 := fun x y H Q => y = .non ∧ Q (.bl (!decide (x = .non))) H
end L2
namespace L2
open PySem PySem.Spec PyProof.Rows
section
variable {P : Program} {w : World} {K : PySem.W.Frag} {mg : Str → Option Value} {base : Heap}
theorem Fun.okX {CX : CXT} {x qual : Str} {st : Stmt} {f : Addr} {fd : FuncData} {N ps : List Str} {k : Nat} {sp : Sp} (F : Fun K x qual st f fd) (S : FnScope N ps (defScope st)) (len : ∀ vs H Q E, sp vs H Q E → vs.length = ps.length)
    (hbody : ∀ (cdv : Value) (A : Around) (outer : List Env) (s : Shared) (H : Hp) (vs : List V) (Q : VK) (E : XK), Room k (A.deeper (envOfC qual (defScope st) s.heap.objs.size f cdv)) → sp vs H Q E →
      ∃ t, PSs (cxOf CX P w K mg base N qual (defScope st) f cdv A outer s H E) (defBody st) t ∧ t { nx := fun _ H' => Q .non H', rt := Q } (start N vs) H) : FnOk P w K mg base CX (k + 1) f fd ps sp := by
  obtain ⟨oc, od, kV, doc, pm, an, cdv, ct, osl, rfl, lk, hcd⟩ := F.ex
  exact fn_of lk hcd S len fun A outer s H vs Q E hr hsp => hbody cdv A outer s H vs Q E hr hsp
end
abbrev bmV : List Value := [.type "ValueError", .type "Exception", .type "BaseException", .type "object"]
structure ClsTy (K : PySem.W.Frag) (C : Addr) : Prop where
  ha : PySem.W.findIn K (.ref C) "__class__" = some (some (.builtin "object.__class__"))
  hn : PySem.W.specialIn K (.builtin "object.__class__") "__get__" = some (some (.builtin "getset_descriptor.__get__"))
  tk : PySem.W.takesIn K (.builtin "object.__class__") = some true
  ob : PySem.W.mroIn K C (.type "object") = some true
theorem boot_ValueError : bootBuiltins "ValueError" = some (.type "ValueError") := by decide +kernel
def But (p : Addr) (H H' : Hp) : Prop := ∀ b o, H b = some o → b ≠ p → H' b = some o
end L2
namespace SW
open PySem L2
structure Rat (H : Hp) (p : Addr) (x y : Int) : Prop where
  at_ : H p = some (.tup [.int x, .int y])
  x0 : 0 ≤ x
  y0 : 0 < y
  xl : x < 10 ^ 40
  yl : y < 10 ^ 40
def spDraw : Sp := fun vs H Q _ => ∃ c k m : Int, vs = [.int c, .int k, .int m] ∧ 0 ≤ k ∧ k < 1000 ∧ 0 < m ∧ ∀ (v : Int) (H' : Hp), 0 ≤ v → v < m → Same H H' → Q (.int v) H'
def spGreat : Sp := fun vs H Q _ => ∃ c k m : Int, vs = [.int c, .int k, .int m] ∧ 0 ≤ k ∧ k < 900 ∧ 0 < m ∧ ∀ (v : Int) (H' : Hp), 0 ≤ v → v < m → Same H H' → Q (.int v) H'
def spVote : Sp := fun vs H Q _ => ∃ c : Int, vs = [.int c] ∧ ∀ (v : Int) (H' : Hp), 0 ≤ v → v ≤ 1000000000 → Same H H' → Q (.int v) H'
def spCellAt (K : PySem.W.Frag) : Sp := fun vs H Q _ => ∃ (a : Addr) (ns : List Int) (k : Int), vs = [.ref a, .int k] ∧ SqL K H a (ns.map V.int) ∧ 0 ≤ k ∧ ∀ v : Int, Q (.int v) H
def plainV : V → Bool
  | .non => true | .bl _ => true | .int _ => true | .str _ => true | _ => false
def wholeV : V → Bool
  | .int _ => true | _ => false
structure RuleC (K : PySem.W.Frag) (C fm : Addr) (ff : Option Addr) : Prop where
  cl : Cls K C
  nw : NoAttr K C "whole"
  mr : Meth K C "mark" fm
  ft : ∀ f, ff = some f → Meth K C "fits" f
  ty : ClsTy K C
structure RuleAt (K : PySem.W.Frag) (fm : Addr) (ff : Option Addr) (H : Hp) (p : Addr) (a b : Int) : Prop where
  ob : ∃ C dx t, RuleC K C fm ff ∧ H p = some (.ins C dx [("whole", .ref t)]) ∧ H t = some (.tup [.int a, .int b])
  a0 : 0 < a
  ab : a ≤ b
  b1 : b ≤ 1000
section
variable {K : PySem.W.Frag} {fm : Addr} {ff : Option Addr}
def Made (C : Addr) (H H' : Hp) (p dx : Addr) (a b : Int) : Prop := ∃ t, H' p = some (.ins C dx [("whole", .ref t)]) ∧ H' t = some (.tup [.int a, .int b]) ∧ But p H H'
def goodPQ (u v : V) : Prop := ∃ p q : Int, u = .int p ∧ v = .int q ∧ 0 < p ∧ p ≤ q ∧ q ≤ 1000
def fitsB (u v a b n : Int) : Bool := !(decide (0 < n) && decide (u * b < v * (a + (n - 1) * b))) && decide (u * b ≤ v * (a + n * b))
def spLaw (K : PySem.W.Frag) : Sp := fun vs H Q _ => ∃ (a : Addr) (ns : List Int), vs = [.ref a] ∧ SqL K H a (ns.map V.int) ∧ ns.length ≤ 63 ∧ ∀ H', Q (.bl true) H'
def tRuleM (K : PySem.W.Frag) (fm : Addr) (ff : Option Addr) (sp : Sp) (ta : TE) (t : TA) : TE := fun σ H Q => ta σ H fun x H1 => ∃ a C dx t0, x = .ref a ∧ RuleC K C fm ff ∧ H1 a = some (.ins C dx [("whole", .ref t0)]) ∧ t σ H1 fun vs H2 => sp (x :: vs) H2 Q E0
section
variable {X : Cx} {o e : Expr} {es : List Expr} {ta : TE} {t : TA} {apos pos : Pos} {fd : FuncData} {k : Nat} {ps : List Str} {sp : Sp}
end
end
def primes : List V := [1000003, 1000033, 1000037, 1000039, 1000081, 1000099, 1000117, 1000121, 1000133, 1000151, 1000159, 1000171, 1000183, 1000187, 1000193, 1000199].map V.int
theorem prime_at (k : Int) (h0 : 0 ≤ k) (h1 : k < 16) : ∃ n : Int, 0 < n ∧ atI primes k = some (.int n) := by
  have hk : k.toNat < 16 := by omega
  have e : ∀ j : Nat, j < 16 → ∃ n : Int, 0 < n ∧ primes[j]? = some (.int n) := by
    intro j hj
    match j, hj with
    | (n + 16), h => exact absurd h (by omega)
    | 0, _ | 1, _ | 2, _ | 3, _ | 4, _ | 5, _ | 6, _ | 7, _ | 8, _ | 9, _ | 10, _ | 11, _ | 12, _ | 13, _ | 14, _ | 15, _ => exact ⟨_, by decide, rfl⟩
  obtain ⟨n, hn, e'⟩ := e k.toNat hk
  exact ⟨n, hn, atI_of h0 e'⟩
end SW
namespace L2
open PySem PySem.Spec PyProof.Rows
def dI (ns : List Int) : PyData := .list (ns.map .int)
def dM (rs : List (List Int)) : PyData := .list (rs.map dI)
def dP (a b : Int) : PyData := .tuple [.int a, .int b]
section
variable {K : PySem.W.Frag} {H : Hp}
def Mat (K : PySem.W.Frag) (H : Hp) (p : Addr) (rs : List (List Int)) : Prop := ∃ as : List Addr, SqL K H p (as.map V.ref) ∧ as.length = rs.length ∧ ∀ (i : Nat) (a : Addr) (r : List Int), as[i]? = some a → rs[i]? = some r → SqL K H a (r.map V.int)
end
def rEqLI (K : PySem.W.Frag) (neg : Bool) : R2 := fun x y H Q => ∃ (p q : Addr) (ns ms : List Int), x = .ref p ∧ y = .ref q ∧ SqL K H p (ns.map V.int) ∧ SqL K H q (ms.map V.int) ∧ Q (.bl (if neg then !decide (ns = ms) else decide (ns = ms))) H
def rEqM (K : PySem.W.Frag) (neg : Bool) : R2 := fun x y H Q => ∃ (p q : Addr) (ns ms : List (List Int)), x = .ref p ∧ y = .ref q ∧ Mat K H p ns ∧ Mat K H q ms ∧ Q (.bl (if neg then !decide (ns = ms) else decide (ns = ms))) H
def rEqP (neg : Bool) : R2 := fun x y H Q => ∃ (p q : Addr) (a b c d : Int), x = .ref p ∧ y = .ref q ∧ H p = some (.tup [.int a, .int b]) ∧ H q = some (.tup [.int c, .int d]) ∧ Q (.bl (if neg then !decide (a = c ∧ b = d) else decide (a = c ∧ b = d))) H
section
variable {X : Cx}
end
section
variable {X : Cx} (K : PySem.W.Frag)
end
end L2
namespace SW
structure Pr (a b v n x y : Int) : Prop where
  x0 : 0 < x
  y0 : 0 < y
  one : gcdI x y = 1
  eq : x * (b * v) = y * (a + (n - 1) * b)
  xl : x ≤ a + (n - 1) * b
  yl : y ≤ b * v
structure Dl (a b : Int) (vs gs : List Int) (n N D : Int) : Prop where
  len : gs.length = vs.length
  sum : gs.sum = n
  nn : ∀ (k : Nat) (v g : Int), vs[k]? = some v → gs[k]? = some g → 0 ≤ g ∧ (v = 0 → g = 0)
  hi : ∀ (k : Nat) (v g : Int), vs[k]? = some v → gs[k]? = some g → 0 < v → N * (b * v) ≤ D * (a + g * b)
  lo : ∀ (k : Nat) (v g : Int), vs[k]? = some v → gs[k]? = some g → 0 < v → 0 < g → D * (a + (g - 1) * b) ≤ N * (b * v)
  giver : 0 < n → ∃ (k : Nat) (v g : Int), vs[k]? = some v ∧ gs[k]? = some g ∧ 0 < v ∧ 0 < g ∧ N * (b * v) = D * (a + (g - 1) * b)
  taker : n = 0 → (∃ v, v ∈ vs ∧ 0 < v) → ∃ (k : Nat) (v : Int), vs[k]? = some v ∧ gs[k]? = some 0 ∧ 0 < v ∧ N * (b * v) = D * a
  tie : ∀ (k j : Nat) (v g w h : Int), vs[k]? = some v → gs[k]? = some g → 0 < v → 0 < g → N * (b * v) = D * (a + (g - 1) * b) → vs[j]? = some w → gs[j]? = some h → 0 < w → N * (b * w) = D * (a + h * b) → k < j
  N0 : 0 < N
  D0 : 0 < D
  one : gcdI N D = 1
  none : (∀ v, v ∈ vs → v = 0) → N = 1 ∧ D = 1
end SW
namespace SW
def sumZ : Nat → (Nat → Int) → Int
  | 0, _ => 0
  | n + 1, f => sumZ n f + f n
theorem sumZ_zero : ∀ n, sumZ n (fun _ => 0) = 0
  | 0 => rfl
  | n + 1 => by unfold sumZ; rw [sumZ_zero n]; rfl
theorem sumZ_upd {f g : Nat → Int} {k : Nat} (h : ∀ i, i ≠ k → g i = f i) : ∀ n, sumZ n g = sumZ n f + (if k < n then g k - f k else 0)
  | 0 => by simp [sumZ]
  | n + 1 => by
    unfold sumZ
    rw [sumZ_upd h n]
    by_cases hk : k < n
    · rw [if_pos hk, if_pos (by omega), h n (by omega)]; omega
    · by_cases hn : k = n
      · subst hn; rw [if_neg (by omega), if_pos (by omega)]; omega
      · rw [if_neg hk, if_neg (by omega), h n (by omega)]; omega
theorem sumZ_le {f g : Nat → Int} : ∀ {n : Nat}, (∀ i, i < n → f i ≤ g i) → sumZ n f ≤ sumZ n g
  | 0, _ => Int.le_refl _
  | n + 1, h => by
    unfold sumZ
    have h1 := sumZ_le (n := n) fun i hi => h i (by omega)
    have h2 := h n (by omega)
    omega
def upd2 (P : Nat → Nat → Int) (i j : Nat) (v : Int) : Nat → Nat → Int := fun a b => if a = i ∧ b = j then v else P a b
def ls (h m : Nat) (P : Nat → Nat → Int) (x : Nat) : Int := if x < h then sumZ m (P x) else sumZ h fun i => P i (x - h)
def cr (h x y : Nat) : Nat := if x < h then x else y
def cc (h x y : Nat) : Nat := if x < h then y - h else x - h
def cv (h : Nat) (P : Nat → Nat → Int) (x y : Nat) : Int := P (cr h x y) (cc h x y)
def opp (h m x y : Nat) : Prop := (x < h ∧ h ≤ y ∧ y < h + m) ∨ (h ≤ x ∧ x < h + m ∧ y < h)
def fr (w v : Int) : Prop := 0 < v ∧ v < w
structure Ring (h m : Nat) (w : Int) (P : Nat → Nat → Int) (r : Nat → Nat) (L : Nat) : Prop where
  big : 3 ≤ L
  back : r L = r 0
  way : ∀ k, k < L → opp h m (r k) (r (k + 1))
  frac : ∀ k, k < L → fr w (cv h P (r k) (r (k + 1)))
  apart : ∀ i j, i < j → j < L → r i ≠ r j
def rr (h : Nat) (r : Nat → Nat) (k : Nat) : Nat := cr h (r k) (r (k + 1))
def rc (h : Nat) (r : Nat → Nat) (k : Nat) : Nat := cc h (r k) (r (k + 1))
def dlt (st : Int) (k : Nat) : Int := if k % 2 = 0 then st else -st
def moved (h : Nat) (r : Nat → Nat) (st : Int) (P : Nat → Nat → Int) : Nat → Nat → Nat → Int
  | 0 => P
  | k + 1 => upd2 (moved h r st P k) (rr h r k) (rc h r k) (P (rr h r k) (rc h r k) + dlt st k)
section
variable {h m : Nat} {w : Int} {P : Nat → Nat → Int} {r : Nat → Nat} {L : Nat} {st : Int}
end
def cnt (h m : Nat) (w : Int) (P : Nat → Nat → Int) : Int := sumZ h fun i => sumZ m fun j => if 0 < P i j ∧ P i j < w then 1 else 0
end SW
namespace SW
abbrev Q2 := Int × Int
def qpos (p : Q2) : Prop := 0 < p.1 ∧ 0 < p.2
def qle (p q : Q2) : Prop := p.1 * q.2 ≤ q.1 * p.2
def qlt (p q : Q2) : Prop := p.1 * q.2 < q.1 * p.2
def qmul (p q : Q2) : Q2 := (p.1 * q.1, p.2 * q.2)
def rho (d p : Q2) : Q2 := (d.1 * p.2, d.2 * p.1)
def fset {α : Type} (f : Nat → α) (v : Nat) (x : α) : Nat → α := fun z => if z = v then x else f z
theorem fset_same {α : Type} (f : Nat → α) (v : Nat) (x : α) : fset f v x v = x := by unfold fset; rw [if_pos rfl]
theorem fset_ne {α : Type} {f : Nat → α} {v z : Nat} {x : α} (h : z ≠ v) : fset f v x z = f z := by unfold fset; rw [if_neg h]
inductive Up (ah : Nat → Option Nat) : Nat → Nat → Prop where
  | root {v : Nat} (h : ah v = none) : Up ah v 0
  | step {v u k : Nat} (h : ah v = some u) (r : Up ah u k) : Up ah v (k + 1)
inductive On (ah : Nat → Option Nat) : Nat → Nat → Prop where
  | here (v : Nat) : On ah v v
  | up {v u x : Nat} (h : ah v = some u) (r : On ah u x) : On ah v x
structure Gr (n : Nat) (E : Nat → Nat → Option Q2) (pi : Nat → Q2) : Prop where
  lt : ∀ u v w, E u v = some w → u < n ∧ v < n ∧ u ≠ v
  pos : ∀ u v w, E u v = some w → qpos w ∧ w.1 < 2 ^ 80 ∧ w.2 < 2 ^ 80
  ppos : ∀ v, qpos (pi v)
  pot : ∀ u v w, E u v = some w → qle (pi v) (qmul (pi u) w)
structure Lab (n : Nat) (E : Nat → Nat → Option Q2) (pi : Nat → Q2) (st : Nat → Prop) (D : Nat → Option Q2) (ah : Nat → Option Nat) (wt : Nat → Prop) : Prop where
  dom : ∀ v d, D v = some d → v < n ∧ qpos d
  sta : ∀ v, st v → ∃ d, D v = some d
  root : ∀ v d, D v = some d → ah v = none → st v ∧ d = (1, 1)
  par : ∀ v u, ah v = some u → ∃ du dv w, D u = some du ∧ D v = some dv ∧ E u v = some w ∧ qle (qmul du w) dv
  up : ∀ v d, D v = some d → ∃ k, Up ah v k
  sz : ∀ v d, D v = some d → ∃ l : List Nat, l.Nodup ∧ (∀ z, z ∈ l → ∃ dz, D z = some dz ∧ qle (rho dz (pi z)) (rho d (pi v))) ∧ d.1 < 2 ^ (80 * l.length + 1) ∧ d.2 < 2 ^ (80 * l.length + 1)
  opt : ∀ u d v w, D u = some d → ¬ wt u → E u v = some w → ∃ dv, D v = some dv ∧ qle dv (qmul d w)
section
variable {n : Nat} {E : Nat → Nat → Option Q2} {pi : Nat → Q2} {st : Nat → Prop} {D : Nat → Option Q2} {ah : Nat → Option Nat} {wt wt' : Nat → Prop}
end
end SW
namespace SW
def mu (B : Int) : Option Q2 → Int
  | none => B * B * B + 1
  | some d => d.1 * (B * B) / d.2
def mus (n : Nat) (D : Nat → Option Q2) : Int := sumZ n fun v => mu (2 ^ (80 * n + 1)) (D v)
section
variable {n : Nat} {E : Nat → Nat → Option Q2} {pi : Nat → Q2} {st : Nat → Prop} {D : Nat → Option Q2} {ah : Nat → Option Nat} {wt : Nat → Prop}
def npot (D : Nat → Option Q2) (M : Q2) (pi : Nat → Q2) (v : Nat) : Q2 := match D v with | some d => d | none => qmul M (pi v)
end
def CellOk (a b v s : Int) (p q : Q2) : Prop := q.1 * p.2 * (b * v) ≤ p.1 * q.2 * (a + s * b) ∧ (0 < s → p.1 * q.2 * (a + (s - 1) * b) ≤ q.1 * p.2 * (b * v))
section
variable {a b v s x y : Int} {p q : Q2}
end
end SW
namespace SW
structure NetE (a b : Int) (V S : Nat → Nat → Int) (r c : Nat) (E : Nat → Nat → Option Q2) : Prop where
  up : ∀ i j, i < r → j < c → 0 < V i j → ∃ x y, E i (r + j) = some (x, y) ∧ Pr a b (V i j) (S i j + 1) x y
  dn : ∀ i j, i < r → j < c → 0 < S i j → ∃ x y, E (r + j) i = some (y, x) ∧ Pr a b (V i j) (S i j) x y
  out : ∀ u v w, E u v = some w → (∃ i j, i < r ∧ j < c ∧ u = i ∧ v = r + j ∧ 0 < V i j) ∨ (∃ i j, i < r ∧ j < c ∧ u = r + j ∧ v = i ∧ 0 < S i j)
structure TabOk (a b : Int) (V S : Nat → Nat → Int) (r c : Nat) : Prop where
  a0 : 0 < a
  ab : a ≤ b
  b1 : b ≤ 1000
  v0 : ∀ i j, i < r → j < c → 0 ≤ V i j ∧ V i j ≤ 10 ^ 15
  s0 : ∀ i j, i < r → j < c → 0 ≤ S i j ∧ S i j ≤ 800
  z : ∀ i j, i < r → j < c → 0 < S i j → 0 < V i j
def Cells (a b : Int) (V S : Nat → Nat → Int) (r c : Nat) (pi : Nat → Q2) : Prop := ∀ i j, i < r → j < c → 0 < V i j → CellOk a b (V i j) (S i j) (pi i) (pi (r + j))
section
variable {a b : Int} {V S : Nat → Nat → Int} {r c : Nat} {E : Nat → Nat → Option Q2} {pi : Nat → Q2} {st : Nat → Prop} {D : Nat → Option Q2} {ah : Nat → Option Nat}
structure Way (r c : Nat) (E : Nat → Nat → Option Q2) (D : Nat → Option Q2) (p : Nat → Nat) (k : Nat) : Prop where
  opp : ∀ j, j < k → opp r c (p j) (p (j + 1))
  tight : ∀ j, j < k → ∃ du dv w, D (p j) = some du ∧ D (p (j + 1)) = some dv ∧ E (p j) (p (j + 1)) = some w ∧ qle (qmul du w) dv ∧ qle dv (qmul du w)
  apart : ∀ i j, i < j → j ≤ k → p i ≠ p j
end
end SW
namespace L2
open PySem SW
def row (c : Nat) (f : Nat → Int) : List Int := (List.range c).map f
def mkT (T : Nat → Nat → Int) (r c : Nat) : List (List Int) := (List.range r).map fun i => row c (T i)
theorem row_len (c : Nat) (f : Nat → Int) : (row c f).length = c := by unfold row; simp
theorem row_get {c j : Nat} {f : Nat → Int} (h : j < c) : (row c f)[j]? = some (f j) := by unfold row; rw [List.getElem?_map, List.getElem?_range h]; rfl
theorem row_sum (f : Nat → Int) : ∀ c, (row c f).sum = sumZ c f
  | 0 => rfl
  | c + 1 => by
    have : row (c + 1) f = row c f ++ [f c] := by unfold row; rw [List.range_succ, List.map_append]; rfl
    rw [this, List.sum_append, row_sum f c]
    show _ = sumZ c f + f c
    simp
theorem row_succ (c : Nat) (f : Nat → Int) : row (c + 1) f = row c f ++ [f c] := by unfold row; rw [List.range_succ, List.map_append]; rfl
theorem row_congr {c : Nat} {f g : Nat → Int} (h : ∀ j, j < c → f j = g j) : row c f = row c g := by
  unfold row
  exact List.map_congr_left fun j hj => h j (List.mem_range.mp hj)
theorem row_set {c j : Nat} {f : Nat → Int} {v : Int} (h : j < c) : (row c f).set j v = row c (fun b => if b = j then v else f b) := by
  apply List.ext_getElem?
  intro i
  by_cases e : j = i
  · subst e
    rw [List.getElem?_set_self (by rw [row_len]; exact h), row_get h, if_pos rfl]
  · rw [List.getElem?_set_ne e]
    by_cases hi : i < c
    · rw [row_get hi, row_get hi, if_neg (fun z => e z.symm)]
    · rw [List.getElem?_eq_none (by rw [row_len]; omega), List.getElem?_eq_none (by rw [row_len]; omega)]
theorem mk_len (T : Nat → Nat → Int) (r c : Nat) : (mkT T r c).length = r := by unfold mkT; simp
theorem mk_get {T : Nat → Nat → Int} {r c i : Nat} (h : i < r) : (mkT T r c)[i]? = some (row c (T i)) := by unfold mkT; rw [List.getElem?_map, List.getElem?_range h]; rfl
section
variable {K : PySem.W.Frag} {H H' : Hp} {p : Addr} {as : List Addr} {rs : List (List Int)}
theorem at_ref {as : List Addr} {k : Nat} {a : Addr} (e : as[k]? = some a) : atI (as.map V.ref) (k : Int) = some (.ref a) := atI_of (by omega) (by rw [List.getElem?_map, Int.toNat_natCast, e]; rfl)
theorem at_row {c j : Nat} {f : Nat → Int} (h : j < c) : atI ((row c f).map V.int) (j : Int) = some (.int (f j)) := atI_of (by omega) (by rw [List.getElem?_map, Int.toNat_natCast, row_get h]; rfl)
structure MatM (H : Hp) (p : Addr) (as : List Addr) (rs : List (List Int)) : Prop where
  top : H p = some (.lst (as.map V.ref))
  nd : as.Nodup
  len : as.length = rs.length
  rows : ∀ (i : Nat) (a : Addr) (r : List Int), as[i]? = some a → rs[i]? = some r → H a = some (.lst (r.map V.int))
theorem MatM.mat (m : MatM H p as rs) : Mat K H p rs := ⟨as, SqL.of m.top, m.len, fun i a r e1 e2 => SqL.of (m.rows i a r e1 e2)⟩
theorem MatM.same (m : MatM H p as rs) (S : Same H H') : MatM H' p as rs := ⟨S _ _ m.top, m.nd, m.len, fun i a r e1 e2 => S _ _ (m.rows i a r e1 e2)⟩
theorem mat_row {T : Nat → Nat → Int} {r c i : Nat} (h2 : as.length = (mkT T r c).length) (hi : i < r) : ∃ a, as[i]? = some a ∧ atI (as.map V.ref) (i : Int) = some (.ref a) := by
  rw [mk_len] at h2
  exact ⟨as[i]'(by omega), by simp, at_ref (by simp)⟩
theorem Mat.get {T : Nat → Nat → Int} {r c i : Nat} (m : Mat K H p (mkT T r c)) (hi : i < r) : ∃ (as : List Addr) (a : Addr), Sq K H p (as.map V.ref) ∧ atI (as.map V.ref) (i : Int) = some (.ref a) ∧ Sq K H a ((row c (T i)).map V.int) ∧ SqL K H a ((row c (T i)).map V.int) := by
  obtain ⟨as, h1, h2, h3⟩ := m
  obtain ⟨a, e1, e2⟩ := mat_row h2 hi
  exact ⟨as, a, .inl h1, e2, .inl (h3 i a _ e1 (mk_get hi)), h3 i a _ e1 (mk_get hi)⟩
end
end L2
namespace L2
open PySem SW
end L2
namespace SW
open PySem L2
structure WaysH (H : Hp) (wl : Addr) (ds : List Addr) (kv : Nat → List (Key × V)) (n : Nat) (E : Nat → Nat → Option Q2) : Prop where
  top : H wl = some (.lst (ds.map V.ref))
  len : ds.length = n
  dnd : ds.Nodup
  dict : ∀ (u : Nat) (d : Addr), ds[u]? = some d → H d = some (.dK (kv u))
  val : ∀ (u v : Nat) (w : Q2), u < n → E u v = some w → ∃ t, valV (kv u) (.inl (v : Int)) = some (.ref t) ∧ H t = some (.tup [.int w.1, .int w.2])
  key : ∀ (u : Nat) (kx : Key × V), u < n → kx ∈ kv u → ∃ (v : Nat) (w : Q2), kx.1 = .inl (v : Int) ∧ v < n ∧ E u v = some w
  nd : ∀ u, u < n → ((kv u).map (·.1)).Nodup
def CostAt (H : Hp) (x : V) : Option Q2 → Prop
  | none => x = .non
  | some d => ∃ t, x = .ref t ∧ H t = some (.tup [.int d.1, .int d.2])
def vAh : Option Nat → V
  | none => .non
  | some u => .int (u : Int)
def rchF (cl al : Addr) : List (Str × V) := [("costs", .ref cl), ("ahead", .ref al)]
structure RchH (cR : Addr) (H : Hp) (p dx cl al : Addr) (n : Nat) (D : Nat → Option Q2) (ah : Nat → Option Nat) : Prop where
  ob : H p = some (.ins cR dx (rchF cl al))
  co : ∃ xs, H cl = some (.lst xs) ∧ xs.length = n ∧ ∀ (v : Nat) (x : V), xs[v]? = some x → CostAt H x (D v)
  ah : H al = some (.lst ((List.range n).map fun v => vAh (ah v)))
  ne : cl ≠ al
end SW
namespace SW
open PySem PySem.Spec PyProof.Rows L2
def tMeth2 (C1 C2 : Addr) (m : Str) (sp : Bool → Sp) (ta : TE) (t : TA) : TE := fun σ H Q => ta σ H fun x H1 => ∃ (a : Addr) (b : Bool) (dx : Addr) (fs : List (Str × V)), x = .ref a ∧ H1 a = some (.ins (cond b C1 C2) dx fs) ∧ fs.lookup m = none ∧
  t σ H1 fun vs H2 => sp b (.ref a :: vs) H2 Q E0
section
variable {X : Cx} {o e : Expr} {es : List Expr} {ta : TE} {t : TA} {apos pos : Pos} {fd1 fd2 : FuncData} {k1 k2 : Nat} {ps1 ps2 : List Str} {sp : Bool → Sp} {C1 C2 f1 f2 : Addr} {m : Str}
end
def d3 (rs : List (List Int)) (ns ms : List Int) : PyData := .list [dM rs, dI ns, dI ms]
def Trip (K : PySem.W.Frag) (H : Hp) (p : Addr) (rs : List (List Int)) (ns ms : List Int) : Prop := ∃ a b c, SqL K H p [.ref a, .ref b, .ref c] ∧ Mat K H a rs ∧ SqL K H b (ns.map V.int) ∧ SqL K H c (ms.map V.int)
def rSame3 (K : PySem.W.Frag) (neg : Bool) : R2 := fun x y H Q => ∃ (p q : Addr) (rs : List (List Int)) (ns ms : List Int), x = .ref p ∧ y = .ref q ∧ Trip K H p rs ns ms ∧ Trip K H q rs ns ms ∧ Q (.bl (!neg)) H
section
variable {X : Cx} (K : PySem.W.Frag)
end
end SW
namespace L2
open PySem PySem.Spec PyProof.Rows
def rSorted (K : PySem.W.Frag) : List V → Hp → VK → Prop := fun xs H Q => ∃ (p : Addr) (ns : List Int), xs = [.ref p] ∧ SqL K H p (ns.map V.int) ∧ ns.length < 64 ∧ ∀ (l : Addr) (H' : Hp) (ns' : List Int), New H H' l (.lst (ns'.map V.int)) → ns'.Perm ns → ns'.Pairwise (· ≤ ·) → Q (.ref l) H'
section
variable {X : Cx}
end
section
variable {X : Cx} (K : PySem.W.Frag)
end
end L2
namespace SW
open PySem PySem.Spec PyProof.Rows L2
def dTu (ns : List Int) : PyData := .tuple (ns.map .int)
def dTs (rs : List (List Int)) : PyData := .list (rs.map dTu)
section
variable {K : PySem.W.Frag} {H : Hp}
def Tups (K : PySem.W.Frag) (H : Hp) (p : Addr) (rs : List (List Int)) : Prop := ∃ ts : List Addr, SqL K H p (ts.map V.ref) ∧ ts.length = rs.length ∧ ∀ (i : Nat) (t : Addr) (ns : List Int), ts[i]? = some t → rs[i]? = some ns → H t = some (.tup (ns.map V.int))
end
def rEqT (K : PySem.W.Frag) (neg : Bool) : R2 := fun x y H Q => ∃ (p q : Addr) (ns ms : List (List Int)), x = .ref p ∧ y = .ref q ∧ Tups K H p ns ∧ Tups K H q ms ∧ Q (.bl (if neg then !decide (ns = ms) else decide (ns = ms))) H
section
variable {X : Cx} (K : PySem.W.Frag)
end
end SW
namespace L2
open PySem PySem.Spec PyProof.Rows
def tPar3 (i j k : Nat) (ta : TA) : TS := fun D σ H => ta σ H fun vs H1 => ∃ v w z, vs = [v, w, z] ∧ D.nx (((σ.set i (some v)).set j (some w)).set k (some z)) H1
section
variable {X : Cx} {pos : Pos}
end
end L2
namespace L2
open PySem PySem.Spec PyProof.Rows
def tThawE (H0 : Hp) (t : TE) : TE := fun σ H Q => t σ H fun x H' => ∃ a o kvs, H' a = some (.frz o (.dK kvs)) ∧ (∀ o u, H0 a ≠ some (.frz o u)) ∧ Q x (upd H' a (.dK kvs))
section
variable {tt : TT} {te : TE} {σ : St} {j : Nat} {R : List V → Hp → Prop} {H1 : Hp}
end
end L2
namespace L2
open PySem PySem.Spec PyProof.Rows PySem.Builtin PySem.Builtin.Str
section
variable {X : Cx}
theorem vals_strs : ∀ l : List (Str × Tok), Vals ((l.map (·.1)).map V.str) (strValues l)
  | [] => .nil
  | p :: r => .cons ⟨p.2, rfl⟩ (vals_strs r)
theorem strs_end {pins : List (Addr × Obj)} {σ : St} {H : Hp} {s : Shared} {Q : VK} {ys : List Str} (I : Inv X pins σ H s) (hz : ys.length ≤ sizeLine) (q : ∀ l H', New H H' l (.lst (ys.map V.str)) → Q (.ref l) H') {l : List (Str × Tok)} {k : Nat} (e : l.map (·.1) = ys) :
    EP X pins σ Q (.ref s.heap.objs.size) { s with heap := s.heap.push { cls := .type "list", data := .seq (strValues l).toArray }, toks := k } := by
  subst e
  exact ⟨.ref _, _, I.lnew (vals_strs l) (by rw [List.length_map]; exact hz), rfl, q _ _ (.of I.fresh)⟩
def rSplit : V → List V → Hp → VK → Prop := fun x vs H Q => ∃ a b : Str, x = .str a ∧ vs = [.str b] ∧ (b.length == 0) = false ∧ a.length + 2 ≤ sizeLine ∧ ∀ l H', New H H' l (.lst ((Txt.split a b).map V.str)) → Q (.ref l) H'
theorem split_len (x y : Str) (h : x.length + 2 ≤ sizeLine) : (Txt.split x y).length ≤ sizeLine := by
  unfold Txt.split
  split
  · exact Nat.le_trans (show 1 ≤ 2 by decide) (Nat.le_trans (Nat.le_add_left 2 _) h)
  · split
    · exact Nat.le_trans (show 1 ≤ 2 by decide) (Nat.le_trans (Nat.le_add_left 2 _) h)
    · have e1 := StrLaws.occ_length_le x y 0 x.length (x.length + 1)
      rw [length_partsBetween]; omega
theorem mt_split : MtR X "str.split" rSplit := by
  intro pins s σ H x vs v us Q I rx rv h
  obtain ⟨a, b, rfl, rfl, hy, hsz, q⟩ := h
  obtain ⟨t, rfl⟩ := rx
  obtain ⟨u', rfl, u, rfl⟩ := rv.one
  have hz := split_len a b hsz
  have hn : (partsBetween a (occurrences a b 0 a.length (a.length + 1)) b.length).length ≤ sizeLine := by
    have e1 := StrLaws.occ_length_le a b 0 a.length (a.length + 1)
    rw [length_partsBetween]; omega
  cases h1 : (decide (a.length < b.length) || decide (strKind a < strKind b))
  · cases hf : (occurrences a b 0 a.length (a.length + 1)).isEmpty
    · refine call_meets F.slot_str_split (typeIs_str _ _ _) F.entry_str_split (F.args_str_split_2 _ _) (meets_str_split_sep a b t u h1 hy hf (by omega) hn) ?_
      show wants (EP X pins σ Q) X.xe _ { s with toks := _, heap := s.heap.push { cls := .type "list", data := .seq (strsFrom s.toks (partsBetween a (occurrences a b 0 a.length (a.length + 1)) b.length)).toArray } }
      rw [strsFrom_eq]
      exact strs_end I hz q ((numbered_texts _ _).trans ((if_neg (ne_true_of_eq_false h1)).trans (if_neg (ne_true_of_eq_false hf))).symm)
    · exact call_meets F.slot_str_split (typeIs_str _ _ _) F.entry_str_split (F.args_str_split_2 _ _) (meets_str_split_not_found a b t u h1 hy hf)
        (strs_end (l := [(a, t)]) (k := s.toks) I hz q ((if_neg (ne_true_of_eq_false h1)).trans (if_pos hf)).symm)
  · exact call_meets F.slot_str_split (typeIs_str _ _ _) F.entry_str_split (F.args_str_split_2 _ _) (meets_str_split_cannot_occur a b t u h1)
      (strs_end (l := [(a, t)]) (k := s.toks) I hz q (if_pos h1).symm)
def rPartition : V → List V → Hp → VK → Prop := fun x vs H Q => ∃ a b : Str, x = .str a ∧ vs = [.str b] ∧ (b.length == 0) = false ∧ a.length ≤ sizeLine ∧ ∀ l H', New H H' l (.tup [.str (Txt.partition a b).1, .str (Txt.partition a b).2.1, .str (Txt.partition a b).2.2]) → Q (.ref l) H'
theorem tup3_end {pins : List (Addr × Obj)} {σ : St} {H : Hp} {s : Shared} {Q : VK} {a b c : Str} {ta tb tc : Tok} {k : Nat} (I : Inv X pins σ H s) (q : ∀ l H', New H H' l (.tup [.str a, .str b, .str c]) → Q (.ref l) H') :
    EP X pins σ Q (.ref s.heap.objs.size) { s with heap := s.heap.push { cls := .type "tuple", data := .seq [.str a ta, .str b tb, .str c tc].toArray }, toks := k } := by
  refine ⟨.ref s.heap.objs.size, _, I.laid (t' := k) (o := .tup [.str a, .str b, .str c]) (fun b u e => Heap.get?_push_of_some _ e) (Nat.le_refl _) ?_, rfl, q _ _ (.of (I.hok.fresh (Nat.le_refl _)))⟩
  exact ⟨by show 3 ≤ sizeLine; decide, [.str a ta, .str b tb, .str c tc], .cons ⟨_, rfl⟩ (.cons ⟨_, rfl⟩ (.cons ⟨_, rfl⟩ .nil)), ⟨_, Heap.get?_push_size _ rfl, rfl, _, rfl⟩⟩
theorem mt_partition : MtR X "str.partition" rPartition := by
  intro pins s σ H x vs v us Q I rx rv h
  obtain ⟨a, b, rfl, rfl, hy, hsz, q⟩ := h
  obtain ⟨t, rfl⟩ := rx
  obtain ⟨u', rfl, u, rfl⟩ := rv.one
  refine call_meets F.slot_str_partition (typeIs_str _ _ _) F.entry_str_partition (F.args_str_partition_2 _ _) (meets_str_partition a b t u hy hsz) ?_
  unfold Txt.partition at q
  revert q
  cases occurrences a b 0 a.length 1 with
  | nil => intro q; exact tup3_end I q
  | cons i r => intro q; exact tup3_end I q
def rEndswith : V → List V → Hp → VK → Prop := fun x vs H Q => ∃ a b : Str, x = .str a ∧ vs = [.str b] ∧ Q (.bl (0 + b.length ≤ a.length && subAt a b (a.length - b.length))) H
theorem mt_endswith : MtR X "str.endswith" rEndswith := by
  intro pins s σ H x vs v us Q I rx rv h
  obtain ⟨a, b, rfl, rfl, q⟩ := h
  obtain ⟨t, rfl⟩ := rx
  obtain ⟨u', rfl, u, rfl⟩ := rv.one
  exact call_gives F.slot_str_endswith (typeIs_str _ _ _) F.entry_str_endswith (F.args_str_endswith_2 _ _) (gives_str_endswith a b t u) ⟨.bl _, H, I, rfl, q⟩
def rJoin (K : PySem.W.Frag) : V → List V → Hp → VK → Prop := fun x vs H Q => ∃ (a : Str) (p : Addr) (ys : List Str), x = .str a ∧ vs = [.ref p] ∧ SqL K H p (ys.map V.str) ∧ (ys.map (·.length)).sum + ys.length * a.length ≤ 16777216 ∧ Q (.str (Txt.join a ys)) H
theorem strsAre_vals : ∀ {ys : List Str} {its : List Value}, Vals (ys.map V.str) its → StrsAre its ys
  | [], _, .nil => .nil
  | y :: ys, _, .cons ⟨t, e⟩ h => by subst e; exact .cons _ _ (strsAre_vals h)
theorem mt_join : MtR X "str.join" (rJoin X.K) := by
  intro pins s σ H x vs v us Q I rx rv h
  obtain ⟨a, p, ys, rfl, rfl, hq, hsz, q⟩ := h
  obtain ⟨t, rfl⟩ := rx
  obtain ⟨u', rfl, ru⟩ := rv.one
  cases ru
  obtain ⟨its, hv, pl, _⟩ := I.list hq
  exact join_list pl.isList (strsAre_vals hv) hsz fun t' k => ⟨.str _, H, I.tok _, ⟨_, rfl⟩, q⟩
def rAddS : R2 := fun x y H Q => ∃ a b : Str, x = .str a ∧ y = .str b ∧ a.length + b.length ≤ sizeLine ∧ Q (.str (a ++ b)) H
def rInS : R2 := fun x y H Q => ∃ a b : Str, x = .str a ∧ y = .str b ∧ Q (.bl (Txt.contains b a)) H
end
end L2
namespace L2
open PySem PySem.Spec PyProof.Rows PySem.Builtin PySem.Builtin.Str
section
variable {X : Cx}
def rMulS : R2 := fun x y H Q => ∃ (a : Str) (n : Int), x = .str a ∧ y = .int n ∧ MulOk a n ∧ Q (.str (Txt.mul a n)) H
theorem op_mulS : OpR X (binaryOp .Mult) rMulS := by
  intro pins s σ H x y v u Q I rx ry h
  obtain ⟨a, n, rfl, rfl, hz, q⟩ := h
  obtain ⟨t, rfl⟩ := rx
  obtain ⟨t', rfl⟩ := ry
  exact SB.mul hz fun t' k => ⟨.str _, H, I.tok _, ⟨_, rfl⟩, q⟩
def rIntS : List V → Hp → VK → Prop := fun xs H Q => ∃ (a : Str) (n : Int), xs = [.str a] ∧ intText? a = some n ∧ a.length ≤ 640 ∧ Q (.int n) H
theorem call_intS : CallR X (.type "int") rIntS := by
  intro pins s σ H xs us Q I r h
  obtain ⟨a, n, rfl, hn, hl, q⟩ := h
  obtain ⟨u, rfl, t, rfl⟩ := r.one
  exact PySem.W.KIN.call_text hn hl ⟨.int n, H, I.tok _, ⟨_, rfl⟩, q⟩
def rSlS : V → Option Int → Option Int → Hp → VK → Prop := fun x lo hi H Q => ∃ a : Str, x = .str a ∧ a.length ≤ sizeLine ∧ Q (.str (Txt.slice a lo hi)) H
theorem sl_str : SlR X rSlS := by
  intro pins s σ H x v vl vu lo hi sl Q I rx hs pl pu h
  obtain ⟨a, rfl, hz, q⟩ := h
  obtain ⟨t, rfl⟩ := rx
  refine ⟨"str", _, F.slot_str_getitem.lookup, typeIs_str _ _ _, ?_⟩
  have fin : ∀ (t' : Tok) (k : Nat), EP X pins σ Q (.str (Txt.slice a lo hi) t') { s with toks := k } := fun t' k => ⟨.str _, H, I.tok _, ⟨_, rfl⟩, q⟩
  cases pl with
  | none =>
    cases pu with
    | none => exact wpAny_getItem_str_slice (l := none) (u := none) (st := none) hs rfl (post_val_or_str ⟨Nat.le_trans (Txt.slice_le a _ _) hz, fin⟩)
    | int j tj => exact wpAny_getItem_str_slice (l := none) (u := some (j, tj)) (st := none) hs rfl (post_val_or_str ⟨Nat.le_trans (Txt.slice_le a _ _) hz, fin⟩)
  | int i ti =>
    cases pu with
    | none => exact wpAny_getItem_str_slice (l := some (i, ti)) (u := none) (st := none) hs rfl (post_val_or_str ⟨Nat.le_trans (Txt.slice_le a _ _) hz, fin⟩)
    | int j tj => exact wpAny_getItem_str_slice (l := some (i, ti)) (u := some (j, tj)) (st := none) hs rfl (post_val_or_str ⟨Nat.le_trans (Txt.slice_le a _ _) hz, fin⟩)
end
end L2
namespace L2
open PySem PySem.Spec PyProof.Rows PySem.Builtin PySem.Builtin.Str
def Itz (x : Str) : It := ⟨fun i _ => i < x.length, fun i H v H' => H' = H ∧ ∃ c, x.cps[i]? = some c ∧ v = .str ⟨#[c]⟩, fun i _ => x.length ≤ i⟩
theorem turn_str {P : Program} {w : World} {K : PySem.W.Frag} {tg : Expr} (x : Str) (t : Tok) (it : Addr) : Turn P w K tg (Itz x) [it] it (fun i h => h.IsStrIter it "str_ascii_iterator" x t i) where
  mem := by simp
  obj := fun i h st b hb => by
    have e : b = it := by simpa using hb
    subst e
    obtain ⟨o, e, c, d⟩ := st
    exact ⟨o, e, fun v z => by rw [d] at z; cases z⟩
  keep := fun i h h' st k => by
    obtain ⟨o, e, c, d⟩ := st
    exact ⟨o, k it (by simp) o e, c, d⟩
  item := by
    intro X hP hw hK hc i pins s σ H E I hf st hg
    subst hP hw hK
    have hlt : i < x.cps.size := hg
    obtain ⟨f0, f1, f2, f3, f4, f5⟩ := hf it (by simp)
    refine wpAny_pyNext_ascii_item st (Array.getElem?_eq_getElem hlt) fun h' st' sb => ?_
    have I1 : Inv X pins σ H { s with heap := h', toks := s.toks + 1 } := I.turned (t' := s.toks + 1) (fun b o hb e => (sb.2 b hb).trans e) f0 f1 f3 f4 f5
    obtain ⟨o, e, c, d⟩ := id st'
    exact ⟨_, rfl, go_of (s := { s with heap := h', toks := s.toks + 1 }) e c d (by decide) ⟨.str _, H, I1, ⟨_, rfl⟩, ⟨rfl, _, Array.getElem?_eq_getElem hlt, rfl⟩, st', fun b hb => (hf b hb).1⟩⟩
  done := by
    intro X hP hw hK hc i pins s σ H E I hf st hg
    subst hP hw hK
    obtain ⟨f0, f1, f2, f3, f4, f5⟩ := hf it (by simp)
    exact wpAny_pyNext_ascii_end (I.ok.hd hc) st (Array.getElem?_eq_none hg) fun h' eb => ⟨rfl, I.turned (t' := s.toks) (fun b o hb e => eb b o hb e) f0 f1 f3 f4 f5⟩
  self := fun _ _ _ _ _ st h => wpAny_pyIter_striter_ascii st h
section
variable {X : Cx}
def iStr (tl : TE) : TI := fun σ H R => tl σ H fun x H1 => ∃ a : Str, x = .str a ∧ a.cps.all (· < 128) = true ∧ R (Itz a) H1
theorem pi_str {tg l : Expr} {tl : TE} (hl : PE X l tl) : PI X tg l (iStr tl) := by
  intro pins s σ H R I h
  refine thn (hl pins s σ H _ I h) fun v s1 ⟨x, H1, I1, r1, q1⟩ => ?_
  obtain ⟨a, e, ha, q⟩ := q1
  subst e
  obtain ⟨t, rfl⟩ := r1
  refine wpAny_pyIter_ascii ha ?_
  refine ⟨s1.heap.objs.size, [s1.heap.objs.size], _, _, H1, rfl, I1.kept (t' := s1.toks) fun b o e => Heap.get?_push_of_some _ e, turn_str a t _, ⟨_, Heap.get?_push_size _ rfl, rfl, rfl⟩, fun b hb => ?_, q⟩
  have e : b = s1.heap.objs.size := by simpa using hb
  subst e
  exact I1.fpOk (Nat.le_refl _) (I1.hok.fresh (Nat.le_refl _))
variable {tt : TT} {te : TE} {σ : St} {j : Nat} {R : List V → Hp → Prop} {H1 : Hp}
theorem comp_signs {a : Str} (f : Nat → V) (hz : a.length ≤ sizeLine) (hs : ∀ (i c : Nat) (Q : VK), a.cps[i]? = some c → Q (f c) H1 → te (σ.set j (some (.str ⟨#[c]⟩))) H1 Q) (hd : R (a.cps.toList.map f) H1) :
    CompW (Itz a) (gName j) tYes te (wipe [j] σ) R H1 := by
  refine ⟨fun i m ys H => m = a.length - i ∧ i ≤ a.length ∧ H = H1 ∧ ys = (a.cps.toList.take i).map f, ⟨a.length, by simp, Nat.zero_le _, rfl, rfl⟩, ?_⟩
  rintro i m ys H ⟨rfl, hi, rfl, rfl⟩
  by_cases hlt : i < a.length
  · refine .inr ⟨hlt, by omega, fun ys' H' => H' = H ∧ ys' = (a.cps.toList.take (i + 1)).map f, fun ys' H' q' => ⟨a.length - (i + 1), by omega, rfl, hlt, q'⟩, fun x H' y => ?_⟩
    obtain ⟨e, c, hc, rfl⟩ := y
    subst e
    show Back _ _ ∧ _
    refine ⟨back_set wipe_one, ?_⟩
    rw [wipe_set]
    exact yes (hs i c _ hc ⟨rfl, take_map f (by simpa using hc)⟩)
  · have e : i = a.length := by omega
    subst e
    refine .inl ⟨Nat.le_refl _, ?_⟩
    have : a.cps.toList.take a.length = a.cps.toList := List.take_of_length_le (by show a.cps.toList.length ≤ a.cps.size; simp)
    rw [this]
    exact hd
end
end L2
namespace L2
open PySem PySem.Spec PyProof.Rows PySem.Builtin PySem.Builtin.Str
section
variable {X : Cx}
def tFmt (te : TE) : TE := fun σ H Q => te σ H fun v H1 => (∃ a : Str, v = .str a ∧ a.length ≤ sizeLine ∧ Q (.str a) H1) ∨ ∃ i : Int, v = .int i ∧ i.natAbs.log2 < 1920 ∧ Q (.str (toString i)) H1
def tParts : Str → List TE → TE
  | out, [] => fun _ H Q => out.length ≤ sizeLine ∧ Q (.str out) H
  | out, t :: ts => fun σ H Q => t σ H fun v H1 => ∃ a : Str, v = .str a ∧ (out ++ a).length ≤ sizeLine ∧ tParts (out ++ a) ts σ H1 Q
inductive PEs (X : Cx) : List Expr → List TE → Prop where
  | nil : PEs X [] []
  | cons {e : Expr} {es : List Expr} {t : TE} {ts : List TE} (h : PE X e t) (hs : PEs X es ts) : PEs X (e :: es) (t :: ts)
def tJoined (ts : List TE) : TE := tParts Str.empty ts
end
end L2
namespace L2
open PySem PySem.Spec PyProof.Rows PySem.Builtin
section
variable {X : Cx} {pins : List (Addr × Obj)} {σ : St} {H : Hp} {s : Shared} {h' : Heap}
end
def Itn (K : PySem.W.Frag) (a : Addr) : It :=
  ⟨fun i H => ∃ xs x, SqL K H a xs ∧ xs[i]? = some x, fun i H v H' => ∃ p, v = .ref p ∧ ∀ xs, SqL K H a xs → ∃ x, xs[i]? = some x ∧ New H H' p (.tup [.int i, x]), fun i H => ∃ xs, SqL K H a xs ∧ xs.length ≤ i⟩
section
variable {X : Cx}
def iEnum (K : PySem.W.Frag) (ta : TA) : TI := fun σ H R => ta σ H fun vs H1 => ∃ a, vs = [.ref a] ∧ (∃ xs, SqL K H1 a xs) ∧ R (Itn K a) H1
end
end L2
namespace L2
open PySem PySem.Spec PyProof.Rows PySem.Builtin
section
variable {X : Cx} (K : PySem.W.Frag)
theorem join_Q (h : X.K = K := by rfl) : MtR X "str.join" (rJoin K) := by subst h; exact mt_join
end
end L2
namespace SW
open PySem PySem.Builtin PySem.Builtin.Str
def cd (a : Str) : List Nat := a.cps.toList
theorem cd_inj {a b : Str} (h : cd a = cd b) : a = b := PyProof.Rows.ext_toList h
theorem cd_app (a b : Str) : cd (a ++ b) = cd a ++ cd b := PySem.W.KT.app_list a b
theorem cd_len (a : Str) : (cd a).length = a.length := Array.length_toList
def J (c : Nat) : List (List Nat) → List Nat
  | [] => []
  | [x] => x
  | x :: y :: r => x ++ c :: J c (y :: r)
theorem tw_free {c : Nat} : ∀ {x : List Nat}, c ∉ x → ∀ r : List Nat, (x ++ c :: r).takeWhile (fun z => z != c) = x
  | [], _, r => by simp
  | a :: x, h, r => by
    have h1 : a ≠ c := fun z => h (by simp [z])
    have h2 : c ∉ x := fun z => h (by simp [z])
    rw [List.cons_append, List.takeWhile_cons]
    simp only [bne_iff_ne, ne_eq, h1, not_false_eq_true, if_true]
    rw [tw_free h2 r]
theorem J_inj {c : Nat} : ∀ {L M : List (List Nat)}, L ≠ [] → M ≠ [] → (∀ x, x ∈ L → c ∉ x) → (∀ x, x ∈ M → c ∉ x) → J c L = J c M → L = M
  | [], _, h, _, _, _, _ => absurd rfl h
  | _, [], _, h, _, _, _ => absurd rfl h
  | [x], [y], _, _, _, _, e => by rw [show x = y from e]
  | [x], y :: z :: r, _, _, hl, _, e => by
    exfalso
    have e : x = y ++ c :: J c (z :: r) := e
    exact hl x (by simp) (by rw [e]; simp)
  | x :: w :: s, [y], _, _, _, hm, e => by
    exfalso
    have e : x ++ c :: J c (w :: s) = y := e
    exact hm y (by simp) (by rw [← e]; simp)
  | x :: w :: s, y :: z :: r, _, _, hl, hm, e => by
    have e : x ++ c :: J c (w :: s) = y ++ c :: J c (z :: r) := e
    have e1 := tw_free (hl x (by simp)) (J c (w :: s))
    rw [e, tw_free (hm y (by simp))] at e1
    subst e1
    have e2 := List.cons.inj (List.append_cancel_left e)
    rw [J_inj (by simp) (by simp) (fun a ha => hl a (by simp [ha])) (fun a ha => hm a (by simp [ha])) e2.2]
theorem cd_join (c : Nat) : ∀ L : List Str, cd (Str.join ⟨#[c]⟩ L) = J c (L.map cd)
  | [] => rfl
  | [x] => rfl
  | x :: y :: r => by
    show cd (x ++ ⟨#[c]⟩ ++ Str.join ⟨#[c]⟩ (y :: r)) = cd x ++ c :: J c ((y :: r).map cd)
    rw [cd_app, cd_app, cd_join c (y :: r)]
    simp [cd]
theorem split_ne (x y : Str) : Txt.split x y ≠ [] := by
  unfold Txt.split
  split
  · simp
  · split
    · simp
    · rw [StrLaws.partsBetween_eq]
      obtain ⟨p, q, e⟩ := StrLaws.partsFrom_ne x y.length 0 (occurrences x y 0 x.length (x.length + 1))
      rw [e]; simp
theorem cd_map {L M : List Str} (h : L.map cd = M.map cd) : L = M := by
  induction L generalizing M with
  | nil => cases M with
    | nil => rfl
    | cons => simp at h
  | cons x L ih => cases M with
    | nil => simp at h
    | cons y M =>
      rw [List.map_cons, List.map_cons] at h
      have h := List.cons.inj h
      rw [cd_inj h.1, ih h.2]
theorem split_of {c : Nat} {x : Str} {L : List Str} (hL : L ≠ []) (hf : ∀ a, a ∈ L → c ∉ cd a) (e : cd x = J c (L.map cd)) : Txt.split x ⟨#[c]⟩ = L := by
  refine cd_map (J_inj (c := c) (by simp [split_ne]) (by simp [hL]) (fun a ha => ?_) (fun a ha => ?_) ?_)
  · obtain ⟨p, hp, rfl⟩ := List.mem_map.mp ha
    exact StrLaws.split_free x c p hp
  · obtain ⟨p, hp, rfl⟩ := List.mem_map.mp ha
    exact hf p hp
  · rw [← cd_join, StrLaws.join_split, e]
end SW
namespace SW
open PySem PySem.Builtin PySem.Builtin.Str
def mkS (l : List Nat) : Str := ⟨l.toArray⟩
theorem cd_mk (l : List Nat) : cd (mkS l) = l := by simp [cd, mkS]
theorem mk_cd (a : Str) : mkS (cd a) = a := cd_inj (cd_mk _)
theorem partition_of {x : Str} {n r : List Nat} {c : Nat} (hf : c ∉ n) (e : cd x = n ++ c :: r) : Txt.partition x ⟨#[c]⟩ = (mkS n, ⟨#[c]⟩, mkS r) := by
  have at_ : ∀ i, StrLaws.At x ⟨#[c]⟩ x.length i ↔ (n ++ c :: r)[i]? = some c := fun i => by
    rw [← e]
    exact StrLaws.subAt_one x c i
  have hmid : (n ++ c :: r)[n.length]? = some c := by simp
  rcases PyProof.Rows.partition_whole x ⟨#[c]⟩ with ⟨_, hn⟩ | ⟨i, hp, hi, hn⟩
  · exact absurd ((at_ n.length).mpr hmid) (hn _)
  · have ei : i = n.length := by
      rcases Nat.lt_trichotomy i n.length with h | h | h
      · have := (at_ i).mp hi
        rw [List.getElem?_append_left h] at this
        exact absurd (List.mem_of_getElem? this) hf
      · exact h
      · exact absurd ((at_ n.length).mpr hmid) (hn _ h)
    subst ei
    have hl : x.length = n.length + 1 + r.length := by
      rw [← cd_len, e]
      simp
      omega
    rw [hp]
    have e1 : strSub x 0 n.length = mkS n := cd_inj (by
      show (strSub x 0 n.length).cps.toList = _
      rw [StrLaws.strSub_toList]
      show ((cd x).drop 0).take (n.length - 0) = _
      rw [e, cd_mk]
      simp)
    have e2 : strSub x (n.length + (⟨#[c]⟩ : Str).length) x.length = mkS r := cd_inj (by
      show (strSub x (n.length + 1) x.length).cps.toList = _
      rw [StrLaws.strSub_toList]
      show ((cd x).drop (n.length + 1)).take (x.length - (n.length + 1)) = _
      rw [e, cd_mk, hl, show n ++ c :: r = (n ++ [c]) ++ r by simp, List.drop_left' (by simp)]
      exact List.take_of_length_le (by omega))
    rw [e1, e2]
def dg (m : Nat) : List Nat := (Nat.toDigits 10 m).map Char.toNat
theorem cd_num (m : Nat) : cd (Str.ofString (toString ((m : Nat) : Int))) = dg m := PySem.W.KIN.signs_num m
theorem dg_low {m : Nat} (h : m < 10) : dg m = [48 + m] := by
  unfold dg
  rw [Nat.toDigits_of_lt_base h]
  have : ∀ d : Nat, d < 10 → (Nat.digitChar d).toNat = 48 + d := by decide
  simp [this m h]
theorem dg_step {m : Nat} (h : 10 ≤ m) : dg m = dg (m / 10) ++ [48 + m % 10] := by
  have hm : m % 10 < 10 := Nat.mod_lt m (by decide)
  have t : Nat.toDigits 10 (m / 10) ++ Nat.toDigits 10 (m % 10) = Nat.toDigits 10 (10 * (m / 10) + m % 10) := Nat.toDigits_append_toDigits (by decide) (by omega) hm
  rw [Nat.div_add_mod] at t
  have e := dg_low hm
  unfold dg at e ⊢
  rw [← t, List.map_append, e]
theorem dg_all (m : Nat) : ∀ c, c ∈ dg m → 48 ≤ c ∧ c ≤ 57 := by
  induction m using Nat.strongRecOn with
  | _ m ih =>
    by_cases h : m < 10
    · rw [dg_low h]
      intro c hc
      have : c = 48 + m := by simpa using hc
      omega
    · rw [dg_step (by omega)]
      intro c hc
      rcases List.mem_append.mp hc with hc | hc
      · exact ih (m / 10) (by omega) c hc
      · have : c = 48 + m % 10 := by simpa using hc
        omega
theorem dg_head {m : Nat} (h : 0 < m) : ∃ c r, dg m = c :: r ∧ 49 ≤ c := by
  induction m using Nat.strongRecOn with
  | _ m ih =>
    by_cases h1 : m < 10
    · exact ⟨48 + m, [], dg_low h1, by omega⟩
    · obtain ⟨c, r, e, hc⟩ := ih (m / 10) (by omega) (by omega)
      exact ⟨c, r ++ [48 + m % 10], by rw [dg_step (by omega), e]; rfl, hc⟩
theorem dg_mono {a b : Nat} (h : a ≤ b) : (dg a).length ≤ (dg b).length := by
  induction b using Nat.strongRecOn generalizing a with
  | _ b ih =>
    by_cases h1 : a < 10
    · rw [dg_low h1]
      by_cases h2 : b < 10
      · rw [dg_low h2]; simp
      · rw [dg_step (by omega)]; simp
    · rw [dg_step (m := a) (by omega), dg_step (m := b) (by omega), List.length_append, List.length_append]
      have := ih (b / 10) (by omega) (a := a / 10) (by omega)
      simpa using this
theorem dg_ne (m : Nat) : dg m ≠ [] := by
  by_cases h : 0 < m
  · obtain ⟨c, r, e, _⟩ := dg_head h
    rw [e]; simp
  · rw [show m = 0 by omega, dg_low (by decide)]; simp
end SW
namespace SW
open PySem PySem.Builtin PySem.Builtin.Str
theorem slice_to {x : Str} {j : Nat} (h : j ≤ x.length) : Txt.slice x none (some (j : Int)) = mkS ((cd x).take j) := by
  have := beq_iff_eq.mp (PyProof.Rows.slice_closes_toL (x := x) (j := (j : Int)) (by omega) (by omega))
  rw [this]
  show mkS (((cd x).drop 0).take ((j : Int) - 0).toNat) = _
  rw [List.drop_zero, Int.sub_zero, Int.toNat_natCast]
theorem slice_from {x : Str} {i : Nat} (h : i ≤ x.length) : Txt.slice x (some (i : Int)) none = mkS ((cd x).drop i) := by
  rw [PyProof.Rows.slice_from_eq (x := x) (i := (i : Int)) (b := (x.length : Int)) (by omega) (by omega) rfl]
  show mkS (((cd x).drop (i : Int).toNat).take ((x.length : Int) - (i : Int)).toNat) = _
  rw [Int.toNat_natCast]
  congr 1
  exact List.take_of_length_le (by rw [List.length_drop, cd_len]; omega)
theorem slice_init {x : Str} {l : List Nat} {c : Nat} (e : cd x = l ++ [c]) : Txt.slice x none (some (-1)) = mkS l := by
  have hl : x.length = l.length + 1 := by rw [← cd_len, e]; simp
  rw [PyProof.Rows.slice_to_neg (by decide)]
  have : max 0 ((x.length : Int) + -1) = ((l.length : Nat) : Int) := by omega
  rw [this, slice_to (by omega), e]
  simp
theorem ends_of {x : Str} {l : List Nat} {c : Nat} (e : cd x = l ++ [c]) : (decide (0 + (⟨#[c]⟩ : Str).length ≤ x.length) && subAt x ⟨#[c]⟩ (x.length - (⟨#[c]⟩ : Str).length)) = true := by
  have hl : x.length = l.length + 1 := by rw [← cd_len, e]; simp
  have h := (StrLaws.subAt_one x c l.length).mpr (by show (cd x)[l.length]? = some c; rw [e]; simp)
  have h1 : (⟨#[c]⟩ : Str).length = 1 := rfl
  rw [h1] at h ⊢
  rw [hl, show l.length + 1 - 1 = l.length by omega, h.2, decide_eq_true (by omega)]
  rfl
end SW
set_option maxRecDepth 100000
namespace PySem
open Sem (wp)
section
variable {prog : Program} {w : World} {A : Around} {E : Value → Shared → Prop} {R : Result → Shared → Prop} {h : Heap} {g : Array GenState} {d : Drawn} {t : Nat} {os : OsState}
variable {nm q : Str} {C N f : Addr} {bs bm bmB : List Value} {hdct : Bool} {sn : List Str} {sub : List Value} {ab : Bool} {col : Option Bool} {dd : Option Addr} {k0 k1 k2 k3 k5 : Option Value} {B newId initId : String}
abbrev excNew (C t : Addr) : Obj := { cls := .ref C, data := .fields #[.ref t, .none, .none, .none, .bool false, .none] }
theorem exc_make (F : ExcBaseFacts B newId initId bmB) (T : OwnTail h bmB bm) {rest : List Value} (hC : h.get? C = some (excClassObj nm q C N bs bm hdct sn sub ab col dd k0 k1 k2 k3 k5 newId)) (hrest : rest.length ≤ sizeLine)
    (hi : ∀ (h' : Heap) (A : Around) (Q : Option Value → Shared → Prop) (E : Value → Shared → Prop), (∀ b o, h.get? b = some o → h'.get? b = some o) → Q (some (.ref f)) ⟨h', g, d, t, os⟩ → wpAny (model prog w) A (typeLookup (.ref C) "__init__") Q E ⟨h', g, d, t, os⟩)
    (hb : ∀ (h' : Heap) (A : Around) (x : Value) (Q : Value × List Value → Shared → Prop) (E : Value → Shared → Prop), (∀ b o, h.get? b = some o → h'.get? b = some o) → Q (.ref f, [x]) ⟨h', g, d, t, os⟩ → wpAny (model prog w) A (bindSpecial (.ref f) x) Q E ⟨h', g, d, t, os⟩)
    (hq : codeAny (model prog w) (A.under (.builtin "type.__call__" ⟨.ref C :: rest, []⟩)) (.call (.ref f) ⟨.ref (h.objs.size + 1) :: rest, []⟩) (fun r s' => match r with | .ok (.ret v) => v = .none ∧ R (.ok (.ret (.ref (h.objs.size + 1)))) s' | .ok _ => False | .error e => R (.error e) s')
      ⟨(h.push { cls := .type "tuple", data := .seq rest.toArray }).push (excNew C h.objs.size), g, d, t, os⟩) :
    codeAny (model prog w) A (.call (.ref C) ⟨rest, []⟩) R ⟨h, g, d, t, os⟩ := by
  have f1 := tc_lookup
  have f2 := tc_bind (.ref C)
  have hT : (⟨h, g, d, t, os⟩ : Shared).TypeIs (.ref C) "type" := ⟨_, hC, rfl⟩
  refine codeAny_of_tree ?_
  show wpAny _ _ (callAny (.ref C) _) _ _ _
  repeat (any_goals (first | assumption | with_reducible refine wpAny_loadPart_at hC ?_ | wp_step))
  refine ⟨rfl, ?_⟩
  refine codeAny_call_builtin_at (Code.quiet_builtin _ (by decide +kernel)) entry_typeCall (wpAny_check_type_call_sub hC ?_)
  show wpAny (model prog w) (A.under (.builtin "type.__call__" ⟨.ref C :: rest, []⟩)) (Builtin.«type.__call__» ⟨.ref C :: rest, []⟩) _ _ _
  repeat (first | with_reducible refine wpAny_loadPart_at hC ?_ | with_reducible refine wpAny_madeBy_exc hC ?_ | wp_step)
  refine codeAny_call_builtin_code (Code.quiet_builtin _ F.quiet) (wpAny_check_new_subT F T hC ?_)
  refine codeAny_exc_new_subT F T hC ?_ hrest
  show wpAny _ _ _ _ _ _
  have k : ∀ b o, h.get? b = some o → ((h.push { cls := .type "tuple", data := .seq rest.toArray }).push (excNew C h.objs.size)).get? b = some o := fun b o e => Heap.get?_push_of_some _ (Heap.get?_push_of_some _ e)
  have hC₁ := k _ _ hC
  unfold excNew at hC₁ k hq
  have hget : ((h.push { cls := .type "tuple", data := .seq rest.toArray }).push { cls := .ref C, data := .fields #[.ref h.objs.size, .none, .none, .none, .bool false, .none] }).get? (h.objs.size + 1) = some { cls := .ref C, data := .fields #[.ref h.objs.size, .none, .none, .none, .bool false, .none] } := by heap_get
  have hcC : (Value.ref C :: bm).contains (.ref C) = true := by simp
  unfold isInstance
  repeat (first | with_reducible refine wpAny_loadPart_at hget ?_ | (with_reducible refine wpAny_isSubtype_exc hC₁ ?_; rw [hcC]) | wp_step)
  show wpAny _ _ (typeLookup (.ref C) _) _ _ _
  refine hi _ _ _ _ k ?_
  refine wpAny_holding (wpAny_bind (hb _ _ _ _ _ k ?_))
  refine wpAny_bind (wpAny_call (codeAny_mono hq fun r s' z => ?_))
  rcases r with e | (v | _ | _ | _) <;> first | exact z | exact z.elim | skip
  obtain ⟨rfl, z⟩ := z
  exact wpAny_pure (wpAny_pure z)
theorem raiseStmt_made {M : Model} {env : Env} {s : Shared} {x : Sem Value} {Q : Flow → Shared → Prop} (hbase : bm.contains (.type "BaseException") = true) (hh : A.handled = none)
    (h : wpAny M A x (fun v s₁ => ∃ e od t, v = .ref e ∧ s₁.heap.get? C = some (excClassObj nm q C N bs bm hdct sn sub ab col dd k0 k1 k2 k3 k5 newId) ∧
      s₁.heap.get? e = some { cls := .ref C, dict := od, data := .fields #[.ref t, .none, .none, .none, .bool false, .none] } ∧ E (.ref e) s₁) E s) :
    wpAny M A (raiseStmt env (some x) none) Q E s := by
  have hcB : (Value.ref C :: bm).contains (.type "BaseException") = true := by rw [List.contains_cons, hbase, Bool.or_true]
  unfold raiseStmt
  refine wpAny_bind (wpAny_mono h (fun v s₁ h₁ => ?_) fun _ _ x => x)
  obtain ⟨e, od, t, rfl, hC, he, hE⟩ := h₁
  obtain ⟨hp, g, d, tk, os⟩ := s₁
  repeat (first | with_reducible refine wpAny_loadPart_at he ?_ | with_reducible refine wpAny_loadPart_at hC ?_ | (with_reducible refine wpAny_isSubtype_exc hC ?_; rw [hcB]) | wp_step)
  exact wpAny_raiseNew_none hh hE
theorem raise_call {env : Env} {s : Shared} {x : Str} {np cpos pos : Pos} {args : List Expr} {Q : Flow → Shared → Prop}
    (hbase : bm.contains (.type "BaseException") = true) (hh : A.handled = none) (hplain : (backTo cpos (starEach args env)).any (·.1) = false)
    (h : wpAny (model prog w) A (eval (.Name x np) env) (fun f s₁ => f = .ref C ∧ wpAny (model prog w) A (evalArgs (.ref C) true (backTo cpos (starEach args env)) [])
      (fun a s₂ => a.kw = [] ∧ s₂.heap.get? C = some (excClassObj nm q C N bs bm hdct sn sub ab col dd k0 k1 k2 k3 k5 newId) ∧
        wpAny (model prog w) A (call (.ref C) a.pos) (fun v s₃ => ∃ e od t, v = .ref e ∧ s₃.heap.get? C = some (excClassObj nm q C N bs bm hdct sn sub ab col dd k0 k1 k2 k3 k5 newId) ∧ s₃.heap.get? e = some { cls := .ref C, dict := od, data := .fields #[.ref t, .none, .none, .none, .bool false, .none] } ∧ E (.ref e) s₃) E s₂) E s₁) E s) :
    wpAny (model prog w) A (exec (.Raise (some (.Call (.Name x np) args [] cpos)) none pos) env) Q E s := by
  rw [arm_exec_Raise]
  refine wpAny_bind (wpAny_standAt (raiseStmt_made (C := C) (nm := nm) (q := q) (N := N) (bs := bs) (bm := bm) (hdct := hdct) (sn := sn) (sub := sub) (ab := ab) (col := col) (dd := dd) (k0 := k0) (k1 := k1) (k2 := k2) (k3 := k3) (k5 := k5) (newId := newId) hbase hh (wpAny_bind (wpAny_mono (wpAny_Call_ofName (wpAny_mono h (fun f s₁ h₁ => ?_) fun _ _ x => x)) (fun v s₃ h₃ => wpAny_bind (wpAny_standAt (wpAny_pure h₃))) fun _ _ x => x))))
  obtain ⟨rfl, h₁⟩ := h₁
  unfold callWith
  refine wpAny_bind (wpAny_holding (wpAny_mono h₁ (fun a s₂ h₂ => wpAny_bind (wpAny_standAt ?_)) fun _ _ x => x))
  obtain ⟨apos, akw⟩ := a
  obtain ⟨hkw, hC, h₂⟩ := h₂
  obtain rfl : akw = [] := hkw
  obtain ⟨hp, g, d, tk, os⟩ := s₂
  simp only [hplain]
  refine wpAny_bind (wpAny_keeperOf_exc hC ?_)
  refine wpAny_bind (wpAny_mono h₂ (fun v s₃ h₃ => wpAny_bind (wpAny_holding (wpAny_point (wpAny_pure h₃)))) fun _ _ x => x)
end
end PySem
set_option maxRecDepth 100000
namespace PySem
open Sem (wp)
open Builtin Builtin.ObjectAttr
section
variable {prog : Program} {w : World} {A : Around} {E : Value → Shared → Prop} {h : Heap} {g : Array GenState} {d : Drawn} {t : Nat} {os : OsState}
variable {nm q : Str} {C N x : Addr} {bs bm bmB : List Value} {sn : List Str} {sub : List Value} {ab : Bool} {col : Option Bool} {dd : Option Addr} {k0 k1 k2 k3 k5 : Option Value} {B newId sa owner : String}
  {name : Str} {v : Value} {o : Obj}
structure Stored (h h' : Heap) (x dx : Addr) (o : Obj) (name : Str) (v : Value) : Prop where
  obj : h'.get? x = some { o with dict := some dx }
  new : h.get? dx = none
  ne : dx ≠ x
  ns : h'.Ns1 dx (fun y => if y = name then some v else none)
  keep : ∀ b u, b ≠ x → h.get? b = some u → h'.get? b = some u
theorem exc_store_entry {tk : Tok} {Q : Fin → Shared → Prop} (hC : h.get? C = some (excClassObj nm q C N bs bm true sn sub ab col dd k0 k1 k2 k3 k5 newId)) (hpass : refuseLoop (.ref x) "__setattr__" bm = pure ())
    (hl : ∀ (A : Around) (Q : Option Value → Shared → Prop) (E : Value → Shared → Prop), Q none ⟨h, g, d, t, os⟩ → wpAny (model prog w) A (typeLookup (.ref C) name) Q E ⟨h, g, d, t, os⟩)
    (hx : h.get? x = some o) (hc : o.cls = .ref C) (hnc : ∀ c, o.data ≠ .cls c) (hdn : o.dict = none)
    (hq : ∀ h' dx tk', Stored h h' x dx o name v → Q (.done (.ret .none)) ⟨h', g, d, tk', os⟩) :
    wpAny (model prog w) A (Builtin.«object.__setattr__» ⟨[.ref x, .str name tk, v], []⟩) Q E ⟨h, g, d, t, os⟩ := by
  unfold Builtin.«object.__setattr__»
  repeat (first | rw [refuse_eq] | (rw [refuseLoop_ref, hpass]) | (with_reducible refine wpAny_loadPart_at hx ?_; rw [hc]) | with_reducible refine wpAny_mroOf_exc hC ?_ | with_reducible refine hl _ _ _ ?_ | wp_step)
  rw [hdn, if_neg (by simp [typeHasDict])]
  split
  · rename_i hcd
    cases hcd
  split
  · rename_i c hcd
    exact absurd hcd (hnc c)
  · have hx₁ : (h.push { cls := .type "dict", data := .dict #[] }).get? x = some o := Heap.get?_push_of_some _ hx
    have hxs : x ≠ h.objs.size := Nat.ne_of_lt (Heap.lt_size hx)
    refine wpAny_bind (wpAny_alloc' ?_)
    refine wpAny_bind (wpAny_update' hx₁ ?_)
    refine wpAny_pure ?_
    have hgd : ((h.push { cls := .type "dict", data := .dict #[] }).update x fun o => { cls := o.cls, dict := some h.objs.size, data := o.data, slots := o.slots }).get? h.objs.size
        = some { cls := .type "dict", data := .dict #[] } :=
      (Heap.get?_update_ne _ _ _ _ hxs.symm).trans (Heap.get?_push_at rfl rfl)
    have hnd : ((h.push { cls := .type "dict", data := .dict #[] }).update x fun o => { cls := o.cls, dict := some h.objs.size, data := o.data, slots := o.slots }).Ns h.objs.size (fun _ => none) :=
      ⟨_, #[], _, hgd, rfl, fun e he => absurd he (by simp), fun _ => rfl⟩
    show wpAny _ _ (storeInDict h.objs.size (.str name tk) name v) _ _ _
    unfold storeInDict newKeyGuard
    refine wpAny_bind (wpAny_pure (wpAny_bind (wpAny_nsSet1 (Heap.Ns1.of_empty hnd) fun h' hn' hs => ?_)))
    obtain ⟨oD, esD, epD, hoD, hdD, hcD⟩ := hn'.count (Within.cons name v Within.nil)
    refine wpAny_bind (wpAny_lookBehind hoD (by rw [hdD]; exact pastItsLine_dict (Nat.le_trans hcD (by rw [List.length_cons, List.length_nil, sizeLine_eq]; omega))) ?_)
    wp_walk
    refine hq h' h.objs.size _ ⟨?_, Heap.get?_none_of_le (Nat.le_refl _), hxs.symm, ?_, fun b ob hbx hb => ?_⟩
    · refine (hs.2 x hxs).trans (Heap.get?_update_self _ hx₁ ?_)
      have hfr := (Heap.get?_some_iff.mp hx).2
      obtain ⟨oc, od, odt, osl⟩ := o
      cases odt <;> first | rfl | exact hfr
    · obtain ⟨o', es, ep, e1, e2, e3, eu, e4⟩ := hn'
      exact ⟨o', es, ep, e1, e2, e3, eu, fun y => by rw [e4 y]⟩
    · exact (hs.2 b (Nat.ne_of_lt (Heap.lt_size hb))).trans ((Heap.get?_update_ne _ _ _ _ hbx).trans (Heap.get?_push_of_some _ hb))
theorem exc_store {Q : Unit → Shared → Prop} (SF : StoreFacts B bmB sa owner) (hC : h.get? C = some (excClassObj nm q C N bs bm true sn sub ab col dd k0 k1 k2 k3 k5 newId)) (hpass : refuseLoop (.ref x) "__setattr__" bm = pure ()) (hown : bm.contains (.type owner) = true)
    (hl : ∀ (t : Nat) (A : Around) (Q : Option Value → Shared → Prop) (E : Value → Shared → Prop), Q none ⟨h, g, d, t, os⟩ → wpAny (model prog w) A (typeLookup (.ref C) name) Q E ⟨h, g, d, t, os⟩)
    (hsa : ∀ (t : Nat) (A : Around) (Q : Option Value → Shared → Prop) (E : Value → Shared → Prop), Q (some (.builtin sa)) ⟨h, g, d, t, os⟩ → wpAny (model prog w) A (typeLookup (.ref C) "__setattr__") Q E ⟨h, g, d, t, os⟩)
    (hx : h.get? x = some o) (hc : o.cls = .ref C) (hnc : ∀ c, o.data ≠ .cls c) (hdn : o.dict = none)
    (hq : ∀ h' dx tk', Stored h h' x dx o name v → Q () ⟨h', g, d, tk', os⟩) :
    wpAny (model prog w) A (setAttr (.ref x) name v) Q E ⟨h, g, d, t, os⟩ := by
  have f3 := SF.slot.bind (.ref x)
  have chk : ∀ {M : Model} {A : Around} {E : Value → Shared → Prop} {t : Nat} {nameV : Value} {Q : Unit → Shared → Prop}, Q () ⟨h, g, d, t, os⟩ → wpAny M A (checkBuiltinCall sa ⟨[.ref x, nameV, v], []⟩) Q E ⟨h, g, d, t, os⟩ := by
    intro M A E t nameV Q hq
    have hcB : (Value.ref C :: bm).contains (.type owner) = true := by rw [List.contains_cons, hown, Bool.or_true]
    have ha := SF.args (.ref x) nameV v
    simp only [checkBuiltinCall, SF.kind, SF.split]
    refine wpAny_bind ?_
    unfold isInstance
    repeat (first | (with_reducible refine wpAny_loadPart_at hx ?_; rw [hc]) | (with_reducible refine wpAny_isSubtype_exc hC ?_; rw [hcB]) | wp_step)
    cases hsig : Manifest.signature? sa with
    | none => exact wpAny_pure hq
    | some sig =>
      simp only [argsOk, hsig] at ha
      have h2 : Bind.checkArgs sa sig ⟨[.ref x, nameV, v], []⟩ = pure () := ha
      show wpAny M A (Bind.checkArgs sa sig ⟨[.ref x, nameV, v], []⟩) Q E _
      rw [h2]; exact wpAny_pure hq
  unfold setAttr callSpecial? specialOf
  repeat (any_goals (first | assumption | (with_reducible refine wpAny_loadPart_at hx ?_; rw [hc]) | with_reducible refine hsa _ _ _ _ ?_ | wp_step))
  refine codeAny_call_builtin SF.slot.plain SF.entry (chk (exc_store_entry hC hpass (hl _) hx hc hnc hdn fun h' dx tk' S => ?_))
  repeat (any_goals (first | assumption | wp_step))
  exact hq h' dx tk' S
end
end PySem
namespace L2
open PySem PySem.Spec PyProof.Rows
def excN (e : Addr) (cls : Value) (dd : Option Addr) : HO := .ext fun h => ∃ t, h.get? e = some { cls := cls, dict := dd, data := .fields #[.ref t, .none, .none, .none, .bool false, .none] }
theorem excN_ok {P : Program} {w : World} {H : Hp} {h : Heap} {e t : Addr} {cls : Value} {dd : Option Addr} (x : h.get? e = some { cls := cls, dict := dd, data := .fields #[.ref t, .none, .none, .none, .bool false, .none] }) : ObjOk P w H h e (excN e cls dd) :=
  ⟨⟨t, x⟩, ⟨_, x⟩, fun _ _ ⟨t, a⟩ k => ⟨t, k _ a⟩⟩
def ownErr (K : PySem.W.Frag) (C D : Addr) (bmB : List Value) (newId : String) : Bool :=
  match K.lookup C with
  | some ⟨.type "type", dct, .cls c, slt⟩ =>
    (match c.mro, slt.toList with
    | .ref a :: .ref b :: l, [s0, s1, s2, s3, some (.builtin n), s5] => a == C && (b == D && (l == bmB && (n == newId && (!c.hasDel && (c.hasDict && PySem.W.tailIn K bmB (.ref D :: bmB))))))
    | _, _ => false)
  | _ => false
theorem ownErr_obj {K : PySem.W.Frag} {h : Heap} {C D : Addr} {bmB : List Value} {newId : String} (A : K.In h) (q : ownErr K C D bmB newId = true) :
    ∃ N nm qn bs sn sub ab col dd k0 k1 k2 k3 k5, h.get? C = some (excClassObj nm qn C N bs (.ref D :: bmB) true sn sub ab col dd k0 k1 k2 k3 k5 newId) ∧ OwnTail h bmB (.ref D :: bmB) := by
  unfold ownErr at q
  split at q
  case h_2 => cases q
  rename_i dd c slt look
  split at q
  case h_2 => cases q
  rename_i a b l k0 k1 k2 k3 n k5 mroE slE
  simp only [Bool.and_eq_true, beq_iff_eq, Bool.not_eq_true'] at q
  obtain ⟨e1, e2, e3, e4, e5, e6, e7⟩ := q
  subst e1 e2 e3 e4
  obtain ⟨nm, bs, mro, ns, qn, hdct, sn, sub, ab, col, del⟩ := c
  dsimp only at mroE e5 e6
  subst mroE e5 e6
  have slA : slt = #[k0, k1, k2, k3, some (.builtin n), k5] := by
    cases slt with
    | mk l => exact congrArg Array.mk slE
  subst slA
  exact ⟨ns, nm, qn, bs, sn, sub, ab, col, dd, k0, k1, k2, k3, k5, A _ _ look, PySem.W.tail_of_in A e7⟩
structure OwnE (K : PySem.W.Frag) (C D f : Addr) (bmB : List Value) (newId : String) (name : Str) : Prop where
  q : ownErr K C D bmB newId = true
  init : PySem.W.findIn K (.ref C) "__init__" = some (some (.ref f))
  fn : PySem.W.typeIn K (.ref f) = some (.type "function")
  sa : PySem.W.findIn K (.ref C) "__setattr__" = some (some (.builtin "object.__setattr__"))
  no : PySem.W.findIn K (.ref C) name = some none
section
variable {X : Cx} {pins : List (Addr × Obj)} {σ : St} {H : Hp} {s : Shared}
theorem Inv.unseen (I : Inv X pins σ H s) (hex : X.ex = []) {e : Addr} (h : s.heap.get? e = none) : X.s₀.heap.get? e = none := by
  cases z : X.s₀.heap.get? e with
  | none => rfl
  | some o =>
    obtain ⟨o', q⟩ := I.base.there e o z (by rw [hex]; simp)
    rw [h] at q
    cases q
theorem Inv.untracked (I : Inv X pins σ H s) {e : Addr} (h : s.heap.get? e = none) : H e = none := by
  cases z : H e with
  | none => rfl
  | some u =>
    obtain ⟨ob, q⟩ := (I.hok e u z).there
    rw [h] at q
    cases q
theorem Inv.stored {e dx t : Addr} {cls u : Value} {y : V} {f : Str} {h' : Heap} {tk : Nat} (I : Inv X pins σ H s) (hex : X.ex = []) (ee : H e = some (excN e cls none)) (he : s.heap.get? e = some { cls := cls, data := .fields #[.ref t, .none, .none, .none, .bool false, .none] })
    (S : Stored s.heap h' e dx { cls := cls, data := .fields #[.ref t, .none, .none, .none, .bool false, .none] } f u) (ry : RelV y u) :
    Inv X pins σ (upd (upd H e (excN e cls (some dx))) dx (.xd [(f, y)])) { s with heap := h', toks := tk } := by
  have hd : H dx = none := I.untracked S.new
  have I1 := I.write (x := e) (e := e) (o := excN e cls (some dx)) (t' := tk) (by rw [ee]; exact True.intro) (.inl rfl) (fun b o hb z => S.keep b o hb z) ⟨_, S.obj⟩ (excN_ok S.obj)
  refine I1.track (by rw [upd_ne S.ne]; exact hd) (I.unseen hex S.new) ?_ (fun x c z q => ?_) (fun p hp q => ?_) ⟨_, S.ns, fun g => ?_⟩
  · intro q
    obtain ⟨m, ⟨o, _, _, ho, _⟩, _⟩ := I.loc
    rw [← q, S.new] at ho
    cases ho
  · obtain ⟨v, o, ho, _⟩ := I.cell x c z
    rw [q, S.new] at ho
    cases ho
  · have z := (I.pin p hp).1
    rw [q, S.new] at z
    cases z
  · show RelO (List.lookup g [(f, y)]) (if g = f then some u else none)
    by_cases hg : g = f
    · have hb : (g == f) = true := beq_iff_eq.mpr hg
      simp only [List.lookup, hb, if_pos hg]
      exact ry
    · have hb : (g == f) = false := beq_eq_false_iff_ne.mpr hg
      simp only [List.lookup, hb, if_neg hg]
      exact True.intro
def sFldE (C : Addr) (ta tv : TE) (f : Str) : TS := fun D σ H => tv σ H fun y H1 => ta σ H1 fun x H2 => ∃ e, x = .ref e ∧ H2 e = some (excN e (.ref C) none) ∧ ∀ dx, H2 dx = none → dx ≠ e → D.nx σ (upd (upd H2 e (excN e (.ref C) (some dx))) dx (.xd [(f, y)]))
theorem ps_fldE {C D fI : Addr} {newId : String} {f : Str} {o value : Expr} {ta tv : TE} {pos pos' : Pos} (dx : DefX X) (c : OwnE X.K C D fI [.type "ValueError", .type "Exception", .type "BaseException", .type "object"] newId f) (ha : PE X o ta) (hv : PE X value tv) (hs : swapsWith value (some (.Attribute o f pos')) pos.line X.env = pure false) :
    PS X (.Assign [.Attribute o f pos'] value pos) (sFldE C ta tv f) := by
  intro pins s σ H D I h
  refine plainObj_wpAny_Assign_Attribute (thn (hv pins s σ H _ I h) fun u s1 ⟨y, H1, I1, ry, q⟩ => thn (ha pins s1 σ H1 _ I1 q) fun ov s2 ⟨x, H2, I2, rx, e, ex, ee, q2⟩ => ?_) hs
  subst ex
  obtain rfl : ov = Value.ref e := rx
  obtain ⟨t, he⟩ := (I2.hok e _ ee).1
  obtain ⟨N, nm, qn, bs, sn, sub, ab, col, dd, k0, k1, k2, k3, k5, hC, T⟩ := ownErr_obj I2.kIn c.q
  have SF := PySem.F.store_ValueError
  obtain ⟨h2, g2, d2, t2, os2⟩ := s2
  refine exc_store SF hC (by rw [refuseLoop_ref]; exact SF.passes _) (by simp) (fun t A Q E k => ?_) (fun t A Q E k => ?_) he rfl (fun c z => by cases z) rfl fun h' da tk' S => ?_
  · exact PySem.W.looks_findIn I2.kIn c.no _ _ _ _ (fun _ _ z => z) k
  · exact PySem.W.looks_findIn I2.kIn c.sa _ _ _ _ (fun _ _ z => z) k
  · exact ⟨σ, _, I2.stored dx.ex ee he S ry, q2 da (I2.untracked S.new) S.ne⟩
theorem own_leaves {e da : Addr} {cls : Value} {E : XK} {N : Value → Shared → Prop} (I : Inv X pins σ H s) (dx : DefX X) (ee : H e = some (excN e cls (some da))) (new : X.s₀.heap.get? e = none) (q : E cls (some da) (fun b => if b = e then none else H b)) :
    wpAny (model X.prog X.w) X.A (leaving X.env (.ref e)) (fun _ s2 => CX1 X.prog X.w X.outer X.H₀ X.s₀ E (.ref e) s2) N s := by
  obtain ⟨t, he⟩ := (I.hok e _ ee).1
  have nex : ∀ b : Addr, b ∉ X.ex := fun b z => by rw [dx.ex] at z; cases z
  have nf : e ∉ frs X.stack := fun z => by rw [I.stkFree e z] at ee; cases ee
  have back : ∀ b o, (PySem.W.hideAll s.heap (e :: frs X.stack)).get? b = some o → s.heap.get? b = some o := fun b o z => PySem.W.of_hideAll _ z
  have hid : ∀ {b o}, s.heap.get? b = some o → b ≠ e → b ∉ frs X.stack → (PySem.W.hideAll s.heap (e :: frs X.stack)).get? b = some o := fun z n1 n2 => PySem.W.hideAll_get _ z (by simp [n1, n2])
  have fr0 : s.heap.FunFrames (PySem.W.hideAll s.heap (e :: frs X.stack)) (X.env :: X.outer) := by
    have z := PySem.W.funFrames_hide (as := e :: frs X.stack) I.stack fun env he a hf => List.mem_cons_of_mem _ (frame_in env he a hf)
    rw [dx.st] at z
    rw [dx.st]
    exact z
  have en : (PySem.W.hideAll s.heap (e :: frs X.stack)).get? e = none := PySem.W.hideAll_none _ (by simp)
  refine leave_exc (by rw [I.ok.frames, dx.st]) fr0 dx.fr back en ⟨_, _, he, rfl, rfl, rfl, (by decide : 1 < 6), rfl⟩ (.inl rfl) fun h2 g2 x2 => ?_
  have ne : ∀ {b o}, X.s₀.heap.get? b = some o → b ≠ e := fun z q => by rw [q, new] at z; cases z
  refine ⟨e, cls, some da, PySem.W.hideAll s.heap (e :: frs X.stack), _, rfl, I.os, I.bare, ⟨g2.st, en, g2.fr.2.2, x2, fun a o z => ?_, fun b o z n nf => ?_, fun b o z n hb _ => ?_, fun b o z n => ?_, fun b o z nf => ?_, fun b xs z => ?_, fun b o u z => ?_, fun b ps z => ?_⟩, q⟩
  · by_cases ha : a = e
    · rw [if_pos ha] at z; cases z
    rw [if_neg ha] at z
    refine (I.hok a o z).stay (fun b u hb w => ?_) (fun b w => ?_) fun b xs w => ?_
    · rcases hb with rfl | hb
      · exact hid w ha fun y => by rw [I.stkFree _ y] at z; cases z
      · exact hid w (fun y => by rw [y, ee] at hb; cases hb) fun y => by rw [I.stkFree b y] at hb; cases hb
    · rw [if_neg (fun y => by rw [y, ee] at w; cases w)]; exact w
    · rw [if_neg (fun y => by rw [y, ee] at w; cases w)]; exact w
  · exact hid (I.base.keep b o z n nf (nex b)) (ne z) (old_frs I z nf)
  · obtain ⟨sl, e1⟩ := I.base.slot b o z n hb (nex b)
    have hb' : b ∈ frs X.stack := by rw [dx.st]; unfold frs; rw [List.filterMap_cons, dx.fr]; exact List.mem_cons_of_mem _ hb
    obtain ⟨sl2, e2⟩ := g2.up b _ e1 (frame_data I hb' e1)
    exact ⟨sl2, e2⟩
  · rw [if_neg (ne z)]
    exact I.base.free b o z n (nex b)
  · obtain ⟨o', e1⟩ := I.base.there b o z (nex b)
    exact ⟨o', hid e1 (ne z) (old_frs I z nf)⟩
  · have w := I.base.tups b xs z
    rw [if_neg (fun y => by rw [y, ee] at w; cases w)]
    exact w
  · have w := I.base.frzs b o u z
    rw [if_neg (fun y => by rw [y, ee] at w; cases w)]
    exact w
  · obtain ⟨m, w⟩ := I.base.tbls b ps z
    refine ⟨m, ?_⟩
    rw [if_neg (fun y => by rw [y, ee] at w; cases w)]
    exact w
def spOwn (C : Addr) (f : Str) : Sp := fun vs H Q _ => ∃ e y, vs = [.ref e, y] ∧ H e = some (excN e (.ref C) none) ∧ ∀ dx, H dx = none → dx ≠ e → Q .non (upd (upd H e (excN e (.ref C) (some dx))) dx (.xd [(f, y)]))
def tRaiseI (C : Addr) (f : Str) (E : XK) (t : TA) : TS := fun _ σ H => t σ H fun vs H1 => ∃ y, vs = [y] ∧ ∀ dx, H1 dx = none → E (.ref C) (some dx) (upd H1 dx (.xd [(f, y)]))
theorem ps_raiseI {CX : CXT} {k : Nat} {C D fI : Addr} {fd : FuncData} {ps : List Str} {newId initId : String} {f : Str} {E : XK} {x : Str} {np cpos pos : Pos} {a : Expr} {t : TA} (FB : ExcBaseFacts "ValueError" newId initId [.type "ValueError", .type "Exception", .type "BaseException", .type "object"]) (dx : DefX X) (hxe : XeIs X E) (hg : Gl X x) (hm : X.mg x = some (.ref C))
    (c : OwnE X.K C D fI [.type "ValueError", .type "Exception", .type "BaseException", .type "object"] newId f) (F : FnOk X.prog X.w X.K X.mg X.base CX k fI fd ps (spOwn C f)) (hr : Room (k + 1) X.A) (hb : Binds X.K fd ps []) (ha : PA X [a] t)
    (no : ∀ l H s ev s', CX l H s (fun _ _ _ => False) ev s' → False) (hdb : (x == ("__debug__" : Str)) = false := by decide) (hst : starEach [a] X.env = [(false, eval a X.env)] := by rfl) :
    PS X (.Raise (some (.Call (.Name x np) [a] [] cpos)) none pos) (tRaiseI C f E t) := by
  intro pins s σ H Dn I h
  obtain ⟨N, nm, qn, bs, sn, sub, ab, col, dd, k0, k1, k2, k3, k5, hC, T⟩ := ownErr_obj I.mod.kin c.q
  have hl : sizeLine = 16777216 := sizeLine_eq
  refine raise_call (C := C) (nm := nm) (q := qn) (N := N) (bs := bs) (bm := .ref D :: [.type "ValueError", .type "Exception", .type "BaseException", .type "object"]) (hdct := true) (sn := sn) (sub := sub) (ab := ab) (col := col) (dd := dd) (k0 := k0) (k1 := k1) (k2 := k2) (k3 := k3) (k5 := k5) (newId := newId) (by simp) (I.ok.hd dx.calm) (by rw [hst]; rfl) (ld_glob I hg hm ⟨rfl, ?_⟩ hdb)
  have hs := ha cpos pins s σ H _ I h
  rw [hst] at hs ⊢
  refine Calls.evalArgs_plain (thn hs fun us s2 ⟨vs, H2, I2, r, y, ey, q⟩ => ?_)
  subst ey
  obtain ⟨u, rfl, ru⟩ := r.one
  obtain ⟨h2, g2, d2, t2, os2⟩ := s2
  have hC2 := I2.bk _ _ hC
  refine ⟨rfl, hC2, wpAny_call (exc_make (f := fI) FB (T.keeps I2.bk) hC2 (by show 1 ≤ sizeLine; omega) (fun h' A Q E k z => PySem.W.looks_findIn I2.kIn c.init _ _ _ _ k z) (fun h' A x Q E k z => PySem.W.bind_fn I2.kIn x c.fn _ _ _ _ k z) ?_)⟩
  have k : ∀ b o, h2.get? b = some o → ((h2.push { cls := .type "tuple", data := .seq [u].toArray }).push (excNew C h2.objs.size)).get? b = some o := fun b o e => Heap.get?_push_of_some _ (Heap.get?_push_of_some _ e)
  have hget : ((h2.push { cls := .type "tuple", data := .seq [u].toArray }).push (excNew C h2.objs.size)).get? (h2.objs.size + 1) = some { cls := .ref C, data := .fields #[.ref h2.objs.size, .none, .none, .none, .bool false, .none] } := by heap_get
  have en : H2 (h2.objs.size + 1) = none := I2.hok.fresh (Nat.le_succ _)
  have I3 : Inv X pins σ (upd H2 (h2.objs.size + 1) (excN (h2.objs.size + 1) (.ref C) none)) ⟨(h2.push { cls := .type "tuple", data := .seq [u].toArray }).push (excNew C h2.objs.size), g2, d2, t2, os2⟩ :=
    I2.laid (t' := t2) (o := excN (h2.objs.size + 1) (.ref C) none) k (Nat.le_succ _) (excN_ok hget)
  have sp : spOwn C f [.ref (h2.objs.size + 1), y] (upd H2 (h2.objs.size + 1) (excN (h2.objs.size + 1) (.ref C) none)) (fun v H3 => v = .non ∧ ∃ da, H2 da = none ∧ da ≠ h2.objs.size + 1 ∧ H3 = upd (upd (upd H2 (h2.objs.size + 1) (excN (h2.objs.size + 1) (.ref C) none)) (h2.objs.size + 1) (excN (h2.objs.size + 1) (.ref C) (some da))) da (.xd [(f, y)])) (fun _ _ _ => False) :=
    ⟨_, y, rfl, upd_same, fun da z n => ⟨rfl, da, by rw [upd_ne n] at z; exact z, n, rfl⟩⟩
  have r2 : Vals [V.ref (h2.objs.size + 1), y] [Value.ref (h2.objs.size + 1), u] := .cons rfl (.cons ru .nil)
  have ln : ([Value.ref (h2.objs.size + 1), u] ++ []).length = ps.length := F.len _ _ _ _ sp
  have run := F.run _ X.stack _ _ ⟨[.ref (h2.objs.size + 1), u], []⟩ [.ref (h2.objs.size + 1), u] _ _ _ (hr.make C [u] []) (I3.env0.make C [u] []) (by have z := hb _ [.ref (h2.objs.size + 1), u] I3.kIn ln; rw [List.append_nil] at z; exact z) r2 sp
  refine codeAny_mono run fun res s' z => ?_
  cases res with
  | error ev => exact (no _ _ _ _ _ z).elim
  | ok fl =>
    cases fl with
    | next => exact False.elim z
    | brk => exact False.elim z
    | cont => exact False.elim z
    | ret v =>
      obtain ⟨v', H3, I4, rv, ev, da, hda, nda, eH⟩ := I3.after z
      subst ev
      refine ⟨rv, ?_⟩
      have ee : H3 (h2.objs.size + 1) = some (excN (h2.objs.size + 1) (.ref C) (some da)) := by rw [eH, upd_ne (Ne.symm nda), upd_same]
      obtain ⟨t, he⟩ := (I4.hok _ _ ee).1
      refine ⟨_, some da, t, rfl, I4.bk _ _ hC, he, ?_⟩
      rw [hxe]
      refine own_leaves I4 dx ee (I2.unseen dx.ex (Heap.get?_none_of_le (Nat.le_succ _))) ?_
      have e0 : (fun b => if b = h2.objs.size + 1 then none else H3 b) = upd H2 da (.xd [(f, y)]) := by
        funext b
        by_cases hb : b = h2.objs.size + 1
        · rw [if_pos hb, hb, upd_ne (Ne.symm nda)]
          exact en.symm
        · rw [if_neg hb, eH]
          by_cases hd : b = da
          · rw [hd, upd_same, upd_same]
          · rw [upd_ne hd, upd_ne hd, upd_ne hb, upd_ne hb]
      rw [e0]
      exact q da hda
end
end L2
namespace L2
open PySem PySem.Spec PyProof.Rows PySem.Calls
theorem kitx_own {K : PySem.W.Frag} {C e : Addr} {o : Obj} {od : Option Obj} (T : ExcT K C) : PySem.W.KitX K (.ref e) (.ref C) (fun h => PySem.W.InstAt h e o C od) where
  ty := fun _ _ _ J => J.type
  it := fun _ _ Y _ => by
    obtain ⟨c, e1⟩ := Option.isSome_iff_exists.mp (cls_some T.hd)
    unfold PySem.W.clsIn at e1
    split at e1
    · rename_i lk
      intro A' Q' E' s' k q
      unfold isType loadHead
      exact wpAny_bind (wpAny_loadPart (k _ _ (Y _ _ lk)) (wpAny_pure q))
    · cases e1
  ne := fun h tp dd its n sl Y htp => (kitx_exc (e := e) (o := o) T).ne h tp dd its n sl Y htp
  ca := fun {prog w A E Q s} Y J k =>
    exc_open Y J T.ga T.gt T.be (exc_entry_bind (s := { s with toks := s.toks + 1 }) Y J (find_data (cls_some T.hd) T.ha T.hn T.tk)
      (wpAny_call (PySem.W.class_get (s := { s with toks := s.toks + 1 }) Y J T.ob (PySem.W.handed_on rfl k))))
def DictAt (H : Hp) (dd : Option Addr) : Prop := dd = none ∨ ∃ dx fs, dd = some dx ∧ H dx = some (.xd fs)
section
variable {X : Cx}
theorem own_inst {pins : List (Addr × Obj)} {σ : St} {H : Hp} {s : Shared} {e C : Addr} {dd : Option Addr} (I : Inv X pins σ H s) (he : H e = some (excO e (.ref C) dd)) (hd : DictAt H dd) : ∃ o od, PySem.W.InstAt s.heap e o C od := by
  obtain ⟨o, vs, h1, h2, h3, h4⟩ := exc_at I he
  have nc : PySem.W.notCls o = true := by unfold PySem.W.notCls; rw [h4]
  rcases hd with rfl | ⟨dx, fs, rfl, hx⟩
  · exact ⟨o, none, h1, h2, nc, by rw [h3]; trivial⟩
  · obtain ⟨mA, ns, _⟩ := I.hok dx _ hx
    obtain ⟨od, ho, _⟩ := lookIn_ns ns
    exact ⟨o, some od, h1, h2, nc, by rw [h3]; exact ho⟩
def rIsO (K : PySem.W.Frag) (c : V) (cv : Value) : List V → Hp → VK → Prop := fun xs H Q => ∃ e C dd b, xs = [.ref e, c] ∧ H e = some (excO e (.ref C) dd) ∧ DictAt H dd ∧ ExcT K C ∧ PySem.W.kitOne K (.ref C) cv = some b ∧ Q (.bl b) H
theorem call_isOw {c : V} {cv : Value} (rc : ∀ u, RelV c u → u = cv) : CallR X (.builtin "isinstance") (rIsO X.K c cv) := by
  intro pins s σ H xs us Q I r h
  obtain ⟨e, C, dd, b, rfl, he, hd, T, hk, q⟩ := h
  obtain ⟨u, w', rfl, rx, ry⟩ := vals2 r
  cases rx
  have e2 := rc _ ry
  subst e2
  obtain ⟨o, od, J⟩ := own_inst I he hd
  exact PySem.W.kia_one (kitx_own (o := o) (od := od) T) I.kIn J hk (fun z => nomatch z) fun tk => ⟨.bl b, H, I.tok tk, rfl, q⟩
theorem pe_isO {e : Expr} {te : TE} {T : Str} {D : Addr} {p p2 pos : Pos} (hg : Gl X "isinstance") (hm : X.mg "isinstance" = none) (hgT : Gl X T) (hmT : X.mg T = some (.ref D)) (he : PE X e te)
    (hd : (T == ("__debug__" : Str)) = false := by decide)
    (s1 : starEach [e, .Name T p2] X.env = (false, eval e X.env) :: starEach [.Name T p2] X.env := by rfl) (hpl : (backTo pos (starEach [.Name T p2] X.env)).any (·.1) = false := by rfl) :
    PE X (.Call (.Name "isinstance" p) [e, .Name T p2] [] pos) (tCB (rIsO X.K (.ref D) (.ref D)) (tCons te (tCons (tC (.ref D)) tNil))) :=
  pe_callB (call_isOw fun _ z => z) hg hm boot_isinstance (pa_cons he (pa_cons (pe_glob hgT hmT rfl hd) pa_nil) s1) (by decide) (by decide) s1 hpl
theorem pe_isOT {e : Expr} {te : TE} {T : Str} {n : String} {p p2 pos : Pos} (hg : Gl X "isinstance") (hm : X.mg "isinstance" = none) (hgT : Gl X T) (hmT : X.mg T = none) (hvT : bootBuiltins T = some (.type n)) (he : PE X e te)
    (hn : T ≠ "__name__" := by decide) (hd : (T == ("__debug__" : Str)) = false := by decide)
    (s1 : starEach [e, .Name T p2] X.env = (false, eval e X.env) :: starEach [.Name T p2] X.env := by rfl) (hpl : (backTo pos (starEach [.Name T p2] X.env)).any (·.1) = false := by rfl) :
    PE X (.Call (.Name "isinstance" p) [e, .Name T p2] [] pos) (tCB (rIsO X.K (.ty n) (.type n)) (tCons te (tCons (tC (.ty n)) tNil))) :=
  pe_callB (call_isOw fun _ z => z) hg hm boot_isinstance (pa_cons he (pa_cons (pe_bltn hgT hmT hvT rfl hn hd) pa_nil) s1) (by decide) (by decide) s1 hpl
end
section
variable {prog : Program} {w : World} {A : Around} {E : Value → Shared → Prop} {s : Shared} {K : PySem.W.Frag} {x D : Addr} {ox : Obj} {odo : Option Obj} {name : Str}
theorem exc_value {ex : Bool} {v : Value} {Q : Value → Shared → Prop} (X : K.In s.heap) (I : PySem.W.InstAt s.heap x ox D odo) (T : ExcT K D) (hf : PySem.W.findObj K D odo name = some (.value v)) (hh : PySem.W.handedIn v = true) (h : Q v { s with toks := s.toks + 1 }) :
    wpAny (model prog w) A (getAttr (.ref x) name ex) Q E s := by
  obtain ⟨hp, g, d, t, os⟩ := s
  have L0 := I.type (M := model prog w)
  have L1 := PySem.W.looks_findIn (M := model prog w) X T.ga
  have L2 := PySem.W.looks_findIn (M := model prog w) X T.gt
  unfold getAttr getAttrBy
  refine wpAny_bind (wpAny_mkText (wpAny_holding (wpAny_bind (L0.at (wpAny_bind (L1.at ?_))))))
  have e1 : (onTheHeap (Value.ref D) && Value.builtin "BaseException.__getattribute__" == Value.builtin "object.__getattribute__") = false := by
    rw [show (Value.builtin "BaseException.__getattribute__" == Value.builtin "object.__getattribute__") = false by decide +kernel]; rfl
  dsimp only
  rw [e1, if_neg Bool.false_ne_true]
  unfold getAttrByItsOwn
  refine wpAny_bind ?_
  show wpAny _ _ (typeLookup (.ref D) "__getattr__") _ _ _
  refine L2.at ?_
  refine wpAny_bind (wpAny_attempt (wpAny_holding ?_))
  unfold callGetattribute
  have e2 : (ex && onTheHeap (Value.builtin "BaseException.__getattribute__")) = false := by rw [show onTheHeap (Value.builtin "BaseException.__getattribute__") = false from rfl, Bool.and_false]
  rw [e2, if_neg Bool.false_ne_true]
  unfold boundAndCalled
  rw [F.attr_ValueError.ga.bind (.ref x)]
  refine wpAny_bind (wpAny_pure ?_)
  refine wpAny_call (codeAny_call_builtin F.attr_ValueError.ga.plain F.entry_bexc_ga ?_)
  refine exc_check (s := ⟨hp, g, d, t + 1, os⟩) X I T.be ?_
  refine wpAny_mono (exc_entry_value (s := ⟨hp, g, d, t + 1, os⟩) (E := fun _ _ => False) (P := fun u s' => u = v ∧ s' = ⟨hp, g, d, t + 1, os⟩) X I hf ⟨rfl, rfl⟩) (fun fin s' z => ?_) (fun _ _ z => z.elim)
  rcases fin with (_ | _ | _ | _) | _ <;> first | exact z.elim | skip
  obtain ⟨rfl, rfl⟩ := z
  exact PySem.W.handed_on hh h
end
section
variable {X : Cx}
def tFldX (K : PySem.W.Frag) (ta : TE) (f : Str) : TE := fun σ H Q => ta σ H fun x H1 => ∃ e C dx fs v, x = .ref e ∧ H1 e = some (excO e (.ref C) (some dx)) ∧ H1 dx = some (.xd fs) ∧ ExcT K C ∧ PySem.W.findIn K (.ref C) f = some none ∧ fs.lookup f = some v ∧ Q v H1
theorem pe_fldX {e : Expr} {ta : TE} {f : Str} {pos : Pos} (he : PE X e ta) (hb : attributeBase e f X.env (eval e X.env) = eval e X.env) : PE X (.Attribute e f pos) (tFldX X.K ta f) := by
  intro pins s σ H Q I h
  refine attr_of hb (thn (he pins s σ H _ I h) fun u s1 ⟨x, H1, I1, rx, e, C, dx, fs, v, ex, ee, ed, T, nf, l, q⟩ => ?_)
  subst ex
  obtain rfl : u = Value.ref e := rx
  obtain ⟨o, vs, h1, h2, h3, h4⟩ := exc_at I1 ee
  have nc : PySem.W.notCls o = true := by unfold PySem.W.notCls; rw [h4]
  obtain ⟨mA, ns, rel⟩ := I1.hok dx _ ed
  obtain ⟨od, ho, hl⟩ := lookIn_ns ns
  obtain ⟨y, hy, ry⟩ := RelO.some_of (v := v) (o := mA f) (by rw [← l]; exact rel f)
  exact exc_value I1.kIn ⟨h1, h2, nc, by rw [h3]; exact ho⟩ T (PySem.W.findObj_own T.hd nf rfl (by rw [hl, hy])) (handed_of ry) ⟨v, H1, I1.tok _, ry, q⟩
end
end L2
namespace L2
open PySem PySem.Spec PyProof.Rows
theorem noteFrame_as {env env' : Env} (h : env.frame = env'.frame) (e : Value) : noteFrame e env = noteFrame e env' := by
  unfold noteFrame PySem.frameOf
  rw [h]
section
variable {M : Model} {A : Around} {E : Value → Shared → Prop} {s : Shared} {base : Heap} {env : Env} {outer l : List Env} {L e : Addr} {cls : Value} {dd : Option Addr} {Q : Unit → Shared → Prop}
theorem note_any {f : Value} (hfr : A.frames = some (env :: outer)) (hl : s.heap.FunFrames base (env :: outer)) (hf : env.frame = some L) (st : base.StaysIn s.heap) (hen : base.get? e = none)
    (x : ExcAt s.heap base e cls dd (some f)) (k : ∀ h' f', Go base (env :: outer) s.heap h' → ExcAt h' base e cls dd (some f') → Q () { s with heap := h' }) :
    wpAny M A (noteFrame (.ref e) env) Q E s := by
  obtain ⟨oe, vs, he, rfl, rfl, hd, hz, T, oT, ts, h1, nT, ne, hT, dT, h3⟩ := x
  unfold noteFrame
  simp only [hf]
  refine wpAny_bind (wpAny_field he hd h1 ?_)
  rw [if_pos (show (Value.ref T != Value.none) = true by simp)]
  refine wpAny_bind (wpAny_field hT dT h3 ?_)
  by_cases hq : (f == rawInt L) = true
  · rw [if_pos hq]
    exact wpAny_pure (k s.heap f ⟨st, hl, fun b o z _ => ⟨o.slots, z⟩⟩ ⟨oe, vs, he, rfl, rfl, hd, hz, T, oT, ts, h1, nT, ne, hT, dT, h3⟩)
  · rw [if_neg hq]
    refine wpAny_bind (wpAny_setField hT dT (Array.getElem?_eq_some_iff.mp h3).1 ?_)
    have ot : ∀ b, b ≠ T → (s.heap.update T (Obj.mapFields (·.setIfInBounds 3 Value.none))).get? b = s.heap.get? b := fun b nb => Heap.get?_update_other _ _ (Ne.symm nb)
    refine entry_exc (s := { s with heap := s.heap.update T (Obj.mapFields (·.setIfInBounds 3 Value.none)) }) hfr (hl.of_keeps fun b o z nz => ⟨o, (ot b (not_rec hT dT z nz)).trans z, rfl⟩) hf ((ot e (Ne.symm ne)).trans he)
      (fun b o z => (ot b fun q => by rw [q, nT] at z; cases z).trans (st b o z)) hen hd hz fun h' g x' => k h' _ ⟨g.st, g.fr, fun b o z nz => g.up b o ((ot b (not_rec hT dT z nz)).trans z) nz⟩ x'
theorem flight_any {f : Value} {fr : Option Addr} (hl : s.heap.FunFrames base l) (st : base.StaysIn s.heap) (x : ExcAt s.heap base e cls dd (some f))
    (k : ∀ h' f', Go base l s.heap h' → ExcAt h' base e cls dd (some f') → Q () { s with heap := h' }) : wpAny M A (setFlight (.ref e) fr) Q E s := by
  obtain ⟨oe, vs, he, rfl, rfl, hd, hz, T, oT, ts, h1, nT, ne, hT, dT, h3⟩ := x
  have z3 : 3 < ts.size := (Array.getElem?_eq_some_iff.mp h3).1
  unfold setFlight
  refine wpAny_bind (wpAny_field he hd h1 ?_)
  rw [if_pos (show (Value.ref T != Value.none) = true by simp)]
  refine wpAny_setField hT dT z3 ?_
  have ot : ∀ b, b ≠ T → (s.heap.update T (Obj.mapFields (·.setIfInBounds 3 (fr.elim Value.none fun f => rawInt f)))).get? b = s.heap.get? b := fun b nb => Heap.get?_update_other _ _ (Ne.symm nb)
  refine k _ (fr.elim Value.none fun f => rawInt f) ⟨fun b o z => (ot b fun q => by rw [q, nT] at z; cases z).trans (st b o z), hl.of_keeps fun b o z nz => ⟨o, (ot b (not_rec hT dT z nz)).trans z, rfl⟩, fun b o z nz => ⟨o.slots, (ot b (not_rec hT dT z nz)).trans z⟩⟩ ?_
  exact ⟨oe, vs, (ot e (Ne.symm ne)).trans he, rfl, rfl, hd, hz, T, _, _, h1, nT, ne, Heap.get?_update_self _ hT (Obj.isFreed_of_fields (Obj.data_mapFields dT _)), Obj.data_mapFields dT _, by simp [z3]⟩
theorem leave_any {f : Value} (hfr : A.frames = some (env :: outer)) (hl : s.heap.FunFrames base (env :: outer)) (hf : env.frame = some L) (st : base.StaysIn s.heap) (hen : base.get? e = none)
    (x : ExcAt s.heap base e cls dd (some f)) (k : ∀ h', Go base (env :: outer) s.heap h' → ExcAt h' base e cls dd (some .none) → Q () { s with heap := h' }) :
    wpAny M A (leaving env (.ref e)) Q E s := by
  unfold leaving
  refine wpAny_bind (note_any hfr hl hf st hen x fun h1 f1 g1 x1 => ?_)
  exact flight_exc (s := { s with heap := h1 }) g1.fr g1.st x1 fun h2 g2 x2 => k h2 (g1.trans g2) x2
theorem frames_but {h h' base base' : Heap} {C : Addr} (hC : base.get? C ≠ none) (sb : ∀ b, b ≠ C → h'.get? b = h.get? b) (hb : ∀ a, base.get? a = none → base'.get? a = none) : ∀ {l : List Env}, h.FunFrames base l → h'.FunFrames base' l
  | [], _ => trivial
  | env :: r, ⟨a, ⟨L, o, b, c, d, e⟩, f⟩ => ⟨a, ⟨L, o, b, hb L c, (sb L fun z => hC (by rw [← z]; exact c)).trans d, e⟩, frames_but hC sb hb f⟩
end
section
variable {X : Cx} {sc : Scope}
theorem comp_passes {b : BP} {E : XK} {pins0 : List (Addr × Obj)} {σ0 : St} {H2 : Hp} {s2 : Shared} {use : Option (Value → Sem Unit)} {Qc : Value → Shared → Prop} {acc : Value} (I2 : Inv X pins0 σ0 H2 s2) (dx : DefX X) (hxe : XeIs X E)
    (hfp : ∀ a, a ∈ b.ex → a ∈ X.ex ∨ X.s₀.heap.objs.size ≤ a) (hs : b.s = s2) (hH : b.H = H2) (hC : s2.heap.objs.size ≤ b.C)
    (hx : b.xe = notedBy (model X.prog X.w) X.A (blkEnv sc b.cl b.C X.env) fun e s' => compPost (model X.prog X.w) X.A X.xe use Qc acc b.C (.error e) s') : Passes (CX1 X.prog X.w) (blk X sc b) E := by
  subst hs hH
  intro pins σ H s ev s' I h
  obtain ⟨e, cls, dd, B, H', rfl, os, bare, F, q⟩ := h
  show b.xe (.ref e) s'
  rw [hx]
  have stk : X.A.frames = some (X.env :: X.outer) := by rw [I2.ok.frames, dx.st]
  have fr : s'.heap.FunFrames B (X.env :: X.outer) := by
    have z := F.fr
    rw [show (blk X sc b).stack = X.env :: X.outer from dx.st] at z
    exact z
  have nex : ∀ b : Addr, b ∉ X.ex := fun b z => by rw [dx.ex] at z; cases z
  unfold notedBy
  rw [noteFrame_as (env := blkEnv sc b.cl b.C X.env) (env' := X.env) rfl]
  refine note_any stk fr dx.fr F.st F.en F.ex fun h1 f1 g1 x1 => ?_
  obtain ⟨m, ⟨oC, es, ep, hoC, r⟩, _⟩ := I.loc
  have hoC : s.heap.get? b.C = some oC := hoC
  have freeC : H b.C = none := I.free
  have nfC : b.C ∉ frs X.stack := fun z => by
    have z := I2.stack.mem z
    obtain ⟨_, o, ho, _⟩ := z
    exact absurd (Heap.lt_size ho) (Nat.not_lt.mpr hC)
  have hCB : B.get? b.C = some oC := F.keep _ _ hoC freeC nfC
  refine ⟨m, ⟨oC, es, ep, g1.st _ _ hCB, r⟩, fun h2 sb cenv hc => ?_⟩
  have back : ∀ a o, (PySem.W.hideAll B [b.C]).get? a = some o → B.get? a = some o := fun a o z => PySem.W.of_hideAll _ z
  have gone : ∀ a, B.get? a = none → (PySem.W.hideAll B [b.C]).get? a = none := fun a z => by
    cases w : (PySem.W.hideAll B [b.C]).get? a with
    | none => rfl
    | some o => rw [back a o w] at z; cases z
  have hid : ∀ {a o}, B.get? a = some o → a ≠ b.C → (PySem.W.hideAll B [b.C]).get? a = some o := fun z n => PySem.W.hideAll_get _ z (by simp [n])
  have goneC : (PySem.W.hideAll B [b.C]).get? b.C = none := PySem.W.hideAll_none _ (by simp)
  have neC : ∀ {a o}, (PySem.W.hideAll B [b.C]).get? a = some o → a ≠ b.C := fun z n => by rw [n, goneC] at z; cases z
  have st2 : (PySem.W.hideAll B [b.C]).StaysIn h2 := fun a o z => (sb.2 a (neC z)).trans (g1.st a o (back a o z))
  have en2 := gone e F.en
  have fr2 : h2.FunFrames (PySem.W.hideAll B [b.C]) (X.env :: X.outer) := frames_but (by rw [hCB]; simp) (fun a n => sb.2 a n) gone g1.fr
  have eC : e ≠ b.C := fun z => by have := F.en; rw [z, hCB] at this; cases this
  have x2 : ExcAt h2 (PySem.W.hideAll B [b.C]) e cls dd (some f1) := by
    obtain ⟨oe, vs, he, c1, c2, hd, hz, T, oT, ts, hv, nT, neT, hT, dT, h3⟩ := x1
    have TC : T ≠ b.C := fun z => by rw [z, hCB] at nT; cases nT
    exact ⟨oe, vs, (sb.2 e eC).trans he, c1, c2, hd, hz, T, oT, ts, hv, gone T nT, neT, (sb.2 T TC).trans hT, dT, h3⟩
  unfold PySem.passOn
  obtain ⟨oe, vs, he, _, _, hd, _, T, _, _, hv, _⟩ := id x2
  refine wpAny_bind (wpAny_field he hd hv ?_)
  rw [if_neg (show ¬ ((Value.ref T == Value.none) = true) by simp)]
  refine wpAny_bind (flight_any (s := { s' with heap := h2 }) fr2 st2 x2 fun h3 f3 g3 x3 => ?_)
  refine wpAny_throw ?_
  rw [hxe]
  refine leave_any (s := { s' with heap := h3 }) stk g3.fr dx.fr g3.st en2 x3 fun h4 g4 x4 => ?_
  have old : ∀ {a o}, X.s₀.heap.get? a = some o → a ∉ b.ex := fun z w => by
    rcases hfp _ w with u | u
    · exact nex _ u
    · exact absurd (Heap.lt_size z) (Nat.not_lt.mpr u)
  have oldC : ∀ {a o}, X.s₀.heap.get? a = some o → a ≠ b.C := fun {a o} z w => by
    obtain ⟨o', u⟩ := I2.base.there a o z (nex a)
    rw [w] at u
    exact absurd (Heap.lt_size u) (Nat.not_lt.mpr hC)
  have hfC : H' b.C = none := F.free _ _ hoC freeC
  refine ⟨e, cls, dd, PySem.W.hideAll B [b.C], H', rfl, os.trans (I.os.trans I2.os), bare, ⟨g4.st, en2, g4.fr.2.2, x4, fun a o z => ?_, fun a o z n nf => ?_, fun a o z n ha nd => ?_, fun a o z n => ?_, fun a o z nf => ?_, fun a xs z => F.tups a xs (I.base.tups a xs (I2.base.tups a xs z)), fun a o u z => F.frzs a o u (I.base.frzs a o u (I2.base.frzs a o u z)), fun a ps z => ?_⟩, q⟩
  · refine (F.hok a o z).stay (fun c v hc w => hid w fun y => ?_) (fun _ w => w) fun _ _ w => w
    rcases hc with rfl | hc
    · rw [y, hfC] at z; cases z
    · rw [y, hfC] at hc; cases hc
  · have e1 := I2.base.keep a o z n nf (nex a)
    have n1 := I2.base.free a o z n (nex a)
    have nf1 := old_frs I2 z nf
    exact hid (F.keep a o (I.base.keep a o e1 n1 nf1 (old z)) (I.base.free a o e1 n1 (old z)) nf1) (oldC z)
  · obtain ⟨sl, e1⟩ := I2.base.slot a o z n ha (nex a)
    have n1 := I2.base.free a o z n (nex a)
    have ha' : a ∈ frs X.stack := by rw [dx.st]; unfold frs; rw [List.filterMap_cons, dx.fr]; exact List.mem_cons_of_mem _ ha
    obtain ⟨sl1, e2⟩ := I.base.slot a _ e1 n1 ha' (old z)
    obtain ⟨sl2, e3⟩ := F.slot a _ e2 (I.base.free a _ e1 n1 (old z)) ha' nd
    obtain ⟨sl3, e4⟩ := g1.up a _ e3 nd
    obtain ⟨sl4, e5⟩ := g3.up a _ ((sb.2 a (oldC z)).trans e4) nd
    obtain ⟨sl5, e6⟩ := g4.up a _ e5 nd
    exact ⟨sl5, e6⟩
  · obtain ⟨o1, e1⟩ := I2.base.there a o z (nex a)
    obtain ⟨o2, e2⟩ := I.base.there a o1 e1 (old z)
    have n1 := I2.base.free a o z n (nex a)
    exact F.free a o2 e2 (I.base.free a o1 e1 n1 (old z))
  · obtain ⟨o1, e1⟩ := I2.base.there a o z (nex a)
    obtain ⟨o2, e2⟩ := I.base.there a o1 e1 (old z)
    obtain ⟨o3, e3⟩ := F.there a o2 e2 (old_frs I2 z nf)
    exact ⟨o3, hid e3 (oldC z)⟩
  · obtain ⟨m1, e1⟩ := I2.base.tbls a ps z
    obtain ⟨m2, e2⟩ := I.base.tbls a _ e1
    obtain ⟨m3, e3⟩ := F.tbls a _ e2
    exact ⟨m1 ++ m2 ++ m3, by rw [e3]; simp [Array.append_assoc]⟩
end
section
variable {X : Cx} {sc : Scope} {own : List Nat} {tg iter elt : Expr} {ifs : List Expr} {wi : TI} {g : TG} {tt : TT} {te : TE}
theorem comp_runX {E : XK} {pins : List (Addr × Obj)} {σ : St} {H : Hp} {s : Shared} {pos ppos : Pos} {use : Option (Value → Sem Unit)} {Qc : Value → Shared → Prop} {R : List V → Hp → Prop}
    (hc : X.calm = true) (B : BlkOk X.N X.env.scope sc own) (hi : PI X tg iter wi) (hg : ∀ b, PG (blk X sc b) tg g) (ht : ∀ b, PTs (blk X sc b) ifs tt) (he : ∀ b, Passes (CX1 X.prog X.w) (blk X sc b) E → PE (blk X sc b) elt te) (dx : DefX X) (hxe : XeIs X E)
    (hs : ∀ x, foldedSetIterable iter X.env x = pure x) (I : Inv X pins σ H s) (h : wi σ H fun J H1 => CompW J g tt te (wipe own σ) R H1)
    (fin : ∀ D C H' ys s' m, Inv X pins σ (upd H' D (.lst ys)) s' → H' D = none → R ys H' → s'.heap.Ns C m → FpOk X pins (upd H' D (.lst ys)) C → compPost (model X.prog X.w) X.A X.xe use Qc (.ref D) C (.ok .next) s') :
    wpAny (model X.prog X.w) X.A (comprehension (.ListComp elt [⟨tg, iter, ifs, 0⟩] sc pos) sc X.env ppos (newList []) false (eval iter X.env) use) Qc X.xe s := by
  have hnames : ∀ x ∈ sc.names, x.2 = .local → sc.names.lookup x.1 = some .local := fun x hx e => look_mem B.nd (by rw [← e]; exact hx)
  refine wpAny_comprehension_free (cl := closL X.env.cells sc.names []) (use := use) rfl hs (clos_is fun y hy e => I.ok.has y.1 (B.free y hy e)) B.kind hnames ?_
  refine thn (hi pins s σ H _ I h) fun v s1 h1 => thn h1 fun itv s2 h2 => ?_
  obtain ⟨it, fp, tn, J, H2, e, I2, T, st2, f2, W, ⟨m0, w0⟩, turn⟩ := h2
  subst e
  refine wpAny_newObj_type (newEnv_run ?_)
  have fpo : ∀ b ∈ fp, b < s2.heap.objs.size := fun b hb => let ⟨o, ho, _⟩ := T.obj _ _ st2 b hb; Heap.lt_size ho
  obtain ⟨D, hD⟩ : ∃ D, D = s2.heap.objs.size := ⟨_, rfl⟩
  obtain ⟨C, hC⟩ : ∃ C, C = s2.heap.objs.size + 1 := ⟨_, rfl⟩
  have szp : (s2.heap.push { cls := .type "list", dict := none, data := .seq ([] : List Value).toArray }).objs.size = C := by rw [hC, Heap.size_push]
  have hDC : D ≠ C := by rw [hD, hC]; exact Nat.ne_of_lt (Nat.lt_succ_self _)
  have st := blk_start (xe := notedBy (model X.prog X.w) X.A (blkEnv sc (closL X.env.cells sc.names []) C X.env) fun e s' => compPost (model X.prog X.w) X.A X.xe use Qc (.ref D) C (.error e) s') I2 B f2 fpo
  dsimp only
  rw [szp, ← hD]
  rw [← hC, ← hD] at st
  generalize hX : blk X sc ⟨closL X.env.cells sc.names [], C, s2, H2, fp, notedBy (model X.prog X.w) X.A (blkEnv sc (closL X.env.cells sc.names []) C X.env) fun e s' => compPost (model X.prog X.w) X.A X.xe use Qc (.ref D) C (.error e) s'⟩ = Y at st
  have eY : Y.env = blkEnv sc (closL X.env.cells sc.names []) C X.env := by rw [← hX]; rfl
  have exY : Y.xe = notedBy (model X.prog X.w) X.A Y.env fun e s' => compPost (model X.prog X.w) X.A X.xe use Qc (.ref D) C (.error e) s' := by rw [eY, ← hX]; rfl
  have pY : Y.prog = X.prog := by rw [← hX]; rfl
  have wY : Y.w = X.w := by rw [← hX]; rfl
  have KY : Y.K = X.K := by rw [← hX]; rfl
  have AY : Y.A = X.A := by rw [← hX]; rfl
  have cY : Y.calm = true := by rw [← hX]; exact hc
  have gY := hg ⟨closL X.env.cells sc.names [], C, s2, H2, fp, notedBy (model X.prog X.w) X.A (blkEnv sc (closL X.env.cells sc.names []) C X.env) fun e s' => compPost (model X.prog X.w) X.A X.xe use Qc (.ref D) C (.error e) s'⟩
  have tY := ht ⟨closL X.env.cells sc.names [], C, s2, H2, fp, notedBy (model X.prog X.w) X.A (blkEnv sc (closL X.env.cells sc.names []) C X.env) fun e s' => compPost (model X.prog X.w) X.A X.xe use Qc (.ref D) C (.error e) s'⟩
  have lY := he ⟨closL X.env.cells sc.names [], C, s2, H2, fp, notedBy (model X.prog X.w) X.A (blkEnv sc (closL X.env.cells sc.names []) C X.env) fun e s' => compPost (model X.prog X.w) X.A X.xe use Qc (.ref D) C (.error e) s'⟩ (comp_passes I2 dx hxe (fun a ha => (f2 a ha).2.2.2.1) rfl rfl (by rw [hC]; exact Nat.le_succ _) rfl)
  rw [hX] at gY tY lY
  have fsY : Y.fs = frs X.stack := by rw [← hX]; rfl
  have exfY : Y.ex = fp := by rw [← hX]; rfl
  have s0Y : Y.s₀ = s2 := by rw [← hX]; rfl
  have H0Y : Y.H₀ = H2 := by rw [← hX]; rfl
  have LY : Y.env.locals = C := by rw [eY]; rfl
  have pnY : Y.pn = [] := by rw [← hX]; rfl
  have eEnv : ({ scope := relabel sc X.env, locals := C, globals := X.env.globals, cells := cellsFrom (C + 1) sc.names (closL X.env.cells sc.names []), qual := X.env.qual, func := none, code := X.env.code, frame := X.env.frame, builtins := X.env.builtins } : Env) = Y.env := by rw [eY]; rfl
  rw [eEnv]
  have TY : Turn Y.prog Y.w Y.K tg J fp it tn := by rw [pY, wY, KY]; exact T
  have dfp : ∀ b ∈ fp, b ≠ D := fun b hb => by rw [hD]; exact Nat.ne_of_lt (fpo b hb)
  have stat : ∀ {pl : List (Addr × Obj)} {H' : Hp}, (∀ p ∈ pl, p.1 = D) → (∀ b ∈ fp, H' b = none) → ∀ b ∈ fp, FpOk Y pl H' b := fun {pl H'} hpl hn b hb => by
    have f := st.ok.exf b (by rw [exfY]; exact hb)
    refine ⟨hn b hb, f.1, st.ok.exfs b (by rw [exfY]; exact hb), .inl (by rw [exfY]; exact hb), f.2, fun p hp => ?_⟩
    rw [pnY, List.nil_append] at hp
    rw [hpl p hp]
    exact Ne.symm (dfp b hb)
  let Lp : Nat → Shared → Prop := fun n s' => ∃ i ys us k H', Inv Y [(D, { cls := .type "list", data := .seq (us : List Value).toArray k })] (wipe own σ) H' s' ∧ tn i s'.heap ∧ (∀ b ∈ fp, H' b = none) ∧ Vals ys us ∧ ys.length ≤ sizeLine ∧ ys.length ≤ i ∧ W i n ys H'
  have start : Lp m0 { s2 with heap := pushCells ((s2.heap.push { cls := .type "list", dict := none, data := .seq ([] : List Value).toArray }).push { cls := .type "dict", data := .dict #[] }) sc.names } := by
    refine ⟨0, [], [], 0, H2, st, T.keep _ _ _ st2 fun b hb o e => ?_, fun b hb => (f2 b hb).1, .nil, Nat.zero_le _, Nat.zero_le _, w0⟩
    exact pushCells_keeps sc.names _ _ _ (Heap.get?_push_of_some _ (Heap.get?_push_of_some _ e))
  have loop : ∀ s4, Lp m0 s4 → codeAny (model X.prog X.w) X.A (.compLoop (.ListComp elt [⟨tg, iter, ifs, 0⟩] sc pos) 0 (.ref it) (.ref D) Y.env) (compPost (model X.prog X.w) X.A X.xe use Qc (.ref D) C) s4 := by
    intro s4 h4
    refine comp_loop Lp ?_ m0 h4
    rintro n s5 ⟨i, ys, us, k, H5, I5, st5, fr5, vs5, le5, ll5, w5⟩
    rw [← exY, ← pY, ← wY, ← AY]
    have pinD : ∀ p ∈ ([(D, { cls := .type "list", data := .seq us.toArray k })] : List (Addr × Obj)), p.1 = D := fun p hp => by
      obtain rfl : p = (D, { cls := .type "list", data := .seq us.toArray k }) := by simpa using hp
      rfl
    rcases turn i n ys H5 w5 with ⟨stop, qn⟩ | ⟨go, lt, N, hN, step⟩
    · refine thn (TY.done Y rfl rfl rfl cY i _ s5 _ H5 Y.xe I5 (stat pinD fr5) st5 stop) fun r s6 ⟨hr, I6⟩ => ?_
      subst hr
      obtain ⟨p1, p2, p3, p4, _⟩ := I6.pin (D, { cls := .type "list", data := .seq us.toArray k }) (List.mem_append_right _ (by simp))
      have u6 : Un (frs X.stack) fp H2 (upd H5 D (.lst ys)) s2.heap s6.heap := by
        have u := I6.base
        rw [fsY, exfY, s0Y, H0Y] at u
        exact u.track p2 (by rw [hD]; exact Nat.le_refl _)
      have hok : HOk X.prog X.w (upd H5 D (.lst ys)) s6.heap := by
        have := I6.hok
        rw [pY, wY] at this
        exact this.track p2 ⟨le5, us, k, vs5, p1⟩
      have I7 : Inv X pins σ (upd H5 D (.lst ys)) s6 := I2.call' (ch := fp) (by rw [← s0Y]; exact I6.os) u6 hok I6.bare fun b hb => ⟨(f2 b hb).2.2.2.1, (f2 b hb).2.1, (f2 b hb).2.2.2.2.1, (f2 b hb).2.2.2.2.2⟩
      obtain ⟨m, hn, _⟩ := I6.loc
      rw [LY] at hn
      rw [pY, wY, AY]
      refine fin D C H5 ys s6 m I7 p2 qn hn (I2.fpOk (by rw [hC]; exact Nat.le_succ _) ?_)
      rw [upd_ne (Ne.symm hDC), ← LY]
      exact I6.free
    · refine thn (TY.item Y rfl rfl rfl cY i _ s5 _ H5 Y.xe I5 (stat pinD fr5) st5 go) fun r s6 ⟨u, hr, h6⟩ => ?_
      subst hr
      refine thn h6 fun _ s7 ⟨x, H7, I7, r7, y7, st7, fr7⟩ => ?_
      have I7' := I7.pinned (stat pinD fr7) (T.obj _ _ st7)
      refine thn (gY _ s7 _ H7 x u _ I7' r7 (step x H7 y7)) fun _ s8 ⟨σ8, H8, I8, bk, q8⟩ => ?_
      refine thn (tY _ s8 σ8 H8 _ I8 q8) fun ok s9 ⟨H9, I9, q9⟩ => ?_
      have fpk : ∀ {σ' : St} {H' : Hp} {s' : Shared}, Inv Y ([(D, { cls := .type "list", data := .seq us.toArray k })] ++ pinsAt fp s7.heap) σ' H' s' → tn (i + 1) s'.heap ∧ (∀ b ∈ fp, H' b = none) := fun {σ' H' s'} I' =>
        ⟨T.keep _ _ _ st7 fun b hb o e => (I'.pin (b, o) (List.mem_append_right _ (List.mem_append_right _ (mem_pinsAt hb e)))).1, fun b hb => by
          obtain ⟨o, e, d⟩ := T.obj _ _ st7 b hb
          exact (I'.pin (b, o) (List.mem_append_right _ (List.mem_append_right _ (mem_pinsAt hb e)))).2.1⟩
      cases ok with
      | false =>
        obtain ⟨m', hm, w'⟩ := hN _ _ q9
        obtain ⟨t9, fr9⟩ := fpk I9
        exact ⟨m', hm, i + 1, ys, us, k, H9, I9.unpinned.weak bk.1.symm bk.2, t9, fr9, vs5, le5, Nat.le_succ_of_le ll5, w'⟩
      | true =>
        refine thn (lY _ s9 σ8 H9 _ I9 q9) fun yv sa ⟨y, Ha, Ia, ra, qa⟩ => ?_
        obtain ⟨m', hm, w'⟩ := hN _ _ qa
        obtain ⟨ta, fra⟩ := fpk Ia
        obtain ⟨p1, p2, p3, p4, _⟩ := Ia.pin (D, { cls := .type "list", data := .seq us.toArray k }) (List.mem_append_right _ (List.mem_append_left _ (by simp)))
        have lus := vs5.length
        refine call_meets F.slot_list_append ⟨_, p1, rfl⟩ F.entry_list_append (F.args_list_append_2 _ _) (PySem.list_append D us.toArray k yv (by rw [List.size_toArray]; omega)) ⟨p1, ?_⟩
        have q := PySem.IsL.update p1 (fun z => z.push yv)
        have Ib : Inv Y [] (wipe own σ) Ha { sa with heap := sa.heap.update D (Obj.mapSeq fun z => z.push yv) } := by
          have I0 : Inv Y [] (wipe own σ) Ha sa := (Ia.pins_of (pins' := []) fun p hp => absurd hp (by simp)).weak bk.1.symm bk.2
          refine I0.turned (t' := sa.toks) (it := D) (fun b o hb e => (Heap.get?_update_other sa.heap _ (Ne.symm hb)).trans e) p2 (by rw [LY]; exact hDC) (.inr (by rw [s0Y, hD]; exact Nat.le_refl _)) (fun z c e => ?_) fun p hp => absurd (show p ∈ ([] : List (Addr × Obj)) by rw [← pnY]; simpa using hp) (by simp)
          obtain ⟨v, o, ho, hd⟩ := st.cell z c e
          rintro rfl
          obtain ⟨o1, _⟩ := st.pin (c, { cls := .type "list", data := .seq ([] : List Value).toArray }) (List.mem_append_right _ (by simp))
          rw [o1] at ho
          cases ho
          cases hd
        have q' : (sa.heap.update D (Obj.mapSeq fun z => z.push yv)).get? D = some { cls := .type "list", data := .seq (us ++ [yv]).toArray (if (us.toArray.push yv).size == us.toArray.size then k else k + 1) } := by
          have e1 : (us ++ [yv]).toArray = us.toArray.push yv := by simp
          rw [e1]; exact q
        refine ⟨m', hm, i + 1, ys ++ [y], us ++ [yv], (if (us.toArray.push yv).size == us.toArray.size then k else k + 1), Ha, Ib.pins_of fun p hp => ?_, T.keep _ _ _ ta fun b hb o e => (Heap.get?_update_other sa.heap _ (Ne.symm (dfp b hb))).trans e, fra, vs5.append (.cons ra .nil), by rw [List.length_append, List.length_singleton]; omega, by rw [List.length_append, List.length_singleton]; omega, w'⟩
        obtain rfl : p = (D, { cls := .type "list", data := .seq (us ++ [yv]).toArray (if (us.toArray.push yv).size == us.toArray.size then k else k + 1) }) := by simpa using hp
        exact ⟨q', p2, by rw [LY]; exact hDC, p4, fun v z => by
          have z' : Data.seq (us ++ [yv]).toArray (if (us.toArray.push yv).size == us.toArray.size then k else k + 1) = Data.cell v := z
          cases z'⟩
  refine codeAny_compStart_list (loop _ start) ?_
  refine T.self X.A 0 _ _ _ ?_ (loop _ start)
  exact T.keep _ _ _ st2 fun b hb o e => pushCells_keeps sc.names _ _ _ (Heap.get?_push_of_some _ (Heap.get?_push_of_some _ e))
theorem pe_compX {E : XK} {pos : Pos} (own : List Nat) (dx : DefX X) (hxe : XeIs X E) (B : BlkOk X.N X.env.scope sc own) (hi : PI X tg iter wi) (hg : ∀ b, PG (blk X sc b) tg g) (ht : ∀ b, PTs (blk X sc b) ifs tt) (he : ∀ b, Passes (CX1 X.prog X.w) (blk X sc b) E → PE (blk X sc b) elt te)
    (hs : ∀ x, foldedSetIterable iter X.env x = pure x := by intro _; rfl) : PE X (.ListComp elt [⟨tg, iter, ifs, 0⟩] sc pos) (tComp wi g tt te own) := by
  intro pins s σ H Q I h
  rw [eval_ListComp]
  refine comp_runX (use := none) dx.calm B hi hg ht he dx hxe hs I h fun D C H' ys s' m I' n r hn f => ⟨m, hn, fun h' sb => ?_⟩
  exact ⟨.ref D, _, f.turned I' sb, rfl, r D _ (.of n)⟩
end
end L2
namespace L2
open PySem PySem.Spec PyProof.Rows
theorem tail_self {K : PySem.W.Frag} {bmB : List Value} : PySem.W.tailIn K bmB bmB = true := by
  cases bmB with
  | nil => rfl
  | cons v r => unfold PySem.W.tailIn; simp
theorem tail_exc {K : PySem.W.Frag} {D : Addr} {bmB : List Value} {newId : String} (q : PySem.W.excIn K D bmB newId = true) : PySem.W.tailIn K bmB (.ref D :: bmB) = true := by
  unfold PySem.W.excIn at q
  split at q
  case h_2 => cases q
  rename_i dd c sl look
  split at q
  case h_2 => cases q
  simp only [Bool.and_eq_true, beq_iff_eq] at q
  obtain ⟨⟨_, q1⟩, q2⟩ := q
  unfold PySem.W.tailIn
  dsimp only
  rw [look]
  simp [q1, q2, tail_self]
theorem ownErr_of {K : PySem.W.Frag} {C D : Addr} {bmB : List Value} {newId : String} {dd : Option Addr} {c : ClassData} {sl : Array (Option Value)} {k0 k1 k2 k3 k5 : Option Value}
    (lk : K.lookup C = some ⟨.type "type", dd, .cls c, sl⟩) (mr : c.mro = .ref C :: .ref D :: bmB) (se : sl.toList = [k0, k1, k2, k3, some (.builtin newId), k5]) (hd : c.hasDel = false) (hx : c.hasDict = true)
    (q : PySem.W.excIn K D bmB newId = true) : ownErr K C D bmB newId = true := by
  unfold ownErr
  rw [lk]
  simp [mr, se, hd, hx, tail_exc q]
end L2
namespace SW
open PySem
def isDig (c : Nat) : Bool := decide (48 ≤ c) && decide (c ≤ 57)
def isLet (c : Nat) : Bool := decide (97 ≤ c) && decide (c ≤ 122)
def isW (p : Nat → Bool) (l : List Nat) : Bool := !l.isEmpty && l.all p
def valD (l : List Nat) : Nat := l.foldl (fun a c => 10 * a + (c - 48)) 0
def isNum (l : List Nat) : Bool := isW isDig l && (decide (l.head? ≠ some 48) || decide (l = [48]))
def numP (most : Nat) (l : List Nat) : Option Nat := if isNum l && (decide (l.length ≤ (dg most).length) && decide (valD l ≤ most)) then some (valD l) else none
def labP (l : List Nat) : Option (List Nat × Nat) :=
  let n := l.takeWhile (fun c => c != 40)
  let r := l.drop (n.length + 1)
  if isW isLet n && (decide (n.length ≤ 8) && decide (r.getLast? = some 41)) then (numP 300 r.dropLast).map fun m => (n, m) else none
theorem valD_snoc (l : List Nat) (c : Nat) : valD (l ++ [c]) = 10 * valD l + (c - 48) := by
  unfold valD
  rw [List.foldl_append]
  rfl
theorem num_dg : ∀ (k : Nat) (l : List Nat), l.length = k → isNum l = true → l = dg (valD l) ∧ (l ≠ [48] → 0 < valD l)
  | 0, l, hk, h => by
    rw [List.length_eq_zero_iff.mp hk] at h
    cases h
  | k + 1, l, hk, h => by
    rcases List.eq_nil_or_concat l with rfl | ⟨r, c, rfl⟩
    · cases h
    rw [List.concat_eq_append] at *
    unfold isNum isW at h
    simp only [Bool.and_eq_true, Bool.or_eq_true, decide_eq_true_eq, List.all_append] at h
    obtain ⟨⟨_, hr, hc⟩, h0⟩ := h
    have hc : 48 ≤ c ∧ c ≤ 57 := by simpa [isDig] using hc
    rw [valD_snoc]
    cases r with
    | nil =>
      have e0 : valD [] = 0 := rfl
      rw [e0, Nat.mul_zero, Nat.zero_add, dg_low (by omega), List.nil_append]
      refine ⟨by rw [show 48 + (c - 48) = c by omega], fun hn => ?_⟩
      have : c ≠ 48 := fun z => hn (by rw [z])
      omega
    | cons a r =>
      have ne : (a :: r) ++ [c] ≠ [48] := fun z => by have := congrArg List.length z; simp at this
      have h0 : ((a :: r) ++ [c]).head? ≠ some 48 := h0.resolve_right ne
      have ha : a ≠ 48 := fun z => h0 (by rw [z]; rfl)
      have ih := num_dg k (a :: r) (by simpa using hk) (by
        unfold isNum isW
        simp only [Bool.and_eq_true, Bool.or_eq_true, decide_eq_true_eq]
        exact ⟨⟨rfl, hr⟩, .inl fun z => ha (by simpa using z)⟩)
      have hp := ih.2 (fun z => ha (by simpa using (List.cons.inj z).1))
      refine ⟨?_, fun _ => by omega⟩
      rw [dg_step (by omega), show (10 * valD (a :: r) + (c - 48)) / 10 = valD (a :: r) by omega, show (10 * valD (a :: r) + (c - 48)) % 10 = c - 48 by omega, ← ih.1, show 48 + (c - 48) = c by omega]
theorem valD_dg : ∀ m : Nat, valD (dg m) = m := fun m => by
  induction m using Nat.strongRecOn with
  | _ m ih =>
    by_cases h : m < 10
    · rw [dg_low h]
      show 10 * 0 + (48 + m - 48) = m
      omega
    · rw [dg_step (by omega), valD_snoc, ih (m / 10) (by omega)]
      omega
theorem isNum_dg (m : Nat) : isNum (dg m) = true := by
  unfold isNum isW
  have h1 : (dg m).isEmpty = false := by
    cases e : dg m with
    | nil => exact absurd e (dg_ne m)
    | cons => rfl
  have h2 : (dg m).all isDig = true := List.all_eq_true.mpr fun c hc => by
    have := dg_all m c hc
    simp [isDig, this]
  rw [h1, h2]
  by_cases hm : m = 0
  · rw [hm, dg_low (by decide)]; rfl
  · obtain ⟨c, r, e, hc⟩ := dg_head (show 0 < m by omega)
    rw [e]
    have : c ≠ 48 := by omega
    simp [this]
theorem numP_dg {m most : Nat} (h : m ≤ most) : numP most (dg m) = some m := by
  unfold numP
  rw [isNum_dg, valD_dg, decide_eq_true (dg_mono h), decide_eq_true h]
  rfl
theorem tw40 : ∀ {n r : List Nat}, 40 ∉ n → (n ++ 40 :: r).takeWhile (fun c => c != 40) = n
  | [], _, _ => by simp
  | a :: n, r, h => by
    have h1 : a ≠ 40 := fun z => h (by simp [z])
    have h2 : 40 ∉ n := fun z => h (by simp [z])
    rw [List.cons_append, List.takeWhile_cons]
    simp only [bne_iff_ne, ne_eq, h1, not_false_eq_true, if_true]
    rw [tw40 h2]
theorem labP_of {n x : List Nat} (hn : 40 ∉ n) : labP (n ++ 40 :: (x ++ [41])) = if isW isLet n && decide (n.length ≤ 8) then (numP 300 x).map fun m => (n, m) else none := by
  unfold labP
  dsimp only
  rw [tw40 hn, show n ++ 40 :: (x ++ [41]) = (n ++ [40]) ++ (x ++ [41]) by simp, List.drop_left' (by simp)]
  have e1 : (x ++ [41]).getLast? = some 41 := by simp
  have e2 : (x ++ [41]).dropLast = x := by simp
  rw [e1, e2, decide_eq_true rfl, Bool.and_true]
theorem labP_lab {n : List Nat} {m : Nat} (h0 : n ≠ []) (h1 : ∀ c, c ∈ n → 97 ≤ c ∧ c ≤ 122) (h8 : n.length ≤ 8) (hm : m ≤ 300) : labP (n ++ 40 :: (dg m ++ [41])) = some (n, m) := by
  rw [labP_of fun z => by have := h1 40 z; omega, numP_dg hm]
  have e : isW isLet n = true := by
    unfold isW
    rw [List.all_eq_true.mpr fun c hc => by have := h1 c hc; simp [isLet, this]]
    cases n with
    | nil => exact absurd rfl h0
    | cons => rfl
  rw [e, decide_eq_true h8]
  rfl
structure StF where
  hd : List (List Nat × Nat)
  rs : List (List Nat × Nat)
def labN (ns : List (List Nat)) (l : List Nat) : Option (List Nat × Nat) :=
  match labP l with
  | some p => if p.1 ∈ ns ∨ ns.length = 12 then none else some p
  | none => none
def headF (hd : List (List Nat × Nat)) : List (List Nat) → Option (List (List Nat × Nat))
  | [] => some hd
  | l :: ls => match labN (hd.map (·.1)) l with
    | some p => headF (hd ++ [p]) ls
    | none => none
def placeF (n : Nat) (rs : List (List Nat × Nat)) : List (List Nat) → Option (List (List Nat × Nat))
  | [] => none
  | l :: vs => match labN (rs.map (·.1)) l with
    | some p => if vs.length = n ∧ (vs.all fun v => (numP (10 ^ 9) v).isSome) = true then some (rs ++ [p]) else none
    | none => none
def lineF (st : StF) (ws : List (List Nat)) : Option StF :=
  if ws = [] then some st else if st.hd = [] then (headF [] ws).map fun hd => ⟨hd, st.rs⟩ else (placeF st.hd.length st.rs ws).map fun rs => ⟨st.hd, rs⟩
def accF (p : Except Nat StF × Nat) (ws : List (List Nat)) : Except Nat StF × Nat :=
  (match p.1 with
    | .ok st => (match lineF st ws with
      | some s => .ok s
      | none => .error p.2)
    | .error k => .error k, p.2 + 1)
def runA (L : List (List (List Nat))) : Except Nat StF × Nat := L.foldl accF (.ok ⟨[], []⟩, 0)
def runL (L : List (List (List Nat))) : Except Nat StF := (runA L).1
theorem runA_len (L : List (List (List Nat))) : (runA L).2 = L.length := by
  unfold runA
  have : ∀ (L : List (List (List Nat))) p, (L.foldl accF p).2 = p.2 + L.length := fun L => by
    induction L with
    | nil => intro p; rfl
    | cons a L ih =>
      intro p
      rw [List.foldl_cons, ih, List.length_cons]
      show p.2 + 1 + L.length = _
      omega
  rw [this]
  simp
theorem runL_snoc (L : List (List (List Nat))) (ws : List (List Nat)) : runL (L ++ [ws]) = match runL L with
    | .ok st => (match lineF st ws with
      | some s => .ok s
      | none => .error L.length)
    | .error k => .error k := by
  unfold runL
  have : runA (L ++ [ws]) = accF (runA L) ws := by unfold runA; rw [List.foldl_append]; rfl
  rw [this]
  unfold accF
  rw [runA_len]
theorem runL_app_bad {L : List (List (List Nat))} {k : Nat} (h : runL L = .error k) : ∀ M, runL (L ++ M) = .error k := fun M => by
  induction M generalizing L with
  | nil => rw [List.append_nil]; exact h
  | cons a M ih =>
    rw [show L ++ a :: M = (L ++ [a]) ++ M by simp]
    refine ih ?_
    rw [runL_snoc, h]
inductive Laid : List (List (List Nat)) → List (List (List Nat)) → List Nat → Prop
  | nil : Laid [] [] []
  | blank {f l : List (List (List Nat))} {a : List Nat} (h : Laid f l a) : Laid (f ++ [[]]) l a
  | line {f l : List (List (List Nat))} {a : List Nat} (h : Laid f l a) (ws : List (List Nat)) : Laid (f ++ [ws]) (l ++ [ws]) (a ++ [f.length])
theorem Laid.len {f l : List (List (List Nat))} {a : List Nat} (h : Laid f l a) : a.length = l.length := by
  induction h with
  | nil => rfl
  | blank h ih => exact ih
  | line h ws ih => simp [ih]
theorem Laid.run {f l : List (List (List Nat))} {a : List Nat} (h : Laid f l a) : match runL l with
    | .ok st => runL f = .ok st
    | .error i => ∃ p, a[i]? = some p ∧ runL f = .error p := by
  induction h with
  | nil => rfl
  | @blank f l a h ih =>
    rw [runL_snoc]
    revert ih
    cases runL l with
    | ok st => intro ih; dsimp only at ih ⊢; rw [ih]; rfl
    | error i =>
      rintro ⟨p, e1, e2⟩
      exact ⟨p, e1, by rw [e2]⟩
  | @line f l a h ws ih =>
    rw [runL_snoc, runL_snoc]
    revert ih
    cases runL l with
    | ok st =>
      intro ih
      dsimp only at ih ⊢
      rw [ih]
      dsimp only
      cases lineF st ws with
      | some s => rfl
      | none => exact ⟨f.length, by rw [← h.len]; simp, rfl⟩
    | error i =>
      rintro ⟨p, e1, e2⟩
      dsimp only
      rw [e2]
      exact ⟨p, by rw [List.getElem?_append_left (List.getElem?_eq_some_iff.mp e1).1]; exact e1, rfl⟩
def sumF (l : List (List Nat × Nat)) : Nat := (l.map (·.2)).sum
def resF : Except Nat StF → Int
  | .error k => k
  | .ok st => if st.rs = [] ∨ sumF st.rs ≠ sumF st.hd ∨ 300 < sumF st.rs then -1 else -2
end SW
namespace SW
open PySem
def labc (p : List Nat × Nat) : List Nat := p.1 ++ 40 :: (dg p.2 ++ [41])
structure NmOk (n : List Nat) : Prop where
  ne : n ≠ []
  let' : ∀ c, c ∈ n → 97 ≤ c ∧ c ≤ 122
  le : n.length ≤ 8
theorem labP_ok {p : List Nat × Nat} (h : NmOk p.1) (hm : p.2 ≤ 300) : labP (labc p) = some p := labP_lab h.ne h.let' h.le hm
theorem labN_ok {ns : List (List Nat)} {p : List Nat × Nat} (h : NmOk p.1) (hm : p.2 ≤ 300) (new : p.1 ∉ ns) (few : ns.length < 12) : labN ns (labc p) = some p := by
  unfold labN
  rw [labP_ok h hm]
  exact if_neg fun z => z.elim new fun z => by omega
theorem labN_dup {ns : List (List Nat)} {p : List Nat × Nat} (h : NmOk p.1) (hm : p.2 ≤ 300) (old : p.1 ∈ ns ∨ ns.length = 12) : labN ns (labc p) = none := by
  unfold labN
  rw [labP_ok h hm]
  exact if_pos old
theorem labN_bad {ns : List (List Nat)} {l : List Nat} (h : labP l = none) : labN ns l = none := by
  unfold labN
  rw [h]
theorem headF_ok : ∀ {rest acc : List (List Nat × Nat)}, (∀ p, p ∈ rest → NmOk p.1 ∧ p.2 ≤ 300) → ((acc ++ rest).map (·.1)).Nodup → (acc ++ rest).length ≤ 12 → headF acc (rest.map labc) = some (acc ++ rest)
  | [], acc, _, _, _ => by rw [List.append_nil]; rfl
  | p :: rest, acc, h, nd, le => by
    obtain ⟨h1, h2⟩ := h p (by simp)
    have e : acc ++ p :: rest = (acc ++ [p]) ++ rest := by simp
    have new : p.1 ∉ acc.map (·.1) := fun z => by
      rw [List.map_append, List.map_cons] at nd
      exact (List.nodup_append.mp nd).2.2 _ z _ (by simp) rfl
    rw [List.map_cons, headF, labN_ok h1 h2 new (by rw [List.length_map]; simp at le; omega)]
    dsimp only
    rw [e] at nd le ⊢
    exact headF_ok (fun q hq => h q (by simp [hq])) nd le
theorem headF_bad : ∀ {good : List (List Nat × Nat)} {acc : List (List Nat × Nat)} {l : List Nat} {more : List (List Nat)}, (∀ p, p ∈ good → NmOk p.1 ∧ p.2 ≤ 300) → (∀ ns, labN ns l = none) → headF acc (good.map labc ++ l :: more) = none
  | [], acc, l, more, _, hl => by
    show headF acc (l :: more) = none
    rw [headF, hl]
  | p :: good, acc, l, more, h, hl => by
    rw [List.map_cons, List.cons_append, headF]
    cases labN (acc.map (·.1)) (labc p) with
    | none => rfl
    | some q => exact headF_bad (fun r hr => h r (by simp [hr])) hl
theorem placeF_ok {n : Nat} {rs : List (List Nat × Nat)} {p : List Nat × Nat} {vs : List Nat} (h : NmOk p.1) (hm : p.2 ≤ 300) (new : p.1 ∉ rs.map (·.1)) (few : rs.length < 12) (hn : vs.length = n) (hv : ∀ v, v ∈ vs → v ≤ 10 ^ 9) : placeF n rs (labc p :: vs.map dg) = some (rs ++ [p]) := by
  rw [placeF, labN_ok h hm new (by rw [List.length_map]; exact few)]
  refine if_pos ⟨by rw [List.length_map]; exact hn, List.all_eq_true.mpr fun l hl => ?_⟩
  obtain ⟨v, hv', rfl⟩ := List.mem_map.mp hl
  rw [numP_dg (hv v hv')]
  rfl
theorem placeF_lab {n : Nat} {rs : List (List Nat × Nat)} {l : List Nat} {vs : List (List Nat)} (h : labN (rs.map (·.1)) l = none) : placeF n rs (l :: vs) = none := by
  rw [placeF, h]
theorem placeF_count {n : Nat} {rs : List (List Nat × Nat)} {l : List Nat} {vs : List (List Nat)} (h : vs.length ≠ n) : placeF n rs (l :: vs) = none := by
  rw [placeF]
  cases labN (rs.map (·.1)) l with
  | none => rfl
  | some p => exact if_neg fun z => h z.1
theorem placeF_vote {n : Nat} {rs : List (List Nat × Nat)} {l v : List Nat} {vs : List (List Nat)} (hv : v ∈ vs) (h : numP (10 ^ 9) v = none) : placeF n rs (l :: vs) = none := by
  rw [placeF]
  cases labN (rs.map (·.1)) l with
  | none => rfl
  | some p =>
    refine if_neg fun z => ?_
    have := List.all_eq_true.mp z.2 v hv
    rw [h] at this
    cases this
abbrev RowF := (List Nat × Nat) × List Nat
def rowc (r : RowF) : List (List Nat) := labc r.1 :: r.2.map dg
def tabc (hd : List (List Nat × Nat)) (rs : List RowF) : List (List (List Nat)) := hd.map labc :: rs.map rowc
structure TaOk (hd : List (List Nat × Nat)) (rs : List RowF) : Prop where
  hk : ∀ h, h ∈ hd → NmOk h.1 ∧ h.2 ≤ 300
  hn : (hd.map (·.1)).Nodup
  h1 : hd ≠ []
  h12 : hd.length ≤ 12
  rk : ∀ r, r ∈ rs → NmOk r.1.1 ∧ r.1.2 ≤ 300 ∧ r.2.length = hd.length ∧ ∀ z, z ∈ r.2 → z ≤ 10 ^ 9
  rn : (rs.map (·.1.1)).Nodup
  r12 : rs.length ≤ 12
theorem head_line {hd : List (List Nat × Nat)} {rs : List RowF} (o : TaOk hd rs) : lineF ⟨[], []⟩ (hd.map labc) = some ⟨hd, []⟩ := by
  unfold lineF
  rw [if_neg (by simp [o.h1]), if_pos rfl, headF_ok (acc := []) o.hk o.hn o.h12]
  rfl
theorem row_line {hd : List (List Nat × Nat)} {ps : List (List Nat × Nat)} {r : RowF} (h1 : hd ≠ []) (k : NmOk r.1.1 ∧ r.1.2 ≤ 300 ∧ r.2.length = hd.length ∧ ∀ z, z ∈ r.2 → z ≤ 10 ^ 9) (new : r.1.1 ∉ ps.map (·.1)) (few : ps.length < 12) : lineF ⟨hd, ps⟩ (rowc r) = some ⟨hd, ps ++ [r.1]⟩ := by
  unfold lineF
  rw [if_neg (by unfold rowc; simp), if_neg h1]
  unfold rowc
  rw [placeF_ok k.1 k.2.1 new few k.2.2.1 k.2.2.2]
  rfl
theorem run_rows {hd : List (List Nat × Nat)} (h1 : hd ≠ []) : ∀ {rs : List RowF} {L : List (List (List Nat))} {ps : List (List Nat × Nat)}, runL L = .ok ⟨hd, ps⟩ → (∀ r, r ∈ rs → NmOk r.1.1 ∧ r.1.2 ≤ 300 ∧ r.2.length = hd.length ∧ ∀ z, z ∈ r.2 → z ≤ 10 ^ 9) → ((ps ++ rs.map (·.1)).map (·.1)).Nodup → ps.length + rs.length ≤ 12 → runL (L ++ rs.map rowc) = .ok ⟨hd, ps ++ rs.map (·.1)⟩
  | [], L, ps, h, _, _, _ => by simpa using h
  | r :: rs, L, ps, h, k, nd, le => by
    have new : r.1.1 ∉ ps.map (·.1) := fun z => by
      rw [List.map_append] at nd
      exact (List.nodup_append.mp nd).2.2 _ z _ (by simp) rfl
    have e : L ++ (r :: rs).map rowc = (L ++ [rowc r]) ++ rs.map rowc := by simp
    have e2 : ps ++ (r :: rs).map (·.1) = (ps ++ [r.1]) ++ rs.map (·.1) := by simp
    rw [e, e2]
    rw [e2] at nd
    refine run_rows h1 ?_ (fun x hx => k x (by simp [hx])) nd (by simp at le ⊢; omega)
    rw [runL_snoc, h]
    dsimp only
    rw [row_line h1 (k r (by simp)) new (by simp at le; omega)]
theorem run_head {hd : List (List Nat × Nat)} {rs : List RowF} (o : TaOk hd rs) : runL [hd.map labc] = .ok ⟨hd, []⟩ := by
  have := runL_snoc [] (hd.map labc)
  rw [List.nil_append] at this
  rw [this]
  show (match lineF ⟨[], []⟩ (hd.map labc) with | some s => Except.ok s | none => Except.error 0) = _
  rw [head_line o]
theorem run_tab {hd : List (List Nat × Nat)} {rs : List RowF} (o : TaOk hd rs) : runL (tabc hd rs) = .ok ⟨hd, rs.map (·.1)⟩ := by
  have := run_rows o.h1 (rs := rs) (run_head o) o.rk (by rw [List.nil_append, List.map_map]; exact o.rn) (by simpa using o.r12)
  exact this
theorem TaOk.take {hd : List (List Nat × Nat)} {rs : List RowF} (o : TaOk hd rs) (i : Nat) : TaOk hd (rs.take i) := by
  refine ⟨o.hk, o.hn, o.h1, o.h12, fun r hr => o.rk r (List.mem_of_mem_take hr), ?_, ?_⟩
  · rw [List.map_take]
    exact List.Nodup.sublist (List.take_sublist _ _) o.rn
  · rw [List.length_take]; have := o.r12; omega
theorem tabc_take (hd : List (List Nat × Nat)) (rs : List RowF) (i : Nat) : (tabc hd rs).take (i + 1) = tabc hd (rs.take i) := by
  unfold tabc
  rw [List.take_succ_cons, List.map_take]
theorem run_bad {hd : List (List Nat × Nat)} {rs : List RowF} (o : TaOk hd rs) {i : Nat} (hi : i ≤ rs.length) {ws : List (List Nat)} (h : lineF ⟨hd, (rs.take i).map (·.1)⟩ ws = none) (M : List (List (List Nat))) : runL ((tabc hd rs).take (i + 1) ++ ws :: M) = .error (i + 1) := by
  rw [show (tabc hd rs).take (i + 1) ++ ws :: M = ((tabc hd rs).take (i + 1) ++ [ws]) ++ M by simp]
  refine runL_app_bad ?_ M
  rw [runL_snoc, tabc_take, run_tab (o.take i)]
  dsimp only
  rw [h]
  show Except.error _ = _
  congr 1
  unfold tabc
  simp
  omega
theorem run_dup {hd : List (List Nat × Nat)} {rs : List RowF} (o : TaOk hd rs) {i j : Nat} (hij : i ≤ j) (hj : j < rs.length) {q : RowF} (hq : NmOk q.1.1 ∧ q.1.2 ≤ 300 ∧ q.2.length = hd.length ∧ ∀ z, z ∈ q.2 → z ≤ 10 ^ 9) (e : q.1.1 = rs[j].1.1) (M : List (List (List Nat))) :
    runL ((tabc hd rs).take (i + 1) ++ rowc q :: ((tabc hd rs).drop (i + 1) ++ M)) = .error (j + 2) := by
  have d : (tabc hd rs).drop (i + 1) = (rs.drop i).map rowc := by
    unfold tabc
    rw [List.drop_succ_cons, List.map_drop]
  have s : rs.drop i = (rs.drop i).take (j - i) ++ rs[j] :: rs.drop (j + 1) := by
    have : (rs.drop i).drop (j - i) = rs[j] :: rs.drop (j + 1) := by
      rw [List.drop_drop, show i + (j - i) = j by omega, List.drop_eq_getElem_cons hj]
    rw [← this, List.take_append_drop]
  have r12 := o.r12
  have mj : rs = rs.take i ++ ((rs.drop i).take (j - i) ++ rs[j] :: rs.drop (j + 1)) := by rw [← s, List.take_append_drop]
  have ndj : (rs.take i ++ ((rs.drop i).take (j - i) ++ rs[j] :: rs.drop (j + 1))).map (·.1.1) = rs.map (·.1.1) := by rw [← mj]
  have nd := o.rn
  rw [← ndj] at nd
  have q1 : runL ((tabc hd rs).take (i + 1) ++ [rowc q]) = .ok ⟨hd, (rs.take i).map (·.1) ++ [q.1]⟩ := by
    rw [runL_snoc, tabc_take, run_tab (o.take i)]
    dsimp only
    rw [row_line o.h1 hq ?_ (by rw [List.length_map, List.length_take]; omega)]
    rw [e, List.map_map]
    intro z
    rw [List.map_append] at nd
    exact (List.nodup_append.mp nd).2.2 _ z _ (List.mem_map_of_mem (List.mem_append_right _ (List.mem_cons_self ..))) rfl
  have q2 := run_rows o.h1 (rs := (rs.drop i).take (j - i)) q1 (fun r hr => o.rk r (List.mem_of_mem_drop (List.mem_of_mem_take hr))) (by
    have : ((rs.take i).map (·.1) ++ [q.1] ++ ((rs.drop i).take (j - i)).map (·.1)).map (·.1) = (rs.take i).map (·.1.1) ++ rs[j].1.1 :: ((rs.drop i).take (j - i)).map (·.1.1) := by
      simp [List.map_map, e]
      rfl
    rw [this]
    rw [List.map_append, List.map_append, List.map_cons] at nd
    obtain ⟨n1, n2, n3⟩ := List.nodup_append.mp nd
    obtain ⟨n4, n5, n6⟩ := List.nodup_append.mp n2
    refine List.nodup_append.mpr ⟨n1, List.nodup_cons.mpr ⟨fun z => n6 _ z _ (by simp) rfl, n4⟩, fun x hx y hy => ?_⟩
    rcases List.mem_cons.mp hy with rfl | hy
    · exact n3 x hx _ (by simp)
    · exact n3 x hx y (List.mem_append_left _ hy)) (by
    rw [List.length_append, List.length_map, List.length_take, List.length_take, List.length_drop]
    simp
    omega)
  rw [d, s, List.map_append, List.map_cons]
  rw [show (tabc hd rs).take (i + 1) ++ rowc q :: (((rs.drop i).take (j - i)).map rowc ++ rowc rs[j] :: (rs.drop (j + 1)).map rowc ++ M) = (((tabc hd rs).take (i + 1) ++ [rowc q] ++ ((rs.drop i).take (j - i)).map rowc) ++ [rowc rs[j]]) ++ ((rs.drop (j + 1)).map rowc ++ M) by simp]
  refine runL_app_bad ?_ _
  rw [runL_snoc, q2]
  dsimp only
  have hjm := o.rk rs[j] (List.getElem_mem hj)
  have : lineF ⟨hd, (rs.take i).map (·.1) ++ [q.1] ++ ((rs.drop i).take (j - i)).map (·.1)⟩ (rowc rs[j]) = none := by
    unfold lineF
    rw [if_neg (by unfold rowc; simp), if_neg o.h1]
    unfold rowc
    rw [placeF_lab (labN_dup hjm.1 hjm.2.1 (.inl (by simp [e])))]
    rfl
  rw [this]
  show Except.error _ = _
  congr 1
  simp [tabc]
  omega
end SW
namespace K5
open PySem L2 SW
def top (i : Nat) : Stmt := PySem.Challenge.pw_seatweave_k05_refused.main.body.getD i (.Pass ⟨0, 0, 0, 0⟩)
abbrev s_words_of : Stmt := top 14
abbrev s_is_of : Stmt := top 15
abbrev s_number_of : Stmt := top 16
abbrev s_take_name : Stmt := top 17
abbrev s_take_place : Stmt := top 18
abbrev s_take_line : Stmt := top 19
abbrev s_read : Stmt := top 20
abbrev s_lcell_at : Stmt := top 22
abbrev s_ldraw : Stmt := top 23
abbrev s_lgreat : Stmt := top 24
abbrev s_lvote : Stmt := top 25
abbrev s_lsize : Stmt := top 26
abbrev s_ltable : Stmt := top 27
abbrev s_lname : Stmt := top 28
abbrev s_lrefused : Stmt := top 29
abbrev s_lbad_line : Stmt := top 30
abbrev s_lbad_head : Stmt := top 31
abbrev s_llaid : Stmt := top 32
abbrev s_lline_right : Stmt := top 33
abbrev s_law : Stmt := top 34
abbrev s_BadLine_init : Stmt := inClass (top 3) 0
abbrev s_Table_init : Stmt := inClass (top 13) 0
theorem sc_words_of : FnScope ["line", "word"] ["line"] (defScope s_words_of) := ⟨rfl, rfl, rfl, by decide +kernel, rfl, by decide +kernel, by decide +kernel⟩
theorem sc_is_of : FnScope ["word", "signs", "sign"] ["word", "signs"] (defScope s_is_of) := ⟨rfl, rfl, rfl, by decide +kernel, rfl, by decide +kernel, by decide +kernel⟩
theorem sc_number_of : FnScope ["word", "most", "at"] ["word", "most", "at"] (defScope s_number_of) := ⟨rfl, rfl, rfl, by decide +kernel, rfl, by decide +kernel, by decide +kernel⟩
theorem sc_take_name : FnScope ["word", "names", "seats", "at", "parts", "name"] ["word", "names", "seats", "at"] (defScope s_take_name) := ⟨rfl, rfl, rfl, by decide +kernel, rfl, by decide +kernel, by decide +kernel⟩
theorem sc_take_place : FnScope ["words", "table", "at", "word"] ["words", "table", "at"] (defScope s_take_place) := ⟨rfl, rfl, rfl, by decide +kernel, rfl, by decide +kernel, by decide +kernel⟩
theorem sc_take_line : FnScope ["words", "table", "at", "word"] ["words", "table", "at"] (defScope s_take_line) := ⟨rfl, rfl, rfl, by decide +kernel, rfl, by decide +kernel, by decide +kernel⟩
theorem sc_read : FnScope ["text", "table", "lines", "at", "words"] ["text"] (defScope s_read) := ⟨rfl, rfl, rfl, by decide +kernel, rfl, by decide +kernel, by decide +kernel⟩
theorem sc_lcell_at : FnScope ["_law_script", "_law_k"] ["_law_script", "_law_k"] (defScope s_lcell_at) := ⟨rfl, rfl, rfl, by decide +kernel, rfl, by decide +kernel, by decide +kernel⟩
theorem sc_ldraw : FnScope ["_law_cell", "_law_k", "_law_many", "_law_primes"] ["_law_cell", "_law_k", "_law_many"] (defScope s_ldraw) := ⟨rfl, rfl, rfl, by decide +kernel, rfl, by decide +kernel, by decide +kernel⟩
theorem sc_lgreat : FnScope ["_law_cell", "_law_k", "_law_most"] ["_law_cell", "_law_k", "_law_most"] (defScope s_lgreat) := ⟨rfl, rfl, rfl, by decide +kernel, rfl, by decide +kernel, by decide +kernel⟩
theorem sc_lvote : FnScope ["_law_cell", "_law_kind"] ["_law_cell"] (defScope s_lvote) := ⟨rfl, rfl, rfl, by decide +kernel, rfl, by decide +kernel, by decide +kernel⟩
theorem sc_lsize : FnScope ["_law_cell", "_law_k"] ["_law_cell", "_law_k"] (defScope s_lsize) := ⟨rfl, rfl, rfl, by decide +kernel, rfl, by decide +kernel, by decide +kernel⟩
theorem sc_ltable : FnScope ["_law_script", "_law_cell", "_law_rows", "_law_columns", "_law_votes", "_law_i", "_law_row", "_law_j", "_law_at", "_law_many", "_law_places", "_law_parties", "_law_skew", "_law_k", "_law_seat", "_law_vote_here"] ["_law_script"] (defScope s_ltable) := ⟨rfl, rfl, rfl, by decide +kernel, rfl, by decide +kernel, by decide +kernel⟩
theorem sc_lname : FnScope ["_law_k", "_law_cell", "_law_letters", "_law_number", "_law_fill", "_law_place", "_law_name_here"] ["_law_k", "_law_cell"] (defScope s_lname) := ⟨rfl, rfl, rfl, by decide +kernel, rfl, by decide +kernel, by decide +kernel⟩
theorem sc_lrefused : FnScope ["_law_text", "e"] ["_law_text"] (defScope s_lrefused) := ⟨rfl, rfl, rfl, by decide +kernel, rfl, by decide +kernel, by decide +kernel⟩
theorem sc_lbad_line : FnScope ["_law_which", "_law_many", "_law_there", "_law_spot", "_law_votes", "_law_tail", "_law_words", "_law_others"] ["_law_which", "_law_many", "_law_there", "_law_spot"] (defScope s_lbad_line) := ⟨rfl, rfl, rfl, by decide +kernel, rfl, by decide +kernel, by decide +kernel⟩
theorem sc_lbad_head : FnScope ["_law_which", "_law_spot", "_law_good", "_law_bad", "_law_letter"] ["_law_which", "_law_spot"] (defScope s_lbad_head) := ⟨rfl, rfl, rfl, by decide +kernel, rfl, by decide +kernel, by decide +kernel⟩
theorem sc_llaid : FnScope ["_law_lines", "_law_cell", "_law_found", "_law_at", "_law_k", "_law_one", "_law_n"] ["_law_lines", "_law_cell"] (defScope s_llaid) := ⟨rfl, rfl, rfl, by decide +kernel, rfl, by decide +kernel, by decide +kernel⟩
theorem sc_lline_right : FnScope ["_law_lines", "_law_places", "_law_many", "_law_one", "_law_place", "_law_there", "_law_bad", "_law_due", "_law_made", "_law_text", "_law_at", "_law_head"] ["_law_lines", "_law_places", "_law_many", "_law_one"] (defScope s_lline_right) := ⟨rfl, rfl, rfl, by decide +kernel, rfl, by decide +kernel, by decide +kernel⟩
theorem sc_law : FnScope ["_law_script", "_law_votes", "_law_rows", "_law_columns", "_law_cell", "_law_names", "_law_places", "_law_lines", "_law_i", "_law_at", "_law_one", "_law_more", "_law_less", "_law_k", "_law_vote_here"] ["_law_script"] (defScope s_law) := ⟨rfl, rfl, rfl, by decide +kernel, rfl, by decide +kernel, by decide +kernel⟩
theorem sc_BadLine_init : FnScope ["self", "line"] ["self", "line"] (defScope s_BadLine_init) := ⟨rfl, rfl, rfl, by decide +kernel, rfl, by decide +kernel, by decide +kernel⟩
theorem sc_Table_init : FnScope ["self", "places", "parties", "rows", "columns", "votes"] ["self", "places", "parties", "rows", "columns", "votes"] (defScope s_Table_init) := ⟨rfl, rfl, rfl, by decide +kernel, rfl, by decide +kernel, by decide +kernel⟩
set_option genInjectivity false in
structure Txt (K : PySem.W.Frag) (mg : Str → Option Value) where
  a_words_of : Addr
  fd_words_of : FuncData
  F_words_of : Fun K "words_of" "words_of" s_words_of a_words_of fd_words_of
  b_words_of : Binds K fd_words_of ["line"] []
  m_words_of : mg "words_of" = some (.ref a_words_of)
  a_is_of : Addr
  fd_is_of : FuncData
  F_is_of : Fun K "is_of" "is_of" s_is_of a_is_of fd_is_of
  b_is_of : Binds K fd_is_of ["word", "signs"] []
  m_is_of : mg "is_of" = some (.ref a_is_of)
  a_number_of : Addr
  fd_number_of : FuncData
  F_number_of : Fun K "number_of" "number_of" s_number_of a_number_of fd_number_of
  b_number_of : Binds K fd_number_of ["word", "most", "at"] []
  m_number_of : mg "number_of" = some (.ref a_number_of)
  a_take_name : Addr
  fd_take_name : FuncData
  F_take_name : Fun K "take_name" "take_name" s_take_name a_take_name fd_take_name
  b_take_name : Binds K fd_take_name ["word", "names", "seats", "at"] []
  m_take_name : mg "take_name" = some (.ref a_take_name)
  a_take_place : Addr
  fd_take_place : FuncData
  F_take_place : Fun K "take_place" "take_place" s_take_place a_take_place fd_take_place
  b_take_place : Binds K fd_take_place ["words", "table", "at"] []
  m_take_place : mg "take_place" = some (.ref a_take_place)
  a_take_line : Addr
  fd_take_line : FuncData
  F_take_line : Fun K "take_line" "take_line" s_take_line a_take_line fd_take_line
  b_take_line : Binds K fd_take_line ["words", "table", "at"] []
  m_take_line : mg "take_line" = some (.ref a_take_line)
  a_read : Addr
  fd_read : FuncData
  F_read : Fun K "read" "read" s_read a_read fd_read
  b_read : Binds K fd_read ["text"] []
  m_read : mg "read" = some (.ref a_read)
  a_lcell_at : Addr
  fd_lcell_at : FuncData
  F_lcell_at : Fun K "_law_cell_at" "_law_cell_at" s_lcell_at a_lcell_at fd_lcell_at
  b_lcell_at : Binds K fd_lcell_at ["_law_script", "_law_k"] []
  m_lcell_at : mg "_law_cell_at" = some (.ref a_lcell_at)
  a_ldraw : Addr
  fd_ldraw : FuncData
  F_ldraw : Fun K "_law_draw" "_law_draw" s_ldraw a_ldraw fd_ldraw
  b_ldraw : Binds K fd_ldraw ["_law_cell", "_law_k", "_law_many"] []
  m_ldraw : mg "_law_draw" = some (.ref a_ldraw)
  a_lgreat : Addr
  fd_lgreat : FuncData
  F_lgreat : Fun K "_law_great" "_law_great" s_lgreat a_lgreat fd_lgreat
  b_lgreat : Binds K fd_lgreat ["_law_cell", "_law_k", "_law_most"] []
  m_lgreat : mg "_law_great" = some (.ref a_lgreat)
  a_lvote : Addr
  fd_lvote : FuncData
  F_lvote : Fun K "_law_vote" "_law_vote" s_lvote a_lvote fd_lvote
  b_lvote : Binds K fd_lvote ["_law_cell"] []
  m_lvote : mg "_law_vote" = some (.ref a_lvote)
  a_lsize : Addr
  fd_lsize : FuncData
  F_lsize : Fun K "_law_size" "_law_size" s_lsize a_lsize fd_lsize
  b_lsize : Binds K fd_lsize ["_law_cell", "_law_k"] []
  m_lsize : mg "_law_size" = some (.ref a_lsize)
  a_ltable : Addr
  fd_ltable : FuncData
  F_ltable : Fun K "_law_table" "_law_table" s_ltable a_ltable fd_ltable
  b_ltable : Binds K fd_ltable ["_law_script"] []
  m_ltable : mg "_law_table" = some (.ref a_ltable)
  a_lname : Addr
  fd_lname : FuncData
  F_lname : Fun K "_law_name" "_law_name" s_lname a_lname fd_lname
  b_lname : Binds K fd_lname ["_law_k", "_law_cell"] []
  m_lname : mg "_law_name" = some (.ref a_lname)
  a_lrefused : Addr
  fd_lrefused : FuncData
  F_lrefused : Fun K "_law_refused" "_law_refused" s_lrefused a_lrefused fd_lrefused
  b_lrefused : Binds K fd_lrefused ["_law_text"] []
  m_lrefused : mg "_law_refused" = some (.ref a_lrefused)
  a_lbad_line : Addr
  fd_lbad_line : FuncData
  F_lbad_line : Fun K "_law_bad_line" "_law_bad_line" s_lbad_line a_lbad_line fd_lbad_line
  b_lbad_line : Binds K fd_lbad_line ["_law_which", "_law_many", "_law_there", "_law_spot"] []
  m_lbad_line : mg "_law_bad_line" = some (.ref a_lbad_line)
  a_lbad_head : Addr
  fd_lbad_head : FuncData
  F_lbad_head : Fun K "_law_bad_head" "_law_bad_head" s_lbad_head a_lbad_head fd_lbad_head
  b_lbad_head : Binds K fd_lbad_head ["_law_which", "_law_spot"] []
  m_lbad_head : mg "_law_bad_head" = some (.ref a_lbad_head)
  a_llaid : Addr
  fd_llaid : FuncData
  F_llaid : Fun K "_law_laid" "_law_laid" s_llaid a_llaid fd_llaid
  b_llaid : Binds K fd_llaid ["_law_lines", "_law_cell"] []
  m_llaid : mg "_law_laid" = some (.ref a_llaid)
  a_lline_right : Addr
  fd_lline_right : FuncData
  F_lline_right : Fun K "_law_line_right" "_law_line_right" s_lline_right a_lline_right fd_lline_right
  b_lline_right : Binds K fd_lline_right ["_law_lines", "_law_places", "_law_many", "_law_one"] []
  m_lline_right : mg "_law_line_right" = some (.ref a_lline_right)
  a_law : Addr
  fd_law : FuncData
  F_law : Fun K "law" "law" s_law a_law fd_law
  a_BadLine_init : Addr
  fd_BadLine_init : FuncData
  F_BadLine_init : Fun K "__init__" "BadLine.__init__" s_BadLine_init a_BadLine_init fd_BadLine_init
  b_BadLine_init : Binds K fd_BadLine_init ["self", "line"] []
  a_Table_init : Addr
  fd_Table_init : FuncData
  F_Table_init : Fun K "__init__" "Table.__init__" s_Table_init a_Table_init fd_Table_init
  b_Table_init : Binds K fd_Table_init ["self", "places", "parties", "rows", "columns", "votes"] []
  c_Table : Addr
  m_Table : mg "Table" = some (.ref c_Table)
  c_DealError : Addr
  m_DealError : mg "DealError" = some (.ref c_DealError)
  c_NoTable : Addr
  m_NoTable : mg "NoTable" = some (.ref c_NoTable)
  c_NoVotes : Addr
  m_NoVotes : mg "NoVotes" = some (.ref c_NoVotes)
  c_BadRule : Addr
  m_BadRule : mg "BadRule" = some (.ref c_BadRule)
  c_BadLine : Addr
  m_BadLine : mg "BadLine" = some (.ref c_BadLine)
  tk_LETTERS : Tok
  m_LETTERS : mg "LETTERS" = some (.str "abcdefghijklmnopqrstuvwxyz" tk_LETTERS)
  tk_FIGURES : Tok
  m_FIGURES : mg "FIGURES" = some (.str "0123456789" tk_FIGURES)
  tk_LONGEST_NAME : Tok
  m_LONGEST_NAME : mg "LONGEST_NAME" = some (.int 8 tk_LONGEST_NAME)
  tk_MOST_NAMES : Tok
  m_MOST_NAMES : mg "MOST_NAMES" = some (.int 12 tk_MOST_NAMES)
  tk_MOST_SEATS : Tok
  m_MOST_SEATS : mg "MOST_SEATS" = some (.int 300 tk_MOST_SEATS)
  tk_MOST_VOTES : Tok
  m_MOST_VOTES : mg "MOST_VOTES" = some (.int 1000000000 tk_MOST_VOTES)
  cl_Table : Cls K c_Table
  M_Table : Mk K c_Table a_Table_init
  na_Table_places : NoAttr K c_Table "places"
  na_Table_parties : NoAttr K c_Table "parties"
  na_Table_rows : NoAttr K c_Table "rows"
  na_Table_columns : NoAttr K c_Table "columns"
  na_Table_votes : NoAttr K c_Table "votes"
  x_NoTable : PySem.W.excIn K c_NoTable bmV "ValueError.__new__" = true
  t_NoTable : ExcT K c_NoTable
  t_BadLine : ExcT K c_BadLine
  ct_NoTable_DealError : Catches K c_NoTable c_DealError true
  ct_BadLine_DealError : Catches K c_BadLine c_DealError true
  k_BadLine_BadLine : PySem.W.kitOne K (.ref c_BadLine) (.ref c_BadLine) = some true
  k_BadLine_NoTable : PySem.W.kitOne K (.ref c_BadLine) (.ref c_NoTable) = some false
  k_BadLine_BadRule : PySem.W.kitOne K (.ref c_BadLine) (.ref c_BadRule) = some false
  k_BadLine_NoVotes : PySem.W.kitOne K (.ref c_BadLine) (.ref c_NoVotes) = some false
  k_BadLine_ValueError : PySem.W.kitOne K (.ref c_BadLine) (.type "ValueError") = some true
  k_NoTable_BadLine : PySem.W.kitOne K (.ref c_NoTable) (.ref c_BadLine) = some false
  k_NoTable_NoTable : PySem.W.kitOne K (.ref c_NoTable) (.ref c_NoTable) = some true
  k_NoTable_BadRule : PySem.W.kitOne K (.ref c_NoTable) (.ref c_BadRule) = some false
  k_NoTable_NoVotes : PySem.W.kitOne K (.ref c_NoTable) (.ref c_NoVotes) = some false
  k_NoTable_ValueError : PySem.W.kitOne K (.ref c_NoTable) (.type "ValueError") = some true
  o_BadLine : OwnE K c_BadLine c_DealError a_BadLine_init bmV "ValueError.__new__" "line"
  kc_BadLine : PySem.W.keepIn K (.ref c_BadLine) = true
  n_isinstance : mg "isinstance" = none
  n_ValueError : mg "ValueError" = none
  n_int : mg "int" = none
  n_str : mg "str" = none
  n_len : mg "len" = none
  n_min : mg "min" = none
  n_range : mg "range" = none
  n_sum : mg "sum" = none
  n_all : mg "all" = none
end K5
namespace K5
open PySem L2 SW
section
variable {P : Program} {w : World} {K : PySem.W.Frag} {mg : Str → Option Value} {base : Heap}
theorem ok_ldraw (T : Txt K mg) : FnOk P w K mg base CX0 1 T.a_ldraw T.fd_ldraw ["_law_cell", "_law_k", "_law_many"] spDraw := by
  refine T.F_ldraw.ok sc_ldraw (fun vs H Q E h => ?_) (fun cdv A outer s H vs Q E hr h => ?_)
  · obtain ⟨c, k, m, rfl, _⟩ := h
    rfl
  obtain ⟨c, k, m, rfl, k0, k1, m0, q⟩ := h
  refine ⟨_, (@pss_cons _ _ _ _ _ (@ps_setInts _ 3 _ _ _ _ _ _ _ sc_ldraw.nd rfl (Or.inl rfl) (.cons (.cons (.cons (.cons (.cons (.cons (.cons (.cons (.cons (.cons (.cons (.cons (.cons (.cons (.cons (.cons (.nil))))))))))))))))) (.inl rfl))
      (pss_one (ps_ret (pe_op op_mod (pe_op op_mod (pe_op op_add (pe_op op_mulF (pv 0) pe_int) (pe_op op_mulF (pv 1) pe_int)) (pe_ix ix_any (pv 3) (pe_op op_mod (pv 1) pe_int) (fun _ _ => rfl))) (pv 2))))), ?_⟩
  refine ⟨(by show 16 ≤ sizeLine; decide), fun p hp => ?_⟩
  obtain ⟨n, n0, en⟩ := prime_at (k % 16) (Int.emod_nonneg _ (by decide)) (Int.emod_lt_of_pos _ (by decide))
  refine ⟨_, rfl, _, _, rfl, rfl, .inl (.inr ⟨by decide, by decide⟩), _, rfl, _, _, rfl, rfl, .inl (.inr ⟨by decide, by decide⟩), _, _, rfl, rfl, ?_⟩
  refine ⟨_, rfl, _, rfl, _, _, rfl, rfl, (by show (0 : Int) < 16; decide), p, primes, _, _, rfl, rfl, .inr (SqT.of upd_same), en, ?_⟩
  refine ⟨_, _, rfl, rfl, n0, _, rfl, _, _, rfl, rfl, m0, ?_⟩
  exact q _ _ (Int.emod_nonneg _ (by omega)) (Int.emod_lt_of_pos _ m0) (same_new hp _)
theorem ok_lgreat (T : Txt K mg) : FnOk P w K mg base CX0 2 T.a_lgreat T.fd_lgreat ["_law_cell", "_law_k", "_law_most"] spGreat := by
  refine T.F_lgreat.ok sc_lgreat (fun vs H Q E h => ?_) (fun cdv A outer s H vs Q E hr h => ?_)
  · obtain ⟨c, k, m, rfl, _⟩ := h
    rfl
  obtain ⟨c, k, m, rfl, k0, k1, m0, q⟩ := h
  refine ⟨_, (pss_one (ps_ret (pe_op op_mod (pe_op op_add (pe_op op_mulF (pe_call (ok_ldraw T) (hr.mono (by decide)) rfl T.m_ldraw T.F_ldraw.kp T.b_ldraw .nil pass0 (pa_cons (pv 0) (pa_cons (pv 1) (pa_cons pe_int pa_nil)))) pe_int) (pe_call (ok_ldraw T) (hr.mono (by decide)) rfl T.m_ldraw T.F_ldraw.kp T.b_ldraw .nil pass0 (pa_cons (pv 0) (pa_cons (pe_op op_add (pv 1) pe_int) (pa_cons pe_int pa_nil))))) (pv 2)))), ?_⟩
  refine ⟨_, rfl, _, rfl, ?_⟩
  refine ⟨_, _, _, rfl, k0, by omega, by decide, fun d1 H1 a0 a1 s1 => ?_⟩
  refine ⟨_, _, rfl, rfl, .inl (.inr ⟨by decide, by decide⟩), ?_⟩
  refine ⟨_, rfl, _, rfl, _, _, rfl, rfl, ?_⟩
  refine ⟨_, _, _, rfl, by omega, by omega, by decide, fun d2 H2 b0 b1 s2 => ?_⟩
  refine ⟨_, _, rfl, rfl, _, rfl, ?_⟩
  refine ⟨_, _, rfl, rfl, m0, ?_⟩
  exact q _ _ (Int.emod_nonneg _ (by omega)) (Int.emod_lt_of_pos _ m0) (s1.trans s2)
theorem ok_lcell_at (T : Txt K mg) : FnOk P w K mg base CX0 1 T.a_lcell_at T.fd_lcell_at ["_law_script", "_law_k"] (spCellAt K) := by
  refine T.F_lcell_at.ok sc_lcell_at (fun vs H Q E h => ?_) (fun cdv A outer s H vs Q E hr h => ?_)
  · obtain ⟨a, ns, k, rfl, _⟩ := h
    rfl
  obtain ⟨a, ns, k, rfl, hS, k0, q⟩ := h
  refine ⟨_, (pss_cons (ps_if (pt_cmpR op_lt (pv 1) (pe_callB call_lenQ (by rfl) T.n_len PySem.boot_len (pa_cons (pv 0) pa_nil)) (nomark _))
      (pss_one (ps_ret (pe_ix ix_any (pv 0) (pv 1) (fun _ _ => rfl))))
      pss_nil)
      (pss_one (ps_ret pe_int))), ?_⟩
  refine ⟨_, rfl, _, rfl, ?_⟩
  refine ⟨a, _, rfl, .inl hS, ?_⟩
  refine ⟨_, _, rfl, rfl, _, rfl, ?_⟩
  refine ite2 (fun c => ?_) (fun c => ?_)
  · have c' : k < ((ns.map V.int).length : Int) := of_decide_eq_true c
    rw [List.length_map] at c'
    have hk : k.toNat < ns.length := by omega
    refine ⟨_, rfl, _, rfl, ?_⟩
    exact ⟨a, _, _, _, rfl, rfl, .inl hS, atI_of k0 (by rw [List.getElem?_map, List.getElem?_eq_getElem hk]; rfl), q _⟩
  · skip
    exact q 0
end
end K5
namespace K5
open PySem L2 SW
section
variable {P : Program} {w : World} {K : PySem.W.Frag} {mg : Str → Option Value} {base : Heap}
theorem ok_lvote (T : Txt K mg) : FnOk P w K mg base CX0 3 T.a_lvote T.fd_lvote ["_law_cell"] spVote := by
  refine T.F_lvote.ok sc_lvote (fun vs H Q E h => ?_) (fun cdv A outer s H vs Q E hr h => ?_)
  · obtain ⟨c, rfl, _⟩ := h
    rfl
  obtain ⟨c, rfl, q⟩ := h
  refine ⟨_, (pss_cons (ps_set (i := 1) sc_lvote.nd rfl (Or.inl rfl) (pe_call (ok_ldraw T) (hr.mono (by decide)) rfl T.m_ldraw T.F_ldraw.kp T.b_ldraw .nil pass0 (pa_cons (pv 0) (pa_cons pe_int (pa_cons pe_int pa_nil)))))
      (pss_cons (ps_if (pt_cmpR op_lt (pv 1) pe_int (nomark _))
      (pss_one (ps_ret pe_int))
      pss_nil)
      (pss_cons (ps_if (pt_cmpR op_eq (pv 1) pe_int (nomark _))
      (pss_one (ps_ret pe_int))
      pss_nil)
      (pss_cons (ps_if (pt_cmpR op_lt (pv 1) pe_int (nomark _))
      (pss_one (ps_ret (pe_op op_add pe_int (pe_call (ok_ldraw T) (hr.mono (by decide)) rfl T.m_ldraw T.F_ldraw.kp T.b_ldraw .nil pass0 (pa_cons (pv 0) (pa_cons pe_int (pa_cons pe_int pa_nil)))))))
      pss_nil)
      (pss_one (ps_ret (pe_call (ok_lgreat T) (hr.mono (by decide)) rfl T.m_lgreat T.F_lgreat.kp T.b_lgreat .nil pass0 (pa_cons (pv 0) (pa_cons pe_int (pa_cons pe_int pa_nil)))))))))), ?_⟩
  refine ⟨_, rfl, ?_⟩
  refine ⟨_, _, _, rfl, by decide, by decide, by decide, fun kd H1 _ _ s1 => ?_⟩
  refine ⟨_, rfl, _, _, rfl, rfl, _, rfl, ?_⟩
  refine ite2 (fun _ => q 0 H1 (by decide) (by decide) s1) (fun _ => ?_)
  refine ⟨_, rfl, rfl, _, rfl, ?_⟩
  refine ite2 (fun _ => q 6 H1 (by decide) (by decide) s1) (fun _ => ?_)
  refine ⟨_, rfl, _, _, rfl, rfl, _, rfl, ?_⟩
  refine ite2 (fun _ => ?_) (fun _ => ?_)
  · refine ⟨_, rfl, ?_⟩
    refine ⟨_, _, _, rfl, by decide, by decide, by decide, fun d H2 d0 d1 s2 => ?_⟩
    refine ⟨_, _, rfl, rfl, ?_⟩
    exact q _ H2 (by omega) (by omega) (s1.trans s2)
  · refine ⟨_, rfl, ?_⟩
    exact ⟨_, _, _, rfl, by decide, by decide, by decide, fun d H2 d0 d1 s2 => q _ H2 d0 (by omega) (s1.trans s2)⟩
end
end K5
namespace SW
open PySem L2
theorem ixN_nat {n v : Nat} (h : v < n) : ixN n (v : Int) = some v := by
  unfold ixN
  rw [if_pos (by omega), if_pos (by omega), Int.toNat_natCast]
theorem row_fset {n z : Nat} {f : Nat → Int} {v : Int} (h : z < n) : ((row n f).map V.int).set z (.int v) = (row n (fset f z v)).map V.int := by
  rw [← List.map_set, row_set h]
  rfl
structure Due (r c : Nat) (pe qe : Nat → Int) : Prop where
  p0 : ∀ i, i < r → 0 ≤ pe i ∧ pe i ≤ 300
  q0 : ∀ j, j < c → 0 ≤ qe j ∧ qe j ≤ 300
  eq : sumZ r pe = sumZ c qe
  s300 : sumZ r pe ≤ 300
end SW
namespace K5
open PySem L2 SW
section
variable {P : Program} {w : World} {K : PySem.W.Frag} {mg : Str → Option Value} {base : Heap}
def spSize : Sp := fun vs H Q _ => ∃ c k : Int, vs = [.int c, .int k] ∧ 0 ≤ k ∧ k < 900 ∧ ∀ (n : Nat) (H' : Hp), 0 < n → n ≤ 12 → Same H H' → Q (.int n) H'
theorem ok_lsize (T : Txt K mg) : FnOk P w K mg base CX0 2 T.a_lsize T.fd_lsize ["_law_cell", "_law_k"] spSize := by
  refine T.F_lsize.ok sc_lsize (fun vs H Q E h => ?_) (fun cdv A outer s H vs Q E hr h => ?_)
  · obtain ⟨c, k, rfl, _⟩ := h
    rfl
  obtain ⟨c, k, rfl, k0, k1, q⟩ := h
  refine ⟨_, (pss_one (ps_ret (pe_op op_add (pe_op op_add pe_int (pe_call (ok_ldraw T) (hr.mono (by decide)) rfl T.m_ldraw T.F_ldraw.kp T.b_ldraw .nil pass0 (pa_cons (pv 0) (pa_cons (pv 1) (pa_cons pe_int pa_nil))))) (pe_op op_mulF pe_int (pe_op op_fdivF (pe_call (ok_ldraw T) (hr.mono (by decide)) rfl T.m_ldraw T.F_ldraw.kp T.b_ldraw .nil pass0 (pa_cons (pv 0) (pa_cons (pe_op op_add (pv 1) pe_int) (pa_cons pe_int pa_nil)))) pe_int))))), ?_⟩
  refine ⟨_, rfl, _, rfl, ?_⟩
  refine ⟨_, _, _, rfl, k0, by omega, by decide, fun d H1 d0 d1 S1 => ?_⟩
  refine ⟨_, _, rfl, rfl, _, rfl, _, rfl, _, _, rfl, rfl, ?_⟩
  refine ⟨_, _, _, rfl, by omega, by omega, by decide, fun e H2 e0 e1 S2 => ?_⟩
  refine ⟨_, _, rfl, rfl, ⟨by omega, fits_of (by omega) (by omega)⟩, _, _, rfl, rfl, .inr ⟨fits_of (by omega) (by omega), fits_of (by omega) (by omega)⟩, _, _, rfl, rfl, ?_⟩
  have e2 : 0 ≤ e / 15 := Int.ediv_nonneg e0 (by decide)
  have e3 : e / 15 ≤ 1 := by omega
  show Q (.int (1 + d + 7 * (e / 15))) H2
  rw [show 1 + d + 7 * (e / 15) = (((1 + d + 7 * (e / 15)).toNat : Nat) : Int) by omega]
  exact q _ H2 (by omega) (by omega) (S1.trans S2)
def spTable (K : PySem.W.Frag) : Sp := fun vs H Q _ => ∃ (a : Addr) (ns : List Int), vs = [.ref a] ∧ SqL K H a (ns.map V.int) ∧
  ∀ (t vt pl pt : Addr) (as : List Addr) (U : Nat → Nat → Int) (r c : Nat) (pe qe : Nat → Int) (H' : Hp), Same H H' → H' t = some (.tup [.ref vt, .ref pl, .ref pt]) → MatM H' vt as (mkT U r c) → H' pl = some (.lst ((row r pe).map V.int)) → H' pt = some (.lst ((row c qe).map V.int)) → 0 < r → r ≤ 12 → 0 < c → c ≤ 12 → (∀ i j, i < r → j < c → 0 ≤ U i j ∧ U i j ≤ 10 ^ 9) → Due r c pe qe → pl ≠ pt → Q (.ref t) H'
theorem ok_ltable (T : Txt K mg) : FnOk P w K mg base CX0 5 T.a_ltable T.fd_ltable ["_law_script"] (spTable K) := by
  refine T.F_ltable.ok sc_ltable (fun vs H Q E h => ?_) (fun cdv A outer s H vs Q E hr h => ?_)
  · obtain ⟨a, ns, rfl, _⟩ := h
    rfl
  obtain ⟨a, ns, rfl, hS, q⟩ := h
  refine ⟨_, (pss_cons (ps_set (i := 1) sc_ltable.nd rfl (Or.inl rfl) (pe_call (ok_lcell_at T) (hr.mono (by decide)) rfl T.m_lcell_at T.F_lcell_at.kp T.b_lcell_at .nil pass0 (pa_cons (pv 0) (pa_cons pe_int pa_nil))))
      (pss_cons (ps_par (i := 2) (j := 3) rfl sc_ltable.nd rfl rfl (by decide) rfl rfl (pa_cons (pe_call (ok_lsize T) (hr.mono (by decide)) rfl T.m_lsize T.F_lsize.kp T.b_lsize .nil pass0 (pa_cons (pv 1) (pa_cons pe_int pa_nil))) (pa_cons (pe_call (ok_lsize T) (hr.mono (by decide)) rfl T.m_lsize T.F_lsize.kp T.b_lsize .nil pass0 (pa_cons (pv 1) (pa_cons pe_int pa_nil))) pa_nil)) rfl)
      (pss_cons (ps_set (i := 4) sc_ltable.nd rfl (Or.inl rfl) (pe_lstA pa_nil))
      (pss_cons (ps_for PassesOwn.never rfl (pi_range1 rfl T.n_range (pa_cons (pv 2) pa_nil)) (pg_name (i := 5) sc_ltable.nd rfl (Or.inl rfl))
      (pss_cons (ps_set (i := 6) sc_ltable.nd rfl (Or.inl rfl) (pe_lstA pa_nil))
      (pss_cons (ps_for PassesOwn.never rfl (pi_range1 rfl T.n_range (pa_cons (pv 3) pa_nil)) (pg_name (i := 7) sc_ltable.nd rfl (Or.inl rfl))
      (pss_cons (ps_set (i := 8) sc_ltable.nd rfl (Or.inl rfl) (pe_op op_add (pe_op op_mulF (pv 5) (pv 3)) (pv 7)))
      (pss_one (ps_expr (pe_bm PySem.F.plainAttrs_list PySem.F.slot_list_append PySem.F.type_list_append mt_append (pv 6) (pa_cons (pe_call (ok_lvote T) (hr.mono (by decide)) rfl T.m_lvote T.F_lvote.kp T.b_lvote .nil pass0 (pa_cons (pe_op op_add (pe_call (ok_lcell_at T) (hr.mono (by decide)) rfl T.m_lcell_at T.F_lcell_at.kp T.b_lcell_at .nil pass0 (pa_cons (pv 0) (pa_cons (pe_op op_add pe_int (pe_op op_mod (pv 8) pe_int)) pa_nil))) (pe_op op_mulF pe_int (pv 8))) pa_nil)) pa_nil))))))
      (pss_one (ps_expr (pe_bm PySem.F.plainAttrs_list PySem.F.slot_list_append PySem.F.type_list_append mt_append (pv 4) (pa_cons (pv 6) pa_nil)))))))
      (pss_cons (ps_set (i := 9) sc_ltable.nd rfl (Or.inl rfl) (pe_call (ok_ldraw T) (hr.mono (by decide)) rfl T.m_ldraw T.F_ldraw.kp T.b_ldraw .nil pass0 (pa_cons (pv 1) (pa_cons pe_int (pa_cons pe_int pa_nil)))))
      (pss_cons (ps_meet (ps_if (PW.pt (pw_and (pt_cmpR op_lt (pe_op op_mulF (pv 2) (pv 3)) pe_int (nomark _)) (pw_and1 (pt_cmpR op_eqI (pe_call (ok_ldraw T) (hr.mono (by decide)) rfl T.m_ldraw T.F_ldraw.kp T.b_ldraw .nil pass0 (pa_cons (pv 1) (pa_cons pe_int (pa_cons pe_int pa_nil)))) pe_int (nomark _)))))
      (pss_one (ps_set (i := 9) sc_ltable.nd rfl (Or.inl rfl) (pe_op op_mulF (pv 9) pe_int)))
      pss_nil))
      (pss_cons (ps_par (i := 10) (j := 11) rfl sc_ltable.nd rfl rfl (by decide) rfl rfl (pa_cons (pe_comp [6] rfl (blk_of rfl) (pi_listQ K (pv 4)) (fun _ => (pg_name (i := 6) sc_ltable.nd rfl (Or.inl rfl))) (fun _ => pts_nil) (fun _ => pe_int)) (pa_cons (pe_comp [15] rfl (blk_of rfl) (pi_listQ K (pe_ix (ix_Q K) (pv 4) pe_int (fun _ _ => rfl))) (fun _ => (pg_name (i := 15) sc_ltable.nd rfl (Or.inl rfl))) (fun _ => pts_nil) (fun _ => pe_int)) pa_nil)) rfl)
      (pss_cons (ps_set (i := 12) sc_ltable.nd rfl (Or.inl rfl) (pe_call (ok_ldraw T) (hr.mono (by decide)) rfl T.m_ldraw T.F_ldraw.kp T.b_ldraw .nil pass0 (pa_cons (pv 1) (pa_cons pe_int (pa_cons pe_int pa_nil)))))
      (pss_cons (ps_for PassesOwn.never rfl (pi_range1 rfl T.n_range (pa_cons (pv 9) pa_nil)) (pg_name (i := 13) sc_ltable.nd rfl (Or.inl rfl))
      (pss_cons (ps_set (i := 14) sc_ltable.nd rfl (Or.inl rfl) (pe_op op_add (pe_op op_mulF (pe_op op_add (pe_call (ok_lcell_at T) (hr.mono (by decide)) rfl T.m_lcell_at T.F_lcell_at.kp T.b_lcell_at .nil pass0 (pa_cons (pv 0) (pa_cons pe_int pa_nil))) (pe_op op_mulF pe_int (pv 13))) (pe_op op_add (pv 13) pe_int)) (pe_call (ok_lcell_at T) (hr.mono (by decide)) rfl T.m_lcell_at T.F_lcell_at.kp T.b_lcell_at .nil pass0 (pa_cons (pv 0) (pa_cons (pe_op op_add pe_int (pe_op op_mod (pv 13) pe_int)) pa_nil)))))
      (pss_cons (ps_par (i := 5) (j := 7) rfl sc_ltable.nd rfl rfl (by decide) rfl rfl (pa_cons (pe_call (ok_ldraw T) (hr.mono (by decide)) rfl T.m_ldraw T.F_ldraw.kp T.b_ldraw .nil pass0 (pa_cons (pv 14) (pa_cons pe_int (pa_cons (pv 2) pa_nil)))) (pa_cons (pe_call (ok_ldraw T) (hr.mono (by decide)) rfl T.m_ldraw T.F_ldraw.kp T.b_ldraw .nil pass0 (pa_cons (pv 14) (pa_cons pe_int (pa_cons (pv 3) pa_nil)))) pa_nil)) rfl)
      (pss_cons (ps_meet (ps_augS (pv 10) (pe_ifExp (pt_cmpR op_eqI (pv 12) pe_int (nomark _)) (pe_callB (call_min2 rfl) (by rfl) T.n_min PyProof.Rows.boot_min (pa_cons (pv 5) (pa_cons (pe_call (ok_ldraw T) (hr.mono (by decide)) rfl T.m_ldraw T.F_ldraw.kp T.b_ldraw .nil pass0 (pa_cons (pv 14) (pa_cons pe_int (pa_cons (pv 2) pa_nil)))) pa_nil))) (pv 5)) (getL_Q K) pe_int ip_add set_list))
      (pss_one (ps_augS (pv 11) (pe_ifExp (pt_cmpR op_gt (pv 12) pe_int (nomark _)) (pe_callB (call_min2 rfl) (by rfl) T.n_min PyProof.Rows.boot_min (pa_cons (pv 7) (pa_cons (pe_call (ok_ldraw T) (hr.mono (by decide)) rfl T.m_ldraw T.F_ldraw.kp T.b_ldraw .nil pass0 (pa_cons (pv 14) (pa_cons pe_int (pa_cons (pv 3) pa_nil)))) pa_nil))) (pv 7)) (getL_Q K) pe_int ip_add set_list))))))
      (pss_one (ps_ret (pe_tupA (pa_cons (pv 4) (pa_cons (pv 10) (pa_cons (pv 11) pa_nil))))))))))))))), ?_⟩
  refine ⟨_, rfl, ?_⟩
  refine ⟨a, ns, _, rfl, hS, by decide, fun cell => ?_⟩
  unfold tPar
  refine ⟨_, rfl, ?_⟩
  refine ⟨_, _, rfl, by decide, by decide, fun r H1 r0 r1 S1 => ?_⟩
  refine ⟨_, rfl, ?_⟩
  refine ⟨_, _, rfl, by decide, by decide, fun c H2 c0 c1 S2 => ?_⟩
  refine ⟨_, _, rfl, ?_⟩
  refine ⟨Nat.zero_le _, fun l H3 N3 => ?_⟩
  have S03 : Same H H3 := S1.trans (S2.trans N3.same)
  have nl : H l = none := S1.free (S2.free N3.gone)
  have hl3 := N3.at_
  refine ⟨_, rfl, ?_⟩
  refine ⟨_, rfl, by omega, by omega, ?_⟩
  rw [Int.toNat_natCast]
  refine for_range (fun i σ H' => ∃ (as : List Addr) (f : Nat → Nat → Int) (v6 v7 v8 v9 : Option V), σ = [some (.ref a), some (.int cell), some (.int r), some (.int c), some (.ref l), v6, v7, v8, v9, none, none, none, none, none, none, none] ∧ Same H H' ∧ H' l = some (.lst (as.map V.ref)) ∧ as.length = i ∧ as.Nodup ∧ l ∉ as ∧
    (∀ (k : Nat) (b : Addr), as[k]? = some b → H' b = some (.lst ((row c (f k)).map V.int))) ∧ ∀ i' j, i' < i → j < c → 0 ≤ f i' j ∧ f i' j ≤ 10 ^ 9) ⟨[], fun _ _ => 0, _, _, _, _, rfl, S03, hl3, rfl, List.nodup_nil, by simp, fun k b e => (by simp at e), fun i' j h => (by omega)⟩ ?_ ?_
  · rintro i σ H' hi ⟨as, f, v6, v7, v8, v9, rfl, S', hl, la, nd, las, rows, bd⟩
    refine ⟨Nat.zero_le _, fun b H4 N4 => ?_⟩
    have hb4 := N4.at_
    refine ⟨_, rfl, ?_⟩
    refine ⟨_, rfl, by omega, by omega, ?_⟩
    rw [Int.toNat_natCast]
    refine for_range (fun j σ H5 => ∃ (g : Nat → Int) (v8 v9 : Option V), σ = [some (.ref a), some (.int cell), some (.int r), some (.int c), some (.ref l), some (.int (0 + (i : Int))), some (.ref b), v8, v9, none, none, none, none, none, none, none] ∧ Same H' H5 ∧ H5 b = some (.lst ((row j g).map V.int)) ∧ ∀ j', j' < j → 0 ≤ g j' ∧ g j' ≤ 10 ^ 9) ⟨fun _ => 0, _, _, rfl, N4.same, hb4, fun j' h => (by omega)⟩ ?_ ?_
    · rintro j σ H5 hj ⟨g, v8, v9, rfl, S5, hb, gb⟩
      have hS5 := (S'.trans S5).seq hS
      have m0 : 0 ≤ (0 + (i : Int)) * (c : Int) := Int.mul_nonneg (by omega) (by omega)
      refine ⟨_, rfl, _, rfl, _, _, rfl, rfl, .inr ⟨fits_of (by omega) (by omega), fits_of (by omega) (by omega)⟩, _, rfl, _, _, rfl, rfl, _, rfl, ?_⟩
      refine ⟨.inl ⟨rfl, _, SqL.of hb⟩, ?_⟩
      refine ⟨_, rfl, _, rfl, _, _, rfl, rfl, by omega, _, _, rfl, rfl, ?_⟩
      refine ⟨a, ns, _, rfl, hS5, ?_, fun cv => ?_⟩
      · have := Int.emod_nonneg ((0 + (i : Int)) * (c : Int) + (0 + (j : Int))) (by decide : (40 : Int) ≠ 0)
        show (0 : Int) ≤ 3 + ((0 + (i : Int)) * (c : Int) + (0 + (j : Int))) % 40
        omega
      refine ⟨_, rfl, _, _, rfl, rfl, .inl (.inl ⟨by decide, by decide⟩), _, _, rfl, rfl, ?_⟩
      refine ⟨_, rfl, fun v H6 v0 v1 S6 => ?_⟩
      have hb6 := S6 _ _ hb
      refine ⟨b, _, _, rfl, rfl, hb6, ?_, ?_⟩
      · rw [List.length_map, row_len]
        exact Nat.lt_of_le_of_lt (show j ≤ 12 by omega) (by decide)
      have e : (row j g).map V.int ++ [V.int v] = (row (j + 1) (fun x => if x = j then v else g x)).map V.int := by
        rw [row_succ, List.map_append, if_pos rfl]
        rw [row_congr (g := g) fun x hx => if_neg (by omega)]
        rfl
      rw [e]
      refine ⟨fun x => if x = j then v else g x, _, _, rfl, (S5.trans S6).upd N4.gone, upd_same, fun j' hj' => ?_⟩
      show 0 ≤ (if j' = j then v else g j') ∧ (if j' = j then v else g j') ≤ 10 ^ 9
      split
      · exact ⟨v0, v1⟩
      · exact gb j' (by omega)
    · rintro σ H5 ⟨g, v8, v9, rfl, S5, hb, gb⟩
      have hl5 := S5 _ _ hl
      refine ⟨_, rfl, ?_⟩
      refine ⟨.inl ⟨rfl, _, SqL.of hl5⟩, ?_⟩
      refine ⟨_, rfl, ?_⟩
      refine ⟨l, _, _, rfl, rfl, hl5, ?_, ?_⟩
      · rw [List.length_map, la]
        exact Nat.lt_of_le_of_lt (show i ≤ 12 by omega) (by decide)
      have lb : l ≠ b := fun z => by rw [z, N4.gone] at hl; cases hl
      have bas : b ∉ as := fun h => by
        obtain ⟨n, hn, en⟩ := List.getElem_of_mem h
        have := rows n b (by rw [List.getElem?_eq_getElem hn, en])
        rw [N4.gone] at this
        cases this
      refine ⟨as ++ [b], fun x y => if x = i then g y else f x y, _, _, _, _, rfl, (S'.trans S5).upd nl, ?_, by simp [la], ?_, ?_, fun n d e => ?_, fun i' j hi' hj => ?_⟩
      · rw [upd_same, List.map_append]; rfl
      · refine List.nodup_append.mpr ⟨nd, by simp, fun x hx y hy => ?_⟩
        have : y = b := by simpa using hy
        subst this
        rintro rfl
        exact bas hx
      · intro h
        rcases List.mem_append.mp h with h | h
        · exact las h
        · exact lb (by simpa using h)
      · have dl : d ≠ l := fun z => by
          subst z
          have := List.mem_of_getElem? e
          rcases List.mem_append.mp this with h | h
          · exact las h
          · exact lb (by simpa using h)
        rw [upd_ne dl]
        by_cases hn : n < as.length
        · rw [List.getElem?_append_left hn] at e
          have : row c (fun y => if n = i then g y else f n y) = row c (f n) := row_congr fun y _ => if_neg (by omega)
          rw [this]
          exact S5 _ _ (rows n d e)
        · rw [List.getElem?_append_right (by omega)] at e
          have hz : n - as.length = 0 := by have := (List.getElem?_eq_some_iff.mp e).1; simp at this; omega
          rw [hz] at e
          have ed : d = b := by simpa using e.symm
          have en : n = i := by omega
          subst ed en
          have : row c (fun y => if n = n then g y else f n y) = row c g := row_congr fun y _ => if_pos rfl
          rw [this]
          exact hb
      · show 0 ≤ (if i' = i then g j else f i' j) ∧ (if i' = i then g j else f i' j) ≤ 10 ^ 9
        split
        · exact gb j hj
        · exact bd i' j (by omega) hj
  rintro σ H4 ⟨as, f, v6, v7, v8, v9, rfl, S4, hl, la, nd, las, rows, bd⟩
  have mm : MatM H4 l as (mkT f r c) := ⟨hl, nd, by rw [mk_len]; exact la, fun i b x e1 e2 => by
    have hi : i < r := by have := (List.getElem?_eq_some_iff.mp e1).1; omega
    rw [mk_get hi] at e2
    rw [← Option.some.inj e2]
    exact rows i b e1⟩
  refine ⟨_, rfl, ?_⟩
  refine ⟨_, _, _, rfl, by decide, by decide, by decide, fun d H5 d0 d1 S5 => ?_⟩
  have rc : 0 ≤ (r : Int) * (c : Int) ∧ (r : Int) * (c : Int) ≤ 12 * 12 := mul_bd (by omega) (by omega) (by omega) (by omega)
  refine ⟨fun σ H6 => Same H4 H6 ∧ ∃ m : Nat, m ≤ 300 ∧ σ = [some (.ref a), some (.int cell), some (.int r), some (.int c), some (.ref l), v6, v7, v8, v9, some (.int (m : Int)), none, none, none, none, none, none], ?_, ?_⟩
  · refine ⟨_, rfl, _, rfl, _, _, rfl, rfl, .inr ⟨fits_of (by omega) (by omega), fits_of (by omega) (by omega)⟩, _, _, rfl, rfl, _, rfl, ?_⟩
    refine ite3 (fun _ => ?_) (fun _ => iteF ?_)
    · refine ⟨_, rfl, ?_⟩
      refine ⟨_, _, _, rfl, by decide, by decide, by decide, fun d2 H6 _ _ S6 => ?_⟩
      refine ⟨_, _, rfl, rfl, _, rfl, ?_⟩
      refine ite3 (fun _ => ?_) (fun _ => ?_)
      · refine ⟨_, rfl, _, _, rfl, rfl, .inr ⟨fits_of (by omega) (by omega), fits_of (by omega) (by omega)⟩, ?_⟩
        refine ⟨S5.trans S6, (d * 20).toNat, by omega, ?_⟩
        rw [show (((d * 20).toNat : Nat) : Int) = d * 20 by omega]
        rfl
      · refine ⟨S5.trans S6, d.toNat, by omega, ?_⟩
        rw [show ((d.toNat : Nat) : Int) = d by omega]
        rfl
    · refine ⟨S5, d.toNat, by omega, ?_⟩
      rw [show ((d.toNat : Nat) : Int) = d by omega]
      rfl
  rintro σ H6 ⟨S46, m, m1, rfl⟩
  have mm6 := mm.same S46
  have ml6 := mm6.top
  obtain ⟨as0, b0, sq0, at0, sr0, sl0⟩ := (mm6.mat (K := K)).get r0
  have at0' : atI (as0.map V.ref) 0 = some (.ref b0) := at0
  refine ⟨_, rfl, ?_⟩
  refine ⟨l, rfl, ⟨_, SqL.of ml6⟩, comp_mapL (fun _ => .int 0) (SqL.of ml6) (by rw [List.length_map, la]; exact Nat.le_trans r1 (by decide)) (fun i x Q _ h => h) fun pl H7 N7 => ?_⟩
  have hpl7 := N7.at_
  have e7 : (as.map V.ref).map (fun _ => V.int 0) = (row r fun _ => 0).map V.int := by
    unfold row
    apply List.ext_getElem
    · simp [la]
    · intro i h1 h2; simp
  rw [e7] at hpl7
  have sq7 := N7.same.sq sq0
  have sl7 := N7.same.seq sl0
  refine ⟨_, rfl, _, _, _, _, rfl, rfl, by assumption, by assumption, ?_⟩
  refine ⟨b0, rfl, ⟨_, sl7⟩, comp_mapL (fun _ => .int 0) sl7 (by rw [List.length_map, row_len]; exact Nat.le_trans c1 (by decide)) (fun i x Q _ h => h) fun pt H8 N8 => ?_⟩
  have hpt8 := N8.at_
  have e8 : ((row c (f 0)).map V.int).map (fun _ => V.int 0) = (row c fun _ => 0).map V.int := by unfold row; rw [List.map_map, List.map_map, List.map_map]; rfl
  rw [e8] at hpt8
  have hpl8 := N8.same _ _ hpl7
  have npl : H6 pl = none := N7.gone
  have npt : H6 pt = none := N7.same.free N8.gone
  have plt : pl ≠ pt := fun z => by have := N8.gone; rw [← z, hpl7] at this; cases this
  have S68 := N7.same.trans N8.same
  refine ⟨_, _, rfl, ?_⟩
  refine ⟨_, rfl, ?_⟩
  refine ⟨_, _, _, rfl, by decide, by decide, by decide, fun sk H9 _ _ S9 => ?_⟩
  refine ⟨_, rfl, ?_⟩
  refine ⟨_, rfl, by omega, by omega, ?_⟩
  rw [Int.toNat_natCast]
  refine for_range (fun k σ H' => Same H6 H' ∧ ∃ (pe qe : Nat → Int) (v5 v7 v13 v14 v15 : Option V), σ = [some (.ref a), some (.int cell), some (.int r), some (.int c), some (.ref l), v5, v7, v13, v9, some (.int (m : Int)), some (.ref pl), some (.ref pt), some (.int sk), v14, v15, none] ∧ H' pl = some (.lst ((row r pe).map V.int)) ∧ H' pt = some (.lst ((row c qe).map V.int)) ∧ (∀ i, i < r → 0 ≤ pe i) ∧ (∀ j, j < c → 0 ≤ qe j) ∧ sumZ r pe = k ∧ sumZ c qe = k) ⟨S68.trans S9, fun _ => 0, fun _ => 0, _, _, _, _, _, rfl, S9 _ _ hpl8, S9 _ _ hpt8, fun _ _ => Int.le_refl _, fun _ _ => Int.le_refl _, sumZ_zero r, sumZ_zero c⟩ ?_ ?_
  · rintro k σ H' hk ⟨S', pe, qe, v5, v7, v13, v14, v15, rfl, hpl, hpt, p0, q0, sp, sq⟩
    have hS' := ((S4.trans S46).trans S').seq hS
    refine ⟨_, rfl, ?_⟩
    refine ⟨a, ns, _, rfl, hS', by decide, fun c1' => ?_⟩
    have mk : CMulF (c1' + 7 * (0 + (k : Int))) (0 + (k : Int) + 3) := .inl (.inr ⟨by omega, by omega⟩)
    refine ⟨_, rfl, _, _, rfl, rfl, .inr ⟨fits_of (by omega) (by omega), fits_of (by omega) (by omega)⟩, _, _, rfl, rfl, _, rfl, _, _, rfl, rfl, _, _, rfl, rfl, by omega, _, rfl, _, rfl, _, _, rfl, rfl, by omega, _, _, rfl, rfl, ?_⟩
    refine ⟨a, ns, _, rfl, hS', ?_, fun c2' => ?_⟩
    · have := Int.emod_nonneg (0 + (k : Int)) (by decide : (20 : Int) ≠ 0)
      show (0 : Int) ≤ 3 + (0 + (k : Int)) % 20
      omega
    refine ⟨_, _, rfl, rfl, _, rfl, _, rfl, ?_⟩
    refine ⟨_, _, _, rfl, by decide, by decide, by omega, fun di Ha i0 i1 Sa => ?_⟩
    refine ⟨_, rfl, _, rfl, ?_⟩
    refine ⟨_, _, _, rfl, by decide, by decide, by omega, fun dj Hb j0 j1 Sb => ?_⟩
    refine ⟨_, _, rfl, ?_⟩
    have Sab := Sa.trans Sb
    have hplb := Sab _ _ hpl
    have hptb := Sab _ _ hpt
    have inc : ∀ {n : Nat} {f : Nat → Int} {x : Nat}, x < n → (∀ i, i < n → 0 ≤ f i) → (∀ i, i < n → 0 ≤ fset f x (f x + 1) i) ∧ sumZ n (fset f x (f x + 1)) = sumZ n f + 1 := fun {n f x} hx f0 => by
      refine ⟨fun i hi => ?_, ?_⟩
      · by_cases e : i = x
        · rw [e, fset_same]; have := f0 x hx; omega
        · rw [fset_ne e]; exact f0 i hi
      · have := sumZ_upd (f := f) (g := fset f x (f x + 1)) (k := x) (fun z hz => fset_ne hz) n
        rw [if_pos hx, fset_same] at this
        omega
    refine ⟨fun σ Hc => Same H6 Hc ∧ ∃ (pe' : Nat → Int), σ = [some (.ref a), some (.int cell), some (.int r), some (.int c), some (.ref l), some (.int di), v7, some (.int dj), v9, some (.int (m : Int)), some (.ref pl), some (.ref pt), some (.int sk), some (.int (0 + (k : Int))), some (.int ((c1' + 7 * (0 + (k : Int))) * (0 + (k : Int) + 3) + c2')), none] ∧ Hc pl = some (.lst ((row r pe').map V.int)) ∧ Hc pt = some (.lst ((row c qe).map V.int)) ∧ (∀ i, i < r → 0 ≤ pe' i) ∧ sumZ r pe' = k + 1, ?_, ?_⟩
    · refine ⟨_, rfl, _, rfl, _, _, rfl, rfl, _, rfl, ?_⟩
      refine ite3 (fun _ => ?_) (fun _ => ?_)
      case' refine_1 =>
        refine ⟨_, rfl, _, rfl, _, rfl, ?_⟩
        refine ⟨_, _, _, rfl, by decide, by decide, by omega, fun d9 Hc a0' a1' Sc => ?_⟩
        refine ⟨_, _, rfl, ?_⟩
        obtain ⟨x, ex, x0, x1⟩ : ∃ x : Int, (if d9 < di then d9 else di) = x ∧ 0 ≤ x ∧ x < r := ⟨_, rfl, by split <;> omega, by split <;> omega⟩
        rw [ex]
      case' refine_2 =>
        refine ⟨_, rfl, ?_⟩
        obtain ⟨Hc, eH, Sc⟩ : ∃ Hc, Hb = Hc ∧ Same Hb Hc := ⟨Hb, rfl, Same.refl _⟩
        obtain ⟨x, ex, x0, x1⟩ : ∃ x : Int, di = x ∧ 0 ≤ x ∧ x < r := ⟨_, rfl, by omega, by omega⟩
        rw [eH]
        have hd : V.int di = V.int x := by rw [ex]
        rw [hd]
      all_goals
        have hplc := Sc _ _ hplb
        have hptc := Sc _ _ hptb
        have xn : x.toNat < r := by omega
        have exn : ((x.toNat : Nat) : Int) = x := by omega
        have atx : atI ((row r pe).map V.int) x = some (.int (pe x.toNat)) := by rw [← exn]; exact at_row xn
        have ixx : ixN ((row r pe).map V.int).length x = some x.toNat := by
          have := ixN_nat (n := ((row r pe).map V.int).length) (v := x.toNat) (by rw [List.length_map, row_len]; exact xn)
          rw [exn] at this
          exact this
        obtain ⟨g1, g2⟩ := inc xn p0
        refine ⟨_, _, _, _, rfl, rfl, SqL.of (by assumption), by assumption, _, _, rfl, rfl, ?_⟩
        refine ⟨pl, _, _, x.toNat, rfl, rfl, hplc, ixx, ?_⟩
        rw [row_fset xn]
        refine ⟨(S'.trans (Sab.trans Sc)).upd npl, fset pe x.toNat (pe x.toNat + 1), rfl, upd_same, by rw [upd_ne plt.symm]; exact hptc, g1, by rw [g2, sp]⟩
    rintro σ Hc ⟨Sc', pe', rfl, hplc, hptc, p0', sp'⟩
    refine ⟨_, rfl, _, rfl, _, _, rfl, rfl, _, rfl, ?_⟩
    refine ite3 (fun _ => ?_) (fun _ => ?_)
    case' refine_1 =>
      refine ⟨_, rfl, _, rfl, _, rfl, ?_⟩
      refine ⟨_, _, _, rfl, by decide, by decide, by omega, fun d9 Hd a0' a1' Sd => ?_⟩
      refine ⟨_, _, rfl, ?_⟩
      obtain ⟨x, ex, x0, x1⟩ : ∃ x : Int, (if d9 < dj then d9 else dj) = x ∧ 0 ≤ x ∧ x < c := ⟨_, rfl, by split <;> omega, by split <;> omega⟩
      rw [ex]
    case' refine_2 =>
      refine ⟨_, rfl, ?_⟩
      obtain ⟨Hd, eH, Sd⟩ : ∃ Hd, Hc = Hd ∧ Same Hc Hd := ⟨Hc, rfl, Same.refl _⟩
      obtain ⟨x, ex, x0, x1⟩ : ∃ x : Int, dj = x ∧ 0 ≤ x ∧ x < c := ⟨_, rfl, by omega, by omega⟩
      rw [eH]
      have hd : V.int dj = V.int x := by rw [ex]
      rw [hd]
    all_goals
      have hpld := Sd _ _ hplc
      have hptd := Sd _ _ hptc
      have xn : x.toNat < c := by omega
      have exn : ((x.toNat : Nat) : Int) = x := by omega
      have atx : atI ((row c qe).map V.int) x = some (.int (qe x.toNat)) := by rw [← exn]; exact at_row xn
      have ixx : ixN ((row c qe).map V.int).length x = some x.toNat := by
        have := ixN_nat (n := ((row c qe).map V.int).length) (v := x.toNat) (by rw [List.length_map, row_len]; exact xn)
        rw [exn] at this
        exact this
      obtain ⟨g1, g2⟩ := inc xn q0
      refine ⟨_, _, _, _, rfl, rfl, SqL.of (by assumption), by assumption, _, _, rfl, rfl, ?_⟩
      refine ⟨pt, _, _, x.toNat, rfl, rfl, hptd, ixx, ?_⟩
      rw [row_fset xn]
      refine ⟨(Sc'.trans Sd).upd npt, pe', fset qe x.toNat (qe x.toNat + 1), _, _, _, _, _, rfl, by rw [upd_ne plt]; exact hpld, upd_same, p0', g1, by rw [sp']; omega, by rw [g2, sq]; omega⟩
  · rintro σ H' ⟨S', pe, qe, v5, v7, v13, v14, v15, rfl, hpl, hpt, p0, q0, sp, sq⟩
    refine ⟨_, rfl, _, rfl, _, rfl, ?_⟩
    refine ⟨(by show 3 ≤ sizeLine; decide), fun t Ht Nt => ?_⟩
    have le : ∀ {n : Nat} {f : Nat → Int}, (∀ i, i < n → 0 ≤ f i) → sumZ n f = m → ∀ i, i < n → 0 ≤ f i ∧ f i ≤ 300 := fun {n f} f0 fs i hi => by
      have h4 := sumZ_le (n := n) (f := fun y => if y = i then f i else 0) (g := f) fun y hy => by
        by_cases e : y = i
        · rw [if_pos e, e]; exact Int.le_refl _
        · rw [if_neg e]; exact f0 y hy
      have h5 := sumZ_upd (f := fun _ => 0) (g := fun y => if y = i then f i else 0) (k := i) (fun y hy => if_neg hy) n
      rw [sumZ_zero, if_pos hi, if_pos rfl] at h5
      exact ⟨f0 i hi, by omega⟩
    exact q t l pl pt as f r c pe qe Ht ((S4.trans S46).trans (S'.trans Nt.same)) Nt.at_ (mm6.same (S'.trans Nt.same)) (Nt.same _ _ hpl) (Nt.same _ _ hpt) r0 r1 c0 c1 bd ⟨le p0 sp, le q0 sq, by rw [sp, sq], by rw [sp]; omega⟩ plt
end
end K5
namespace K5
open PySem L2 SW
section
variable {P : Program} {w : World} {K : PySem.W.Frag} {mg : Str → Option Value} {base : Heap}
def noE (L : List Str) : List Str := L.filter fun z => decide (z ≠ Str.ofString "")
def spWords : Sp := fun vs H Q _ => ∃ (a : Str) (L : List Str), vs = [.str a] ∧ a.length + 2 ≤ sizeLine ∧ L ≠ [] ∧ (∀ x, x ∈ L → 32 ∉ cd x) ∧ cd a = J 32 (L.map cd) ∧ L.length ≤ sizeLine ∧ ∀ l H', Same H H' → H l = none → H' l = some (.lst ((noE L).map V.str)) → Q (.ref l) H'
theorem fil_str (L : List Str) : (L.map V.str).filter (fun v => decide (v ≠ V.str (Str.ofString ""))) = (noE L).map V.str := by
  rw [List.filter_map]
  unfold noE
  congr 1
  refine List.filter_congr fun z _ => ?_
  show decide (V.str z ≠ V.str (Str.ofString "")) = decide (z ≠ Str.ofString "")
  exact decide_eq_decide.mpr ⟨fun h e => h (by rw [e]), fun h e => h (V.str.inj e)⟩
theorem ok_words_of (T : Txt K mg) : FnOk P w K mg base CX0 1 T.a_words_of T.fd_words_of ["line"] spWords := by
  refine T.F_words_of.ok sc_words_of (fun vs H Q E h => ?_) (fun cdv A outer s H vs Q E hr h => ?_)
  · obtain ⟨a, L, rfl, _⟩ := h
    rfl
  obtain ⟨a, L, rfl, hz, hL, hf, e, lz, k⟩ := h
  refine ⟨_, (pss_one (ps_ret (pe_comp [1] rfl (blk_of rfl) (pi_listQ K (pe_bm PySem.F.plainAttrs_str PySem.F.slot_str_split PySem.F.type_str_split mt_split (pv 0) (pa_cons pe_str pa_nil))) (fun _ => (pg_name (i := 1) sc_words_of.nd rfl (Or.inl rfl))) (fun _ => pts_one (pt_cmpR op_ne (pv 1) pe_str (nomark _))) (fun _ => (pv 1))))), ?_⟩
  refine ⟨_, rfl, rfl, ?_⟩
  refine ⟨a, _, rfl, rfl, by decide, hz, fun l H1 N1 => ?_⟩
  have es : Txt.split a (Str.ofString " ") = L := split_of (c := 32) hL hf e
  rw [es] at N1
  refine ⟨l, rfl, ⟨_, SqL.of N1.at_⟩, ?_⟩
  refine comp_filL (fun v => decide (v ≠ V.str (Str.ofString ""))) (fun v => v) (SqL.of N1.at_) (by rw [List.length_map]; exact lz) (fun i x Q' hx hQ => ?_) (fun i x Q' hx _ hQ => ?_) fun l2 H2 N2 => ?_
  · obtain ⟨z, rfl⟩ : ∃ z, x = V.str z := by
      rw [List.getElem?_map] at hx
      cases e : L[i]? with
      | none => rw [e] at hx; cases hx
      | some z => rw [e] at hx; exact ⟨z, (Option.some.inj hx).symm⟩
    refine ⟨_, rfl, rfl, _, rfl, ?_⟩
    rw [decide_not] at hQ
    exact hQ
  · refine ⟨_, rfl, ?_⟩
    exact hQ
  · rw [List.map_id', fil_str] at N2
    exact k l2 H2 (N1.same.trans N2.same) (N1.same.free N2.gone) N2.at_
theorem occ_mem {b : Str} {c : Nat} (h : c ∈ cd b) : (!(Builtin.Str.occurrences b ⟨#[c]⟩ 0 b.length 1).isEmpty) = true := by
  rcases StrLaws.occ_head b ⟨#[c]⟩ 1 (Nat.le_refl 1) with ⟨_, hn⟩ | ⟨i, r, h0, _, _⟩
  · obtain ⟨i, hi⟩ := (PyProof.Rows.mem_iff_at b c).mp h
    exact absurd hi (hn i)
  · rw [h0]; rfl
theorem occ_is (b : Str) (c : Nat) : (!(Builtin.Str.occurrences b ⟨#[c]⟩ 0 b.length 1).isEmpty) = decide (c ∈ cd b) := by
  by_cases h : c ∈ cd b
  · rw [occ_mem h, decide_eq_true h]
  · rw [decide_eq_false h]
    rcases StrLaws.occ_head b ⟨#[c]⟩ 1 (Nat.le_refl 1) with ⟨h0, _⟩ | ⟨i, r, _, ha, _⟩
    · rw [h0]; rfl
    · exact absurd ((PyProof.Rows.mem_iff_at b c).mpr ⟨i, ha⟩) h
theorem lg {m : Nat} (h : m ≤ 10 ^ 9) : ((m : Nat) : Int).natAbs.log2 < 1920 := by
  show m.log2 < 1920
  by_cases h0 : m = 0
  · subst h0; decide
  · exact (Nat.log2_lt h0).mpr (Nat.lt_of_le_of_lt h (Nat.lt_of_lt_of_le (show 10 ^ 9 < 2 ^ 30 by decide) (Nat.pow_le_pow_right (by decide) (by decide))))
theorem ok_BadLine_init (T : Txt K mg) : FnOk P w K mg base CX0 1 T.a_BadLine_init T.fd_BadLine_init ["self", "line"] (spOwn T.c_BadLine "line") := by
  refine T.F_BadLine_init.ok sc_BadLine_init (fun vs H Q E h => ?_) (fun cdv A outer s H vs Q E hr h => ?_)
  · obtain ⟨e, y, rfl, _⟩ := h
    rfl
  obtain ⟨e, y, rfl, he, q⟩ := h
  refine ⟨_, (pss_one (ps_fldE ⟨rfl, rfl, rfl, rfl⟩ T.o_BadLine (pv 0) (pv 1) rfl)), ?_⟩
  exact ⟨_, rfl, _, rfl, e, rfl, he, fun dx h1 h2 => q dx h1 h2⟩
def spIsOf : Sp := fun vs H Q _ => ∃ a b : Str, vs = [.str a, .str b] ∧ (∀ c, c ∈ cd a → c < 128) ∧ a.length ≤ sizeLine ∧ ∀ H', Same H H' → Q (.bl (isW (fun c => decide (c ∈ cd b)) (cd a))) H'
theorem ok_is_of (T : Txt K mg) : FnOk P w K mg base CX0 1 T.a_is_of T.fd_is_of ["word", "signs"] spIsOf := by
  refine T.F_is_of.ok sc_is_of (fun vs H Q E h => ?_) (fun cdv A outer s H vs Q E hr h => ?_)
  · obtain ⟨a, b, rfl, _⟩ := h
    rfl
  obtain ⟨a, b, rfl, asc, hz, k⟩ := h
  refine ⟨_, (pss_one (ps_ret (pe_and (pe_cmpR op_ne (pv 0) pe_str (nomark _)) (pe_one (pe_callB (all_Q K rfl) (by rfl) T.n_all PyProof.Rows.boot_all (pa_cons (pe_comp [2] rfl (blk_of rfl) (pi_str (pv 0)) (fun _ => (pg_name (i := 2) sc_is_of.nd rfl (Or.inl rfl))) (fun _ => pts_nil) (fun _ => (pe_cmpR op_in_str (pv 2) (pv 1) (by with_unfolding_all rfl)))) pa_nil)))))), ?_⟩
  refine ⟨_, rfl, rfl, _, rfl, ?_⟩
  by_cases hn : cd a = []
  · have e : V.str a = V.str (Str.ofString "") := by rw [cd_inj (a := a) (b := Str.ofString "") hn]
    rw [decide_eq_true e]
    refine iteF ?_
    have := k H (Same.refl H)
    rw [hn] at this
    exact this
  have ne : V.str a ≠ V.str (Str.ofString "") := fun z => hn (by rw [V.str.inj z]; rfl)
  rw [decide_eq_false ne]
  refine iteT ?_
  refine ⟨_, rfl, ?_⟩
  refine ⟨a, rfl, ?_, ?_⟩
  · rw [← Array.all_toList]
    exact List.all_eq_true.mpr fun c hc => decide_eq_true (asc c hc)
  refine comp_signs (fun c => .bl (decide (c ∈ cd b))) hz (fun i c Q' hc hQ => ?_) fun l H1 N1 => ?_
  · refine ⟨_, rfl, _, rfl, ?_⟩
    refine ⟨_, _, rfl, rfl, ?_⟩
    rw [occ_is]
    exact hQ
  · have hl := N1.at_
    refine ⟨l, (cd a).map (fun c => decide (c ∈ cd b)), rfl, ?_, ?_⟩
    · rw [List.map_map]
      exact SqL.of hl
    · have e : ((cd a).map fun c => decide (c ∈ cd b)).all id = isW (fun c => decide (c ∈ cd b)) (cd a) := by
        unfold isW
        rw [List.all_map]
        cases q : cd a with
        | nil => exact absurd q hn
        | cons x r => rfl
      rw [e]
      exact k H1 N1.same
def BadE (T : Txt K mg) (E : XK) (H : Hp) (at_ : Int) : Prop := ∀ dx H', Same H H' → H' dx = some (.xd [("line", .int at_)]) → E (.ref T.c_BadLine) (some dx) H'
theorem BadE.hit {T : Txt K mg} {E : XK} {H H1 : Hp} {at_ : Int} {dx : Addr} (h : BadE T E H at_) (S : Same H H1) (n : H1 dx = none) : E (.ref T.c_BadLine) (some dx) (upd H1 dx (.xd [("line", .int at_)])) := h dx _ (S.upd (S.free n)) upd_same
def spNum (T : Txt K mg) : Sp := fun vs H Q E => ∃ (a : Str) (mo : Nat) (at_ : Int), vs = [.str a, .int (mo : Int), .int at_] ∧ (∀ c, c ∈ cd a → c < 128) ∧ a.length ≤ 1000000 ∧ mo ≤ 10 ^ 9 ∧ (∀ m, numP mo (cd a) = some m → ∀ H', Same H H' → Q (.int (m : Int)) H') ∧ (numP mo (cd a) = none → BadE T E H at_)
theorem numP_not {mo : Nat} {l : List Nat} (h : isNum l = false) : numP mo l = none := by
  unfold numP
  rw [h, Bool.false_and]
  exact if_neg Bool.false_ne_true
theorem numP_long {mo : Nat} {l : List Nat} (h : (dg mo).length < l.length) : numP mo l = none := by
  unfold numP
  rw [decide_eq_false (by omega : ¬ l.length ≤ (dg mo).length), Bool.false_and, Bool.and_false]
  exact if_neg Bool.false_ne_true
theorem numP_great {mo : Nat} {l : List Nat} (h : mo < valD l) : numP mo l = none := by
  unfold numP
  rw [decide_eq_false (by omega : ¬ valD l ≤ mo), Bool.and_false, Bool.and_false]
  exact if_neg Bool.false_ne_true
theorem numP_yes {mo : Nat} {l : List Nat} (h1 : isNum l = true) (h2 : l.length ≤ (dg mo).length) (h3 : valD l ≤ mo) : numP mo l = some (valD l) := by
  unfold numP
  rw [h1, decide_eq_true h2, decide_eq_true h3]
  rfl
theorem figs_is (l : List Nat) : isW (fun c => decide (c ∈ cd (Str.ofString "0123456789"))) l = isW isDig l := by
  have e : cd (Str.ofString "0123456789") = [48, 49, 50, 51, 52, 53, 54, 55, 56, 57] := by decide +kernel
  have : (fun c => decide (c ∈ cd (Str.ofString "0123456789"))) = isDig := by
    funext c
    rw [e]
    unfold isDig
    rw [Bool.eq_iff_iff, Bool.and_eq_true, decide_eq_true_eq, decide_eq_true_eq, decide_eq_true_eq]
    simp only [List.mem_cons, List.not_mem_nil, or_false]
    omega
  rw [this]
theorem ok_number_of (T : Txt K mg) : FnOk P w K mg base (CX1 P w) 3 T.a_number_of T.fd_number_of ["word", "most", "at"] (spNum T) := by
  refine T.F_number_of.okX sc_number_of (fun vs H Q E h => ?_) (fun cdv A outer s H vs Q E hr h => ?_)
  · obtain ⟨a, mo, at_, rfl, _⟩ := h
    rfl
  obtain ⟨a, mo, at_, rfl, asc, sz, hmo, good, bad⟩ := h
  refine ⟨_, (pss_cons (ps_meet (ps_if (PW.pt (pw_or (pt_not (pt_val (pe_call (ok_is_of T) (hr.mono (by decide)) rfl T.m_is_of T.F_is_of.kp T.b_is_of .nil pass0 (pa_cons (pv 0) (pa_cons (pe_glob (v := .str "0123456789") rfl T.m_FIGURES ⟨T.tk_FIGURES, rfl⟩) pa_nil))))) (pw_or1 (PW.pt (pw_and (pt_cmpR op_eq (pe_ix ix_str (pv 0) pe_int (fun _ _ => rfl)) pe_str (nomark _)) (pw_and1 (pt_cmpR op_ne (pv 0) pe_str (nomark _))))))))
      (pss_one (ps_raiseI (E := E) PySem.F.excBase_ValueError ⟨rfl, rfl, rfl, rfl⟩ rfl rfl T.m_BadLine T.o_BadLine (ok_BadLine_init T) (hr.mono (by decide)) T.b_BadLine_init (pa_cons (pv 2) pa_nil) (fun _ _ _ _ _ z => z)))
      pss_nil))
      (pss_cons (ps_if (PW.pt (pw_or (pt_cmpR op_gt (pe_callB call_len_str (by rfl) T.n_len PySem.boot_len (pa_cons (pv 0) pa_nil)) (pe_callB call_len_str (by rfl) T.n_len PySem.boot_len (pa_cons (pe_callTy call_str_int (by rfl) T.n_str PyProof.Rows.boot_str (pa_cons (pv 1) pa_nil)) pa_nil)) (nomark _)) (pw_or1 (pt_cmpR op_gt (pe_callTy call_intS (by rfl) T.n_int PyProof.Rows.boot_int (pa_cons (pv 0) pa_nil)) (pv 1) (nomark _)))))
      (pss_one (ps_raiseI (E := E) PySem.F.excBase_ValueError ⟨rfl, rfl, rfl, rfl⟩ rfl rfl T.m_BadLine T.o_BadLine (ok_BadLine_init T) (hr.mono (by decide)) T.b_BadLine_init (pa_cons (pv 2) pa_nil) (fun _ _ _ _ _ z => z)))
      pss_nil)
      (pss_one (ps_ret (pe_callTy call_intS (by rfl) T.n_int PyProof.Rows.boot_int (pa_cons (pv 0) pa_nil)))))), ?_⟩
  have big : (1000000 : Nat) ≤ sizeLine := by decide
  have lmo : (Str.ofString (toString (mo : Int))).length = (dg mo).length := by rw [← cd_len, cd_num]
  have lmo10 : (dg mo).length ≤ 10 := by rw [← lmo]; exact PySem.W.KT.len_num (by omega) (by omega)
  refine ⟨fun σ H' => Same H H' ∧ isNum (cd a) = true ∧ σ = [some (.str a), some (.int (mo : Int)), some (.int at_)], ?_, ?_⟩
  · refine ⟨_, rfl, ?_⟩
    refine ⟨a, _, rfl, asc, Nat.le_trans sz big, fun H1 S1 => ?_⟩
    rw [figs_is]
    refine ⟨_, rfl, ?_⟩
    cases hw : isW isDig (cd a) with
    | false =>
      refine iteT ?_
      exact ⟨_, rfl, _, rfl, fun dx hd => (bad (numP_not (by unfold isNum; rw [hw]; rfl))).hit S1 hd⟩
    | true =>
      refine iteF ?_
      obtain ⟨c, r, ec⟩ : ∃ c r, cd a = c :: r := by
        cases q : cd a with
        | nil => rw [q] at hw; cases hw
        | cons c r => exact ⟨c, r, rfl⟩
      refine ⟨_, rfl, ?_⟩
      refine ⟨a, 0, c, rfl, rfl, Nat.le_trans sz big, ?_, ?_⟩
      · show atI (cd a) 0 = some c
        rw [ec]
        exact atI_of (Int.le_refl 0) rfl
      refine ⟨rfl, _, rfl, ?_⟩
      have e0 : cd (Str.ofString "0") = [48] := by decide +kernel
      by_cases hc : c = 48
      · have e1 : V.str ⟨#[c]⟩ = V.str (Str.ofString "0") := by rw [hc]; rfl
        refine iteDT e1 ?_
        refine ⟨_, rfl, rfl, _, rfl, ?_⟩
        by_cases ha : cd a = [48]
        · have e2 : V.str a = V.str (Str.ofString "0") := by rw [cd_inj (a := a) (b := Str.ofString "0") (by rw [ha, e0])]
          refine iteNT e2 ?_
          exact ⟨S1, by unfold isNum; rw [hw, ha]; rfl, rfl⟩
        · have e2 : V.str a ≠ V.str (Str.ofString "0") := fun z => ha (by rw [V.str.inj z, e0])
          refine iteNF e2 ?_
          refine ⟨_, rfl, _, rfl, fun dx hd => (bad (numP_not ?_)).hit S1 hd⟩
          unfold isNum
          rw [hw, decide_eq_false ha, ec, hc]
          rfl
      · have e1 : V.str ⟨#[c]⟩ ≠ V.str (Str.ofString "0") := fun z => hc (by
          have := congrArg cd (V.str.inj z)
          rw [e0] at this
          exact (List.cons.inj this).1)
        refine iteDF e1 (iteF ?_)
        refine ⟨S1, ?_, rfl⟩
        unfold isNum
        rw [hw, ec]
        have : (c :: r).head? ≠ some 48 := fun z => hc (Option.some.inj z)
        rw [decide_eq_true this]
        rfl
  rintro σ H1 ⟨S1, hnum, rfl⟩
  refine ⟨_, rfl, ?_⟩
  refine ⟨a, rfl, Nat.le_trans sz big, ?_⟩
  refine ⟨_, rfl, ?_⟩
  refine ⟨_, rfl, lg hmo, ?_⟩
  refine ⟨_, rfl, ?_, ?_⟩
  · show (Str.ofString (toString (mo : Int))).length ≤ sizeLine
    rw [lmo]
    exact Nat.le_trans lmo10 (by decide)
  have el : (toString (mo : Int) : Str) = Str.ofString (toString (mo : Int)) := rfl
  refine ⟨_, _, rfl, rfl, _, rfl, ?_⟩
  refine ite3 (fun c => ?_) (fun c => ?_)
  · have c' : (dg mo).length < (cd a).length := by
      rw [cd_len, ← lmo]
      have : ((Str.ofString (toString (mo : Int))).length : Int) < (a.length : Int) := c
      omega
    exact ⟨_, rfl, _, rfl, fun dx hd => (bad (numP_long c')).hit S1 hd⟩
  have c' : (cd a).length ≤ (dg mo).length := by
    rw [cd_len, ← lmo]
    have : ¬ ((Str.ofString (toString (mo : Int))).length : Int) < (a.length : Int) := c
    omega
  have ed := (num_dg _ (cd a) rfl hnum).1
  have hv : valD (cd a) < 10 ^ 10 := by
    apply Classical.byContradiction
    intro z
    have m1 := dg_mono (show 10 ^ 10 ≤ valD (cd a) by omega)
    rw [← ed] at m1
    have : (dg (10 ^ 10)).length = 11 := by decide +kernel
    omega
  have ea : a = Str.ofString (toString ((valD (cd a) : Nat) : Int)) := cd_inj (by rw [cd_num]; exact ed)
  have rd : intText? a = some ((valD (cd a) : Nat) : Int) := by
    have := PySem.W.KIN.num_reads (n := ((valD (cd a) : Nat) : Int)) (by omega) (by omega)
    rw [← ea] at this
    exact this
  have sl : a.length ≤ 640 := by rw [← cd_len]; omega
  refine ⟨_, rfl, ?_⟩
  refine ⟨a, _, rfl, rd, sl, ?_⟩
  refine ⟨_, rfl, _, _, rfl, rfl, _, rfl, ?_⟩
  refine ite3 (fun d => ?_) (fun d => ?_)
  · skip
    exact ⟨_, rfl, _, rfl, fun dx hd => (bad (numP_great (by omega))).hit S1 hd⟩
  · refine ⟨_, rfl, ?_⟩
    exact ⟨a, _, rfl, rd, sl, good _ (numP_yes hnum c' (by omega)) H1 S1⟩
end
end K5
namespace SW
open PySem L2
theorem str_flat (ns : List Str) : (ns.map V.str).all flatV = true := by
  induction ns with
  | nil => rfl
  | cons a l ih => rw [List.map_cons, List.all_cons, ih]; rfl
theorem str_in {ns : List Str} {v : Str} : inV (.str v) (ns.map V.str) = decide (v ∈ ns) := by
  unfold inV
  rw [List.any_map]
  rw [Bool.eq_iff_iff, List.any_eq_true, decide_eq_true_iff]
  constructor
  · rintro ⟨x, hx, e⟩
    have e : (x == v) = true := e
    rw [← beq_iff_eq.mp e]
    exact hx
  · intro h
    exact ⟨v, h, by show (v == v) = true; simp⟩
theorem mkS_inj {a b : List Nat} (h : mkS a = mkS b) : a = b := by
  have := congrArg cd h
  rw [cd_mk, cd_mk] at this
  exact this
theorem mkS_mem {ns : List (List Nat)} {n : List Nat} : mkS n ∈ ns.map mkS ↔ n ∈ ns :=
  ⟨fun h => by obtain ⟨x, hx, e⟩ := List.mem_map.mp h; rw [← mkS_inj e]; exact hx, fun h => List.mem_map_of_mem h⟩
theorem part_tw (a : Str) : ∃ x, Txt.partition a ⟨#[40]⟩ = (mkS ((cd a).takeWhile fun c => c != 40), x, mkS ((cd a).drop (((cd a).takeWhile fun c => c != 40).length + 1))) := by
  have sp : cd a = (cd a).takeWhile (fun c => c != 40) ++ (cd a).dropWhile (fun c => c != 40) := (List.takeWhile_append_dropWhile).symm
  have nf : 40 ∉ (cd a).takeWhile (fun c => c != 40) := fun z => by
    have := List.all_eq_true.mp (List.all_takeWhile (p := fun c => c != 40) (l := cd a)) 40 z
    simp at this
  cases hd : (cd a).dropWhile (fun c => c != 40) with
  | nil =>
    rw [hd, List.append_nil] at sp
    have no : 40 ∉ cd a := by rw [sp]; exact nf
    refine ⟨Str.empty, ?_⟩
    rcases PyProof.Rows.partition_whole a ⟨#[40]⟩ with ⟨e, _⟩ | ⟨i, _, hi, _⟩
    · rw [e, ← sp, mk_cd, List.drop_of_length_le (by omega)]
      rfl
    · have : (cd a)[i]? = some 40 := (StrLaws.subAt_one a 40 i).mp hi
      exact absurd (List.mem_of_getElem? this) no
  | cons c r =>
    have hc : c = 40 := by
      have := List.head?_dropWhile_not (p := fun c => c != 40) (l := cd a)
      rw [hd] at this
      simpa using this
    rw [hd, hc] at sp
    refine ⟨⟨#[40]⟩, ?_⟩
    rw [partition_of nf sp]
    have : (cd a).drop (((cd a).takeWhile fun c => c != 40).length + 1) = r := by
      have e : cd a = ((cd a).takeWhile (fun c => c != 40) ++ [40]) ++ r := by rw [List.append_assoc]; exact sp
      have := List.drop_left' (l₁ := (cd a).takeWhile (fun c => c != 40) ++ [40]) (l₂ := r) (i := ((cd a).takeWhile fun c => c != 40).length + 1) (by simp)
      rw [← e] at this
      exact this
    rw [this]
theorem ends_is (x : Str) : (decide (0 + (Str.ofString ")").length ≤ x.length) && Builtin.Str.subAt x (Str.ofString ")") (x.length - (Str.ofString ")").length)) = decide ((cd x).getLast? = some 41) := by
  have l1 : (Str.ofString ")").length = 1 := by decide +kernel
  rcases List.eq_nil_or_concat (cd x) with h | ⟨l, c, h⟩
  · rw [h]
    have : x.length = 0 := by rw [← cd_len, h]; rfl
    rw [l1, this]
    rfl
  rw [List.concat_eq_append] at h
  have hl : x.length = l.length + 1 := by rw [← cd_len, h]; simp
  rw [h, List.getLast?_append]
  by_cases hc : c = 41
  · subst hc
    have := ends_of (c := 41) h
    rw [show (Str.ofString ")") = ⟨#[41]⟩ from rfl, this]
    rfl
  · have nn : ¬ ((l ++ [c])[l.length]? = some 41) := by simpa using hc
    have z := mt (StrLaws.subAt_one x 41 l.length).mp (by show ¬ (cd x)[l.length]? = some 41; rw [h]; exact nn)
    have e : Builtin.Str.subAt x (Str.ofString ")") (x.length - (Str.ofString ")").length) = false := by
      rw [l1, hl, show l.length + 1 - 1 = l.length by omega]
      cases q : Builtin.Str.subAt x (Str.ofString ")") l.length with
      | false => rfl
      | true => exact absurd ⟨by show l.length + 1 ≤ x.length; omega, q⟩ z
    rw [e, Bool.and_false]
    simp [hc]
theorem lets_is (l : List Nat) : isW (fun c => decide (c ∈ cd (Str.ofString "abcdefghijklmnopqrstuvwxyz"))) l = isW isLet l := by
  have e : cd (Str.ofString "abcdefghijklmnopqrstuvwxyz") = (List.range 26).map (97 + ·) := by decide +kernel
  have : (fun c => decide (c ∈ cd (Str.ofString "abcdefghijklmnopqrstuvwxyz"))) = isLet := by
    funext c
    rw [e]
    unfold isLet
    rw [Bool.eq_iff_iff, Bool.and_eq_true, decide_eq_true_eq, decide_eq_true_eq, decide_eq_true_eq]
    constructor
    · intro h
      obtain ⟨x, hx, rfl⟩ := List.mem_map.mp h
      have := List.mem_range.mp hx
      omega
    · intro h
      exact List.mem_map.mpr ⟨c - 97, List.mem_range.mpr (by omega), by omega⟩
  rw [this]
end SW
namespace K5
open PySem L2 SW
section
variable {P : Program} {w : World} {K : PySem.W.Frag} {mg : Str → Option Value} {base : Heap}
abbrev nmL (ns : List (List Nat)) : List V := (ns.map mkS).map V.str
structure TnOk (H : Hp) (word : Str) (nl sl : Addr) (ns : List (List Nat)) (ss : List Int) : Prop where
  asc : ∀ c, c ∈ cd word → c < 128
  sz : word.length ≤ 1000000
  few : ns.length ≤ 12
  fs : ss.length ≤ 12
  hn : H nl = some (.lst (nmL ns))
  hs : H sl = some (.lst (ss.map V.int))
  ne : nl ≠ sl
def Two (H H' : Hp) (a b : Addr) : Prop := ∀ x o, H x = some o → x ≠ a → x ≠ b → H' x = some o
def spTakeN (T : Txt K mg) : Sp := fun vs H Q E => ∃ (word : Str) (nl sl : Addr) (ns : List (List Nat)) (ss : List Int) (at_ : Int), vs = [.str word, .ref nl, .ref sl, .int at_] ∧ TnOk H word nl sl ns ss ∧
  (∀ p, labN ns (cd word) = some p → ∀ H', H' nl = some (.lst (nmL (ns ++ [p.1]))) → H' sl = some (.lst ((ss ++ [(p.2 : Int)]).map V.int)) → Two H H' nl sl → Q .non H') ∧
  (labN ns (cd word) = none → ∀ dx H', Two H H' nl sl → H' dx = some (.xd [("line", .int at_)]) → E (.ref T.c_BadLine) (some dx) H')
theorem ok_take_name (T : Txt K mg) : FnOk P w K mg base (CX1 P w) 4 T.a_take_name T.fd_take_name ["word", "names", "seats", "at"] (spTakeN T) := by
  refine T.F_take_name.okX sc_take_name (fun vs H Q E h => ?_) (fun cdv A outer s H vs Q E hr h => ?_)
  · obtain ⟨_, _, _, _, _, _, rfl, _⟩ := h
    rfl
  obtain ⟨word, nl, sl, ns, ss, at_, rfl, o, good, bad⟩ := h
  refine ⟨_, (pss_cons (ps_set (i := 4) sc_take_name.nd rfl (Or.inl rfl) (pe_bm PySem.F.plainAttrs_str PySem.F.slot_str_partition PySem.F.type_str_partition mt_partition (pv 0) (pa_cons pe_str pa_nil)))
      (pss_cons (ps_set (i := 5) sc_take_name.nd rfl (Or.inl rfl) (pe_ix (ix_Q K) (pv 4) pe_int (fun _ _ => rfl)))
      (pss_cons (ps_meet (ps_if (PW.pt (pw_or (pt_not (pt_val (pe_call (ok_is_of T) (hr.mono (by decide)) rfl T.m_is_of T.F_is_of.kp T.b_is_of .nil pass0 (pa_cons (pv 5) (pa_cons (pe_glob (v := .str "abcdefghijklmnopqrstuvwxyz") rfl T.m_LETTERS ⟨T.tk_LETTERS, rfl⟩) pa_nil))))) (pw_or (pt_cmpR op_gt (pe_callB call_len_str (by rfl) T.n_len PySem.boot_len (pa_cons (pv 5) pa_nil)) (pe_glob (v := .int 8) rfl T.m_LONGEST_NAME ⟨T.tk_LONGEST_NAME, rfl⟩) (nomark _)) (pw_or1 (pt_not (pt_val (pe_bm PySem.F.plainAttrs_str PySem.F.slot_str_endswith PySem.F.type_str_endswith mt_endswith (pe_ix (ix_Q K) (pv 4) pe_int (fun _ _ => rfl)) (pa_cons pe_str pa_nil))))))))
      (pss_one (ps_raiseI (E := E) PySem.F.excBase_ValueError ⟨rfl, rfl, rfl, rfl⟩ rfl rfl T.m_BadLine T.o_BadLine (ok_BadLine_init T) (hr.mono (by decide)) T.b_BadLine_init (pa_cons (pv 3) pa_nil) (fun _ _ _ _ _ z => z)))
      pss_nil))
      (pss_cons (ps_if (PW.pt (pw_or (pt_cmpR (in_Q K) (pv 5) (pv 1) (by with_unfolding_all rfl)) (pw_or1 (pt_cmpR op_eqI (pe_callB (len_Q K) (by rfl) T.n_len PySem.boot_len (pa_cons (pv 1) pa_nil)) (pe_glob (v := .int 12) rfl T.m_MOST_NAMES ⟨T.tk_MOST_NAMES, rfl⟩) (nomark _)))))
      (pss_one (ps_raiseI (E := E) PySem.F.excBase_ValueError ⟨rfl, rfl, rfl, rfl⟩ rfl rfl T.m_BadLine T.o_BadLine (ok_BadLine_init T) (hr.mono (by decide)) T.b_BadLine_init (pa_cons (pv 3) pa_nil) (fun _ _ _ _ _ z => z)))
      pss_nil)
      (pss_cons (ps_expr (pe_bm PySem.F.plainAttrs_list PySem.F.slot_list_append PySem.F.type_list_append mt_append (pv 1) (pa_cons (pv 5) pa_nil)))
      (pss_one (ps_expr (pe_bm PySem.F.plainAttrs_list PySem.F.slot_list_append PySem.F.type_list_append mt_append (pv 2) (pa_cons (pe_call (ok_number_of T) (hr.mono (by decide)) rfl T.m_number_of T.F_number_of.kp T.b_number_of .nil (passes_on (E := E) rfl rfl rfl rfl) (pa_cons (pe_slice sl_str (pe_ix (ix_Q K) (pv 4) pe_int (fun _ _ => rfl)) po_none (po_some (pe_un un_neg pe_int))) (pa_cons (pe_glob (v := .int 300) rfl T.m_MOST_SEATS ⟨T.tk_MOST_SEATS, rfl⟩) (pa_cons (pv 3) pa_nil)))) pa_nil))))))))), ?_⟩
  have big : (1000000 : Nat) ≤ sizeLine := by decide
  have hn := o.hn
  have hs := o.hs
  have sz := o.sz
  obtain ⟨x0, ep⟩ := part_tw word
  have lab : labP (cd word) = if isW isLet ((cd word).takeWhile fun c => c != 40) && (decide (((cd word).takeWhile fun c => c != 40).length ≤ 8) && decide (((cd word).drop (((cd word).takeWhile fun c => c != 40).length + 1)).getLast? = some 41)) then (numP 300 ((cd word).drop (((cd word).takeWhile fun c => c != 40).length + 1)).dropLast).map fun m => ((cd word).takeWhile fun c => c != 40, m) else none := rfl
  have na : ∀ c, c ∈ (cd word).takeWhile (fun c => c != 40) → c < 128 := fun c hc => o.asc c ((List.takeWhile_prefix _).subset hc)
  have ra : ∀ c, c ∈ (cd word).drop (((cd word).takeWhile fun c => c != 40).length + 1) → c < 128 := fun c hc => o.asc c (List.mem_of_mem_drop hc)
  have ln : ((cd word).takeWhile fun c => c != 40).length ≤ 1000000 := by
    have := List.IsPrefix.length_le (List.takeWhile_prefix (p := fun c => c != 40) (l := cd word))
    rw [cd_len] at this
    omega
  have lr : ((cd word).drop (((cd word).takeWhile fun c => c != 40).length + 1)).length ≤ 1000000 := by rw [List.length_drop, cd_len]; omega
  generalize (cd word).drop (((cd word).takeWhile fun c => c != 40).length + 1) = r at *
  generalize (cd word).takeWhile (fun c => c != 40) = n at *
  have lnS : (mkS n).length ≤ 1000000 := by rw [← cd_len, cd_mk]; exact ln
  have bd : ∀ dx {H1 : Hp}, labN ns (cd word) = none → Two H H1 nl sl → H1 dx = none → E (.ref T.c_BadLine) (some dx) (upd H1 dx (.xd [("line", .int at_)])) := fun dx {H1} hb hT hd => by
    refine bad hb dx _ (fun x u hx h1 h2 => ?_) upd_same
    have := hT x u hx h1 h2
    rw [upd_ne (ne_of_none this hd)]
    exact this
  have S2 : ∀ {H1 : Hp}, Same H H1 → Two H H1 nl sl := fun S x u hx _ _ => S x u hx
  refine ⟨_, rfl, rfl, ?_⟩
  refine ⟨word, _, rfl, rfl, by decide, Nat.le_trans sz big, fun t H1 N1 => ?_⟩
  have ep' : Txt.partition word (Str.ofString "(") = (mkS n, x0, mkS r) := ep
  rw [ep'] at N1
  have ht := N1.at_
  dsimp only at ht
  refine ⟨_, rfl, _, _, _, _, rfl, rfl, Or.inr (SqT.of (by assumption)), rfl, ?_⟩
  refine ⟨fun σ H' => Same H1 H' ∧ isW isLet n = true ∧ n.length ≤ 8 ∧ r.getLast? = some 41 ∧ σ = [some (.str word), some (.ref nl), some (.ref sl), some (.int at_), some (.ref t), some (.str (mkS n))], ?_, ?_⟩
  · refine ⟨_, rfl, ?_⟩
    refine ⟨mkS n, _, rfl, by rw [cd_mk]; exact na, Nat.le_trans lnS big, fun H2 S2' => ?_⟩
    rw [lets_is, cd_mk]
    have ht2 := S2' _ _ ht
    have SH2 := N1.same.trans S2'
    refine ⟨_, rfl, ?_⟩
    cases hw : isW isLet n with
    | false =>
      refine iteT ?_
      refine ⟨_, rfl, _, rfl, fun dx hd => bd dx (labN_bad ?_) (S2 SH2) hd⟩
      rw [lab, hw]
      rfl
    | true =>
      refine iteF ?_
      refine ⟨_, rfl, ?_⟩
      refine ⟨_, rfl, Nat.le_trans lnS big, ?_⟩
      refine ⟨_, _, rfl, rfl, _, rfl, ?_⟩
      have ln' : (mkS n).length = n.length := by rw [← cd_len, cd_mk]
      refine ite3 (fun c => ?_) (fun c => ?_)
      · skip
        refine ⟨_, rfl, _, rfl, fun dx hd => bd dx (labN_bad ?_) (S2 SH2) hd⟩
        rw [lab, decide_eq_false (by omega : ¬ n.length ≤ 8), Bool.false_and, Bool.and_false]
        rfl
      refine ⟨_, rfl, _, _, _, _, rfl, rfl, Or.inr (SqT.of (by assumption)), rfl, ?_⟩
      refine ⟨rfl, ?_⟩
      refine ⟨_, _, rfl, rfl, ?_⟩
      rw [ends_is, cd_mk]
      refine ⟨_, rfl, ?_⟩
      by_cases hl : r.getLast? = some 41
      · rw [decide_eq_true hl]
        refine iteF ?_
        exact ⟨S2', rfl, by omega, hl, rfl⟩
      · rw [decide_eq_false hl]
        refine iteT ?_
        refine ⟨_, rfl, _, rfl, fun dx hd => bd dx (labN_bad ?_) (S2 SH2) hd⟩
        rw [lab, decide_eq_false hl, Bool.and_false, Bool.and_false]
        rfl
  rintro σ H2 ⟨S12, hw, h8, hl, rfl⟩
  have lab' : labP (cd word) = (numP 300 r.dropLast).map fun m => (n, m) := by
    rw [lab, hw, decide_eq_true h8, decide_eq_true hl]
    rfl
  have SH2 := N1.same.trans S12
  have hn2 := SH2 _ _ hn
  have hs2 := SH2 _ _ hs
  have ht2 := S12 _ _ ht
  have few := o.few
  have fs := o.fs
  refine ⟨_, rfl, _, rfl, ?_⟩
  refine ⟨nl, _, rfl, .inl (SqL.of hn2), rfl, str_flat _, ?_⟩
  rw [if_neg Bool.false_ne_true, str_in]
  have dup : (n ∈ ns ∨ ns.length = 12) → labN ns (cd word) = none := fun z => by
    unfold labN
    rw [lab']
    cases numP 300 r.dropLast with
    | none => rfl
    | some m => exact if_pos z
  refine ⟨_, rfl, ?_⟩
  by_cases hm : n ∈ ns
  · rw [decide_eq_true (mkS_mem.mpr hm)]
    refine iteT ?_
    exact ⟨_, rfl, _, rfl, fun dx hd => bd dx (dup (.inl hm)) (S2 SH2) hd⟩
  rw [decide_eq_false (fun z => hm (mkS_mem.mp z))]
  refine iteF ?_
  refine ⟨_, rfl, _, _, rfl, Or.inl (SqL.of (by assumption)), _, _, rfl, rfl, _, rfl, ?_⟩
  rw [List.length_map, List.length_map]
  refine ite3 (fun c => ?_) (fun c => ?_)
  · skip
    exact ⟨_, rfl, _, rfl, fun dx hd => bd dx (dup (.inr (by omega))) (S2 SH2) hd⟩
  refine ⟨_, rfl, ?_⟩
  refine ⟨.inl ⟨rfl, _, SqL.of hn2⟩, ?_⟩
  refine ⟨_, rfl, ?_⟩
  refine ⟨nl, _, _, rfl, rfl, hn2, ?_, ?_⟩
  · rw [List.length_map, List.length_map]
    exact Nat.lt_of_le_of_lt few (by decide)
  have en3 : nmL ns ++ [V.str (mkS n)] = nmL (ns ++ [n]) := by unfold nmL; rw [List.map_append, List.map_append]; rfl
  rw [en3]
  have hs3 : upd H2 nl (.lst (nmL (ns ++ [n]))) sl = _ := (upd_ne o.ne.symm).trans hs2
  have ht3 : upd H2 nl (.lst (nmL (ns ++ [n]))) t = _ := (upd_ne (ne_of ht2 hn2 (by intro z; cases z))).trans ht2
  have hn3 : upd H2 nl (.lst (nmL (ns ++ [n]))) nl = _ := upd_same
  have T3 : Two H (upd H2 nl (.lst (nmL (ns ++ [n])))) nl sl := fun x u hx h1 _ => (upd_ne h1).trans (SH2 _ _ hx)
  generalize upd H2 nl (.lst (nmL (ns ++ [n]))) = H3 at *
  refine ⟨_, rfl, ?_⟩
  refine ⟨.inl ⟨rfl, _, SqL.of hs3⟩, ?_⟩
  refine ⟨_, rfl, _, _, _, _, rfl, rfl, Or.inr (SqT.of (by assumption)), rfl, _, rfl, _, rfl, ?_⟩
  refine ⟨_, rfl, ?_, ?_⟩
  · rw [← cd_len, cd_mk]
    exact Nat.le_trans lr big
  obtain ⟨d, er⟩ : ∃ d, r = d ++ [41] := by
    rcases List.eq_nil_or_concat r with z | ⟨d, c, z⟩
    · rw [z] at hl; cases hl
    · rw [List.concat_eq_append] at z
      rw [z, List.getLast?_append] at hl
      have : c = 41 := by simpa using hl
      exact ⟨d, by rw [z, this]⟩
  have ed : r.dropLast = d := by rw [er]; simp
  have esl : Txt.slice (mkS r) none (some (-1)) = mkS d := slice_init (c := 41) (by rw [cd_mk]; exact er)
  rw [esl]
  rw [ed] at lab'
  refine ⟨_, rfl, ?_⟩
  refine ⟨mkS d, 300, at_, rfl, by rw [cd_mk]; exact fun c hc => ra c (by rw [er]; simp [hc]), ?_, by decide, fun m hm' H4 S4 => ?_, fun hno dx H4 S4 hdx => ?_⟩
  · rw [← cd_len, cd_mk]
    rw [er, List.length_append] at lr
    omega
  · rw [cd_mk] at hm'
    have hs4 := S4 _ _ hs3
    refine ⟨sl, _, _, rfl, rfl, hs4, ?_, ?_⟩
    · rw [List.length_map]
      exact Nat.lt_of_le_of_lt fs (by decide)
    refine good (n, m) ?_ _ ?_ ?_ fun x u hx h1 h2 => ?_
    · unfold labN
      rw [lab', hm']
      exact if_neg fun z => z.elim hm fun z => c (by omega)
    · rw [upd_ne o.ne]
      exact S4 _ _ hn3
    · rw [upd_same, List.map_append]
      rfl
    · rw [upd_ne h2]
      exact S4 _ _ (T3 x u hx h1 h2)
  · rw [cd_mk] at hno
    refine bad (labN_bad (by rw [lab', hno]; rfl)) dx H4 (fun x u hx h1 h2 => S4 _ _ (T3 x u hx h1 h2)) hdx
end
end K5
namespace SW
open PySem L2
def tabF (a1 a2 a3 a4 a5 : Addr) : List (Str × V) := [("places", .ref a1), ("parties", .ref a2), ("rows", .ref a3), ("columns", .ref a4), ("votes", .ref a5)]
end SW
namespace K5
open PySem L2 SW
section
variable {P : Program} {w : World} {K : PySem.W.Frag} {mg : Str → Option Value} {base : Heap}
def spTabInit (cT : Addr) : Sp := fun vs H Q _ => ∃ (p dx a1 a2 a3 a4 a5 : Addr), vs = [.ref p, .ref a1, .ref a2, .ref a3, .ref a4, .ref a5] ∧ H p = some (.ins cT dx []) ∧
  ∀ H' : Hp, (∀ x o, H x = some o → x ≠ p → H' x = some o) → H' p = some (.ins cT dx (tabF a1 a2 a3 a4 a5)) → (∀ x, H x = none → H' x = none) → Q .non H'
theorem ok_Table_init (T : Txt K mg) : FnOk P w K mg base CX0 1 T.a_Table_init T.fd_Table_init ["self", "places", "parties", "rows", "columns", "votes"] (spTabInit T.c_Table) := by
  refine T.F_Table_init.ok sc_Table_init (fun vs H Q E h => ?_) (fun cdv A outer s H vs Q E hr h => ?_)
  · obtain ⟨p, dx, a1, a2, a3, a4, a5, rfl, _⟩ := h
    rfl
  obtain ⟨p, dx, a1, a2, a3, a4, a5, rfl, hp, q⟩ := h
  refine ⟨_, (pss_cons (ps_fld (pv 0) (pv 1) rfl)
      (pss_cons (ps_fld (pv 0) (pv 2) rfl)
      (pss_cons (ps_fld (pv 0) (pv 3) rfl)
      (pss_cons (ps_fld (pv 0) (pv 4) rfl)
      (pss_one (ps_fld (pv 0) (pv 5) rfl)))))), ?_⟩
  refine ⟨_, rfl, _, rfl, ?_⟩
  refine ⟨p, T.c_Table, dx, _, rfl, hp, T.cl_Table, T.na_Table_places, (by decide), ?_⟩
  refine ⟨_, rfl, _, rfl, ?_⟩
  refine ⟨p, T.c_Table, dx, _, rfl, upd_same, T.cl_Table, T.na_Table_parties, (by show 1 < 1000; decide), ?_⟩
  refine ⟨_, rfl, _, rfl, ?_⟩
  refine ⟨p, T.c_Table, dx, _, rfl, upd_same, T.cl_Table, T.na_Table_rows, (by show 2 < 1000; decide), ?_⟩
  refine ⟨_, rfl, _, rfl, ?_⟩
  refine ⟨p, T.c_Table, dx, _, rfl, upd_same, T.cl_Table, T.na_Table_columns, (by show 3 < 1000; decide), ?_⟩
  refine ⟨_, rfl, _, rfl, ?_⟩
  refine ⟨p, T.c_Table, dx, _, rfl, upd_same, T.cl_Table, T.na_Table_votes, (by show 4 < 1000; decide), ?_⟩
  have ne : ∀ x, H x = none → x ≠ p := fun x e z => by rw [z, hp] at e; cases e
  refine q _ (fun x o e hx => ?_) upd_same fun x e => ?_
  · rw [upd_ne hx, upd_ne hx, upd_ne hx, upd_ne hx, upd_ne hx]
    exact e
  · have hx := ne x e
    rw [upd_ne hx, upd_ne hx, upd_ne hx, upd_ne hx, upd_ne hx]
    exact e
end
end K5
namespace SW
open PySem L2
theorem cut_from {xs : List V} {k : Nat} (h : k ≤ xs.length) : cutV xs (some (k : Int)) none = xs.drop k := by
  unfold cutV
  have e1 : HT.sIx xs.length 0 (some (k : Int)) = k := by
    simp only [HT.sIx]
    split <;> omega
  have e2 : HT.sIx xs.length xs.length none = xs.length := rfl
  rw [e1, e2, List.take_of_length_le (by rw [List.length_drop]; omega)]
theorem ne_ins {H : Hp} {p q c dx : Addr} {fs : List (Str × V)} {xs : List V} (h1 : H p = some (.ins c dx fs)) (h2 : H q = some (.lst xs)) : p ≠ q := ne_of h1 h2 (by intro z; cases z)
def nI (l : List Nat) : List Int := l.map fun (z : Nat) => (z : Int)
end SW
namespace K5
open PySem L2 SW
section
variable {P : Program} {w : World} {K : PySem.W.Frag} {mg : Str → Option Value} {base : Heap}
structure TabL (cT : Addr) (H : Hp) (p dx a1 a2 a3 a4 a5 : Addr) (st : StF) : Prop where
  ob : H p = some (.ins cT dx (tabF a1 a2 a3 a4 a5))
  pl : H a1 = some (.lst (nmL (st.rs.map (·.1))))
  pa : H a2 = some (.lst (nmL (st.hd.map (·.1))))
  ro : H a3 = some (.lst ((nI (st.rs.map (·.2))).map V.int))
  co : H a4 = some (.lst ((nI (st.hd.map (·.2))).map V.int))
  vo : ∃ vs : List V, H a5 = some (.lst vs) ∧ vs.length = st.rs.length
  r12 : st.rs.length ≤ 12
  h12 : st.hd.length ≤ 12
  nd : [a1, a2, a3, a4, a5].Nodup
theorem TabL.same {cT : Addr} {H H' : Hp} {p dx a1 a2 a3 a4 a5 : Addr} {st : StF} (t : TabL cT H p dx a1 a2 a3 a4 a5 st) (S : Same H H') : TabL cT H' p dx a1 a2 a3 a4 a5 st :=
  ⟨S _ _ t.ob, S _ _ t.pl, S _ _ t.pa, S _ _ t.ro, S _ _ t.co, (let ⟨vs, e, l⟩ := t.vo; ⟨vs, S _ _ e, l⟩), t.r12, t.h12, t.nd⟩
theorem TabL.nds {cT : Addr} {H : Hp} {p dx a1 a2 a3 a4 a5 : Addr} {st : StF} (t : TabL cT H p dx a1 a2 a3 a4 a5 st) : (a1 ≠ a2 ∧ a1 ≠ a3 ∧ a1 ≠ a4 ∧ a1 ≠ a5) ∧ (a2 ≠ a3 ∧ a2 ≠ a4 ∧ a2 ≠ a5) ∧ (a3 ≠ a4 ∧ a3 ≠ a5) ∧ a4 ≠ a5 := by
  have nd := t.nd
  simp only [List.nodup_cons, List.mem_cons, List.not_mem_nil, or_false, not_or, not_false_eq_true, List.nodup_nil, and_true] at nd
  exact nd
structure WdOk (H : Hp) (wl : Addr) (ws : List (List Nat)) : Prop where
  hw : H wl = some (.lst (nmL ws))
  ne : ws ≠ []
  len : ws.length ≤ 1000000
  ok : ∀ l, l ∈ ws → l.length ≤ 1000000 ∧ ∀ c, c ∈ l → c < 128
def Five (H H' : Hp) (a b c d e : Addr) : Prop := ∀ x o, H x = some o → x ≠ a → x ≠ b → x ≠ c → x ≠ d → x ≠ e → H' x = some o
def spLine (f : StF → List (List Nat) → Option StF) (T : Txt K mg) : Sp := fun vs H Q E => ∃ (wl p dx a1 a2 a3 a4 a5 : Addr) (st : StF) (ws : List (List Nat)) (at_ : Int), vs = [.ref wl, .ref p, .int at_] ∧ WdOk H wl ws ∧ TabL T.c_Table H p dx a1 a2 a3 a4 a5 st ∧ wl ∉ [a1, a2, a3, a4, a5] ∧
  (∀ st', f st ws = some st' → ∀ H', TabL T.c_Table H' p dx a1 a2 a3 a4 a5 st' → Five H H' a1 a2 a3 a4 a5 → Q .non H') ∧
  (f st ws = none → ∀ da H', Five H H' a1 a2 a3 a4 a5 → H' da = some (.xd [("line", .int at_)]) → E (.ref T.c_BadLine) (some da) H')
def plF (st : StF) (ws : List (List Nat)) : Option StF := (placeF st.hd.length st.rs ws).map fun rs => ⟨st.hd, rs⟩
theorem nI_snoc (l : List (List Nat × Nat)) (q : List Nat × Nat) : nI ((l ++ [q]).map (·.2)) = nI (l.map (·.2)) ++ [(q.2 : Int)] := by
  unfold nI
  rw [List.map_append, List.map_append]
  rfl
theorem nI_len (l : List Nat) : (nI l).length = l.length := by unfold nI; rw [List.length_map]
theorem ok_take_place (T : Txt K mg) : FnOk P w K mg base (CX1 P w) 5 T.a_take_place T.fd_take_place ["words", "table", "at"] (spLine plF T) := by
  refine T.F_take_place.okX sc_take_place (fun vs H Q E h => ?_) (fun cdv A outer s H vs Q E hr h => ?_)
  · obtain ⟨_, _, _, _, _, _, _, _, _, _, _, rfl, _⟩ := h
    rfl
  obtain ⟨wl, p, dx, a1, a2, a3, a4, a5, st, ws, at_, rfl, o, t, nw, good, bad⟩ := h
  refine ⟨_, (pss_cons (ps_expr (pe_call (ok_take_name T) (hr.mono (by decide)) rfl T.m_take_name T.F_take_name.kp T.b_take_name .nil (passes_on (E := E) rfl rfl rfl rfl) (pa_cons (pe_ix (ix_Q K) (pv 0) pe_int (fun _ _ => rfl)) (pa_cons (pe_fldR K (pv 1) rfl) (pa_cons (pe_fldR K (pv 1) rfl) (pa_cons (pv 2) pa_nil))))))
      (pss_cons (ps_if (pt_cmpR op_neI (pe_op op_sub (pe_callB (len_Q K) (by rfl) T.n_len PySem.boot_len (pa_cons (pv 0) pa_nil)) pe_int) (pe_callB (len_Q K) (by rfl) T.n_len PySem.boot_len (pa_cons (pe_fldR K (pv 1) rfl) pa_nil)) (nomark _))
      (pss_one (ps_raiseI (E := E) PySem.F.excBase_ValueError ⟨rfl, rfl, rfl, rfl⟩ rfl rfl T.m_BadLine T.o_BadLine (ok_BadLine_init T) (hr.mono (by decide)) T.b_BadLine_init (pa_cons (pv 2) pa_nil) (fun _ _ _ _ _ z => z)))
      pss_nil)
      (pss_one (ps_expr (pe_bm PySem.F.plainAttrs_list PySem.F.slot_list_append PySem.F.type_list_append mt_append (pe_fldR K (pv 1) rfl) (pa_cons (pe_compX (E := E) [3] ⟨rfl, rfl, rfl, rfl⟩ rfl (blk_of rfl) (pi_listQ K (pe_slice (sl_Q K) (pv 0) (po_some pe_int) po_none)) (fun _ => (pg_name (i := 3) sc_take_place.nd rfl (Or.inl rfl))) (fun _ => pts_nil) (fun _ hp => (pe_call (ok_number_of T) (hr.mono (by decide)) rfl T.m_number_of T.F_number_of.kp T.b_number_of .nil hp (pa_cons (pv 3) (pa_cons (pe_glob (v := .int 1000000000) rfl T.m_MOST_VOTES ⟨T.tk_MOST_VOTES, rfl⟩) (pa_cons (pv 2) pa_nil)))))) pa_nil)))))), ?_⟩
  have big : (1000000 : Nat) ≤ sizeLine := by decide
  have hw := o.hw
  have ob := t.ob
  obtain ⟨l0, vs0, ew⟩ : ∃ l0 vs0, ws = l0 :: vs0 := by
    cases e : ws with
    | nil => exact absurd e o.ne
    | cons a b => exact ⟨a, b, rfl⟩
  subst ew
  have at0 : atI (nmL (l0 :: vs0)) 0 = some (.str (mkS l0)) := atI_of (Int.le_refl 0) rfl
  obtain ⟨⟨n12, n13, n14, n15⟩, ⟨n23, n24, n25⟩, ⟨n34, n35⟩, n45⟩ := t.nds
  simp only [List.mem_cons, List.not_mem_nil, or_false, not_or] at nw
  obtain ⟨w1, w2, w3, w4, w5⟩ := nw
  obtain ⟨z1, z2⟩ := o.ok l0 (by simp)
  have r12 := t.r12
  have bd : ∀ da {H1 : Hp}, plF st (l0 :: vs0) = none → Five H H1 a1 a2 a3 a4 a5 → H1 da = none → E (.ref T.c_BadLine) (some da) (upd H1 da (.xd [("line", .int at_)])) := fun da {H1} hb hT hd => by
    refine bad hb da _ (fun x u hx h1 h2 h3 h4 h5 => ?_) upd_same
    have := hT x u hx h1 h2 h3 h4 h5
    rw [upd_ne (ne_of_none this hd)]
    exact this
  refine ⟨_, rfl, _, _, _, _, rfl, rfl, Or.inl (SqL.of (by assumption)), by assumption, _, rfl, _, _, _, _, _, rfl, by assumption, T.cl_Table, T.na_Table_places, by rfl, _, rfl, _, _, _, _, _, rfl, by assumption, T.cl_Table, T.na_Table_rows, by rfl, _, rfl, ?_⟩
  refine ⟨mkS l0, a1, a3, st.rs.map (·.1), nI (st.rs.map (·.2)), at_, rfl, ⟨by rw [cd_mk]; exact z2, by rw [← cd_len, cd_mk]; exact z1, by rw [List.length_map]; exact r12, by rw [nI_len, List.length_map]; exact r12, t.pl, t.ro, n13⟩, fun q hq H1 h1 h3' fr1 => ?_, fun hq da H1 fr1 hd => ?_⟩
  · rw [cd_mk] at hq
    have ob1 : H1 p = _ := fr1 _ _ ob (ne_ins ob t.pl) (ne_ins ob t.ro)
    have pa1 := fr1 _ _ t.pa (Ne.symm n12) n23
    have hw1 := fr1 _ _ hw w1 w3
    have F1 : Five H H1 a1 a2 a3 a4 a5 := fun x u hx e1 _ e3 _ _ => fr1 x u hx e1 e3
    refine ⟨_, rfl, _, _, rfl, Or.inl (SqL.of (by assumption)), _, _, rfl, rfl, _, rfl, _, _, _, _, _, rfl, by assumption, T.cl_Table, T.na_Table_parties, by rfl, _, _, rfl, Or.inl (SqL.of (by assumption)), _, _, rfl, rfl, _, rfl, ?_⟩
    rw [List.length_map, List.length_map, List.length_map, List.length_map, List.length_map, List.length_cons]
    by_cases hl : vs0.length = st.hd.length
    · refine iteNT (by omega) ?_
      obtain ⟨ov, vo, lv⟩ := t.vo
      have vo1 := fr1 _ _ vo (Ne.symm n15) (Ne.symm n35)
      refine ⟨_, rfl, _, _, _, _, _, rfl, by assumption, T.cl_Table, T.na_Table_votes, by rfl, ?_⟩
      refine ⟨.inl ⟨rfl, _, SqL.of vo1⟩, ?_⟩
      refine ⟨_, rfl, _, rfl, ?_⟩
      refine ⟨wl, _, rfl, SqL.of hw1, fun l2 H2 N2 => ?_⟩
      rw [show (1 : Int) = ((1 : Nat) : Int) from rfl, cut_from (by simp)] at N2
      have hl2 : H2 l2 = some (.lst (nmL vs0)) := N2.at_
      refine ⟨l2, rfl, ⟨_, SqL.of hl2⟩, ?_⟩
      have len0 := o.len
      rw [List.length_cons] at len0
      refine comp_list (fun i ys H' => Same H2 H' ∧ ∀ (j : Nat) (v : List Nat), j < i → vs0[j]? = some v → (numP (10 ^ 9) v).isSome = true) (by rw [List.length_map, List.length_map]; omega) ⟨Same.refl _, fun j v hj => by omega⟩ (fun i ys H' _ h => h.1.seq (SqL.of hl2)) (fun i x ys H3 hx h3 => ?_) fun ys H3 h3 => ?_
      · obtain ⟨S3, h3⟩ := h3
        obtain ⟨v, rfl, ev⟩ : ∃ v, x = V.str (mkS v) ∧ vs0[i]? = some v := by
          rw [List.getElem?_map, List.getElem?_map] at hx
          cases e : vs0[i]? with
          | none => rw [e] at hx; cases hx
          | some v => rw [e] at hx; exact ⟨v, (Option.some.inj hx).symm, rfl⟩
        have hv := List.mem_of_getElem? ev
        obtain ⟨v1, v2⟩ := o.ok v (by simp [hv])
        refine yes ?_
        refine ⟨_, rfl, _, rfl, ?_⟩
        refine ⟨mkS v, 10 ^ 9, at_, rfl, by rw [cd_mk]; exact v2, by rw [← cd_len, cd_mk]; exact v1, Nat.le_refl _, fun m hm H4 S4 => ?_, fun hno da H4 S4 hd => ?_⟩
        · rw [cd_mk] at hm
          refine ⟨S3.trans S4, fun j u hj eu => ?_⟩
          by_cases hji : j = i
          · rw [hji, ev] at eu
            rw [← Option.some.inj eu, hm]
            rfl
          · exact h3 j u (by omega) eu
        · rw [cd_mk] at hno
          refine bad (by unfold plF; rw [placeF_vote hv hno]; rfl) da H4 (fun x u hx e1 e2 e3 e4 e5 => S4 _ _ (S3 _ _ (N2.same _ _ (F1 x u hx e1 e2 e3 e4 e5)))) hd
      · obtain ⟨S3, h3⟩ := h3
        intro b H4 N4
        have S14 := N2.same.trans (S3.trans N4.same)
        have vo4 := S14 _ _ vo1
        refine ⟨a5, _, _, rfl, rfl, vo4, ?_, ?_⟩
        · rw [lv]
          exact Nat.lt_of_le_of_lt r12 (by decide)
        have hall : (vs0.all fun v => (numP (10 ^ 9) v).isSome) = true := List.all_eq_true.mpr fun v hv => by
          obtain ⟨j, hj, ej⟩ := List.getElem_of_mem hv
          exact h3 j v (by rw [List.length_map, List.length_map]; exact hj) (by rw [List.getElem?_eq_getElem hj, ej])
        have hF : plF st (l0 :: vs0) = some ⟨st.hd, st.rs ++ [q]⟩ := by
          unfold plF
          rw [placeF, hq]
          dsimp only
          rw [if_pos ⟨hl, hall⟩]
          rfl
        have few : st.rs.length ≠ 12 := fun z => by
          unfold labN at hq
          rw [List.length_map] at hq
          cases e : labP l0 with
          | none => rw [e] at hq; cases hq
          | some p' => rw [e] at hq; dsimp only at hq; rw [if_pos (.inr z)] at hq; cases hq
        refine good _ hF _ ⟨?_, ?_, ?_, ?_, ?_, ⟨_, upd_same, ?_⟩, ?_, t.h12, t.nd⟩ fun x u hx e1 e2 e3 e4 e5 => ?_
        · rw [upd_ne (ne_ins ob vo)]; exact S14 _ _ ob1
        · rw [upd_ne n15, S14 _ _ h1, List.map_append]; rfl
        · rw [upd_ne n25]; exact S14 _ _ pa1
        · rw [upd_ne n35, S14 _ _ h3', nI_snoc]
        · rw [upd_ne n45]; exact S14 _ _ (fr1 _ _ t.co (Ne.symm n14) (Ne.symm n34))
        · rw [List.length_append, lv, List.length_append]; rfl
        · show (st.rs ++ [q]).length ≤ 12
          rw [List.length_append]
          show st.rs.length + 1 ≤ 12
          omega
        · rw [upd_ne e5]
          exact S14 _ _ (fr1 x u hx e1 e3)
    · refine iteNF (by omega) ?_
      exact ⟨_, rfl, _, rfl, fun da hd => bd da (by unfold plF; rw [placeF_count hl]; rfl) F1 hd⟩
  · rw [cd_mk] at hq
    exact bad (by unfold plF; rw [placeF_lab hq]; rfl) da H1 (fun x u hx e1 _ e3 _ _ => fr1 x u hx e1 e3) hd
end
end K5
namespace K5
open PySem L2 SW
section
variable {P : Program} {w : World} {K : PySem.W.Frag} {mg : Str → Option Value} {base : Heap}
theorem lineF_place {st : StF} {ws : List (List Nat)} (h : ws ≠ []) (h1 : st.hd ≠ []) : lineF st ws = plF st ws := by
  unfold lineF plF
  rw [if_neg h, if_neg h1]
theorem lineF_head {st : StF} {ws : List (List Nat)} (h : ws ≠ []) (h1 : st.hd = []) : lineF st ws = (headF [] ws).map fun hd => ⟨hd, st.rs⟩ := by
  unfold lineF
  rw [if_neg h, if_pos h1]
theorem ok_take_line (T : Txt K mg) : FnOk P w K mg base (CX1 P w) 6 T.a_take_line T.fd_take_line ["words", "table", "at"] (spLine lineF T) := by
  refine T.F_take_line.okX sc_take_line (fun vs H Q E h => ?_) (fun cdv A outer s H vs Q E hr h => ?_)
  · obtain ⟨_, _, _, _, _, _, _, _, _, _, _, rfl, _⟩ := h
    rfl
  obtain ⟨wl, p, dx, a1, a2, a3, a4, a5, st, ws, at_, rfl, o, t, nw, good, bad⟩ := h
  refine ⟨_, (pss_one (ps_if (pt_cmpR op_gt (pe_callB (len_Q K) (by rfl) T.n_len PySem.boot_len (pa_cons (pe_fldR K (pv 1) rfl) pa_nil)) pe_int (nomark _))
      (pss_one (ps_expr (pe_call (ok_take_place T) (hr.mono (by decide)) rfl T.m_take_place T.F_take_place.kp T.b_take_place .nil (passes_on (E := E) rfl rfl rfl rfl) (pa_cons (pv 0) (pa_cons (pv 1) (pa_cons (pv 2) pa_nil))))))
      (pss_one (ps_for PassesOwn.leaving rfl (pi_listQ K (pv 0)) (pg_name (i := 3) sc_take_line.nd rfl (Or.inl rfl))
      (pss_one (ps_expr (pe_call (ok_take_name T) (hr.mono (by decide)) rfl T.m_take_name T.F_take_name.kp T.b_take_name .nil (passes_on (E := E) rfl rfl rfl rfl) (pa_cons (pv 3) (pa_cons (pe_fldR K (pv 1) rfl) (pa_cons (pe_fldR K (pv 1) rfl) (pa_cons (pv 2) pa_nil))))))))))), ?_⟩
  have ob := t.ob
  have pa := t.pa
  have hw := o.hw
  refine ⟨_, rfl, _, _, _, _, _, rfl, by assumption, T.cl_Table, T.na_Table_parties, by rfl, _, _, rfl, Or.inl (SqL.of (by assumption)), _, _, rfl, rfl, _, rfl, ?_⟩
  rw [List.length_map, List.length_map, List.length_map]
  by_cases hh : st.hd = []
  · refine iteDF (by rw [hh]; decide) ?_
    rw [lineF_head o.ne hh] at good bad
    obtain ⟨⟨n12, n13, n14, n15⟩, ⟨n23, n24, n25⟩, ⟨n34, n35⟩, n45⟩ := t.nds
    have nw' := nw
    simp only [List.mem_cons, List.not_mem_nil, or_false, not_or] at nw'
    obtain ⟨w1, w2, w3, w4, w5⟩ := nw'
    refine ⟨_, rfl, ?_⟩
    refine ⟨wl, rfl, ⟨_, SqL.of hw⟩, ?_⟩
    refine for_list (K := K) (xs := nmL ws) (fun i σ H' => (∃ hd, headF hd (ws.drop i) = headF [] ws ∧ TabL T.c_Table H' p dx a1 a2 a3 a4 a5 ⟨hd, st.rs⟩) ∧ Two H H' a2 a4 ∧ ∃ v3, σ = [some (.ref wl), some (.ref p), some (.int at_), v3]) ⟨⟨[], by rw [List.drop_zero], by rw [← hh]; exact t⟩, fun x o e _ _ => e, _, rfl⟩ (fun i σ H' _ h => SqL.of (h.2.1 _ _ hw w2 w4)) ?_ ?_
    · rintro i x σ H2 hx ⟨⟨hd, eh, t2⟩, fr2, v3, rfl⟩
      obtain ⟨l, rfl, el⟩ : ∃ l, x = V.str (mkS l) ∧ ws[i]? = some l := by
        rw [List.getElem?_map, List.getElem?_map] at hx
        cases e : ws[i]? with
        | none => rw [e] at hx; cases hx
        | some l => rw [e] at hx; exact ⟨l, (Option.some.inj hx).symm, rfl⟩
      obtain ⟨z1, z2⟩ := o.ok l (List.mem_of_getElem? el)
      have hi : i < ws.length := (List.getElem?_eq_some_iff.mp el).1
      have ed : ws.drop i = l :: ws.drop (i + 1) := by
        rw [List.drop_eq_getElem_cons hi]
        rw [List.getElem?_eq_getElem hi] at el
        rw [Option.some.inj el]
      rw [ed, headF] at eh
      have ob2 := t2.ob
      have h12 : hd.length ≤ 12 := t2.h12
      refine ⟨_, rfl, _, rfl, _, _, _, _, _, rfl, by assumption, T.cl_Table, T.na_Table_parties, by rfl, _, rfl, _, _, _, _, _, rfl, by assumption, T.cl_Table, T.na_Table_columns, by rfl, _, rfl, ?_⟩
      refine ⟨mkS l, a2, a4, hd.map (·.1), nI (hd.map (·.2)), at_, rfl, ⟨by rw [cd_mk]; exact z2, by rw [← cd_len, cd_mk]; exact z1, by rw [List.length_map]; exact h12, by rw [nI_len, List.length_map]; exact h12, t2.pa, t2.co, n24⟩, fun q hq H3 h2 h4 fr3 => ?_, fun hq da H3 fr3 hd' => ?_⟩
      · rw [cd_mk] at hq
        rw [hq] at eh
        have few : hd.length ≠ 12 := fun z => by
          unfold labN at hq
          rw [List.length_map] at hq
          cases e : labP l with
          | none => rw [e] at hq; cases hq
          | some p' => rw [e] at hq; dsimp only at hq; rw [if_pos (.inr z)] at hq; cases hq
        obtain ⟨ov, vo, lv⟩ := t2.vo
        refine ⟨⟨hd ++ [q], eh, ⟨fr3 _ _ ob2 (ne_ins ob2 t2.pa) (ne_ins ob2 t2.co), fr3 _ _ t2.pl n12 n14, ?_, fr3 _ _ t2.ro (Ne.symm n23) n34, ?_, ⟨ov, fr3 _ _ vo (Ne.symm n25) (Ne.symm n45), lv⟩, t2.r12, ?_, t2.nd⟩⟩, fun x u hx e1 e2 => fr3 _ _ (fr2 x u hx e1 e2) e1 e2, _, rfl⟩
        · rw [h2, List.map_append]; rfl
        · rw [h4, nI_snoc]
        · show (hd ++ [q]).length ≤ 12
          rw [List.length_append]
          show hd.length + 1 ≤ 12
          omega
      · rw [cd_mk] at hq
        rw [hq] at eh
        exact bad (by rw [← eh]; rfl) da H3 (fun x u hx _ e2 _ e4 _ => fr3 _ _ (fr2 x u hx e2 e4) e2 e4) hd'
    · rintro σ H2 ⟨⟨hd, eh, t2⟩, fr2, v3, rfl⟩
      rw [List.length_map, List.length_map, List.drop_length, headF] at eh
      exact good ⟨hd, st.rs⟩ (by rw [← eh]; rfl) H2 t2 fun x u hx _ e2 _ e4 _ => fr2 x u hx e2 e4
  · have : 0 < st.hd.length := List.length_pos_iff.mpr hh
    refine iteDT (by omega) ?_
    rw [lineF_place o.ne hh] at good bad
    refine ⟨_, rfl, _, rfl, _, rfl, ?_⟩
    exact ⟨wl, p, dx, a1, a2, a3, a4, a5, st, ws, at_, rfl, o, t, nw, good, bad⟩
end
end K5
namespace K5
open PySem L2 SW
section
variable {P : Program} {w : World} {K : PySem.W.Frag} {mg : Str → Option Value} {base : Heap}
def lin (L : List Str) : Str := mkS (J 32 (L.map cd))
def wordsF (Ls : List (List Str)) : List (List (List Nat)) := Ls.map fun L => (noE L).map cd
structure RdT (a : Str) (Ls : List (List Str)) : Prop where
  e : cd a = J 10 ((Ls.map lin).map cd)
  ne : Ls ≠ []
  nl : ∀ L, L ∈ Ls → L ≠ []
  f32 : ∀ L, L ∈ Ls → ∀ z, z ∈ L → 32 ∉ cd z
  f10 : ∀ L, L ∈ Ls → 10 ∉ cd (lin L)
  sz : a.length + 2 ≤ 1000000
  sl : ∀ L, L ∈ Ls → (lin L).length + 2 ≤ 1000000 ∧ L.length ≤ 1000000
  sn : Ls.length ≤ 1000000
  wz : ∀ L, L ∈ Ls → ∀ z, z ∈ L → z.length ≤ 1000000 ∧ ∀ c, c ∈ cd z → c < 128
def spRead (T : Txt K mg) : Sp := fun vs H Q E => ∃ (a : Str) (Ls : List (List Str)), vs = [.str a] ∧ RdT a Ls ∧
  (∀ k, runL (wordsF Ls) = .error k → BadE T E H (k : Int)) ∧
  (∀ st, runL (wordsF Ls) = .ok st → resF (.ok st) = -1 → ∀ H', Same H H' → E (.ref T.c_NoTable) none H') ∧
  (∀ st, runL (wordsF Ls) = .ok st → resF (.ok st) = -2 → ∀ v H', Same H H' → Q v H')
theorem resF_no {st : StF} (h : st.rs = [] ∨ sumF st.rs ≠ sumF st.hd ∨ 300 < sumF st.rs) : resF (.ok st) = -1 := if_pos h
theorem resF_yes {st : StF} (h1 : st.rs ≠ []) (h2 : sumF st.rs = sumF st.hd) (h3 : sumF st.rs ≤ 300) : resF (.ok st) = -2 := if_neg fun z => by
  rcases z with z | z | z
  · exact h1 z
  · exact z h2
  · omega
theorem nI_sum : ∀ l : List Nat, (nI l).sum = (l.sum : Nat)
  | [] => rfl
  | a :: l => by
    show (a : Int) + (nI l).sum = ((a + l.sum : Nat) : Int)
    rw [nI_sum l]
    omega
theorem ok_read (T : Txt K mg) : FnOk P w K mg base (CX1 P w) 7 T.a_read T.fd_read ["text"] (spRead T) := by
  refine T.F_read.okX sc_read (fun vs H Q E h => ?_) (fun cdv A outer s H vs Q E hr h => ?_)
  · obtain ⟨a, Ls, rfl, _⟩ := h
    rfl
  obtain ⟨a, Ls, rfl, o, badl, badt, good⟩ := h
  refine ⟨_, (pss_cons (ps_set (i := 1) sc_read.nd rfl (Or.inl rfl) (pe_make T.M_Table (ok_Table_init T) (hr.mono (by decide)) rfl T.m_Table T.b_Table_init .nil pass0 (pa_cons (pe_lstA pa_nil) (pa_cons (pe_lstA pa_nil) (pa_cons (pe_lstA pa_nil) (pa_cons (pe_lstA pa_nil) (pa_cons (pe_lstA pa_nil) pa_nil)))))))
      (pss_cons (ps_set (i := 2) sc_read.nd rfl (Or.inl rfl) (pe_bm PySem.F.plainAttrs_str PySem.F.slot_str_split PySem.F.type_str_split mt_split (pv 0) (pa_cons pe_str pa_nil)))
      (pss_cons (ps_for PassesOwn.leaving rfl (pi_range1 rfl T.n_range (pa_cons (pe_callB (len_Q K) (by rfl) T.n_len PySem.boot_len (pa_cons (pv 2) pa_nil)) pa_nil)) (pg_name (i := 3) sc_read.nd rfl (Or.inl rfl))
      (pss_cons (ps_set (i := 4) sc_read.nd rfl (Or.inl rfl) (pe_call (ok_words_of T) (hr.mono (by decide)) rfl T.m_words_of T.F_words_of.kp T.b_words_of .nil pass0 (pa_cons (pe_ix (ix_Q K) (pv 2) (pv 3) (fun _ _ => rfl)) pa_nil)))
      (pss_one (ps_if (pt_cmpR op_gt (pe_callB (len_Q K) (by rfl) T.n_len PySem.boot_len (pa_cons (pv 4) pa_nil)) pe_int (nomark _))
      (pss_one (ps_expr (pe_call (ok_take_line T) (hr.mono (by decide)) rfl T.m_take_line T.F_take_line.kp T.b_take_line .nil (passes_on (E := E) rfl rfl rfl rfl) (pa_cons (pv 4) (pa_cons (pv 1) (pa_cons (pv 3) pa_nil))))))
      pss_nil))))
      (pss_cons (ps_if (pt_cmpR op_eqI (pe_callB (len_Q K) (by rfl) T.n_len PySem.boot_len (pa_cons (pe_fldR K (pv 1) rfl) pa_nil)) pe_int (nomark _))
      (pss_one (ps_raise (E := E) PySem.F.excBase_ValueError ⟨rfl, rfl, rfl, rfl⟩ rfl rfl T.m_NoTable T.x_NoTable (pa_cons pe_str pa_nil)))
      pss_nil)
      (pss_cons (ps_if (PW.pt (pw_or (pt_cmpR op_neI (pe_callB (sum_Q K rfl) (by rfl) T.n_sum PyProof.Rows.boot_sum (pa_cons (pe_fldR K (pv 1) rfl) pa_nil)) (pe_callB (sum_Q K rfl) (by rfl) T.n_sum PyProof.Rows.boot_sum (pa_cons (pe_fldR K (pv 1) rfl) pa_nil)) (nomark _)) (pw_or1 (pt_cmpR op_gt (pe_callB (sum_Q K rfl) (by rfl) T.n_sum PyProof.Rows.boot_sum (pa_cons (pe_fldR K (pv 1) rfl) pa_nil)) (pe_glob (v := .int 300) rfl T.m_MOST_SEATS ⟨T.tk_MOST_SEATS, rfl⟩) (nomark _)))))
      (pss_one (ps_raise (E := E) PySem.F.excBase_ValueError ⟨rfl, rfl, rfl, rfl⟩ rfl rfl T.m_NoTable T.x_NoTable (pa_cons pe_str pa_nil)))
      pss_nil)
      (pss_one (ps_ret (pv 1)))))))), ?_⟩
  have big : (1000000 : Nat) ≤ sizeLine := by decide
  refine ⟨Nat.zero_le _, fun a1 H1 N1 => ?_⟩
  refine ⟨Nat.zero_le _, fun a2 H2 N2 => ?_⟩
  refine ⟨Nat.zero_le _, fun a3 H3 N3 => ?_⟩
  refine ⟨Nat.zero_le _, fun a4 H4 N4 => ?_⟩
  refine ⟨Nat.zero_le _, fun a5 H5 N5 => ?_⟩
  intro p dx np ndx nepd
  have up : ∀ x o, H5 x = some o → upd (upd H5 dx (.own p)) p (.ins T.c_Table dx []) x = some o := fun x o e => by rw [upd_ne (ne_of_none e np), upd_ne (ne_of_none e ndx)]; exact e
  refine ⟨p, dx, a1, a2, a3, a4, a5, rfl, upd_same, fun H6 fr6 ob6 no6 => ⟨rfl, ?_⟩⟩
  have S56 : Same H5 H6 := fun x o e => fr6 x o (up x o e) (ne_of_none e np)
  have S06 := N1.same.trans (N2.same.trans (N3.same.trans (N4.same.trans (N5.same.trans S56))))
  have na1 : H a1 = none := N1.gone
  have na2 : H a2 = none := N1.same.free N2.gone
  have na3 : H a3 = none := (N1.same.trans N2.same).free N3.gone
  have na4 : H a4 = none := (N1.same.trans (N2.same.trans N3.same)).free N4.gone
  have na5 : H a5 = none := (N1.same.trans (N2.same.trans (N3.same.trans N4.same))).free N5.gone
  have e12 : a1 ≠ a2 := ne_of_none N1.at_ N2.gone
  have e13 : a1 ≠ a3 := ne_of_none (N2.same _ _ N1.at_) N3.gone
  have e14 : a1 ≠ a4 := ne_of_none ((N2.same.trans N3.same) _ _ N1.at_) N4.gone
  have e15 : a1 ≠ a5 := ne_of_none ((N2.same.trans (N3.same.trans N4.same)) _ _ N1.at_) N5.gone
  have e23 : a2 ≠ a3 := ne_of_none N2.at_ N3.gone
  have e24 : a2 ≠ a4 := ne_of_none (N3.same _ _ N2.at_) N4.gone
  have e25 : a2 ≠ a5 := ne_of_none ((N3.same.trans N4.same) _ _ N2.at_) N5.gone
  have e34 : a3 ≠ a4 := ne_of_none N3.at_ N4.gone
  have e35 : a3 ≠ a5 := ne_of_none (N4.same _ _ N3.at_) N5.gone
  have e45 : a4 ≠ a5 := ne_of_none N4.at_ N5.gone
  have t6 : TabL T.c_Table H6 p dx a1 a2 a3 a4 a5 ⟨[], []⟩ := ⟨ob6, (N2.same.trans (N3.same.trans (N4.same.trans (N5.same.trans S56)))) _ _ N1.at_, (N3.same.trans (N4.same.trans (N5.same.trans S56))) _ _ N2.at_, (N4.same.trans (N5.same.trans S56)) _ _ N3.at_, (N5.same.trans S56) _ _ N4.at_, ⟨[], S56 _ _ N5.at_, rfl⟩, Nat.zero_le _, Nat.zero_le _, by simp [e12, e13, e14, e15, e23, e24, e25, e34, e35, e45]⟩
  refine ⟨_, rfl, rfl, ?_⟩
  refine ⟨a, _, rfl, rfl, by decide, Nat.le_trans o.sz big, fun ll H7 N7 => ?_⟩
  have es : Txt.split a (Str.ofString "\n") = Ls.map lin := split_of (c := 10) (by simp [o.ne]) (fun z hz => by
    obtain ⟨L, hL, rfl⟩ := List.mem_map.mp hz
    exact o.f10 L hL) o.e
  rw [es] at N7
  have hll := N7.at_
  have nll : ll ∉ [a1, a2, a3, a4, a5] := fun z => by
    have : ∀ y, y ∈ [a1, a2, a3, a4, a5] → H6 y ≠ none := fun y hy => by
      simp only [List.mem_cons, List.not_mem_nil, or_false] at hy
      rcases hy with rfl | rfl | rfl | rfl | rfl
      · rw [t6.pl]; intro q; cases q
      · rw [t6.pa]; intro q; cases q
      · rw [t6.ro]; intro q; cases q
      · rw [t6.co]; intro q; cases q
      · obtain ⟨vs, e, _⟩ := t6.vo; rw [e]; intro q; cases q
    exact this ll z N7.gone
  simp only [List.mem_cons, List.not_mem_nil, or_false, not_or] at nll
  obtain ⟨l1, l2, l3, l4, l5⟩ := nll
  have five : ∀ {H' H'' : Hp}, Same H H' → Five H' H'' a1 a2 a3 a4 a5 → Same H H'' := fun S F x u hx => F x u (S x u hx) (ne_of_none hx na1) (ne_of_none hx na2) (ne_of_none hx na3) (ne_of_none hx na4) (ne_of_none hx na5)
  refine ⟨_, rfl, _, _, rfl, Or.inl (SqL.of (by assumption)), ?_⟩
  rw [List.length_map, List.length_map]
  have sn := o.sn
  refine ⟨_, rfl, by omega, by omega, ?_⟩
  rw [Int.toNat_natCast]
  refine for_range (fun i σ H' => Same H H' ∧ H' ll = some (.lst ((Ls.map lin).map V.str)) ∧ (∃ st, runL ((wordsF Ls).take i) = .ok st ∧ TabL T.c_Table H' p dx a1 a2 a3 a4 a5 st) ∧ ∃ v3 v4, σ = [some (.str a), some (.ref p), some (.ref ll), v3, v4]) ⟨S06.trans N7.same, hll, ⟨_, rfl, t6.same N7.same⟩, _, _, rfl⟩ ?_ ?_
  · rintro i σ H8 hi ⟨S8, hll8, ⟨st, er, t8⟩, v3, v4, rfl⟩
    rw [show (0 : Int) + (i : Int) = (i : Int) by omega]
    obtain ⟨L, eL, hL⟩ : ∃ L, Ls[i]? = some L ∧ L ∈ Ls := ⟨Ls[i], List.getElem?_eq_getElem hi, List.getElem_mem hi⟩
    have atL : atI ((Ls.map lin).map V.str) (i : Int) = some (.str (lin L)) := atI_of (by omega) (by rw [Int.toNat_natCast, List.getElem?_map, List.getElem?_map, eL]; rfl)
    have eW : (wordsF Ls)[i]? = some ((noE L).map cd) := by unfold wordsF; rw [List.getElem?_map, eL]; rfl
    have lW : ((wordsF Ls).take i).length = i := by unfold wordsF; rw [List.length_take, List.length_map]; omega
    have step : runL ((wordsF Ls).take (i + 1)) = match lineF st ((noE L).map cd) with
        | some s => .ok s
        | none => .error i := by
      rw [List.take_add_one, eW]
      show runL ((wordsF Ls).take i ++ [(noE L).map cd]) = _
      rw [runL_snoc, er]
      dsimp only
      rw [lW]
      first | done | (cases lineF st ((noE L).map cd) <;> rfl)
    have whole : ∀ k, runL ((wordsF Ls).take (i + 1)) = .error k → runL (wordsF Ls) = .error k := fun k hk => by
      have := runL_app_bad hk ((wordsF Ls).drop (i + 1))
      rw [List.take_append_drop] at this
      exact this
    obtain ⟨s1, s2⟩ := o.sl L hL
    refine ⟨_, rfl, _, rfl, _, _, _, _, rfl, rfl, Or.inl (SqL.of (by assumption)), by assumption, ?_⟩
    refine ⟨lin L, L, rfl, Nat.le_trans s1 big, o.nl L hL, o.f32 L hL, cd_mk _, Nat.le_trans s2 big, fun wl H9 S9 nwl hwl => ?_⟩
    have t9 := t8.same S9
    have S09 := S8.trans S9
    have hll9 := S9 _ _ hll8
    refine ⟨_, rfl, _, _, rfl, Or.inl (SqL.of (by assumption)), _, _, rfl, rfl, _, rfl, ?_⟩
    rw [List.length_map]
    by_cases hw : noE L = []
    · refine iteDF (by rw [hw]; decide) ?_
      refine ⟨S09, hll9, ⟨st, ?_, t9⟩, _, _, rfl⟩
      rw [step, hw]
      rfl
    have pos : 0 < (noE L).length := List.length_pos_iff.mpr hw
    refine iteDT (by omega) ?_
    have ew : nmL ((noE L).map cd) = (noE L).map V.str := by
      unfold nmL
      rw [List.map_map, List.map_map]
      refine List.map_congr_left fun z _ => ?_
      show V.str (mkS (cd z)) = V.str z
      rw [mk_cd]
    have wok : WdOk H9 wl ((noE L).map cd) := by
      refine ⟨by rw [ew]; exact hwl, by simp [hw], ?_, fun l hl => ?_⟩
      · rw [List.length_map]
        have : (noE L).length ≤ L.length := List.length_filter_le _ _
        omega
      · obtain ⟨z, hz, rfl⟩ := List.mem_map.mp hl
        obtain ⟨q1, q2⟩ := o.wz L hL z (List.mem_filter.mp hz).1
        exact ⟨by rw [cd_len]; exact q1, q2⟩
    have nw : wl ∉ [a1, a2, a3, a4, a5] := by
      simp only [List.mem_cons, List.not_mem_nil, or_false, not_or]
      obtain ⟨vs, ev, _⟩ := t8.vo
      exact ⟨Ne.symm (ne_of_none t8.pl nwl), Ne.symm (ne_of_none t8.pa nwl), Ne.symm (ne_of_none t8.ro nwl), Ne.symm (ne_of_none t8.co nwl), Ne.symm (ne_of_none ev nwl)⟩
    refine ⟨_, rfl, _, rfl, _, rfl, ?_⟩
    refine ⟨wl, p, dx, a1, a2, a3, a4, a5, st, (noE L).map cd, (i : Int), rfl, wok, t9, nw, fun st' hst H10 t10 F10 => ?_, fun hno da H10 F10 hd => ?_⟩
    · refine ⟨five S09 F10, F10 _ _ hll9 l1 l2 l3 l4 l5, ⟨st', ?_, t10⟩, _, _, rfl⟩
      rw [step, hst]
    · exact badl i (whole i (by rw [step, hno])) da H10 (five S09 F10) hd
  rintro σ H8 ⟨S8, hll8, ⟨st, er, t8⟩, v3, v4, rfl⟩
  rw [List.take_of_length_le (by unfold wordsF; rw [List.length_map]; exact Nat.le_refl _)] at er
  have ob8 := t8.ob
  have pl8 := t8.pl
  have ro8 := t8.ro
  have co8 := t8.co
  have sr : (nI (st.rs.map (·.2))).sum = (sumF st.rs : Int) := nI_sum _
  have sh : (nI (st.hd.map (·.2))).sum = (sumF st.hd : Int) := nI_sum _
  refine ⟨_, rfl, _, _, _, _, _, rfl, by assumption, T.cl_Table, T.na_Table_places, by rfl, _, _, rfl, Or.inl (SqL.of (by assumption)), _, _, rfl, rfl, _, rfl, ?_⟩
  rw [List.length_map, List.length_map, List.length_map]
  refine ite3 (fun c => ?_) (fun c => ?_)
  · have hr : st.rs = [] := List.length_eq_zero_iff.mp (by omega)
    exact ⟨(by show 1 ≤ 1000; decide), badt st er (resF_no (.inl hr)) H8 S8⟩
  have hr : st.rs ≠ [] := fun z => c (by rw [z]; rfl)
  refine ⟨_, rfl, _, _, _, _, _, rfl, by assumption, T.cl_Table, T.na_Table_rows, by rfl, _, _, rfl, SqL.of (by assumption), _, rfl, _, _, _, _, _, rfl, by assumption, T.cl_Table, T.na_Table_columns, by rfl, _, _, rfl, SqL.of (by assumption), _, _, rfl, rfl, _, rfl, ?_⟩
  rw [sr, sh]
  by_cases hs : sumF st.rs = sumF st.hd
  · refine iteNT (by omega) ?_
    refine ⟨_, rfl, _, _, _, _, _, rfl, by assumption, T.cl_Table, T.na_Table_rows, by rfl, _, _, rfl, SqL.of (by assumption), _, _, rfl, rfl, _, rfl, ?_⟩
    rw [sr]
    refine ite3 (fun d => ?_) (fun d => ?_)
    · skip
      exact ⟨(by show 1 ≤ 1000; decide), badt st er (resF_no (.inr (.inr (by omega)))) H8 S8⟩
    · refine ⟨_, rfl, ?_⟩
      exact good st er (resF_yes hr hs (by omega)) _ H8 S8
  · refine iteNF (by omega) ?_
    exact ⟨(by show 1 ≤ 1000; decide), badt st er (resF_no (.inr (.inl hs))) H8 S8⟩
end
end K5
namespace L2
open PySem PySem.Spec PyProof.Rows
section
variable {X : Cx} (K : PySem.W.Frag)
theorem pe_isOQ {e : Expr} {te : TE} {T : Str} {D : Addr} {p p2 pos : Pos} (hg : Gl X "isinstance") (hm : X.mg "isinstance" = none) (hgT : Gl X T) (hmT : X.mg T = some (.ref D)) (he : PE X e te)
    (hd : (T == ("__debug__" : Str)) = false := by decide)
    (s1 : starEach [e, .Name T p2] X.env = (false, eval e X.env) :: starEach [.Name T p2] X.env := by rfl) (hpl : (backTo pos (starEach [.Name T p2] X.env)).any (·.1) = false := by rfl) (h : X.K = K := by rfl) :
    PE X (.Call (.Name "isinstance" p) [e, .Name T p2] [] pos) (tCB (rIsO K (.ref D) (.ref D)) (tCons te (tCons (tC (.ref D)) tNil))) := by subst h; exact pe_isO hg hm hgT hmT he hd s1 hpl
theorem pe_isOTQ {e : Expr} {te : TE} {T : Str} {n : String} {p p2 pos : Pos} (hg : Gl X "isinstance") (hm : X.mg "isinstance" = none) (hgT : Gl X T) (hmT : X.mg T = none) (hvT : bootBuiltins T = some (.type n)) (he : PE X e te)
    (hn : T ≠ "__name__" := by decide) (hd : (T == ("__debug__" : Str)) = false := by decide)
    (s1 : starEach [e, .Name T p2] X.env = (false, eval e X.env) :: starEach [.Name T p2] X.env := by rfl) (hpl : (backTo pos (starEach [.Name T p2] X.env)).any (·.1) = false := by rfl) (h : X.K = K := by rfl) :
    PE X (.Call (.Name "isinstance" p) [e, .Name T p2] [] pos) (tCB (rIsO K (.ty n) (.type n)) (tCons te (tCons (tC (.ty n)) tNil))) := by subst h; exact pe_isOT hg hm hgT hmT hvT he hn hd s1 hpl
theorem pe_fldXQ {e : Expr} {ta : TE} {f : Str} {pos : Pos} (he : PE X e ta) (hb : attributeBase e f X.env (eval e X.env) = eval e X.env) (h : X.K = K := by rfl) : PE X (.Attribute e f pos) (tFldX K ta f) := by subst h; exact pe_fldX he hb
end
end L2
namespace K5
open PySem L2 SW
section
variable {P : Program} {w : World} {K : PySem.W.Frag} {mg : Str → Option Value} {base : Heap}
def spRefused : Sp := fun vs H Q _ => ∃ (a : Str) (Ls : List (List Str)), vs = [.str a] ∧ RdT a Ls ∧ ∀ H', Same H H' → Q (.int (resF (runL (wordsF Ls)))) H'
theorem ok_lrefused (T : Txt K mg) : FnOk P w K mg base CX0 8 T.a_lrefused T.fd_lrefused ["_law_text"] spRefused := by
  refine T.F_lrefused.ok sc_lrefused (fun vs H Q E h => ?_) (fun cdv A outer s H vs Q E hr h => ?_)
  · obtain ⟨a, Ls, rfl, _⟩ := h
    rfl
  obtain ⟨a, Ls, rfl, o, k⟩ := h
  refine ⟨_, (pss_cons (ps_tryCall ⟨rfl, rfl, rfl, rfl⟩ (ok_read T) (hr.mono (by decide)) rfl T.m_read T.F_read.kp T.b_read (fun W => pa_cons (pv 0) pa_nil) sc_lrefused.nd (i := 1) rfl rfl rfl T.m_DealError
      (fun e => pss_cons (ps_if (PW.pt (pw_or (pt_cmpR op_eq (pe_isOQ K rfl T.n_isinstance rfl T.m_BadLine (pv 1)) (pe_isOQ K rfl T.n_isinstance rfl T.m_NoTable (pv 1)) (nomark _)) (pw_or (pt_val (pe_isOQ K rfl T.n_isinstance rfl T.m_BadRule (pv 1))) (pw_or1 (pt_val (pe_isOQ K rfl T.n_isinstance rfl T.m_NoVotes (pv 1)))))))
        (pss_one (ps_ret (pe_un un_neg pe_int)))
        pss_nil)
        (pss_cons (ps_if (pt_not (pt_val (pe_isOTQ K rfl T.n_isinstance rfl T.n_ValueError boot_ValueError (pv 1))))
        (pss_one (ps_ret (pe_un un_neg pe_int)))
        pss_nil)
        (pss_one (ps_ret (pe_ifExp (pt_val (pe_isOQ K rfl T.n_isinstance rfl T.m_BadLine (pv 1))) (pe_fldXQ K (pv 1) rfl) (pe_un un_neg pe_int)))))))
      (pss_one (ps_ret (pe_un un_neg pe_int)))), ?_⟩
  refine ⟨_, rfl, a, Ls, rfl, o, fun n hn da H' S hd => ?_, fun st hst h1 H' S => ?_, fun st hst h2 v H' S => ?_⟩
  · refine ⟨T.c_BadLine, rfl, T.ct_BadLine_DealError, fun e he => ?_⟩
    have nde : da ≠ e := ne_of_none hd he
    have hd' : upd H' e (excO e (.ref T.c_BadLine) (some da)) da = some (.xd [("line", .int (n : Int))]) := (upd_ne nde).trans hd
    have D : DictAt (upd H' e (excO e (.ref T.c_BadLine) (some da))) (some da) := .inr ⟨da, _, rfl, hd'⟩
    have he' : upd H' e (excO e (.ref T.c_BadLine) (some da)) e = some (excO e (.ref T.c_BadLine) (some da)) := upd_same
    have k' := k (upd H' e (excO e (.ref T.c_BadLine) (some da))) fun c u z => by rw [upd_ne (ne_of_none (S c u z) he)]; exact S c u z
    rw [hn] at k'
    generalize upd H' e (excO e (.ref T.c_BadLine) (some da)) = H2 at *
    refine ⟨_, rfl, ?_⟩
    refine ⟨e, T.c_BadLine, _, _, rfl, he', D, T.t_BadLine, T.k_BadLine_BadLine, ?_⟩
    refine ⟨_, rfl, ?_⟩
    refine ⟨e, T.c_BadLine, _, _, rfl, he', D, T.t_BadLine, T.k_BadLine_NoTable, ?_⟩
    refine ⟨rfl, _, rfl, ?_⟩
    refine iteDF (by intro z; cases z) ?_
    refine ⟨_, rfl, ?_⟩
    refine ⟨e, T.c_BadLine, _, _, rfl, he', D, T.t_BadLine, T.k_BadLine_BadRule, ?_⟩
    refine ⟨_, rfl, ?_⟩
    refine iteF ?_
    refine ⟨_, rfl, ?_⟩
    refine ⟨e, T.c_BadLine, _, _, rfl, he', D, T.t_BadLine, T.k_BadLine_NoVotes, ?_⟩
    refine ⟨_, rfl, ?_⟩
    refine iteF ?_
    refine ⟨_, rfl, ?_⟩
    refine ⟨e, T.c_BadLine, _, _, rfl, he', D, T.t_BadLine, T.k_BadLine_ValueError, ?_⟩
    refine ⟨_, rfl, ?_⟩
    refine iteF ?_
    refine ⟨_, rfl, ?_⟩
    refine ⟨e, T.c_BadLine, _, _, rfl, he', D, T.t_BadLine, T.k_BadLine_BadLine, ?_⟩
    refine ⟨_, rfl, ?_⟩
    refine iteT ?_
    exact ⟨_, rfl, e, T.c_BadLine, da, _, _, rfl, he', hd', T.t_BadLine, T.o_BadLine.no, rfl, k'⟩
  · refine ⟨T.c_NoTable, rfl, T.ct_NoTable_DealError, fun e he => ?_⟩
    have D : DictAt (upd H' e (excO e (.ref T.c_NoTable) none)) none := .inl rfl
    have he' : upd H' e (excO e (.ref T.c_NoTable) none) e = some (excO e (.ref T.c_NoTable) none) := upd_same
    have k' := k (upd H' e (excO e (.ref T.c_NoTable) none)) fun c u z => by rw [upd_ne (ne_of_none (S c u z) he)]; exact S c u z
    rw [hst, h1] at k'
    generalize upd H' e (excO e (.ref T.c_NoTable) none) = H2 at *
    refine ⟨_, rfl, ?_⟩
    refine ⟨e, T.c_NoTable, _, _, rfl, he', D, T.t_NoTable, T.k_NoTable_BadLine, ?_⟩
    refine ⟨_, rfl, ?_⟩
    refine ⟨e, T.c_NoTable, _, _, rfl, he', D, T.t_NoTable, T.k_NoTable_NoTable, ?_⟩
    refine ⟨rfl, _, rfl, ?_⟩
    refine iteDF (by intro z; cases z) ?_
    refine ⟨_, rfl, ?_⟩
    refine ⟨e, T.c_NoTable, _, _, rfl, he', D, T.t_NoTable, T.k_NoTable_BadRule, ?_⟩
    refine ⟨_, rfl, ?_⟩
    refine iteF ?_
    refine ⟨_, rfl, ?_⟩
    refine ⟨e, T.c_NoTable, _, _, rfl, he', D, T.t_NoTable, T.k_NoTable_NoVotes, ?_⟩
    refine ⟨_, rfl, ?_⟩
    refine iteF ?_
    refine ⟨_, rfl, ?_⟩
    refine ⟨e, T.c_NoTable, _, _, rfl, he', D, T.t_NoTable, T.k_NoTable_ValueError, ?_⟩
    refine ⟨_, rfl, ?_⟩
    refine iteF ?_
    refine ⟨_, rfl, ?_⟩
    refine ⟨e, T.c_NoTable, _, _, rfl, he', D, T.t_NoTable, T.k_NoTable_BadLine, ?_⟩
    refine ⟨_, rfl, ?_⟩
    refine iteF ?_
    refine ⟨_, rfl, ?_⟩
    exact k'
  · have k' := k H' S
    rw [hst, h2] at k'
    refine ⟨_, rfl, ?_⟩
    exact k'
end
end K5
namespace SW
open PySem L2
structure NameOk (a : Str) : Prop where
  ne : cd a ≠ []
  let' : ∀ c, c ∈ cd a → 97 ≤ c ∧ c ≤ 122
  le : a.length ≤ 8
end SW
namespace SW
open PySem L2
def letters : List Nat := (List.range 26).map (97 + ·)
def numL (k : Nat) (cell : Int) : Nat := (((k : Int) * 7 + cell / 5) % 12).toNat
def filL (cell : Int) : List Nat := ((letters ++ letters).drop (cell % 26).toNat).take (cell / 26 % 8).toNat
def plcL (cell : Int) : Nat := (cell / 208 % ((filL cell).length + 1)).toNat
def midL (cell : Int) (n : Nat) : List Nat := (filL cell).take (plcL cell) ++ (97 + n) :: (filL cell).drop (plcL cell)
def namL (cell : Int) (n : Nat) : List Nat :=
  if cell / 1664 % 4 = 0 then List.replicate (1 + n % 6) (97 + (n / 6 + (cell / 7 % 20).toNat))
  else (if n % 2 = 1 ∧ cell / 11 % 2 = 0 then (midL cell n).take (plcL cell + 1) else midL cell n) ++ (if filL cell = [] then [113] else [])
theorem letters_mem {c : Nat} (h : c ∈ letters) : 97 ≤ c ∧ c ≤ 122 := by
  unfold letters at h
  obtain ⟨x, hx, rfl⟩ := List.mem_map.mp h
  have := List.mem_range.mp hx
  omega
theorem filL_len (cell : Int) : (filL cell).length = (cell / 26 % 8).toNat := by
  unfold filL
  rw [List.length_take, List.length_drop]
  have : (letters ++ letters).length = 52 := by decide
  omega
theorem filL_mem {cell : Int} {c : Nat} (h : c ∈ filL cell) : 97 ≤ c ∧ c ≤ 122 := by
  unfold filL at h
  have := List.mem_of_mem_drop (List.mem_of_mem_take h)
  rcases List.mem_append.mp this with h | h <;> exact letters_mem h
theorem plcL_le (cell : Int) : plcL cell ≤ (filL cell).length := by
  unfold plcL
  have h1 := Int.emod_nonneg (cell / 208) (show ((filL cell).length : Int) + 1 ≠ 0 by omega)
  have h2 := Int.emod_lt_of_pos (cell / 208) (show (0 : Int) < ((filL cell).length : Int) + 1 by omega)
  omega
theorem midL_mem {cell : Int} {n c : Nat} (hn : n < 12) (h : c ∈ midL cell n) : 97 ≤ c ∧ c ≤ 122 := by
  unfold midL at h
  rcases List.mem_append.mp h with h | h
  · exact filL_mem (List.mem_of_mem_take h)
  · rcases List.mem_cons.mp h with rfl | h
    · omega
    · exact filL_mem (List.mem_of_mem_drop h)
theorem midL_len (cell : Int) (n : Nat) : (midL cell n).length = (filL cell).length + 1 := by
  unfold midL
  have := plcL_le cell
  rw [List.length_append, List.length_cons, List.length_take, List.length_drop]
  omega
theorem midL_at (cell : Int) (n : Nat) (r : List Nat) : (midL cell n ++ r)[plcL cell]? = some (97 + n) := by
  unfold midL
  have := plcL_le cell
  rw [List.append_assoc, List.getElem?_append_right (by rw [List.length_take]; omega), List.length_take, show plcL cell - min (plcL cell) (filL cell).length = 0 by omega]
  rfl
theorem midT_at (cell : Int) (n : Nat) (r : List Nat) : ((midL cell n).take (plcL cell + 1) ++ r)[plcL cell]? = some (97 + n) := by
  have h := plcL_le cell
  have e := midL_at cell n []
  rw [List.append_nil] at e
  rw [List.getElem?_append_left (by rw [List.length_take, midL_len]; omega), List.getElem?_take_of_lt (by omega)]
  exact e
theorem namL_ok (cell : Int) {n : Nat} (hn : n < 12) : namL cell n ≠ [] ∧ (∀ c, c ∈ namL cell n → 97 ≤ c ∧ c ≤ 122) ∧ (namL cell n).length ≤ 8 := by
  unfold namL
  split
  · refine ⟨fun z => ?_, fun c hc => ?_, ?_⟩
    · have := congrArg List.length z
      rw [List.length_replicate] at this
      simp at this
    · have := (List.mem_replicate.mp hc).2
      omega
    · rw [List.length_replicate]; omega
  · have hl := filL_len cell
    have hm := midL_len cell n
    have hp := plcL_le cell
    have q : ∀ l : List Nat, (∀ c, c ∈ l → c ∈ midL cell n) → l ≠ [] → l.length ≤ (filL cell).length + 1 → (l ++ (if filL cell = [] then [113] else [])) ≠ [] ∧ (∀ c, c ∈ l ++ (if filL cell = [] then [113] else []) → 97 ≤ c ∧ c ≤ 122) ∧ (l ++ (if filL cell = [] then [113] else [])).length ≤ 8 := fun l h1 h2 h3 => by
      refine ⟨by simp [h2], fun c hc => ?_, ?_⟩
      · rcases List.mem_append.mp hc with h | h
        · exact midL_mem hn (h1 c h)
        · split at h
          · have : c = 113 := by simpa using h
            omega
          · cases h
      · rw [List.length_append]
        split
        · rename_i hz
          rw [hz] at h3
          simp at h3 ⊢
          omega
        · simp
          omega
    split
    · refine q _ (fun c hc => List.mem_of_mem_take hc) (fun z => ?_) (by rw [List.length_take]; omega)
      have := congrArg List.length z
      rw [List.length_take, hm] at this
      simp at this
    · refine q _ (fun c hc => hc) (fun z => ?_) (by omega)
      have := congrArg List.length z
      rw [hm] at this
      simp at this
theorem namL_inj {cell : Int} {n m : Nat} (hn : n < 12) (hm : m < 12) (h : namL cell n = namL cell m) : n = m := by
  unfold namL at h
  split at h
  · have h1 := congrArg List.length h
    rw [List.length_replicate, List.length_replicate] at h1
    have h2 := congrArg (fun l => l[0]?) h
    rw [List.getElem?_replicate, List.getElem?_replicate, if_pos (by omega), if_pos (by omega)] at h2
    have := Option.some.inj h2
    omega
  · have a1 : ∀ n r, ((if n % 2 = 1 ∧ cell / 11 % 2 = 0 then (midL cell n).take (plcL cell + 1) else midL cell n) ++ r)[plcL cell]? = some (97 + n) := fun n r => by
      split
      · exact midT_at cell n r
      · exact midL_at cell n r
    have h1 := a1 n (if filL cell = [] then [113] else [])
    rw [h, a1 m] at h1
    have := Option.some.inj h1
    omega
theorem namL_low (cell : Int) {n : Nat} (hn : n < 12) : ∃ c, c ∈ namL cell n ∧ c < 122 := by
  unfold namL
  split
  · exact ⟨97 + (n / 6 + (cell / 7 % 20).toNat), by simp [List.mem_replicate], by omega⟩
  · have e := plcL_le cell
    have m : 97 + n ∈ (if n % 2 = 1 ∧ cell / 11 % 2 = 0 then (midL cell n).take (plcL cell + 1) else midL cell n) := by
      split
      · have := midT_at cell n []
        rw [List.append_nil] at this
        exact List.mem_of_getElem? this
      · have := midL_at cell n []
        rw [List.append_nil] at this
        exact List.mem_of_getElem? this
    exact ⟨97 + n, List.mem_append_left _ m, by omega⟩
theorem numL_lt (k : Nat) (cell : Int) : numL k cell < 12 := by
  unfold numL
  omega
theorem numL_inj {k l : Nat} {cell : Int} (hk : k < 12) (hl : l < 12) (h : numL k cell = numL l cell) : k = l := by
  unfold numL at h
  omega
theorem mul_cd (c : Nat) (n : Int) : cd (Txt.mul ⟨#[c]⟩ n) = List.replicate n.toNat c := PyProof.Rows.mul_one_list c n
theorem mul_ok (c : Nat) {n : Int} (h0 : 0 ≤ n) (h1 : n ≤ 1000) : MulOk ⟨#[c]⟩ n := by
  have l1 : (⟨#[c]⟩ : Str).length = 1 := rfl
  have big : (1000 : Nat) ≤ sizeLine := by decide
  refine ⟨?_, fun h _ => ?_, fun h _ => ?_⟩
  · rw [decide_eq_false (by omega), decide_eq_false (by omega)]
    rfl
  · rw [l1]
    have : 1 ≤ (2 ^ 63 - 1) / n := (Int.le_ediv_iff_mul_le (by omega)).mpr (by omega)
    omega
  · rw [l1]
    exact decide_eq_false (by omega)
end SW
namespace K5
open PySem L2 SW
section
variable {P : Program} {w : World} {K : PySem.W.Frag} {mg : Str → Option Value} {base : Heap}
def spName : Sp := fun vs H Q _ => ∃ (k : Nat) (cell : Int), vs = [.int (k : Int), .int cell] ∧ Q (.str (mkS (namL cell (numL k cell)))) H
theorem ok_lname (T : Txt K mg) : FnOk P w K mg base CX0 1 T.a_lname T.fd_lname ["_law_k", "_law_cell"] spName := by
  refine T.F_lname.ok sc_lname (fun vs H Q E h => ?_) (fun cdv A outer s H vs Q E hr h => ?_)
  · obtain ⟨k, cell, rfl, _⟩ := h
    rfl
  obtain ⟨k, cell, rfl, q⟩ := h
  refine ⟨_, (pss_cons (ps_par (i := 2) (j := 3) rfl sc_lname.nd rfl rfl (by decide) rfl rfl (pa_cons pe_str (pa_cons (pe_op op_mod (pe_op op_add (pe_op op_mulF (pv 0) pe_int) (pe_op op_fdivF (pv 1) pe_int)) pe_int) pa_nil)) rfl)
      (pss_cons (ps_if (pt_cmpR op_eqI (pe_op op_mod (pe_op op_fdivF (pv 1) pe_int) pe_int) pe_int (nomark _))
      (pss_one (ps_ret (pe_op op_mulS (pe_ix ix_str (pv 2) (pe_op op_add (pe_op op_fdivF (pv 3) pe_int) (pe_op op_mod (pe_op op_fdivF (pv 1) pe_int) pe_int)) (fun _ _ => rfl)) (pe_op op_add pe_int (pe_op op_mod (pv 3) pe_int)))))
      pss_nil)
      (pss_cons (ps_set (i := 4) sc_lname.nd rfl (Or.inl rfl) (pe_slice sl_str (pe_op op_add_str (pv 2) (pv 2)) (po_some (pe_op op_mod (pv 1) pe_int)) (po_some (pe_op op_add (pe_op op_mod (pv 1) pe_int) (pe_op op_mod (pe_op op_fdivF (pv 1) pe_int) pe_int)))))
      (pss_cons (ps_set (i := 5) sc_lname.nd rfl (Or.inl rfl) (pe_op op_mod (pe_op op_fdivF (pv 1) pe_int) (pe_op op_add (pe_callB call_len_str (by rfl) T.n_len PySem.boot_len (pa_cons (pv 4) pa_nil)) pe_int)))
      (pss_cons (ps_set (i := 6) sc_lname.nd rfl (Or.inl rfl) (pe_op op_add_str (pe_op op_add_str (pe_slice sl_str (pv 4) po_none (po_some (pv 5))) (pe_ix ix_str (pv 2) (pv 3) (fun _ _ => rfl))) (pe_slice sl_str (pv 4) (po_some (pv 5)) po_none)))
      (pss_cons (ps_meet (ps_if (PW.pt (pw_and (pt_cmpR op_eqI (pe_op op_mod (pv 3) pe_int) pe_int (nomark _)) (pw_and1 (pt_cmpR op_eqI (pe_op op_mod (pe_op op_fdivF (pv 1) pe_int) pe_int) pe_int (nomark _)))))
      (pss_one (ps_set (i := 6) sc_lname.nd rfl (Or.inl rfl) (pe_slice sl_str (pv 6) po_none (po_some (pe_op op_add (pv 5) pe_int)))))
      pss_nil))
      (pss_one (ps_ret (pe_ifExp (pt_cmpR op_ne (pv 4) pe_str (nomark _)) (pv 6) (pe_op op_add_str (pv 6) pe_str)))))))))), ?_⟩
  have el : cd (Str.ofString "abcdefghijklmnopqrstuvwxyz") = letters := by decide +kernel
  have ll : (Str.ofString "abcdefghijklmnopqrstuvwxyz").length = 26 := by rw [← cd_len, el]; decide
  have big : (1000 : Nat) ≤ sizeLine := by decide
  have hn := numL_lt k cell
  have en : ((k : Int) * 7 + cell / 5) % 12 = ((numL k cell : Nat) : Int) := by unfold numL; omega
  unfold tPar
  refine ⟨_, rfl, _, _, rfl, rfl, .inl (.inr ⟨by decide, by decide⟩), _, rfl, _, _, rfl, rfl, ⟨by omega, fits_of (by omega) (by omega)⟩, _, _, rfl, rfl, _, _, rfl, rfl, by omega, ?_⟩
  refine ⟨_, .int ((numL k cell : Nat) : Int), congrArg (fun z => [_, V.int z]) en, ?_⟩
  generalize numL k cell = n at *
  generalize Str.ofString "abcdefghijklmnopqrstuvwxyz" = al at *
  have atl : ∀ j : Nat, j < 26 → atI al.cps.toList (j : Int) = some (97 + j) := fun j hj => by
    show atI (cd al) (j : Int) = _
    rw [el]
    refine atI_of (by omega) ?_
    rw [Int.toNat_natCast]
    unfold letters
    rw [List.getElem?_map, List.getElem?_range hj]
    rfl
  refine ⟨_, rfl, _, _, rfl, rfl, ⟨by omega, fits_of (by omega) (by omega)⟩, _, _, rfl, rfl, by omega, _, _, rfl, rfl, _, rfl, ?_⟩
  refine ite3 (fun c => ?_) (fun c => ?_)
  · have e1 : (n : Int) / 6 + cell / 7 % 20 = ((n / 6 + (cell / 7 % 20).toNat : Nat) : Int) := by omega
    have e2 : (1 : Int) + (n : Int) % 6 = ((1 + n % 6 : Nat) : Int) := by omega
    refine ⟨_, rfl, _, rfl, _, _, rfl, rfl, ⟨by omega, fits_of (by omega) (by omega)⟩, _, rfl, _, _, rfl, rfl, ⟨by omega, fits_of (by omega) (by omega)⟩, _, _, rfl, rfl, by omega, _, _, rfl, rfl, ?_⟩
    refine ⟨al, _, _, rfl, rfl, by rw [ll]; omega, by rw [e1]; exact atl _ (by omega), ?_⟩
    refine ⟨_, rfl, _, _, rfl, rfl, by omega, _, _, rfl, rfl, ?_⟩
    refine ⟨_, _, rfl, rfl, mul_ok _ (by omega) (by omega), ?_⟩
    have e3 : Txt.mul ⟨#[97 + (n / 6 + (cell / 7 % 20).toNat)]⟩ (1 + (n : Int) % 6) = mkS (namL cell n) := cd_inj (by
      rw [mul_cd, cd_mk, e2, Int.toNat_natCast]
      unfold namL
      rw [if_pos c])
    rw [e3]
    exact q
  have lf := filL_len cell
  have lf8 : (filL cell).length ≤ 7 := by omega
  have lfS : (mkS (filL cell)).length = (filL cell).length := by rw [← cd_len, cd_mk]
  have hp := plcL_le cell
  have len : ∀ a b : Str, (a ++ b).length = a.length + b.length := fun a b => by rw [← cd_len, ← cd_len, ← cd_len, cd_app, List.length_append]
  have e1 : Txt.slice (al ++ al) (some (cell % 26)) (some (cell % 26 + cell / 26 % 8)) = mkS (filL cell) := by
    rw [beq_iff_eq.mp (PyProof.Rows.slice_closesL (x := al ++ al) (by omega) (by omega) (by rw [len, ll]; omega))]
    show mkS (((cd (al ++ al)).drop _).take _) = _
    rw [cd_app, el]
    unfold filL
    rw [show (cell % 26 + cell / 26 % 8 - cell % 26).toNat = (cell / 26 % 8).toNat by omega]
  have e2 : cell / 208 % (((mkS (filL cell)).length : Int) + 1) = ((plcL cell : Nat) : Int) := by
    rw [lfS]
    unfold plcL
    have := Int.emod_nonneg (cell / 208) (show ((filL cell).length : Int) + 1 ≠ 0 by omega)
    omega
  have e3 : Txt.slice (mkS (filL cell)) none (some (cell / 208 % (((mkS (filL cell)).length : Int) + 1))) = mkS ((filL cell).take (plcL cell)) := by rw [e2, slice_to (by rw [lfS]; exact hp), cd_mk]
  have e4 : Txt.slice (mkS (filL cell)) (some (cell / 208 % (((mkS (filL cell)).length : Int) + 1))) none = mkS ((filL cell).drop (plcL cell)) := by rw [e2, slice_from (by rw [lfS]; exact hp), cd_mk]
  have e5 : mkS ((filL cell).take (plcL cell)) ++ ⟨#[97 + n]⟩ ++ mkS ((filL cell).drop (plcL cell)) = mkS (midL cell n) := cd_inj (by
    rw [cd_app, cd_app, cd_mk, cd_mk, cd_mk]
    unfold midL
    rw [List.append_assoc]
    rfl)
  have lm := midL_len cell n
  have lmS : (mkS (midL cell n)).length = (filL cell).length + 1 := by rw [← cd_len, cd_mk, lm]
  have e6 : Txt.slice (mkS (midL cell n)) none (some ((cell / 208 % (((mkS (filL cell)).length : Int) + 1)) + 1)) = mkS ((midL cell n).take (plcL cell + 1)) := by
    rw [e2, show ((plcL cell : Nat) : Int) + 1 = ((plcL cell + 1 : Nat) : Int) by omega, slice_to (by rw [lmS]; omega), cd_mk]
  refine ⟨_, rfl, _, rfl, ?_⟩
  refine ⟨_, _, rfl, rfl, by rw [ll]; omega, ?_⟩
  refine ⟨_, rfl, _, _, rfl, rfl, by omega, _, rfl, _, rfl, _, _, rfl, rfl, by omega, _, rfl, _, _, rfl, rfl, ⟨by omega, fits_of (by omega) (by omega)⟩, _, _, rfl, rfl, by omega, _, _, rfl, rfl, _, rfl, ?_⟩
  refine ⟨_, rfl, by rw [len, ll]; omega, ?_⟩
  rw [e1]
  refine ⟨_, rfl, _, _, rfl, rfl, ⟨by omega, fits_of (by omega) (by omega)⟩, _, rfl, ?_⟩
  refine ⟨_, rfl, by rw [lfS]; omega, ?_⟩
  refine ⟨_, _, rfl, rfl, _, _, rfl, rfl, by omega, _, rfl, _, rfl, _, rfl, ?_⟩
  refine ⟨_, rfl, by rw [lfS]; omega, ?_⟩
  rw [e3]
  refine ⟨_, rfl, _, rfl, ?_⟩
  refine ⟨al, _, _, rfl, rfl, by rw [ll]; omega, atl n (by omega), ?_⟩
  refine ⟨_, _, rfl, rfl, ?_, ?_⟩
  · have : (mkS ((filL cell).take (plcL cell))).length ≤ 8 := by rw [← cd_len, cd_mk, List.length_take]; omega
    have l1 : (⟨#[97 + n]⟩ : Str).length = 1 := rfl
    omega
  refine ⟨_, rfl, _, rfl, _, rfl, ?_⟩
  refine ⟨_, rfl, by rw [lfS]; omega, ?_⟩
  rw [e4]
  refine ⟨_, _, rfl, rfl, ?_, ?_⟩
  · have : (mkS ((filL cell).take (plcL cell))).length ≤ 8 := by rw [← cd_len, cd_mk, List.length_take]; omega
    have : (mkS ((filL cell).drop (plcL cell))).length ≤ 8 := by rw [← cd_len, cd_mk, List.length_drop]; omega
    have l1 : (⟨#[97 + n]⟩ : Str).length = 1 := rfl
    rw [len]
    omega
  rw [e5]
  refine ⟨fun σ H' => H' = H ∧ σ = [some (.int (k : Int)), some (.int cell), some (.str al), some (.int (n : Int)), some (.str (mkS (filL cell))), some (.int (cell / 208 % (((mkS (filL cell)).length : Int) + 1))), some (.str (mkS (if n % 2 = 1 ∧ cell / 11 % 2 = 0 then (midL cell n).take (plcL cell + 1) else midL cell n)))], ?_, ?_⟩
  · refine ⟨_, rfl, _, _, rfl, rfl, by omega, _, _, rfl, rfl, _, rfl, ?_⟩
    refine ite3 (fun c1 => ?_) (fun c1 => iteF ?_)
    · refine ⟨_, rfl, _, _, rfl, rfl, ⟨by omega, fits_of (by omega) (by omega)⟩, _, _, rfl, rfl, by omega, _, _, rfl, rfl, _, rfl, ?_⟩
      refine ite3 (fun c2 => ?_) (fun c2 => ?_)
      · refine ⟨_, rfl, _, rfl, _, _, rfl, rfl, _, rfl, ?_⟩
        refine ⟨_, rfl, by rw [lmS]; omega, ?_⟩
        rw [e6]
        refine ⟨rfl, ?_⟩
        rw [if_pos ⟨by omega, c2⟩]
        rfl
      · refine ⟨rfl, ?_⟩
        rw [if_neg (fun z => c2 z.2)]
        rfl
    · refine ⟨rfl, ?_⟩
      rw [if_neg (fun z => c1 (by omega))]
      rfl
  rintro σ H' ⟨rfl, rfl⟩
  refine ⟨_, rfl, rfl, _, rfl, ?_⟩
  by_cases hf : filL cell = []
  · have ef : V.str (mkS (filL cell)) = V.str (Str.ofString "") := by rw [hf]; rfl
    refine iteNT ef ?_
    refine ⟨_, rfl, ?_⟩
    refine ⟨_, _, rfl, rfl, ?_, ?_⟩
    · have l1 : (Str.ofString "q").length = 1 := by decide +kernel
      have l2 : (mkS (if n % 2 = 1 ∧ cell / 11 % 2 = 0 then (midL cell n).take (plcL cell + 1) else midL cell n)).length ≤ 9 := by
        rw [← cd_len, cd_mk]
        split
        · rw [List.length_take, lm]; omega
        · rw [lm]; omega
      omega
    · have e8 : mkS (if n % 2 = 1 ∧ cell / 11 % 2 = 0 then (midL cell n).take (plcL cell + 1) else midL cell n) ++ Str.ofString "q" = mkS (namL cell n) := cd_inj (by
        have e9 : cd (Str.ofString "q") = [113] := by decide +kernel
        rw [cd_app, cd_mk, cd_mk, e9]
        unfold namL
        rw [if_neg c, if_pos hf])
      rw [e8]
      exact q
  · have ef : V.str (mkS (filL cell)) ≠ V.str (Str.ofString "") := fun z => hf (by
      have := congrArg cd (V.str.inj z)
      rw [cd_mk] at this
      exact this)
    refine iteNF ef ?_
    refine ⟨_, rfl, ?_⟩
    have e7 : (if n % 2 = 1 ∧ cell / 11 % 2 = 0 then (midL cell n).take (plcL cell + 1) else midL cell n) = namL cell n := by
      unfold namL
      rw [if_neg c, if_neg hf, List.append_nil]
    rw [e7]
    exact q
end
end K5
namespace SW
open PySem L2
theorem J_snoc {c : Nat} {w : List Nat} : ∀ {L : List (List Nat)}, L ≠ [] → J c (L ++ [w]) = J c L ++ c :: w
  | [], h => absurd rfl h
  | [x], _ => rfl
  | x :: y :: r, _ => by
    show x ++ c :: J c ((y :: r) ++ [w]) = (x ++ c :: J c (y :: r)) ++ c :: w
    rw [J_snoc (by simp)]
    simp
theorem J_last {c : Nat} {w v : List Nat} : ∀ {L : List (List Nat)}, J c (L ++ [w ++ v]) = J c (L ++ [w]) ++ v
  | [] => rfl
  | x :: r => by rw [J_snoc (by simp), J_snoc (by simp)]; simp
theorem J_blank {c d : Nat} {L : List (List Nat)} (h : L ≠ []) : J c (L ++ List.replicate d []) = J c L ++ List.replicate d c := by
  induction d with
  | zero => simp
  | succ d ih =>
    rw [List.replicate_succ', ← List.append_assoc, J_snoc (by simp [h]), ih, List.replicate_succ']
    simp
theorem J_ge {c : Nat} : ∀ {L : List (List Nat)}, L.length ≤ (J c L).length + 1
  | [] => by simp
  | [x] => by simp
  | x :: y :: r => by
    have := J_ge (c := c) (L := y :: r)
    show (x :: y :: r).length ≤ (x ++ c :: J c (y :: r)).length + 1
    simp only [List.length_append, List.length_cons] at this ⊢
    omega
theorem J_mem {c x : Nat} : ∀ {L : List (List Nat)}, x ∈ J c L → x = c ∨ ∃ l, l ∈ L ∧ x ∈ l
  | [], h => by cases h
  | [l], h => .inr ⟨l, by simp, h⟩
  | l :: m :: r, h => by
    have h : x ∈ l ++ c :: J c (m :: r) := h
    rcases List.mem_append.mp h with h | h
    · exact .inr ⟨l, by simp, h⟩
    · rcases List.mem_cons.mp h with h | h
      · exact .inl h
      · rcases J_mem h with h | ⟨z, hz, hx⟩
        · exact .inl h
        · exact .inr ⟨z, List.mem_cons_of_mem _ hz, hx⟩
end SW
namespace K5
open PySem L2 SW
section
variable {P : Program} {w : World} {K : PySem.W.Frag} {mg : Str → Option Value} {base : Heap}
theorem join_cd (c : Nat) (ys : List Str) : Txt.join ⟨#[c]⟩ ys = mkS (J c (ys.map cd)) := cd_inj (by
  rw [cd_mk, ← cd_join]
  show cd (Builtin.Str.glued ⟨#[c]⟩ ys) = _
  rw [StrLaws.glued_eq_join])
theorem sum_len {k : Nat} : ∀ {ys : List Str}, (∀ y, y ∈ ys → y.length ≤ k) → (ys.map (·.length)).sum ≤ ys.length * k
  | [], _ => by simp
  | y :: ys, h => by
    have h1 := h y (by simp)
    have h2 := sum_len (ys := ys) fun z hz => h z (by simp [hz])
    rw [List.map_cons, List.sum_cons, List.length_cons, Nat.succ_mul]
    omega
theorem J_len {c k : Nat} : ∀ {L : List (List Nat)}, (∀ x, x ∈ L → x.length ≤ k) → (J c L).length ≤ L.length * (k + 1)
  | [], _ => by simp [J]
  | [x], h => by
    have := h x (by simp)
    show x.length ≤ 1 * (k + 1)
    omega
  | x :: y :: r, h => by
    have h1 := h x (by simp)
    have h2 := J_len (c := c) (L := y :: r) fun z hz => h z (by simp at hz ⊢; right; exact hz)
    show (x ++ c :: J c (y :: r)).length ≤ _
    rw [List.length_append, List.length_cons, List.length_cons (a := x), Nat.succ_mul]
    omega
theorem noE_app (L M : List Str) : noE (L ++ M) = noE L ++ noE M := List.filter_append ..
theorem noE_rep (d : Nat) : noE (List.replicate d Str.empty) = [] := List.filter_eq_nil_iff.mpr fun z hz => by
  rw [(List.mem_replicate.mp hz).2]
  have : Str.empty = Str.ofString "" := rfl
  simp [this]
theorem noE_one {z : Str} (h : cd z ≠ []) : noE [z] = [z] := by
  have : z ≠ Str.ofString "" := fun e => h (by rw [e]; rfl)
  unfold noE
  rw [List.filter_cons, if_pos (decide_eq_true this)]
  rfl
theorem noE_all : ∀ {L : List Str}, (∀ z, z ∈ L → cd z ≠ []) → noE L = L
  | [], _ => rfl
  | z :: L, h => by
    refine (noE_app [z] L).trans ?_
    rw [noE_one (h z (by simp)), noE_all (L := L) fun y hy => h y (by simp [hy])]
    rfl
theorem cd_rep (d : Nat) : (List.replicate d Str.empty).map cd = List.replicate d [] := by
  rw [List.map_replicate]
  rfl
theorem cd_lin (L : List Str) : cd (lin L) = J 32 (L.map cd) := cd_mk _
theorem free_rep {d : Nat} {z : Str} (h : z ∈ List.replicate d Str.empty) : 32 ∉ cd z ∧ 10 ∉ cd z := by
  rw [(List.mem_replicate.mp h).2]
  exact ⟨fun q => (by cases q), fun q => (by cases q)⟩
theorem one_blank (d : Nat) : J 32 ((List.replicate d Str.empty ++ [Str.empty]).map cd) = List.replicate d 32 := by
  rw [← List.replicate_succ', cd_rep, List.replicate_succ]
  have := J_blank (c := 32) (d := d) (L := [[]]) (by simp)
  exact this
theorem app_len (a b : Str) : (a ++ b).length = a.length + b.length := by rw [← cd_len, ← cd_len, ← cd_len, cd_app, List.length_append]
structure Gd (L : List Str) : Prop where
  ne : L ≠ []
  f : ∀ z, z ∈ L → 32 ∉ cd z ∧ 10 ∉ cd z ∧ ∀ c, c ∈ cd z → c < 128
  sz : (lin L).length ≤ 10000
theorem wordsF_app (A B : List (List Str)) : wordsF (A ++ B) = wordsF A ++ wordsF B := List.map_append ..
theorem wordsF_len (A : List (List Str)) : (wordsF A).length = A.length := by unfold wordsF; rw [List.length_map]
theorem piece_le {c : Nat} {x : List Nat} : ∀ {L : List (List Nat)}, x ∈ L → x.length ≤ (J c L).length
  | [], h => by cases h
  | [y], h => by rw [(by simpa using h : x = y)]; exact Nat.le_refl _
  | y :: z :: r, h => by
    show x.length ≤ (y ++ c :: J c (z :: r)).length
    rw [List.length_append, List.length_cons]
    rcases List.mem_cons.mp h with rfl | h
    · omega
    · have := piece_le (c := c) h
      omega
theorem rdT_of {Ls : List (List Str)} (h : ∀ L, L ∈ Ls → Gd L) (hne : Ls ≠ []) (hl : Ls.length ≤ 90) : RdT (Txt.join (Str.ofString "\n") (Ls.map lin)) Ls := by
  have ej : Txt.join (Str.ofString "\n") (Ls.map lin) = mkS (J 10 ((Ls.map lin).map cd)) := join_cd 10 _
  refine ⟨by rw [ej, cd_mk], hne, fun L hL => (h L hL).ne, fun L hL z hz => ((h L hL).f z hz).1, fun L hL q => ?_, ?_, fun L hL => ?_, by omega, fun L hL z hz => ⟨?_, ((h L hL).f z hz).2.2⟩⟩
  · rw [cd_lin] at q
    rcases J_mem q with q | ⟨l, hl, q⟩
    · omega
    · obtain ⟨z, hz, rfl⟩ := List.mem_map.mp hl
      exact ((h L hL).f z hz).2.1 q
  · rw [ej, ← cd_len, cd_mk]
    have := J_len (c := 10) (k := 10000) (L := (Ls.map lin).map cd) fun x hx => by
      obtain ⟨y, hy, rfl⟩ := List.mem_map.mp hx
      obtain ⟨L, hL, rfl⟩ := List.mem_map.mp hy
      rw [cd_len]
      exact (h L hL).sz
    rw [List.length_map, List.length_map] at this
    omega
  · have := (h L hL).sz
    refine ⟨by omega, ?_⟩
    have g := J_ge (c := 32) (L := L.map cd)
    rw [← cd_lin, cd_len, List.length_map] at g
    omega
  · have g := piece_le (c := 32) (List.mem_map_of_mem (f := cd) hz)
    rw [← cd_lin, cd_len, cd_len] at g
    have := (h L hL).sz
    omega
theorem blank_line {d : Int} (h : d ≤ 100) : Gd (List.replicate d.toNat Str.empty ++ [Str.empty]) ∧ lin (List.replicate d.toNat Str.empty ++ [Str.empty]) = Txt.mul ⟨#[32]⟩ d ∧ noE (List.replicate d.toNat Str.empty ++ [Str.empty]) = [] := by
  have e : lin (List.replicate d.toNat Str.empty ++ [Str.empty]) = Txt.mul ⟨#[32]⟩ d := cd_inj (by rw [cd_lin, one_blank, mul_cd])
  refine ⟨⟨by simp, fun z hz => ?_, ?_⟩, e, ?_⟩
  · rw [← List.replicate_succ'] at hz
    obtain ⟨q1, q2⟩ := free_rep hz
    exact ⟨q1, q2, fun c hc => by rw [(List.mem_replicate.mp hz).2] at hc; cases hc⟩
  · rw [← cd_len, cd_lin, one_blank, List.length_replicate]
    omega
  · rw [← List.replicate_succ', noE_rep]
abbrev natV (a : List Nat) : List V := a.map fun (n : Nat) => V.int (n : Int)
theorem laid_nil {f l : List (List (List Nat))} {a : List Nat} (h : Laid f l a) : f = [] → l = [] := by
  cases h with
  | nil => exact fun _ => rfl
  | blank h => intro z; simp at z
  | line h ws => intro z; simp at z
inductive LaidIs (H' : Hp) (lines : List (List Str)) (tu : Addr) : Str → List (List Str) → List Nat → Addr → Prop where
  | mk {text : Str} {Ls : List (List Str)} {a : List Nat} {al : Addr} (e : H' tu = some (.tup [.str text, .ref al])) (ha : H' al = some (.lst (natV a))) (o : RdT text Ls) (l : Laid (wordsF Ls) (wordsF lines) a) : LaidIs H' lines tu text Ls a al
def spLaid : Sp := fun vs H Q _ => ∃ (ll : Addr) (lines : List (List Str)) (cell : Int), vs = [.ref ll, .int cell] ∧ H ll = some (.lst ((lines.map lin).map V.str)) ∧ lines.length ≤ 20 ∧ lines ≠ [] ∧ (∀ L, L ∈ lines → Gd L) ∧
  ∀ (tu : Addr) (text : Str) (Ls : List (List Str)) (a : List Nat) (al : Addr) (H' : Hp), Same H H' → LaidIs H' lines tu text Ls a al → Q (.ref tu) H'
theorem ok_llaid (T : Txt K mg) : FnOk P w K mg base CX0 2 T.a_llaid T.fd_llaid ["_law_lines", "_law_cell"] spLaid := by
  refine T.F_llaid.ok sc_llaid (fun vs H Q E h => ?_) (fun cdv A outer s H vs Q E hr h => ?_)
  · obtain ⟨ll, lines, cell, rfl, _⟩ := h
    rfl
  obtain ⟨ll, lines, cell, rfl, hll, l20, lne, gd, k⟩ := h
  refine ⟨_, (pss_cons (ps_par (i := 2) (j := 3) rfl sc_llaid.nd rfl rfl (by decide) rfl rfl (pa_cons (pe_lstA pa_nil) (pa_cons (pe_lstA pa_nil) pa_nil)) rfl)
      (pss_cons (ps_for PassesOwn.never rfl (pi_range1 rfl T.n_range (pa_cons (pe_op op_add (pe_callB (len_Q K) (by rfl) T.n_len PySem.boot_len (pa_cons (pv 0) pa_nil)) pe_int) pa_nil)) (pg_name (i := 4) sc_llaid.nd rfl (Or.inl rfl))
      (pss_cons (ps_set (i := 5) sc_llaid.nd rfl (Or.inl rfl) (pe_op op_add (pv 1) (pe_op op_mulF pe_int (pv 4))))
      (pss_cons (ps_for PassesOwn.never rfl (pi_range1 rfl T.n_range (pa_cons (pe_ix (ix_Q K) (pe_tupA (pa_cons pe_int (pa_cons pe_int (pa_cons pe_int (pa_cons pe_int (pa_cons pe_int (pa_cons pe_int pa_nil))))))) (pe_call (ok_ldraw T) (hr.mono (by decide)) rfl T.m_ldraw T.F_ldraw.kp T.b_ldraw .nil pass0 (pa_cons (pv 5) (pa_cons pe_int (pa_cons pe_int pa_nil)))) (fun _ _ => rfl)) pa_nil)) (pg_name (i := 6) sc_llaid.nd rfl (Or.inl rfl))
      (pss_one (ps_expr (pe_bm PySem.F.plainAttrs_list PySem.F.slot_list_append PySem.F.type_list_append mt_append (pv 2) (pa_cons (pe_op op_mulS pe_str (pe_call (ok_ldraw T) (hr.mono (by decide)) rfl T.m_ldraw T.F_ldraw.kp T.b_ldraw .nil pass0 (pa_cons (pe_op op_add (pv 5) (pv 6)) (pa_cons pe_int (pa_cons pe_int pa_nil))))) pa_nil)))))
      (pss_one (ps_if (pt_cmpR op_lt (pv 4) (pe_callB (len_Q K) (by rfl) T.n_len PySem.boot_len (pa_cons (pv 0) pa_nil)) (nomark _))
      (pss_cons (ps_expr (pe_bm PySem.F.plainAttrs_list PySem.F.slot_list_append PySem.F.type_list_append mt_append (pv 3) (pa_cons (pe_callB (len_Q K) (by rfl) T.n_len PySem.boot_len (pa_cons (pv 2) pa_nil)) pa_nil)))
      (pss_one (ps_expr (pe_bm PySem.F.plainAttrs_list PySem.F.slot_list_append PySem.F.type_list_append mt_append (pv 2) (pa_cons (pe_ix (ix_Q K) (pv 0) (pv 4) (fun _ _ => rfl)) pa_nil)))))
      pss_nil)))))
      (pss_one (ps_ret (pe_tupA (pa_cons (pe_bm PySem.F.plainAttrs_str PySem.F.slot_str_join PySem.F.type_str_join (join_Q K) pe_str (pa_cons (pv 2) pa_nil)) (pa_cons (pv 3) pa_nil))))))), ?_⟩
  unfold tPar
  refine ⟨Nat.zero_le _, fun f H1 N1 => ?_⟩
  refine ⟨Nat.zero_le _, fun al H2 N2 => ?_⟩
  refine ⟨_, _, rfl, ?_⟩
  have nf : H f = none := N1.gone
  have na : H al = none := N1.same.free N2.gone
  have nfa : f ≠ al := ne_of_none N1.at_ N2.gone
  have hf2 := N2.same _ _ N1.at_
  have ha2 := N2.at_
  have hll2 := (N1.same.trans N2.same) _ _ hll
  have lpp : (((lines.map lin).map V.str).length : Int) + 1 = ((lines.length + 1 : Nat) : Int) := by rw [List.length_map, List.length_map]; omega
  refine ⟨_, rfl, _, _, rfl, Or.inl (SqL.of (by assumption)), _, _, rfl, rfl, ?_⟩
  refine ⟨((lines.length + 1 : Nat) : Int), congrArg (fun z => [V.int z]) lpp, by omega, by omega, ?_⟩
  rw [Int.toNat_natCast]
  refine for_range (fun i σ H' => Same H H' ∧ (∃ (Ls : List (List Str)) (a : List Nat), H' f = some (.lst ((Ls.map lin).map V.str)) ∧ H' al = some (.lst (natV a)) ∧ (∀ L, L ∈ Ls → Gd L) ∧ Ls.length ≤ 4 * i ∧ Laid (wordsF Ls) ((wordsF lines).take i) a) ∧ ∃ v4 v5 v6, σ = [some (.ref ll), some (.int cell), some (.ref f), some (.ref al), v4, v5, v6]) ⟨N1.same.trans N2.same, ⟨[], [], hf2, ha2, fun L hL => (by cases hL), Nat.le_refl _, .nil⟩, _, _, _, rfl⟩ ?_ ?_
  · rintro i σ H3 hi ⟨S3, ⟨Ls3, a3, hf3, ha3, g3, l3, d3⟩, v4, v5, v6, rfl⟩
    rw [show (0 : Int) + (i : Int) = (i : Int) by omega]
    refine ⟨_, rfl, _, rfl, _, _, rfl, rfl, .inr ⟨fits_of (by omega) (by omega), fits_of (by omega) (by omega)⟩, _, _, rfl, rfl, ?_⟩
    refine ⟨(by show 6 ≤ sizeLine; decide), fun tu H4 N4 => ?_⟩
    refine ⟨_, rfl, ?_⟩
    refine ⟨_, _, _, rfl, by decide, by decide, by decide, fun d H5 d0 d1 S5 => ?_⟩
    have htu := S5 _ _ N4.at_
    obtain ⟨m, hm, em⟩ : ∃ m : Nat, m ≤ 3 ∧ atI [V.int 0, .int 0, .int 0, .int 1, .int 2, .int 3] d = some (.int (m : Int)) := by
      have : d = 0 ∨ d = 1 ∨ d = 2 ∨ d = 3 ∨ d = 4 ∨ d = 5 := by omega
      rcases this with rfl | rfl | rfl | rfl | rfl | rfl
      · exact ⟨0, by decide, rfl⟩
      · exact ⟨0, by decide, rfl⟩
      · exact ⟨0, by decide, rfl⟩
      · exact ⟨1, by decide, rfl⟩
      · exact ⟨2, by decide, rfl⟩
      · exact ⟨3, by decide, rfl⟩
    have S45 := N4.same.trans S5
    refine ⟨_, _, _, _, rfl, rfl, Or.inr (SqT.of (by assumption)), by assumption, ?_⟩
    refine ⟨_, rfl, by omega, by omega, ?_⟩
    rw [Int.toNat_natCast]
    obtain ⟨one, eo⟩ : ∃ one : Int, one = cell + 31 * (i : Int) := ⟨_, rfl⟩
    refine for_range (fun n σ H' => Same H H' ∧ (∃ (Ls : List (List Str)), H' f = some (.lst ((Ls.map lin).map V.str)) ∧ H' al = some (.lst (natV a3)) ∧ (∀ L, L ∈ Ls → Gd L) ∧ Ls.length ≤ 4 * i + n ∧ Laid (wordsF Ls) ((wordsF lines).take i) a3) ∧ ∃ v6, σ = [some (.ref ll), some (.int cell), some (.ref f), some (.ref al), some (.int (i : Int)), some (.int one), v6]) ⟨S3.trans S45, ⟨Ls3, S45 _ _ hf3, S45 _ _ ha3, g3, l3, d3⟩, _, by rw [eo]; rfl⟩ ?_ ?_
    · rintro n σ H6 hn ⟨S6, ⟨Ls, hf6, ha6, g6, l6, d6⟩, v6, rfl⟩
      rw [show (0 : Int) + (n : Int) = (n : Int) by omega]
      refine ⟨_, rfl, ?_⟩
      refine ⟨.inl ⟨rfl, _, SqL.of hf6⟩, ?_⟩
      refine ⟨_, rfl, _, rfl, _, _, rfl, rfl, ?_⟩
      refine ⟨_, _, _, rfl, by decide, by decide, by decide, fun e H7 e0 e1 S7 => ?_⟩
      refine ⟨_, _, rfl, rfl, mul_ok 32 (by omega) (by omega), ?_⟩
      have hf7 := S7 _ _ hf6
      obtain ⟨q1, q2, q3⟩ := blank_line (d := e) (by omega)
      refine ⟨f, _, _, rfl, rfl, hf7, ?_, ?_⟩
      · rw [List.length_map, List.length_map]
        exact Nat.lt_of_lt_of_le (show Ls.length < 100 by omega) (by decide)
      refine ⟨(S6.trans S7).upd nf, ⟨Ls ++ [List.replicate e.toNat Str.empty ++ [Str.empty]], ?_, (upd_ne nfa.symm).trans (S7 _ _ ha6), fun L hL => ?_, by simp; omega, ?_⟩, _, rfl⟩
      · rw [upd_same, List.map_append, List.map_append, List.map_cons, List.map_cons, List.map_nil, List.map_nil, q2]
        rfl
      · rcases List.mem_append.mp hL with h | h
        · exact g6 L h
        · rw [(by simpa using h : L = _)]; exact q1
      · rw [wordsF_app]
        have : wordsF [List.replicate e.toNat Str.empty ++ [Str.empty]] = [[]] := by unfold wordsF; rw [List.map_cons, q3]; rfl
        rw [this]
        exact d6.blank
    rintro σ H6 ⟨S6, ⟨Ls, hf6, ha6, g6, l6, d6⟩, v6, rfl⟩
    have hll6 := S6 _ _ hll
    refine ⟨_, rfl, _, rfl, _, _, rfl, Or.inl (SqL.of (by assumption)), _, _, rfl, rfl, _, rfl, ?_⟩
    rw [List.length_map, List.length_map]
    refine ite3 (fun c => ?_) (fun c => ?_)
    · have hil : i < lines.length := by omega
      have el : lines[i]? = some lines[i] := List.getElem?_eq_getElem hil
      have atl : atI ((lines.map lin).map V.str) (i : Int) = some (.str (lin lines[i])) := atI_of (by omega) (by rw [Int.toNat_natCast, List.getElem?_map, List.getElem?_map, el]; rfl)
      have eW : (wordsF lines)[i]? = some ((noE lines[i]).map cd) := by unfold wordsF; rw [List.getElem?_map, el]; rfl
      refine ⟨_, rfl, ?_⟩
      refine ⟨.inl ⟨rfl, _, SqL.of ha6⟩, ?_⟩
      refine ⟨_, rfl, _, _, rfl, Or.inl (SqL.of (by assumption)), ?_⟩
      refine ⟨al, _, _, rfl, rfl, ha6, ?_, ?_⟩
      · rw [List.length_map, d6.len, List.length_take]
        exact Nat.lt_of_le_of_lt (show min i (wordsF lines).length ≤ 20 by omega) (by decide)
      have ea : natV a3 ++ [V.int (((Ls.map lin).map V.str).length : Int)] = natV (a3 ++ [Ls.length]) := by
        rw [List.length_map, List.length_map, natV, natV, List.map_append]
        rfl
      rw [ea]
      have hf7 : upd H6 al (.lst (natV (a3 ++ [Ls.length]))) f = _ := (upd_ne nfa).trans hf6
      have ha7 : upd H6 al (.lst (natV (a3 ++ [Ls.length]))) al = _ := upd_same
      have S7 : Same H (upd H6 al (.lst (natV (a3 ++ [Ls.length])))) := S6.upd na
      generalize upd H6 al (.lst (natV (a3 ++ [Ls.length]))) = H7 at *
      have hll7 := S7 _ _ hll
      refine ⟨_, rfl, ?_⟩
      refine ⟨.inl ⟨rfl, _, SqL.of hf7⟩, ?_⟩
      refine ⟨_, rfl, _, rfl, _, _, _, _, rfl, rfl, Or.inl (SqL.of (by assumption)), by assumption, ?_⟩
      refine ⟨f, _, _, rfl, rfl, hf7, ?_, ?_⟩
      · rw [List.length_map, List.length_map]
        exact Nat.lt_of_lt_of_le (show Ls.length < 100 by omega) (by decide)
      refine ⟨S7.upd nf, ⟨Ls ++ [lines[i]], a3 ++ [Ls.length], ?_, (upd_ne nfa.symm).trans ha7, fun L hL => ?_, by simp; omega, ?_⟩, _, _, _, rfl⟩
      · rw [upd_same, List.map_append, List.map_append]
        rfl
      · rcases List.mem_append.mp hL with h | h
        · exact g6 L h
        · rw [(by simpa using h : L = _)]; exact gd _ (List.getElem_mem hil)
      · rw [wordsF_app, List.take_add_one, eW]
        have := d6.line ((noE lines[i]).map cd)
        rw [wordsF_len] at this
        exact this
    · refine ⟨S6, ⟨Ls, a3, hf6, ha6, g6, by omega, ?_⟩, _, _, _, rfl⟩
      have : (wordsF lines).take (i + 1) = (wordsF lines).take i := by rw [List.take_of_length_le (by rw [wordsF_len]; omega), List.take_of_length_le (by rw [wordsF_len]; omega)]
      rw [this]
      exact d6
  · rintro σ H3 ⟨S3, ⟨Ls, a, hf3, ha3, g3, l3, d3⟩, v4, v5, v6, rfl⟩
    rw [List.take_of_length_le (by rw [wordsF_len]; omega)] at d3
    have lb : ∀ y, y ∈ Ls.map lin → y.length ≤ 10000 := fun y hy => by
      obtain ⟨L, hL, rfl⟩ := List.mem_map.mp hy
      exact (g3 L hL).sz
    have hsum := sum_len lb
    have l1 : (Str.ofString "\n").length = 1 := by decide +kernel
    have hne : Ls ≠ [] := fun z => by
      have this := laid_nil d3 (by rw [z]; rfl)
      have this : (wordsF lines).length = 0 := by rw [this]; rfl
      rw [wordsF_len] at this
      exact lne (List.length_eq_zero_iff.mp this)
    refine ⟨rfl, _, rfl, ?_⟩
    refine ⟨_, f, _, rfl, rfl, SqL.of hf3, ?_, ?_⟩
    · rw [l1]
      rw [List.length_map] at hsum ⊢
      omega
    refine ⟨_, rfl, ?_⟩
    refine ⟨(by show 2 ≤ sizeLine; decide), fun tu H4 N4 => ?_⟩
    exact k tu _ Ls a al H4 (S3.trans N4.same) (.mk N4.at_ (N4.same _ _ ha3) (rdT_of g3 hne (by omega)) d3)
end
end K5
namespace SW
open PySem L2
theorem mul_ok2 (x : Str) {n : Int} (hx : x.length = 1 ∨ x.length = 2) (h0 : 0 ≤ n) (h1 : n ≤ 10000) : MulOk x n := by
  have big : (20000 : Nat) ≤ sizeLine := by decide
  refine ⟨?_, fun h _ => ?_, fun h _ => ?_⟩
  · rw [decide_eq_false (by omega), decide_eq_false (by omega)]
    rfl
  · have : 2 ≤ (2 ^ 63 - 1) / n := (Int.le_ediv_iff_mul_le (by omega)).mpr (by omega)
    omega
  · refine decide_eq_false ?_
    have : x.length * n.toNat ≤ 2 * n.toNat := Nat.mul_le_mul_right _ (by omega)
    omega
theorem foldl_cat : ∀ (l : List (Array Nat)) (acc : Array Nat), (l.foldl (· ++ ·) acc).toList = acc.toList ++ (l.map Array.toList).flatten
  | [], acc => by simp
  | a :: l, acc => by
    rw [List.foldl_cons, foldl_cat l]
    simp
theorem mulS_cd (x : Str) {n : Int} (h : 1 ≤ n) : cd (Txt.mul x n) = (List.replicate n.toNat (cd x)).flatten := by
  unfold Txt.mul
  rw [if_neg (by omega)]
  by_cases h2 : (n == 1 || x.length == 0) = true
  · rw [if_pos h2]
    rcases Bool.or_eq_true_iff.mp h2 with z | z
    · rw [beq_iff_eq.mp z]
      simp
    · have : cd x = [] := List.length_eq_zero_iff.mp (by rw [cd_len]; exact beq_iff_eq.mp z)
      rw [this]
      simp
  · rw [if_neg h2]
    show ((List.replicate n.toNat x.cps).foldl (· ++ ·) #[]).toList = _
    rw [foldl_cat]
    simp [cd]
def NoPre (l : List Nat) : Prop := (∀ c, c ∈ l.takeWhile (fun c => c != 40) → c = 122) ∨ (∃ c, c ∈ l.takeWhile (fun c => c != 40) ∧ (c < 97 ∨ 122 < c)) ∨ 40 ∉ l
theorem NoPre.no {l n : List Nat} (h : NoPre l) (hn : ∀ c, c ∈ n → 97 ≤ c ∧ c ≤ 122) (low : ∃ c, c ∈ n ∧ c < 122) : l.take (n.length + 1) ≠ n ++ [40] := fun e => by
  have sp : l = n ++ 40 :: l.drop (n.length + 1) := by
    have := List.take_append_drop (n.length + 1) l
    rw [e] at this
    rw [← this]
    simp
  have tw : l.takeWhile (fun c => c != 40) = n := by
    rw [sp]
    exact tw40 fun z => by have := hn 40 z; omega
  rcases h with h | ⟨c, hc, h⟩ | h
  · obtain ⟨c, hc, lt⟩ := low
    have := h c (by rw [tw]; exact hc)
    omega
  · rw [tw] at hc
    have := hn c hc
    omega
  · exact h (by rw [sp]; simp)
theorem tw_app {l r : List Nat} (h : 40 ∈ l) : (l ++ r).takeWhile (fun c => c != 40) = l.takeWhile (fun c => c != 40) := by
  induction l with
  | nil => cases h
  | cons a l ih =>
    rw [List.cons_append, List.takeWhile_cons, List.takeWhile_cons]
    by_cases ha : a = 40
    · rw [ha]; rfl
    · have : (a != 40) = true := by simpa using ha
      rw [this, if_pos rfl, if_pos rfl, ih (by rcases List.mem_cons.mp h with z | z; exact absurd z.symm ha; exact z)]
end SW
namespace K5
open PySem L2 SW
section
variable {P : Program} {w : World} {K : PySem.W.Frag} {mg : Str → Option Value} {base : Heap}
abbrev one1 : Str := Str.ofString "1"
theorem lin_cons {z : Str} {M : List Str} (h : M ≠ []) : lin (z :: M) = z ++ (Str.ofString " " ++ lin M) := cd_inj (by
  have e : cd (Str.ofString " ") = [32] := by decide +kernel
  rw [cd_lin, cd_app, cd_app, e, cd_lin]
  cases M with
  | nil => exact absurd rfl h
  | cons y M => rfl)
theorem lin_snoc {z : Str} {M : List Str} (h : M ≠ []) : lin (M ++ [z]) = lin M ++ (Str.ofString " " ++ z) := cd_inj (by
  have e : cd (Str.ofString " ") = [32] := by decide +kernel
  rw [cd_lin, cd_app, cd_app, e, cd_lin, List.map_append, List.map_cons, List.map_nil, J_snoc (by simp [h])]
  rfl)
theorem app_assoc (a b c : Str) : a ++ b ++ c = a ++ (b ++ c) := cd_inj (by rw [cd_app, cd_app, cd_app, cd_app, List.append_assoc])
theorem gd_of {L : List Str} (h0 : L ≠ []) (h : ∀ z, z ∈ L → ∀ c, c ∈ cd z → c ≠ 32 ∧ c ≠ 10 ∧ c < 128) (sz : (lin L).length ≤ 10000) : Gd L :=
  ⟨h0, fun z hz => ⟨fun q => (h z hz 32 q).1 rfl, fun q => (h z hz 10 q).2.1 rfl, fun c hc => (h z hz c hc).2.2⟩, sz⟩
theorem lin_le {L : List Str} {n : Nat} (h : ∀ z, z ∈ L → z.length ≤ n) : (lin L).length ≤ L.length * (n + 1) := by
  rw [← cd_len, cd_lin]
  have := J_len (c := 32) (k := n) (L := L.map cd) fun x hx => by
    obtain ⟨y, hy, rfl⟩ := List.mem_map.mp hx
    rw [cd_len]
    exact h y hy
  rw [List.length_map] at this
  exact this
def badNums (m9 : Str) : List Str := ["1000000001", "07", "+1", "1_0", "-1", "x"].map Str.ofString ++ m9 :: ["1.0", "00", "1)"].map Str.ofString
def badLabs : List Str := ["zz", "zz(1", "zz(12", "zz(1]", "zz(12x", "zz(01)", "zz(301)", "zz(-1)", "zz(1)x", "Zz(1)", "zz[1]"].map Str.ofString ++ ["zzzzzzzzz(1)", "(1)", "z1(1)", "z-z(1)", "zz(+1)", "zz(00)", "zz(1))", "zz((1)", "zz()"].map Str.ofString
theorem nums_bad {m9 : Str} (h9 : cd m9 = List.replicate 5000 57) : ∀ z, z ∈ badNums m9 → numP (10 ^ 9) (cd z) = none := fun z hz => by
  unfold badNums at hz
  rcases List.mem_append.mp hz with hz | hz
  · have : ∀ z, z ∈ ["1000000001", "07", "+1", "1_0", "-1", "x"].map Str.ofString → numP (10 ^ 9) (cd z) = none := by decide +kernel
    exact this z hz
  · rcases List.mem_cons.mp hz with rfl | hz
    · rw [h9]
      refine numP_long ?_
      have : (dg (10 ^ 9)).length = 10 := by decide +kernel
      rw [this, List.length_replicate]
      decide
    · have : ∀ z, z ∈ ["1.0", "00", "1)"].map Str.ofString → numP (10 ^ 9) (cd z) = none := by decide +kernel
      exact this z hz
theorem labs_bad : ∀ z, z ∈ badLabs → labP (cd z) = none := by decide +kernel
theorem nine_bad {n : List Nat} (hn : 40 ∉ n) : labP (n ++ 40 :: (List.replicate 5000 57 ++ [41])) = none := by
  rw [labP_of hn, numP_long]
  · split <;> rfl
  · have : (dg 300).length = 3 := by decide +kernel
    rw [this, List.length_replicate]
    decide
end
end K5
namespace K5
open PySem L2 SW
section
variable {P : Program} {w : World} {K : PySem.W.Frag} {mg : Str → Option Value} {base : Heap}
structure BlOk (which : Int) (many : Nat) (there : Str) (b : Str) (L : List Str) : Prop where
  e : b = lin L
  g : Gd L
  ne : ∀ z, z ∈ L → cd z ≠ []
  bad : which ≠ 31 → ∀ (hd rs : List (List Nat × Nat)), hd.length = many → hd ≠ [] → lineF ⟨hd, rs⟩ (L.map cd) = none
  pre : which ≠ 31 → NoPre (cd b)
  dup : which = 31 → L = (there ++ Str.ofString "(1)") :: List.replicate many one1
theorem line_bad {hd rs : List (List Nat × Nat)} {z : List Nat} {vs : List (List Nat)} (h : hd ≠ []) (q : placeF hd.length rs (z :: vs) = none) : lineF ⟨hd, rs⟩ (z :: vs) = none := by
  rw [lineF_place (by simp) h]
  unfold plF
  rw [q]
  rfl
theorem pre_of {z r : List Nat} (h1 : 40 ∈ z → (∀ c, c ∈ z.takeWhile (fun c => c != 40) → c = 122) ∨ ∃ c, c ∈ z.takeWhile (fun c => c != 40) ∧ (c < 97 ∨ 122 < c)) (h2 : 40 ∉ r) : NoPre (z ++ r) := by
  by_cases h : 40 ∈ z
  · unfold NoPre
    rw [tw_app h]
    rcases h1 h with q | q
    · exact .inl q
    · exact .inr (.inl q)
  · refine .inr (.inr fun q => ?_)
    rcases List.mem_append.mp q with q | q
    · exact h q
    · exact h2 q
theorem labs_pre : ∀ z, z ∈ badLabs → 40 ∈ cd z → (∀ c, c ∈ (cd z).takeWhile (fun c => c != 40) → c = 122) ∨ ∃ c, c ∈ (cd z).takeWhile (fun c => c != 40) ∧ (c < 97 ∨ 122 < c) := by decide +kernel
theorem labs_ok : ∀ z, z ∈ badLabs → ((∀ c, c ∈ cd z → c ≠ 32 ∧ c ≠ 10 ∧ c < 128) ∧ z.length ≤ 20) ∧ cd z ≠ [] := by decide +kernel
theorem nums_ok {m9 : Str} (h9 : cd m9 = List.replicate 5000 57) : ∀ z, z ∈ badNums m9 → (∀ c, c ∈ cd z → c ≠ 32 ∧ c ≠ 10 ∧ c < 128) ∧ cd z ≠ [] ∧ 40 ∉ cd z ∧ z.length ≤ 5000 := fun z hz => by
  unfold badNums at hz
  rcases List.mem_append.mp hz with hz | hz
  · have : ∀ z, z ∈ ["1000000001", "07", "+1", "1_0", "-1", "x"].map Str.ofString → (∀ c, c ∈ cd z → c ≠ 32 ∧ c ≠ 10 ∧ c < 128) ∧ cd z ≠ [] ∧ 40 ∉ cd z ∧ z.length ≤ 5000 := by decide +kernel
    exact this z hz
  · rcases List.mem_cons.mp hz with rfl | hz
    · refine ⟨fun c hc => ?_, fun q => ?_, fun q => ?_, ?_⟩
      · rw [h9] at hc
        have := (List.mem_replicate.mp hc).2
        omega
      · rw [h9] at q
        have := congrArg List.length q
        rw [List.length_replicate] at this
        cases this
      · rw [h9] at q
        have := (List.mem_replicate.mp q).2
        omega
      · rw [← cd_len, h9, List.length_replicate]
        exact Nat.le_refl _
    · have : ∀ z, z ∈ ["1.0", "00", "1)"].map Str.ofString → (∀ c, c ∈ cd z → c ≠ 32 ∧ c ≠ 10 ∧ c < 128) ∧ cd z ≠ [] ∧ 40 ∉ cd z ∧ z.length ≤ 5000 := by decide +kernel
      exact this z hz
theorem J_no40 {L : List (List Nat)} (h : ∀ x, x ∈ L → 40 ∉ x) : 40 ∉ J 32 L := fun q => by
  rcases J_mem q with q | ⟨l, hl, q⟩
  · omega
  · exact h l hl q
theorem cd_one : cd one1 = [49] := by decide +kernel
theorem ones_ok {many : Nat} : ∀ z, z ∈ List.replicate many one1 → ((∀ c, c ∈ cd z → c ≠ 32 ∧ c ≠ 10 ∧ c < 128) ∧ z.length ≤ 20) ∧ cd z ≠ [] ∧ 40 ∉ cd z := fun z hz => by
  rw [(List.mem_replicate.mp hz).2]
  decide +kernel
theorem set_cases {α : Type} {l : List α} {j : Nat} {a x : α} (h : x ∈ l.set j a) : x = a ∨ x ∈ l := by
  rcases List.mem_or_eq_of_mem_set h with h | h
  · exact .inr h
  · exact .inl h
abbrev zz1 : Str := Str.ofString "zz(1)"
theorem cd_zz1 : cd zz1 = [122, 122, 40, 49, 41] := by decide +kernel
theorem zz1_pre {r : List Nat} (h : 40 ∉ r) : NoPre (cd zz1 ++ r) := pre_of (fun _ => .inl (by rw [cd_zz1]; decide)) h
theorem bl_vote {which : Int} {many : Nat} {there z m9 : Str} {j : Nat} (h9 : cd m9 = List.replicate 5000 57) (h31 : which ≠ 31) (hm : many ≤ 12) (hz : z ∈ badNums m9) (hj : j < many) : BlOk which many there (Str.ofString "zz(1) " ++ lin ((List.replicate many one1).set j z)) (zz1 :: (List.replicate many one1).set j z) := by
  obtain ⟨q1, q2, q3, q4⟩ := nums_ok h9 z hz
  have ne : (List.replicate many one1).set j z ≠ [] := fun e => by have := congrArg List.length e; rw [List.length_set, List.length_replicate] at this; simp at this; omega
  have mem : z ∈ (List.replicate many one1).set j z := List.mem_of_getElem? (i := j) (by rw [List.getElem?_set_self (by rw [List.length_replicate]; exact hj)])
  have e : Str.ofString "zz(1) " ++ lin ((List.replicate many one1).set j z) = lin (zz1 :: (List.replicate many one1).set j z) := by
    rw [lin_cons ne, ← app_assoc]
    congr 1
  have no40 : 40 ∉ (32 :: J 32 (((List.replicate many one1).set j z).map cd)) := fun q => by
    rcases List.mem_cons.mp q with q | q
    · omega
    · refine J_no40 (fun x hx => ?_) q
      obtain ⟨y, hy, rfl⟩ := List.mem_map.mp hx
      rcases set_cases hy with rfl | hy
      · exact q3
      · exact (ones_ok y hy).2.2
  refine ⟨e, gd_of (by simp) (fun y hy => ?_) ?_, fun y hy => ?_, fun _ hd rs hl hne => ?_, fun _ => ?_, fun q => absurd q h31⟩
  · rcases List.mem_cons.mp hy with rfl | hy
    · exact (by decide +kernel : ∀ c, c ∈ cd zz1 → c ≠ 32 ∧ c ≠ 10 ∧ c < 128)
    · rcases set_cases hy with rfl | hy
      · exact q1
      · exact (ones_ok y hy).1.1
  · rw [← e, app_len]
    have l6 : (Str.ofString "zz(1) ").length = 6 := by decide +kernel
    have := lin_le (L := (List.replicate many one1).set j z) (n := 5000) fun y hy => by
      rcases set_cases hy with rfl | hy
      · exact q4
      · have := (ones_ok y hy).1.2; omega
    have sp : (lin ((List.replicate many one1).set j z)).length ≤ 9000 := by
      rw [← cd_len, cd_lin]
      have g : ∀ {L : List (List Nat)} {i : Nat} {x : List Nat}, i < L.length → (J 32 (L.set i x)).length ≤ (J 32 L).length + x.length := fun {L} => by
        induction L with
        | nil => intro i x h; simp at h
        | cons a L ih =>
          intro i x h
          cases i with
          | zero =>
            cases L with
            | nil => show x.length ≤ a.length + x.length; omega
            | cons b L => show (x ++ 32 :: J 32 (b :: L)).length ≤ (a ++ 32 :: J 32 (b :: L)).length + x.length; rw [List.length_append, List.length_append]; omega
          | succ i =>
            cases L with
            | nil => simp at h
            | cons b L =>
              have := ih (i := i) (x := x) (by simpa using h)
              rw [List.set_cons_succ]
              cases hs : (b :: L).set i x with
              | nil => have := congrArg List.length hs; rw [List.length_set] at this; simp at this
              | cons b' L' =>
                rw [hs] at this
                show (a ++ 32 :: J 32 (b' :: L')).length ≤ (a ++ 32 :: J 32 (b :: L)).length + x.length
                rw [List.length_append, List.length_append, List.length_cons, List.length_cons]
                omega
      rw [List.map_set]
      have := g (L := (List.replicate many one1).map cd) (i := j) (x := cd z) (by rw [List.length_map, List.length_replicate]; exact hj)
      have l2 := J_len (c := 32) (k := 1) (L := (List.replicate many one1).map cd) fun x hx => by
        obtain ⟨y, hy, rfl⟩ := List.mem_map.mp hx
        rw [(List.mem_replicate.mp hy).2]
        decide +kernel
      rw [List.length_map, List.length_replicate] at l2
      rw [cd_len z] at this
      omega
    omega
  · rcases List.mem_cons.mp hy with rfl | hy
    · decide +kernel
    · rcases set_cases hy with rfl | hy
      · exact q2
      · exact (ones_ok y hy).2.1
  · rw [List.map_cons]
    exact line_bad hne (placeF_vote (List.mem_map_of_mem (f := cd) mem) (nums_bad h9 z hz))
  · rw [e, cd_lin, List.map_cons]
    have : J 32 (cd zz1 :: ((List.replicate many one1).set j z).map cd) = cd zz1 ++ 32 :: J 32 (((List.replicate many one1).set j z).map cd) := by
      cases hq : ((List.replicate many one1).set j z).map cd with
      | nil => exact absurd (List.map_eq_nil_iff.mp hq) ne
      | cons => rfl
    rw [this]
    exact zz1_pre no40
theorem ones_ne {many : Nat} (h : 0 < many) : List.replicate many one1 ≠ [] := fun e => by have := congrArg List.length e; rw [List.length_replicate] at this; simp at this; omega
theorem lin_cons_cd {z : Str} {M : List Str} (h : M ≠ []) : cd (lin (z :: M)) = cd z ++ 32 :: cd (lin M) := by
  have e : cd (Str.ofString " ") = [32] := by decide +kernel
  rw [lin_cons h, cd_app, cd_app, e]
  rfl
theorem ones_no40 {many : Nat} : 40 ∉ 32 :: cd (lin (List.replicate many one1)) := fun q => by
  rcases List.mem_cons.mp q with q | q
  · omega
  · rw [cd_lin] at q
    refine J_no40 (fun x hx => ?_) q
    obtain ⟨y, hy, rfl⟩ := List.mem_map.mp hx
    exact (ones_ok y hy).2.2
theorem ones_len {many : Nat} (hm : many ≤ 12) : (lin (List.replicate many one1)).length ≤ 24 := by
  have := lin_le (L := List.replicate many one1) (n := 1) fun y hy => by rw [(List.mem_replicate.mp hy).2]; decide +kernel
  rw [List.length_replicate] at this
  omega
theorem bl_lab {which : Int} {many : Nat} {there z : Str} (h31 : which ≠ 31) (h0 : 0 < many) (hm : many ≤ 12) (hz : z ∈ badLabs) : BlOk which many there (z ++ (Str.ofString " " ++ lin (List.replicate many one1))) (z :: List.replicate many one1) := by
  obtain ⟨q1, q2⟩ := labs_ok z hz
  have e := lin_cons (z := z) (ones_ne h0)
  refine ⟨e.symm, gd_of (by simp) (fun y hy => ?_) ?_, fun y hy => ?_, fun _ hd rs hl hne => ?_, fun _ => ?_, fun q => absurd q h31⟩
  · rcases List.mem_cons.mp hy with rfl | hy
    · exact q1.1
    · exact (ones_ok y hy).1.1
  · have := ones_len hm
    have l1 : (Str.ofString " ").length = 1 := by decide +kernel
    rw [e, app_len, app_len, l1]
    have := q1.2
    omega
  · rcases List.mem_cons.mp hy with rfl | hy
    · exact q2
    · exact (ones_ok y hy).2.1
  · rw [List.map_cons]
    exact line_bad hne (placeF_lab (labN_bad (labs_bad z hz)))
  · rw [← e, lin_cons_cd (ones_ne h0)]
    exact pre_of (labs_pre z hz) ones_no40
abbrev zz9 (m9 : Str) : Str := Str.ofString "zz(" ++ m9 ++ Str.ofString ")"
theorem cd_zz9 {m9 : Str} (h9 : cd m9 = List.replicate 5000 57) : cd (zz9 m9) = [122, 122] ++ 40 :: (List.replicate 5000 57 ++ [41]) := by
  have e1 : cd (Str.ofString "zz(") = [122, 122, 40] := by decide +kernel
  have e2 : cd (Str.ofString ")") = [41] := by decide +kernel
  rw [cd_app, cd_app, h9, e1, e2, List.append_assoc]
  rfl
theorem bl_nine {which : Int} {many : Nat} {there m9 z9 : Str} (h9 : cd m9 = List.replicate 5000 57) (hz : z9 = zz9 m9) (h31 : which ≠ 31) (h0 : 0 < many) (hm : many ≤ 12) : BlOk which many there (z9 ++ (Str.ofString " " ++ lin (List.replicate many one1))) (z9 :: List.replicate many one1) := by
  have c9 : cd z9 = [122, 122] ++ 40 :: (List.replicate 5000 57 ++ [41]) := by rw [hz]; exact cd_zz9 h9
  have e := lin_cons (z := z9) (ones_ne h0)
  have l9 : z9.length = 5004 := by
    rw [← cd_len, c9]
    simp only [List.length_append, List.length_cons, List.length_replicate, List.length_nil]
  refine ⟨e.symm, gd_of (by simp) (fun y hy => ?_) ?_, fun y hy => ?_, fun _ hd rs hl hne => ?_, fun _ => ?_, fun q => absurd q h31⟩
  · rcases List.mem_cons.mp hy with rfl | hy
    · intro c hc
      rw [c9] at hc
      simp only [List.mem_append, List.mem_cons, List.not_mem_nil, or_false] at hc
      rcases hc with hc | hc | hc | hc
      · omega
      · omega
      · have := (List.mem_replicate.mp hc).2; omega
      · omega
    · exact (ones_ok y hy).1.1
  · have := ones_len hm
    have l1 : (Str.ofString " ").length = 1 := by decide +kernel
    rw [e, app_len z9, l9, app_len, l1]
    omega
  · rcases List.mem_cons.mp hy with rfl | hy
    · rw [c9]; simp
    · exact (ones_ok y hy).2.1
  · rw [List.map_cons, c9]
    exact line_bad hne (placeF_lab (labN_bad (nine_bad (by decide))))
  · rw [← e, lin_cons_cd (ones_ne h0)]
    refine pre_of (fun _ => .inl ?_) ones_no40
    rw [c9, tw40 (by decide)]
    decide
theorem bl_dup {many : Nat} {there : Str} (h0 : 0 < many) (hm : many ≤ 12) (ok : NameOk there) : BlOk 31 many there (there ++ Str.ofString "(1)" ++ (Str.ofString " " ++ lin (List.replicate many one1))) ((there ++ Str.ofString "(1)") :: List.replicate many one1) := by
  have e := lin_cons (z := there ++ Str.ofString "(1)") (ones_ne h0)
  have e1 : cd (Str.ofString "(1)") = [40, 49, 41] := by decide +kernel
  have l3 : (Str.ofString "(1)").length = 3 := by decide +kernel
  have ok8 := ok.le
  refine ⟨e.symm, gd_of (by simp) (fun y hy => ?_) ?_, fun y hy => ?_, fun q => absurd rfl q, fun q => absurd rfl q, fun _ => rfl⟩
  · rcases List.mem_cons.mp hy with rfl | hy
    · intro c hc
      rw [cd_app, e1] at hc
      simp only [List.mem_append, List.mem_cons, List.not_mem_nil, or_false] at hc
      rcases hc with hc | hc
      · have := ok.let' c hc; omega
      · omega
    · exact (ones_ok y hy).1.1
  · have := ones_len hm
    have l1 : (Str.ofString " ").length = 1 := by decide +kernel
    rw [e, app_len, app_len, app_len, l1, l3]
    omega
  · rcases List.mem_cons.mp hy with rfl | hy
    · rw [cd_app, e1]; simp
    · exact (ones_ok y hy).2.1
theorem bl_count {which : Int} {many n : Nat} {there : Str} (h31 : which ≠ 31) (hn : n ≠ many) (hm : n ≤ 13) : BlOk which many there (lin (zz1 :: List.replicate n one1)) (zz1 :: List.replicate n one1) := by
  refine ⟨rfl, gd_of (by simp) (fun y hy => ?_) ?_, fun y hy => ?_, fun _ hd rs hl hne => ?_, fun _ => ?_, fun q => absurd q h31⟩
  · rcases List.mem_cons.mp hy with rfl | hy
    · exact (by decide +kernel : ∀ c, c ∈ cd zz1 → c ≠ 32 ∧ c ≠ 10 ∧ c < 128)
    · exact (ones_ok y hy).1.1
  · have := lin_le (L := zz1 :: List.replicate n one1) (n := 20) fun y hy => by
      rcases List.mem_cons.mp hy with rfl | hy
      · decide +kernel
      · exact (ones_ok y hy).1.2
    rw [List.length_cons, List.length_replicate] at this
    omega
  · rcases List.mem_cons.mp hy with rfl | hy
    · decide +kernel
    · exact (ones_ok y hy).2.1
  · rw [List.map_cons]
    exact line_bad hne (placeF_count (by rw [List.length_map, List.length_replicate, hl]; exact hn))
  · by_cases h0 : 0 < n
    · rw [lin_cons_cd (ones_ne h0)]
      exact zz1_pre ones_no40
    · rw [show n = 0 by omega]
      have : cd (lin (zz1 :: List.replicate 0 one1)) = cd zz1 ++ [] := by rw [List.append_nil]; exact cd_lin _
      rw [this]
      exact zz1_pre (by simp)
theorem bl_word {which : Int} {many : Nat} {there z : Str} (h31 : which ≠ 31) (h1 : (∀ c, c ∈ cd z → c ≠ 32 ∧ c ≠ 10 ∧ c < 128)) (hl : z.length ≤ 100) (h2 : cd z ≠ []) (h3 : labP (cd z) = none) (h4 : NoPre (cd z)) : BlOk which many there z [z] := by
  have e : lin [z] = z := cd_inj (cd_lin _)
  refine ⟨e.symm, ⟨by simp, fun y hy => ?_, by rw [e]; omega⟩, fun y hy => ?_, fun _ hd rs hl hne => ?_, fun _ => h4, fun q => absurd q h31⟩
  · rw [(by simpa using hy : y = z)]
    exact ⟨fun q => (h1 32 q).1 rfl, fun q => (h1 10 q).2.1 rfl, fun c hc => (h1 c hc).2.2⟩
  · rw [(by simpa using hy : y = z)]
    exact h2
  · exact line_bad hne (placeF_lab (labN_bad h3))
theorem cd_tab (n : Nat) (h : 0 < n) : cd (zz1 ++ Txt.mul (Str.ofString "\t1") (n : Int)) = [122, 122, 40, 49, 41] ++ (List.replicate n [9, 49]).flatten := by
  have e : cd (Str.ofString "\t1") = [9, 49] := by decide +kernel
  rw [cd_app, cd_zz1, mulS_cd _ (by omega), e, Int.toNat_natCast]
theorem bl_tab {which : Int} {many : Nat} {there : Str} (h31 : which ≠ 31) (h0 : 0 < many) (hm : many ≤ 12) : BlOk which many there (zz1 ++ Txt.mul (Str.ofString "\t1") (many : Int)) [zz1 ++ Txt.mul (Str.ofString "\t1") (many : Int)] := by
  have key : ∀ n, 0 < n → n ≤ 12 → (∀ c, c ∈ [122, 122, 40, 49, 41] ++ (List.replicate n [9, 49]).flatten → c ≠ 32 ∧ c ≠ 10 ∧ c < 128) ∧ ([122, 122, 40, 49, 41] ++ (List.replicate n [9, 49]).flatten).length ≤ 100 ∧ labP ([122, 122, 40, 49, 41] ++ (List.replicate n [9, 49]).flatten) = none ∧ ∀ c, c ∈ ([122, 122, 40, 49, 41] ++ (List.replicate n [9, 49]).flatten).takeWhile (fun c => c != 40) → c = 122 := by
    have : ∀ n, n < 13 → 0 < n → (∀ c, c ∈ [122, 122, 40, 49, 41] ++ (List.replicate n [9, 49]).flatten → c ≠ 32 ∧ c ≠ 10 ∧ c < 128) ∧ ([122, 122, 40, 49, 41] ++ (List.replicate n [9, 49]).flatten).length ≤ 100 ∧ labP ([122, 122, 40, 49, 41] ++ (List.replicate n [9, 49]).flatten) = none ∧ ∀ c, c ∈ ([122, 122, 40, 49, 41] ++ (List.replicate n [9, 49]).flatten).takeWhile (fun c => c != 40) → c = 122 := by decide +kernel
    exact fun n h1 h2 => this n (by omega) h1
  obtain ⟨k1, k2, k3, k4⟩ := key many h0 hm
  have e := cd_tab many h0
  rw [← e] at k1 k2 k3 k4
  refine bl_word h31 k1 (by rw [← cd_len]; exact k2) ?_ k3 (.inl k4)
  rw [e]; simp
theorem bl_end {which : Int} {m : Nat} {there : Str} (h31 : which ≠ 31) (hm : m + 1 ≤ 12) : BlOk which (m + 1) there (lin (zz1 :: List.replicate (m + 1) one1) ++ Str.ofString "\t") (zz1 :: (List.replicate m one1 ++ [Str.ofString "1\t"])) := by
  have e1 : Str.ofString "1\t" = one1 ++ Str.ofString "\t" := cd_inj (by decide +kernel)
  have e2 : lin (zz1 :: List.replicate (m + 1) one1) ++ Str.ofString "\t" = lin (zz1 :: (List.replicate m one1 ++ [Str.ofString "1\t"])) := cd_inj (by
    rw [cd_app, cd_lin, cd_lin, List.replicate_succ', e1, ← List.cons_append, ← List.cons_append, List.map_append, List.map_append, List.map_cons (f := cd) (a := one1), List.map_cons (f := cd) (a := one1 ++ _), List.map_nil, cd_app]
    exact (J_last (c := 32)).symm)
  have mem : ∀ y, y ∈ zz1 :: (List.replicate m one1 ++ [Str.ofString "1\t"]) → ((∀ c, c ∈ cd y → c ≠ 32 ∧ c ≠ 10 ∧ c < 128) ∧ y.length ≤ 20) ∧ cd y ≠ [] ∧ (y = zz1 ∨ 40 ∉ cd y) := fun y hy => by
    rcases List.mem_cons.mp hy with rfl | hy
    · exact ⟨by decide +kernel, by decide +kernel, .inl rfl⟩
    · rcases List.mem_append.mp hy with hy | hy
      · exact ⟨(ones_ok y hy).1, (ones_ok y hy).2.1, .inr (ones_ok y hy).2.2⟩
      · rw [(by simpa using hy : y = _)]
        exact ⟨by decide +kernel, by decide +kernel, .inr (by decide +kernel)⟩
  have ne : List.replicate m one1 ++ [Str.ofString "1\t"] ≠ [] := by simp
  refine ⟨e2, gd_of (by simp) (fun y hy => (mem y hy).1.1) ?_, fun y hy => (mem y hy).2.1, fun _ hd rs hl hne => ?_, fun _ => ?_, fun q => absurd q h31⟩
  · have := lin_le (L := zz1 :: (List.replicate m one1 ++ [Str.ofString "1\t"])) (n := 20) fun y hy => (mem y hy).1.2
    rw [List.length_cons, List.length_append, List.length_replicate] at this
    simp at this
    omega
  · rw [List.map_cons]
    exact line_bad hne (placeF_vote (v := cd (Str.ofString "1\t")) (List.mem_map_of_mem (f := cd) (by simp)) (by decide +kernel))
  · rw [e2, lin_cons_cd ne]
    refine zz1_pre fun q => ?_
    rcases List.mem_cons.mp q with q | q
    · omega
    · rw [cd_lin] at q
      refine J_no40 (fun x hx => ?_) q
      obtain ⟨y, hy, rfl⟩ := List.mem_map.mp hx
      rcases List.mem_append.mp hy with hy | hy
      · exact (ones_ok y hy).2.2
      · rw [(by simpa using hy : y = _)]
        decide +kernel
end
end K5
namespace K5
open PySem L2 SW
section
variable {P : Program} {w : World} {K : PySem.W.Frag} {mg : Str → Option Value} {base : Heap}
def spBadLine : Sp := fun vs H Q _ => ∃ (which : Int) (many : Nat) (there : Str) (spot : Int), vs = [.int which, .int (many : Int), .str there, .int spot] ∧ 0 ≤ which ∧ which < 37 ∧ 0 < many ∧ many ≤ 12 ∧ NameOk there ∧ 0 ≤ spot ∧ spot < many ∧
  ∀ (b : Str) (L : List Str) (H' : Hp), Same H H' → BlOk which many there b L → Q (.str b) H'
theorem rep_one (n : Nat) : (List.replicate n [V.str one1]).flatten = (List.replicate n one1).map V.str := by
  rw [List.map_replicate]
  induction n with
  | zero => rfl
  | succ n ih => rw [List.replicate_succ, List.flatten_cons, ih]; rfl
theorem at_strs {ys : List Str} {k : Int} (h0 : 0 ≤ k) (h1 : k.toNat < ys.length) : atI (ys.map V.str) k = some (.str ys[k.toNat]) := atI_of h0 (by rw [List.getElem?_map, List.getElem?_eq_getElem h1]; rfl)
seal PSs PS PE PA PT PG PI PO
theorem ok_lbad_line (T : Txt K mg) : FnOk P w K mg base CX0 1 T.a_lbad_line T.fd_lbad_line ["_law_which", "_law_many", "_law_there", "_law_spot"] spBadLine := by
  refine T.F_lbad_line.ok sc_lbad_line (fun vs H Q E h => ?_) (fun cdv A outer s H vs Q E hr h => ?_)
  · obtain ⟨_, _, _, _, rfl, _⟩ := h
    rfl
  obtain ⟨which, many, there, spot, rfl, w0, w37, m0, m12, ok, s0, s1, k⟩ := h
  refine ⟨_, (pss_cons (ps_set (i := 4) sc_lbad_line.nd rfl (Or.inl rfl) (pe_op op_rep (pe_lstA (pa_cons pe_str pa_nil)) (pv 1)))
      (pss_cons (ps_if (pt_cmpR op_lt (pv 0) pe_int (nomark _))
      (pss_cons (ps_asg (pe_ix (ix_Q K) (pe_tupA (pa_cons pe_str (pa_cons pe_str (pa_cons pe_str (pa_cons pe_str (pa_cons pe_str (pa_cons pe_str (pa_cons (pe_op op_mulS pe_str pe_int) (pa_cons pe_str (pa_cons pe_str (pa_cons pe_str pa_nil))))))))))) (pv 0) (fun _ _ => rfl)) (pg_sub (pv 4) (pv 3) set_list))
      (pss_one (ps_ret (pe_op op_add_str pe_str (pe_bm PySem.F.plainAttrs_str PySem.F.slot_str_join PySem.F.type_str_join (join_Q K) pe_str (pa_cons (pv 4) pa_nil))))))
      pss_nil)
      (pss_cons (ps_set (i := 5) sc_lbad_line.nd rfl (Or.inl rfl) (pe_op op_add_str pe_str (pe_bm PySem.F.plainAttrs_str PySem.F.slot_str_join PySem.F.type_str_join (join_Q K) pe_str (pa_cons (pv 4) pa_nil))))
      (pss_cons (ps_set (i := 6) sc_lbad_line.nd rfl (Or.inl rfl) (pe_lstA (pa_cons pe_str (pa_cons pe_str (pa_cons pe_str (pa_cons pe_str (pa_cons pe_str (pa_cons pe_str (pa_cons pe_str (pa_cons pe_str (pa_cons pe_str (pa_cons pe_str (pa_cons pe_str pa_nil)))))))))))))
      (pss_cons (ps_set (i := 6) sc_lbad_line.nd rfl (Or.inl rfl) (pe_op op_catN (pv 6) (pe_lstA (pa_cons pe_str (pa_cons pe_str (pa_cons pe_str (pa_cons pe_str (pa_cons pe_str (pa_cons pe_str (pa_cons pe_str (pa_cons pe_str (pa_cons pe_str pa_nil))))))))))))
      (pss_cons (ps_set (i := 6) sc_lbad_line.nd rfl (Or.inl rfl) (pe_op op_catN (pv 6) (pe_lstA (pa_cons (pe_op op_add_str (pe_op op_add_str pe_str (pe_op op_mulS pe_str pe_int)) pe_str) (pa_cons (pe_op op_add_str (pv 2) pe_str) pa_nil)))))
      (pss_cons (ps_if (pt_cmpR op_lt (pv 0) (pe_op op_add pe_int (pe_callB (len_Q K) (by rfl) T.n_len PySem.boot_len (pa_cons (pv 6) pa_nil))) (nomark _))
      (pss_one (ps_ret (pe_op op_add_str (pe_ix (ix_Q K) (pv 6) (pe_op op_sub (pv 0) pe_int) (fun _ _ => rfl)) (pv 5))))
      pss_nil)
      (pss_cons (ps_set (i := 7) sc_lbad_line.nd rfl (Or.inl rfl) (pe_lstA (pa_cons (pe_op op_add_str (pe_op op_add_str pe_str (pv 5)) pe_str) (pa_cons (pe_op op_add_str pe_str (pe_slice sl_str (pv 5) (po_some pe_int) po_none)) (pa_cons (pe_op op_add_str pe_str (pe_op op_mulS pe_str (pv 1))) (pa_cons (pe_op op_add_str (pe_op op_add_str pe_str (pv 5)) pe_str) (pa_cons pe_str pa_nil)))))))
      (pss_one (ps_ret (pe_ix (ix_Q K) (pv 7) (pe_op op_sub (pe_op op_sub (pv 0) pe_int) (pe_callB (len_Q K) (by rfl) T.n_len PySem.boot_len (pa_cons (pv 6) pa_nil))) (fun _ _ => rfl)))))))))))), ?_⟩
  have big : (20000 : Nat) ≤ sizeLine := by decide
  have ok8 := ok.le
  have l0 : (Str.ofString " ").length = 1 := by decide +kernel
  have n9 : MulOk (Str.ofString "9") 5000 := mul_ok2 _ (.inl (by decide +kernel)) (by decide) (by decide)
  have h9 : cd (Txt.mul (Str.ofString "9") 5000) = List.replicate 5000 57 := mul_cd 57 5000
  refine ⟨(by show 1 ≤ sizeLine; decide), fun l1 H1 N1 => ?_⟩
  refine ⟨_, rfl, ?_⟩
  refine ⟨l1, _, _, rfl, rfl, N1.at_, by omega, by omega, ?_, fun vl nvl => ?_⟩
  · rw [Int.toNat_natCast]
    show 1 * many ≤ sizeLine
    omega
  rw [Int.toNat_natCast, rep_one]
  have S2 : Same H (upd H1 vl (.lst ((List.replicate many one1).map V.str))) := N1.same.upd (N1.same.free nvl)
  have hv2 : upd H1 vl (.lst ((List.replicate many one1).map V.str)) vl = _ := upd_same
  have nv : H vl = none := N1.same.free nvl
  generalize upd H1 vl (.lst ((List.replicate many one1).map V.str)) = H2 at *
  refine ⟨_, rfl, _, _, rfl, rfl, _, rfl, ?_⟩
  refine ite3 (fun c => ?_) (fun c => ?_)
  · skip
    refine ⟨_, _, rfl, rfl, n9, ?_⟩
    generalize Txt.mul (Str.ofString "9") 5000 = m9 at *
    refine ⟨(by show 10 ≤ sizeLine; decide), fun t H3 N3 => ?_⟩
    have ht : H3 t = some (.tup ((badNums m9).map V.str)) := N3.at_
    have lb : which.toNat < (badNums m9).length := by show which.toNat < 10; omega
    have at_ := at_strs (ys := badNums m9) w0 lb
    have hz : (badNums m9)[which.toNat] ∈ badNums m9 := List.getElem_mem lb
    generalize (badNums m9)[which.toNat] = z at *
    have hv3 := N3.same _ _ hv2
    have hs : ixN ((List.replicate many one1).map V.str).length spot = some spot.toNat := by
      have := ixN_nat (n := ((List.replicate many one1).map V.str).length) (v := spot.toNat) (by rw [List.length_map, List.length_replicate]; omega)
      rw [show ((spot.toNat : Nat) : Int) = spot by omega] at this
      exact this
    refine ⟨_, rfl, _, _, _, _, rfl, rfl, Or.inr (SqT.of (by assumption)), by assumption, _, rfl, _, rfl, ?_⟩
    refine ⟨vl, _, _, spot.toNat, rfl, rfl, hv3, hs, ?_⟩
    have e4 : ((List.replicate many one1).map V.str).set spot.toNat (V.str z) = ((List.replicate many one1).set spot.toNat z).map V.str := (List.map_set ..).symm
    rw [e4]
    have S4 : Same H (upd H3 vl (.lst (((List.replicate many one1).set spot.toNat z).map V.str))) := (S2.trans N3.same).upd nv
    have hv4 : upd H3 vl (.lst (((List.replicate many one1).set spot.toNat z).map V.str)) vl = _ := upd_same
    generalize upd H3 vl (.lst (((List.replicate many one1).set spot.toNat z).map V.str)) = H4 at *
    have bl := bl_vote (which := which) (there := there) h9 (by omega) m12 hz (show spot.toNat < many by omega)
    have hsz := bl.g.sz
    have lz : ∀ y, y ∈ (List.replicate many one1).set spot.toNat z → y.length ≤ 5000 := fun y hy => by
      rcases set_cases hy with rfl | hy
      · exact (nums_ok h9 y hz).2.2.2
      · have := (ones_ok y hy).1.2; omega
    have hsum := sum_len lz
    rw [List.length_set, List.length_replicate] at hsum
    refine ⟨rfl, _, rfl, ?_⟩
    refine ⟨_, vl, _, rfl, rfl, SqL.of hv4, ?_, ?_⟩
    · rw [l0, List.length_set, List.length_replicate]
      omega
    have ej : Txt.join (Str.ofString " ") ((List.replicate many one1).set spot.toNat z) = lin ((List.replicate many one1).set spot.toNat z) := join_cd 32 _
    rw [ej]
    refine ⟨_, _, rfl, rfl, ?_, k _ _ H4 S4 bl⟩
    have l6 : (Str.ofString "zz(1) ").length = 6 := by decide +kernel
    have := bl.e
    have := congrArg Str.length this
    rw [app_len] at this
    omega
  have w10 : 10 ≤ which := by omega
  have hsum := sum_len (ys := List.replicate many one1) (k := 20) fun y hy => (ones_ok y hy).1.2
  rw [List.length_replicate] at hsum
  have lon := ones_len m12
  refine ⟨rfl, _, rfl, ?_⟩
  refine ⟨_, vl, _, rfl, rfl, SqL.of hv2, ?_, ?_⟩
  · rw [l0, List.length_replicate]
    omega
  have ej : Txt.join (Str.ofString " ") (List.replicate many one1) = lin (List.replicate many one1) := join_cd 32 _
  rw [ej]
  refine ⟨_, _, rfl, rfl, by omega, ?_⟩
  refine ⟨(by show 11 ≤ sizeLine; decide), fun a1 H3 N3 => ?_⟩
  refine ⟨_, rfl, ?_⟩
  refine ⟨(by show 9 ≤ sizeLine; decide), fun a2 H4 N4 => ?_⟩
  refine ⟨a1, a2, _, _, rfl, rfl, N4.same _ _ N3.at_, N4.at_, (by show 11 + 9 ≤ sizeLine; decide), fun a3 H5 N5 => ?_⟩
  have h5 : H5 a3 = some (.lst (badLabs.map V.str)) := N5.at_
  refine ⟨_, rfl, ?_⟩
  refine ⟨_, _, rfl, rfl, n9, ?_⟩
  have m5 : (Txt.mul (Str.ofString "9") 5000).length = 5000 := by rw [← cd_len, h9, List.length_replicate]
  generalize Txt.mul (Str.ofString "9") 5000 = m9 at *
  have l3 : (Str.ofString "zz(").length = 3 := by decide +kernel
  have l4 : (Str.ofString ")").length = 1 := by decide +kernel
  have l5 : (Str.ofString "(1)").length = 3 := by decide +kernel
  refine ⟨_, _, rfl, rfl, by omega, ?_⟩
  refine ⟨_, _, rfl, rfl, by rw [app_len]; omega, ?_⟩
  obtain ⟨z9, ez9⟩ : ∃ z9, z9 = zz9 m9 := ⟨_, rfl⟩
  have ez9' : Str.ofString "zz(" ++ m9 ++ Str.ofString ")" = z9 := ez9.symm
  rw [ez9']
  refine ⟨_, rfl, ?_⟩
  refine ⟨_, _, rfl, rfl, by omega, ?_⟩
  obtain ⟨td, etd⟩ : ∃ td, td = there ++ Str.ofString "(1)" := ⟨_, rfl⟩
  rw [← etd]
  refine ⟨(by show 2 ≤ sizeLine; decide), fun a4 H6 N6 => ?_⟩
  refine ⟨a3, a4, _, _, rfl, rfl, N6.same _ _ h5, N6.at_, (by show 20 + 2 ≤ sizeLine; decide), fun a5 H7 N7 => ?_⟩
  have h7 : H7 a5 = some (.lst ((badLabs ++ [z9, td]).map V.str)) := N7.at_
  have S7 := S2.trans (N3.same.trans (N4.same.trans (N5.same.trans (N6.same.trans N7.same))))
  refine ⟨_, rfl, _, rfl, _, _, rfl, Or.inl (SqL.of (by assumption)), _, _, rfl, rfl, _, _, rfl, rfl, _, rfl, ?_⟩
  refine ite3 (fun c2 => ?_) (fun c2 => ?_)
  · have w32 : which < 32 := c2
    have lt : (which - 10).toNat < (badLabs ++ [z9, td]).length := by show (which - 10).toNat < 22; omega
    have at_ := at_strs (ys := badLabs ++ [z9, td]) (k := which - 10) (by omega) lt
    have bl : ∃ L, BlOk which many there ((badLabs ++ [z9, td])[(which - 10).toNat] ++ (Str.ofString " " ++ lin (List.replicate many one1))) L := by
      by_cases h20 : (which - 10).toNat < 20
      · have eg : (badLabs ++ [z9, td])[(which - 10).toNat] = badLabs[(which - 10).toNat]'(by show _ < 20; exact h20) := List.getElem_append_left _
        rw [eg]
        exact ⟨_, bl_lab (by omega) m0 m12 (List.getElem_mem _)⟩
      · by_cases h30 : which = 30
        · subst h30
          exact ⟨_, bl_nine h9 ez9 (by omega) m0 m12⟩
        · have : which = 31 := by omega
          subst this
          have := bl_dup (there := there) m0 m12 ok
          rw [← etd] at this
          exact ⟨_, this⟩
    obtain ⟨L, bl⟩ := bl
    generalize (badLabs ++ [z9, td])[(which - 10).toNat] = z at *
    have hsz := bl.g.sz
    have := congrArg Str.length bl.e
    rw [app_len, app_len] at this
    refine ⟨_, rfl, _, rfl, _, _, rfl, rfl, _, _, _, _, rfl, rfl, Or.inl (SqL.of (by assumption)), by assumption, _, rfl, ?_⟩
    refine ⟨_, _, rfl, rfl, by rw [app_len]; omega, k _ L H7 S7 bl⟩
  · have w32 : 32 ≤ which := by
      have c2 : ¬ which < 32 := c2
      omega
    have lz : (Str.ofString "zz(1)").length = 5 := by decide +kernel
    have ly : (Str.ofString " 1").length = 2 := by decide +kernel
    have lt : (Str.ofString "\t").length = 1 := by decide +kernel
    have lt1 : (Str.ofString "\t1").length = 2 := by decide +kernel
    obtain ⟨m, em⟩ : ∃ m, many = m + 1 := ⟨many - 1, by omega⟩
    have ed : ∀ x : Nat, (Str.ofString " " ++ lin (List.replicate (m + 1) one1)).length = 1 + (lin (List.replicate (m + 1) one1)).length := fun _ => by rw [app_len, l0]
    have esl : Txt.slice (Str.ofString " " ++ lin (List.replicate many one1)) (some 2) none = if m = 0 then Str.empty else Str.ofString " " ++ lin (List.replicate m one1) := by
      have e2 : cd (Str.ofString " ") = [32] := by decide +kernel
      have ec : cd (Str.ofString " " ++ lin (List.replicate many one1)) = 32 :: 49 :: (if m = 0 then [] else 32 :: J 32 ((List.replicate m one1).map cd)) := by
        rw [cd_app, e2, cd_lin, em, List.replicate_succ, List.map_cons, cd_one]
        cases m with
        | zero => rfl
        | succ m => rfl
      have l2 : 2 ≤ (Str.ofString " " ++ lin (List.replicate many one1)).length := by rw [← cd_len, ec]; simp
      rw [show (2 : Int) = ((2 : Nat) : Int) from rfl, slice_from l2, ec]
      refine cd_inj ?_
      rw [cd_mk]
      split
      · rfl
      · rw [cd_app, e2, cd_lin]
        rfl
    have lm : (if m = 0 then Str.empty else Str.ofString " " ++ lin (List.replicate m one1)).length ≤ 30 := by
      split
      · decide
      · rw [app_len, l0]
        have := ones_len (many := m) (by omega)
        omega
    refine ⟨_, rfl, ?_⟩
    refine ⟨_, _, rfl, rfl, by rw [app_len]; omega, ?_⟩
    refine ⟨_, _, rfl, rfl, by rw [app_len, app_len]; omega, ?_⟩
    refine ⟨_, rfl, _, rfl, ?_⟩
    refine ⟨_, rfl, by rw [app_len]; omega, ?_⟩
    rw [esl]
    refine ⟨_, _, rfl, rfl, by omega, ?_⟩
    refine ⟨_, rfl, ?_⟩
    refine ⟨_, _, rfl, rfl, mul_ok2 _ (.inr lt1) (by omega) (by omega), ?_⟩
    have ltm : (Txt.mul (Str.ofString "\t1") (many : Int)).length ≤ 24 := by
      rw [← cd_len, mulS_cd _ (by omega), Int.toNat_natCast]
      have e : cd (Str.ofString "\t1") = [9, 49] := by decide +kernel
      rw [e]
      have : ∀ n : Nat, (List.replicate n [9, 49]).flatten.length = 2 * n := fun n => by
        induction n with
        | zero => rfl
        | succ n ih => rw [List.replicate_succ, List.flatten_cons, List.length_append, ih]; simp; omega
      rw [this]
      omega
    refine ⟨_, _, rfl, rfl, by omega, ?_⟩
    refine ⟨_, rfl, ?_⟩
    refine ⟨_, _, rfl, rfl, by rw [app_len]; omega, ?_⟩
    refine ⟨_, _, rfl, rfl, by rw [app_len, app_len]; omega, ?_⟩
    refine ⟨(by show 5 ≤ sizeLine; decide), fun a6 H8 N8 => ?_⟩
    have S8 := S7.trans N8.same
    have h8 := N8.at_
    have h7' := N8.same _ _ h7
    have bl : ∃ z L, atI [V.str (zz1 ++ (Str.ofString " " ++ lin (List.replicate many one1)) ++ Str.ofString " 1"), V.str (zz1 ++ (if m = 0 then Str.empty else Str.ofString " " ++ lin (List.replicate m one1))), V.str (zz1 ++ Txt.mul (Str.ofString "\t1") (many : Int)), V.str (zz1 ++ (Str.ofString " " ++ lin (List.replicate many one1)) ++ Str.ofString "\t"), V.str (Str.ofString "\t")] (which - 10 - 22) = some (.str z) ∧ BlOk which many there z L := by
      have : which = 32 ∨ which = 33 ∨ which = 34 ∨ which = 35 ∨ which = 36 := by omega
      rcases this with rfl | rfl | rfl | rfl | rfl
      · refine ⟨_, zz1 :: List.replicate (many + 1) one1, rfl, ?_⟩
        have := bl_count (which := 32) (many := many) (n := many + 1) (there := there) (by decide) (by omega) (by omega)
        have e : lin (zz1 :: List.replicate (many + 1) one1) = zz1 ++ (Str.ofString " " ++ lin (List.replicate many one1)) ++ Str.ofString " 1" := by
          rw [List.replicate_succ', ← List.cons_append, lin_snoc (by simp), lin_cons (ones_ne m0)]
          congr 1
        rw [e] at this
        exact this
      · refine ⟨_, zz1 :: List.replicate m one1, rfl, ?_⟩
        have := bl_count (which := 33) (many := many) (n := m) (there := there) (by decide) (by omega) (by omega)
        have e : lin (zz1 :: List.replicate m one1) = zz1 ++ (if m = 0 then Str.empty else Str.ofString " " ++ lin (List.replicate m one1)) := by
          split
          · rename_i hz
            rw [hz]
            exact cd_inj (by rw [cd_lin, cd_app]; simp; rfl)
          · rw [lin_cons (ones_ne (by omega))]
        rw [e] at this
        exact this
      · exact ⟨_, _, rfl, bl_tab (by decide) m0 m12⟩
      · refine ⟨_, zz1 :: (List.replicate m one1 ++ [Str.ofString "1\t"]), rfl, ?_⟩
        have := bl_end (which := 35) (m := m) (there := there) (by decide) (by omega)
        rw [← em, lin_cons (ones_ne m0)] at this
        exact this
      · exact ⟨_, [Str.ofString "\t"], rfl, bl_word (by decide) (by decide +kernel) (by decide +kernel) (by decide +kernel) (by decide +kernel) (.inr (.inr (by decide +kernel)))⟩
    obtain ⟨z, L, at_, bl⟩ := bl
    refine ⟨_, rfl, _, rfl, _, _, rfl, rfl, _, rfl, _, _, rfl, Or.inl (SqL.of (by assumption)), _, _, rfl, rfl, _, _, _, _, rfl, rfl, Or.inl (SqL.of (by assumption)), by assumption, ?_⟩
    exact k z L H8 S8 bl
end
end K5
namespace SW
open PySem L2
theorem cut_to {xs : List V} {k : Nat} (h : k ≤ xs.length) : cutV xs none (some (k : Int)) = xs.take k := by
  unfold cutV
  have e1 : HT.sIx xs.length 0 none = 0 := rfl
  have e2 : HT.sIx xs.length xs.length (some (k : Int)) = k := by
    simp only [HT.sIx]
    split <;> omega
  rw [e1, e2, List.drop_zero]
  rfl
end SW
namespace K5
open PySem L2 SW
section
variable {P : Program} {w : World} {K : PySem.W.Frag} {mg : Str → Option Value} {base : Heap}
structure HdOk (b : Str) (L : List Str) : Prop where
  e : b = lin L
  g : Gd L
  ne : ∀ z, z ∈ L → cd z ≠ []
  bad : lineF ⟨[], []⟩ (L.map cd) = none
def goods : List Str := ["a(1)", "c(0)", "d(2)"].map Str.ofString
def bads : List Str := ["b", "B(2)", "b(301)", "b()", "b(01)", "b(1", "b(12", "b(1]", "b(12x", "b(1)x", "b(-1)", "b(+1)", "b(1))"].map Str.ofString ++ ["b((1)", "bbbbbbbbb(1)", "(1)", "b_(1)", "b1(1)", "3", "a(5)", "d(5)", "b(1)\t", "b(1)c(2)"].map Str.ofString
theorem line_head {ws : List (List Nat)} (h0 : ws ≠ []) (h : headF [] ws = none) : lineF ⟨[], []⟩ ws = none := by
  rw [lineF_head h0 rfl, h]
  rfl
theorem bads_bad : ∀ z, z ∈ bads → ∀ s, s < 4 → headF [] ((goods.take s ++ [z] ++ goods.drop s).map cd) = none := by decide +kernel
theorem bads_ok : ∀ z, z ∈ bads ++ goods → ((∀ c, c ∈ cd z → c ≠ 32 ∧ c ≠ 10 ∧ c < 128) ∧ z.length ≤ 20) ∧ cd z ≠ [] := by decide +kernel
theorem good_mem {z y : Str} {s : Nat} (h : y ∈ goods.take s ++ [z] ++ goods.drop s) : y = z ∨ y ∈ goods := by
  rcases List.mem_append.mp h with h | h
  · rcases List.mem_append.mp h with h | h
    · exact .inr (List.mem_of_mem_take h)
    · exact .inl (by simpa using h)
  · exact .inr (List.mem_of_mem_drop h)
theorem good_len (z : Str) (s : Nat) : (goods.take s ++ [z] ++ goods.drop s).length = 4 := by
  rw [List.length_append, List.length_append, List.length_take, List.length_drop]
  have : goods.length = 3 := rfl
  rw [this]
  show min s 3 + 1 + (3 - s) = 4
  omega
theorem hd_bad {z : Str} {s : Nat} (hz : z ∈ bads) (hs : s < 4) : HdOk (lin (goods.take s ++ [z] ++ goods.drop s)) (goods.take s ++ [z] ++ goods.drop s) := by
  have key : ∀ y, y ∈ goods.take s ++ [z] ++ goods.drop s → ((∀ c, c ∈ cd y → c ≠ 32 ∧ c ≠ 10 ∧ c < 128) ∧ y.length ≤ 20) ∧ cd y ≠ [] := fun y hy => by
    rcases good_mem hy with rfl | h
    · exact bads_ok y (List.mem_append_left _ hz)
    · exact bads_ok y (List.mem_append_right _ h)
  refine ⟨rfl, gd_of (by simp) (fun y hy => (key y hy).1.1) ?_, fun y hy => (key y hy).2, line_head (by simp) (bads_bad z hz s hs)⟩
  have := lin_le (n := 20) fun y hy => (key y hy).1.2
  rw [good_len] at this
  omega
theorem goods_lab (s : Nat) : (goods.take s).map cd = (([([97], 1), ([99], 0), ([100], 2)] : List (List Nat × Nat)).take s).map labc := by
  rw [List.map_take, List.map_take]
  congr 1
theorem hd_nine {m9 z9 : Str} {s : Nat} (h9 : cd m9 = List.replicate 5000 57) (hz : z9 = Str.ofString "b(" ++ m9 ++ Str.ofString ")") : HdOk (lin (goods.take s ++ [z9] ++ goods.drop s)) (goods.take s ++ [z9] ++ goods.drop s) := by
  have e1 : cd (Str.ofString "b(") = [98, 40] := by decide +kernel
  have e2 : cd (Str.ofString ")") = [41] := by decide +kernel
  have c9 : cd z9 = [98] ++ 40 :: (List.replicate 5000 57 ++ [41]) := by
    rw [hz, cd_app, cd_app, h9, e1, e2, List.append_assoc]
    rfl
  have l9 : z9.length = 5003 := by
    rw [← cd_len, c9]
    simp only [List.length_append, List.length_cons, List.length_replicate, List.length_nil]
  have key : ∀ y, y ∈ goods.take s ++ [z9] ++ goods.drop s → (∀ c, c ∈ cd y → c ≠ 32 ∧ c ≠ 10 ∧ c < 128) ∧ cd y ≠ [] := fun y hy => by
    rcases good_mem hy with rfl | h
    · refine ⟨fun c hc => ?_, by rw [c9]; simp⟩
      rw [c9] at hc
      simp only [List.mem_append, List.mem_cons, List.not_mem_nil, or_false] at hc
      rcases hc with hc | hc | hc | hc
      · omega
      · omega
      · have := (List.mem_replicate.mp hc).2; omega
      · omega
    · have := bads_ok y (List.mem_append_right _ h)
      exact ⟨this.1.1, this.2⟩
  refine ⟨rfl, gd_of (by simp) (fun y hy => (key y hy).1) ?_, fun y hy => (key y hy).2, line_head (by simp) ?_⟩
  · have h1 : (lin (goods.take s ++ [z9] ++ goods.drop s)).length ≤ 5003 + 1 + ((goods.take s).length * 21 + (goods.drop s).length * 21) := by
      rw [← cd_len, cd_lin, List.map_append, List.map_append]
      have g : ∀ (A B : List (List Nat)) (x : List Nat), (∀ y, y ∈ A → y.length ≤ 20) → (∀ y, y ∈ B → y.length ≤ 20) → (J 32 (A ++ [x] ++ B)).length ≤ x.length + 1 + (A.length * 21 + B.length * 21) := fun A => by
        induction A with
        | nil =>
          intro B x _ hB
          cases B with
          | nil => show x.length ≤ _; omega
          | cons b B =>
            show (x ++ 32 :: J 32 (b :: B)).length ≤ _
            have := J_len (c := 32) (k := 20) hB
            rw [List.length_append, List.length_cons]
            show x.length + ((J 32 (b :: B)).length + 1) ≤ x.length + 1 + (0 * 21 + (b :: B).length * 21)
            omega
        | cons a A ih =>
          intro B x hA hB
          have := ih B x (fun y hy => hA y (by simp [hy])) hB
          have ha := hA a (by simp)
          have e : J 32 (a :: A ++ [x] ++ B) = a ++ 32 :: J 32 (A ++ [x] ++ B) := by
            show J 32 (a :: (A ++ [x] ++ B)) = _
            cases hq : A ++ [x] ++ B with
            | nil => simp at hq
            | cons => rfl
          rw [e, List.length_append, List.length_cons, List.length_cons]
          omega
      have := g ((goods.take s).map cd) ((goods.drop s).map cd) (cd z9) (fun y hy => by
        obtain ⟨u, hu, rfl⟩ := List.mem_map.mp hy
        rw [cd_len]
        exact (bads_ok u (List.mem_append_right _ (List.mem_of_mem_take hu))).1.2) fun y hy => by
        obtain ⟨u, hu, rfl⟩ := List.mem_map.mp hy
        rw [cd_len]
        exact (bads_ok u (List.mem_append_right _ (List.mem_of_mem_drop hu))).1.2
      rw [List.length_map, List.length_map, cd_len, l9] at this
      exact this
    rw [List.length_take, List.length_drop] at h1
    have : goods.length = 3 := rfl
    rw [this] at h1
    omega
  · rw [List.map_append, List.map_append, goods_lab, List.append_assoc]
    refine headF_bad (fun p hp => ?_) fun ns => labN_bad (by rw [c9]; exact nine_bad (by decide))
    have : ∀ p, p ∈ ([([97], 1), ([99], 0), ([100], 2)] : List (List Nat × Nat)) → NmOk p.1 ∧ p.2 ≤ 300 := fun p hp => by
      have : (p.1 ≠ [] ∧ (∀ c, c ∈ p.1 → 97 ≤ c ∧ c ≤ 122) ∧ p.1.length ≤ 8) ∧ p.2 ≤ 300 := by
        revert p
        decide
      exact ⟨⟨this.1.1, this.1.2.1, this.1.2.2⟩, this.2⟩
    exact this p (List.mem_of_mem_take hp)
def thirteen : List Str := (cd (Str.ofString "abcdefghijklm")).map fun c => mkS [97, c, 40, 48, 41]
theorem hd_many : HdOk (lin thirteen) thirteen := by
  have key : ∀ y, y ∈ thirteen → ((∀ c, c ∈ cd y → c ≠ 32 ∧ c ≠ 10 ∧ c < 128) ∧ y.length ≤ 20) ∧ cd y ≠ [] := by decide +kernel
  refine ⟨rfl, gd_of (by decide +kernel) (fun y hy => (key y hy).1.1) ?_, fun y hy => (key y hy).2, line_head (by decide +kernel) (by decide +kernel)⟩
  have := lin_le (n := 20) fun y hy => (key y hy).1.2
  have l : thirteen.length = 13 := by decide +kernel
  rw [l] at this
  omega
def spBadHead : Sp := fun vs H Q _ => ∃ which spot : Int, vs = [.int which, .int spot] ∧ 0 ≤ which ∧ which < 25 ∧ 0 ≤ spot ∧ spot < 4 ∧ ∀ (b : Str) (L : List Str) (H' : Hp), Same H H' → HdOk b L → Q (.str b) H'
seal PSs PS PE PA PT PG PI PO
theorem ok_lbad_head (T : Txt K mg) : FnOk P w K mg base CX0 1 T.a_lbad_head T.fd_lbad_head ["_law_which", "_law_spot"] spBadHead := by
  refine T.F_lbad_head.ok sc_lbad_head (fun vs H Q E h => ?_) (fun cdv A outer s H vs Q E hr h => ?_)
  · obtain ⟨_, _, rfl, _⟩ := h
    rfl
  obtain ⟨which, spot, rfl, w0, w25, s0, s4, k⟩ := h
  refine ⟨_, (pss_cons (ps_set (i := 2) sc_lbad_head.nd rfl (Or.inl rfl) (pe_lstA (pa_cons pe_str (pa_cons pe_str (pa_cons pe_str pa_nil)))))
      (pss_cons (ps_set (i := 3) sc_lbad_head.nd rfl (Or.inl rfl) (pe_lstA (pa_cons pe_str (pa_cons pe_str (pa_cons pe_str (pa_cons pe_str (pa_cons pe_str (pa_cons pe_str (pa_cons pe_str (pa_cons pe_str (pa_cons pe_str (pa_cons pe_str (pa_cons pe_str (pa_cons pe_str (pa_cons pe_str pa_nil)))))))))))))))
      (pss_cons (ps_set (i := 3) sc_lbad_head.nd rfl (Or.inl rfl) (pe_op op_catN (pv 3) (pe_lstA (pa_cons pe_str (pa_cons pe_str (pa_cons pe_str (pa_cons pe_str (pa_cons pe_str (pa_cons pe_str (pa_cons pe_str (pa_cons pe_str (pa_cons pe_str (pa_cons pe_str pa_nil)))))))))))))
      (pss_cons (ps_expr (pe_bm PySem.F.plainAttrs_list PySem.F.slot_list_append PySem.F.type_list_append mt_append (pv 3) (pa_cons (pe_op op_add_str (pe_op op_add_str pe_str (pe_op op_mulS pe_str pe_int)) pe_str) pa_nil)))
      (pss_cons (ps_if (pt_cmpR op_eqI (pv 0) (pe_callB (len_Q K) (by rfl) T.n_len PySem.boot_len (pa_cons (pv 3) pa_nil)) (nomark _))
      (pss_one (ps_ret (pe_bm PySem.F.plainAttrs_str PySem.F.slot_str_join PySem.F.type_str_join (join_Q K) pe_str (pa_cons (pe_comp [4] rfl (blk_of rfl) (pi_str pe_str) (fun _ => (pg_name (i := 4) sc_lbad_head.nd rfl (Or.inl rfl))) (fun _ => pts_nil) (fun _ => (pe_op op_add_str (pe_op op_add_str pe_str (pv 4)) pe_str))) pa_nil))))
      pss_nil)
      (pss_one (ps_ret (pe_bm PySem.F.plainAttrs_str PySem.F.slot_str_join PySem.F.type_str_join (join_Q K) pe_str (pa_cons (pe_op op_catN (pe_op op_catN (pe_slice (sl_Q K) (pv 2) po_none (po_some (pv 1))) (pe_lstA (pa_cons (pe_ix (ix_Q K) (pv 3) (pv 0) (fun _ _ => rfl)) pa_nil))) (pe_slice (sl_Q K) (pv 2) (po_some (pv 1)) po_none)) pa_nil))))))))), ?_⟩
  have big : (20000 : Nat) ≤ sizeLine := by decide
  have l0 : (Str.ofString " ").length = 1 := by decide +kernel
  have n9 : MulOk (Str.ofString "9") 5000 := mul_ok2 _ (.inl (by decide +kernel)) (by decide) (by decide)
  have h9 : cd (Txt.mul (Str.ofString "9") 5000) = List.replicate 5000 57 := mul_cd 57 5000
  have m5 : (Txt.mul (Str.ofString "9") 5000).length = 5000 := by rw [← cd_len, h9, List.length_replicate]
  have l3 : (Str.ofString "b(").length = 2 := by decide +kernel
  have l4 : (Str.ofString ")").length = 1 := by decide +kernel
  refine ⟨(by show 3 ≤ sizeLine; decide), fun gl H1 N1 => ?_⟩
  have hg1 : H1 gl = some (.lst (goods.map V.str)) := N1.at_
  refine ⟨(by show 13 ≤ sizeLine; decide), fun a1 H2 N2 => ?_⟩
  refine ⟨_, rfl, ?_⟩
  refine ⟨(by show 10 ≤ sizeLine; decide), fun a2 H3 N3 => ?_⟩
  refine ⟨a1, a2, _, _, rfl, rfl, N3.same _ _ N2.at_, N3.at_, (by show 13 + 10 ≤ sizeLine; decide), fun bl H4 N4 => ?_⟩
  have hb4 : H4 bl = some (.lst (bads.map V.str)) := N4.at_
  have S14 := N2.same.trans (N3.same.trans N4.same)
  have S4 := N1.same.trans S14
  have hg4 := S14 _ _ hg1
  have nbl : H bl = none := (N1.same.trans (N2.same.trans N3.same)).free N4.gone
  refine ⟨_, rfl, ?_⟩
  refine ⟨.inl ⟨rfl, _, SqL.of hb4⟩, ?_⟩
  refine ⟨_, _, rfl, rfl, n9, ?_⟩
  generalize Txt.mul (Str.ofString "9") 5000 = m9 at *
  refine ⟨_, _, rfl, rfl, by omega, ?_⟩
  refine ⟨_, _, rfl, rfl, by rw [app_len]; omega, ?_⟩
  obtain ⟨z9, ez9⟩ : ∃ z9, z9 = Str.ofString "b(" ++ m9 ++ Str.ofString ")" := ⟨_, rfl⟩
  have ez9' : Str.ofString "b(" ++ m9 ++ Str.ofString ")" = z9 := ez9.symm
  rw [ez9']
  refine ⟨bl, _, _, rfl, rfl, hb4, (by show 23 < sizeLine; decide), ?_⟩
  have e5 : bads.map V.str ++ [V.str z9] = (bads ++ [z9]).map V.str := by rw [List.map_append]; rfl
  rw [e5]
  have hb5 : upd H4 bl (.lst ((bads ++ [z9]).map V.str)) bl = _ := upd_same
  have S5 : Same H (upd H4 bl (.lst ((bads ++ [z9]).map V.str))) := S4.upd nbl
  have hg5 : upd H4 bl (.lst ((bads ++ [z9]).map V.str)) gl = _ := (upd_ne (ne_of_none ((N2.same.trans N3.same) _ _ hg1) N4.gone)).trans hg4
  generalize upd H4 bl (.lst ((bads ++ [z9]).map V.str)) = H5 at *
  refine ⟨_, rfl, _, rfl, _, _, rfl, Or.inl (SqL.of (by assumption)), _, _, rfl, rfl, _, rfl, ?_⟩
  have lb : (((bads ++ [z9]).map V.str).length : Int) = 24 := by rw [List.length_map]; rfl
  rw [lb]
  refine ite3 (fun c => ?_) (fun c => ?_)
  · refine ⟨rfl, ?_⟩
    refine ⟨_, rfl, by decide +kernel, ?_⟩
    refine comp_signs (fun c => .str (mkS [97, c, 40, 48, 41])) (by decide +kernel) (fun i c Q' hc hQ => ?_) fun l6 H6 N6 => ?_
    · have lc : (⟨#[c]⟩ : Str).length = 1 := rfl
      have la : (Str.ofString "a").length = 1 := by decide +kernel
      have lo : (Str.ofString "(0)").length = 3 := by decide +kernel
      refine ⟨_, rfl, ?_⟩
      refine ⟨_, _, rfl, rfl, by omega, ?_⟩
      refine ⟨_, _, rfl, rfl, by rw [app_len]; omega, ?_⟩
      have ec : Str.ofString "a" ++ ⟨#[c]⟩ ++ Str.ofString "(0)" = mkS [97, c, 40, 48, 41] := cd_inj (by
        have e1 : cd (Str.ofString "a") = [97] := by decide +kernel
        have e2 : cd (Str.ofString "(0)") = [40, 48, 41] := by decide +kernel
        rw [cd_app, cd_app, cd_mk, e1, e2]
        rfl)
      rw [ec]
      exact hQ
    have h6 : H6 l6 = some (.lst (thirteen.map V.str)) := by
      rw [N6.at_]
      unfold thirteen
      rw [List.map_map]
      rfl
    have hsum : (thirteen.map (·.length)).sum ≤ 100 := by decide +kernel
    have l13 : thirteen.length = 13 := by decide +kernel
    refine ⟨_, l6, _, rfl, rfl, SqL.of h6, ?_, ?_⟩
    · rw [l0, l13]
      omega
    have ej : Txt.join (Str.ofString " ") thirteen = lin thirteen := join_cd 32 _
    rw [ej]
    exact k _ _ H6 (S5.trans N6.same) hd_many
  · have w24 : which < 24 := by omega
    obtain ⟨sn, es⟩ : ∃ sn : Nat, spot = (sn : Int) := ⟨spot.toNat, by omega⟩
    subst es
    have lt : which.toNat < (bads ++ [z9]).length := by show which.toNat < 24; omega
    have at_ := at_strs (ys := bads ++ [z9]) w0 lt
    have lg : goods.length = 3 := rfl
    have hd : ∃ L, L = goods.take sn ++ [(bads ++ [z9])[which.toNat]] ++ goods.drop sn ∧ HdOk (lin L) L := by
      refine ⟨_, rfl, ?_⟩
      by_cases h23 : which.toNat < 23
      · have eg : (bads ++ [z9])[which.toNat] = bads[which.toNat]'(by show _ < 23; exact h23) := List.getElem_append_left _
        rw [eg]
        exact hd_bad (List.getElem_mem _) (by omega)
      · have : which.toNat = 23 := by omega
        have eg : (bads ++ [z9])[which.toNat] = z9 := by
          have : (bads ++ [z9])[which.toNat]? = some z9 := by rw [this]; rfl
          rw [List.getElem?_eq_getElem lt] at this
          exact Option.some.inj this
        rw [eg]
        exact hd_nine h9 ez9
    obtain ⟨L, eL, ho⟩ := hd
    generalize (bads ++ [z9])[which.toNat] = z at *
    refine ⟨rfl, _, rfl, _, rfl, _, rfl, ?_⟩
    refine ⟨gl, _, rfl, SqL.of hg5, fun b1 H6 N6 => ?_⟩
    rw [cut_to (by rw [List.length_map, lg]; omega)] at N6
    have hb6 := N6.same _ _ hb5
    refine ⟨_, rfl, _, rfl, _, _, _, _, rfl, rfl, Or.inl (SqL.of (by assumption)), by assumption, ?_⟩
    refine ⟨(by show 1 ≤ sizeLine; decide), fun b2 H7 N7 => ?_⟩
    refine ⟨b1, b2, _, _, rfl, rfl, N7.same _ _ N6.at_, N7.at_, ?_, fun b3 H8 N8 => ?_⟩
    · rw [List.length_take, List.length_map, lg]
      show min sn 3 + 1 ≤ sizeLine
      omega
    have hg8 := (N6.same.trans (N7.same.trans N8.same)) _ _ hg5
    refine ⟨_, rfl, _, rfl, _, rfl, ?_⟩
    refine ⟨gl, _, rfl, SqL.of hg8, fun b4 H9 N9 => ?_⟩
    rw [cut_from (by rw [List.length_map, lg]; omega)] at N9
    refine ⟨b3, b4, _, _, rfl, rfl, N9.same _ _ N8.at_, N9.at_, ?_, fun b5 H10 N10 => ?_⟩
    · rw [List.length_append, List.length_take, List.length_drop, List.length_map, lg]
      show min sn 3 + 1 + (3 - sn) ≤ sizeLine
      omega
    have h10 : H10 b5 = some (.lst (L.map V.str)) := by
      rw [N10.at_, eL, List.map_append, List.map_append, List.map_take, List.map_drop]
      rfl
    have hsz := ho.g.sz
    have hlw : ∀ y, y ∈ L → y.length ≤ 10000 := fun y hy => by
      have g := piece_le (c := 32) (List.mem_map_of_mem (f := cd) hy)
      rw [← cd_lin, cd_len, cd_len] at g
      omega
    have hsum := sum_len hlw
    have l4' : L.length = 4 := by rw [eL]; exact good_len _ _
    refine ⟨_, b5, _, rfl, rfl, SqL.of h10, ?_, ?_⟩
    · rw [l4'] at hsum
      rw [l0, l4']
      omega
    have ej : Txt.join (Str.ofString " ") L = lin L := join_cd 32 _
    rw [ej]
    exact k _ _ H10 (S5.trans (N6.same.trans (N7.same.trans (N8.same.trans (N9.same.trans N10.same))))) ho
end
end K5
namespace SW
open PySem L2
theorem slice_any (x : Str) (j : Nat) : Txt.slice x none (some (j : Int)) = mkS ((cd x).take j) := by
  by_cases h : j ≤ x.length
  · exact slice_to h
  · rw [PyProof.Rows.slice_to_beyond (by omega), slice_to (Nat.le_refl _), List.take_of_length_le (by rw [cd_len]; exact Nat.le_refl _), List.take_of_length_le (by rw [cd_len]; omega)]
end SW
namespace K5
open PySem L2 SW
section
variable {P : Program} {w : World} {K : PySem.W.Frag} {mg : Str → Option Value} {base : Heap}
def linesS (hd : List (List Nat × Nat)) (rs : List RowF) : List (List Str) := (tabc hd rs).map fun ws => ws.map mkS
theorem word_ok {hd : List (List Nat × Nat)} {rs : List RowF} (o : TaOk hd rs) : ∀ ws, ws ∈ tabc hd rs → ws ≠ [] ∧ ws.length ≤ 13 ∧ ∀ l, l ∈ ws → l ≠ [] ∧ l.length ≤ 20 ∧ ∀ c, c ∈ l → c ≠ 32 ∧ c ≠ 10 ∧ c < 128 := fun ws hws => by
  have h12 := o.h12
  have labs : ∀ p : List Nat × Nat, NmOk p.1 → p.2 ≤ 300 → labc p ≠ [] ∧ (labc p).length ≤ 20 ∧ ∀ c, c ∈ labc p → c ≠ 32 ∧ c ≠ 10 ∧ c < 128 := fun p q1 q2 => by
    have d10 : (dg p.2).length ≤ 10 := by rw [← cd_num, cd_len]; exact PySem.W.KT.len_num (by omega) (by omega)
    have := q1.le
    unfold labc
    refine ⟨by simp, ?_, fun c hc => ?_⟩
    · rw [List.length_append, List.length_cons, List.length_append]
      show p.1.length + ((dg p.2).length + 1 + 1) ≤ 20
      omega
    · simp only [List.mem_append, List.mem_cons, List.not_mem_nil, or_false] at hc
      rcases hc with hc | hc | hc | hc
      · have := q1.let' c hc; omega
      · omega
      · have := dg_all _ c hc; omega
      · omega
  unfold tabc at hws
  rcases List.mem_cons.mp hws with rfl | hws
  · refine ⟨by simp [o.h1], by rw [List.length_map]; omega, fun l hl => ?_⟩
    obtain ⟨p, hp, rfl⟩ := List.mem_map.mp hl
    obtain ⟨q1, q2⟩ := o.hk p hp
    exact labs p q1 q2
  · obtain ⟨r, hr, rfl⟩ := List.mem_map.mp hws
    obtain ⟨q1, q2, q3, q4⟩ := o.rk r hr
    unfold rowc
    refine ⟨by simp, by rw [List.length_cons, List.length_map]; omega, fun l hl => ?_⟩
    rcases List.mem_cons.mp hl with rfl | hl
    · exact labs r.1 q1 q2
    · obtain ⟨z, hz, rfl⟩ := List.mem_map.mp hl
      have := q4 z hz
      have d10 : (dg z).length ≤ 10 := by rw [← cd_num, cd_len]; exact PySem.W.KT.len_num (by omega) (by omega)
      exact ⟨dg_ne z, by omega, fun c hc => by have := dg_all _ c hc; omega⟩
theorem line_gd {hd : List (List Nat × Nat)} {rs : List RowF} (o : TaOk hd rs) : ∀ L, L ∈ linesS hd rs → Gd L := fun L hL => by
  obtain ⟨ws, hws, rfl⟩ := List.mem_map.mp hL
  obtain ⟨q1, q2, q3⟩ := word_ok o ws hws
  refine gd_of (by simp [q1]) (fun z hz => ?_) ?_
  · obtain ⟨l, hl, rfl⟩ := List.mem_map.mp hz
    rw [cd_mk]
    exact (q3 l hl).2.2
  · have := lin_le (L := ws.map mkS) (n := 20) fun y hy => by
      obtain ⟨l, hl, rfl⟩ := List.mem_map.mp hy
      rw [← cd_len, cd_mk]
      exact (q3 l hl).2.1
    rw [List.length_map] at this
    have : ws.length * 21 ≤ 13 * 21 := Nat.mul_le_mul_right _ q2
    omega
theorem words_one {L : List Str} (h : ∀ z, z ∈ L → cd z ≠ []) : wordsF [L] = [L.map cd] := by
  unfold wordsF
  rw [List.map_cons, noE_all h]
  rfl
theorem words_lines {hd : List (List Nat × Nat)} {rs : List RowF} (o : TaOk hd rs) : wordsF (linesS hd rs) = tabc hd rs := by
  unfold wordsF linesS
  rw [List.map_map]
  have : (tabc hd rs).map ((fun L => (noE L).map cd) ∘ fun ws => ws.map mkS) = (tabc hd rs).map id := List.map_congr_left fun ws hws => by
    obtain ⟨q1, q2, q3⟩ := word_ok o ws hws
    show (noE (ws.map mkS)).map cd = ws
    rw [noE_all fun z hz => by
      obtain ⟨l, hl, rfl⟩ := List.mem_map.mp hz
      rw [cd_mk]
      exact (q3 l hl).1]
    rw [List.map_map]
    have : ws.map (cd ∘ mkS) = ws.map id := List.map_congr_left fun l _ => cd_mk l
    rw [this, List.map_id]
  rw [this, List.map_id]
theorem words_take (A : List (List Str)) (n : Nat) : wordsF (A.take n) = (wordsF A).take n := by unfold wordsF; rw [List.map_take]
theorem words_drop (A : List (List Str)) (n : Nat) : wordsF (A.drop n) = (wordsF A).drop n := by unfold wordsF; rw [List.map_drop]
theorem lines_len (hd : List (List Nat × Nat)) (rs : List RowF) : (linesS hd rs).length = rs.length + 1 := by unfold linesS tabc; simp
theorem run_made {hd : List (List Nat × Nat)} {rs : List RowF} {which : Int} {b : Str} {L : List Str} {i j : Nat} (o : TaOk hd rs) (hi : i ≤ rs.length) (hj : j < rs.length) (bl : BlOk which hd.length (mkS rs[j].1.1) b L) (ex : List (List Str)) :
    runL (wordsF ((linesS hd rs).take (i + 1) ++ [L] ++ (linesS hd rs).drop (i + 1) ++ ex)) = .error (if which = 31 ∧ i < j + 1 then j + 2 else i + 1) := by
  rw [wordsF_app, wordsF_app, wordsF_app, words_take, words_drop, words_lines o, words_one bl.ne]
  rw [show (tabc hd rs).take (i + 1) ++ [L.map cd] ++ (tabc hd rs).drop (i + 1) ++ wordsF ex = (tabc hd rs).take (i + 1) ++ L.map cd :: ((tabc hd rs).drop (i + 1) ++ wordsF ex) by simp]
  obtain ⟨k1, k2, k3, k4⟩ := o.rk rs[j] (List.getElem_mem hj)
  by_cases h31 : which = 31
  · have eL := bl.dup h31
    have q : NmOk rs[j].1.1 ∧ 1 ≤ 300 ∧ (List.replicate hd.length 1).length = hd.length ∧ ∀ z, z ∈ List.replicate hd.length 1 → z ≤ 10 ^ 9 := ⟨k1, by decide, by simp, fun z hz => by rw [(List.mem_replicate.mp hz).2]; decide⟩
    have eW : L.map cd = rowc ((rs[j].1.1, 1), List.replicate hd.length 1) := by
      have e1 : cd (Str.ofString "(1)") = [40, 49, 41] := by decide +kernel
      have e2 : dg 1 = [49] := by decide +kernel
      rw [eL, List.map_cons, cd_app, cd_mk, List.map_replicate, cd_one, e1]
      unfold rowc labc
      rw [List.map_replicate, e2]
      rfl
    by_cases hij : i < j + 1
    · rw [if_pos ⟨h31, hij⟩, eW]
      exact run_dup (i := i) (j := j) (q := ((rs[j].1.1, 1), List.replicate hd.length 1)) o (by omega) hj q rfl _
    · rw [if_neg fun z => hij z.2, eW]
      refine run_bad o hi ?_ _
      unfold rowc
      refine line_bad o.h1 (placeF_lab (labN_dup (p := (rs[j].1.1, 1)) q.1 q.2.1 (.inl ?_)))
      rw [List.map_map]
      refine List.mem_map.mpr ⟨rs[j], ?_, rfl⟩
      exact List.mem_of_getElem? (i := j) (by rw [List.getElem?_take_of_lt (by omega), List.getElem?_eq_getElem hj])
  · rw [if_neg fun z => h31 z.1]
    exact run_bad o hi (bl.bad h31 _ _ rfl o.h1) _
theorem run_first {ws : List (List Nat)} (h : lineF ⟨[], []⟩ ws = none) (M : List (List (List Nat))) : runL (ws :: M) = .error 0 := by
  have := runL_snoc [] ws
  rw [List.nil_append] at this
  refine runL_app_bad (L := [ws]) ?_ M
  rw [this]
  show (match lineF ⟨[], []⟩ ws with | some s => Except.ok s | none => Except.error 0) = _
  rw [h]
theorem run_third {ws : List (List Nat)} (h : lineF ⟨[], []⟩ ws = none) : runL [[], [], ws] = .error 2 := by
  have := runL_snoc [[], []] ws
  rw [show [[], []] ++ [ws] = [[], [], ws] from rfl] at this
  rw [this]
  show (match lineF ⟨[], []⟩ ws with | some s => Except.ok s | none => Except.error 2) = _
  rw [h]
end
end K5
namespace K5
open PySem L2 SW
section
variable {P : Program} {w : World} {K : PySem.W.Frag} {mg : Str → Option Value} {base : Heap}
abbrev linV (A : List (List Str)) : List V := (A.map lin).map V.str
structure LrOk (H : Hp) (ll pl : Addr) (hd : List (List Nat × Nat)) (rs : List RowF) : Prop where
  l : H ll = some (.lst (linV (linesS hd rs)))
  p : H pl = some (.lst (nmL (rs.map (·.1.1))))
  o : TaOk hd rs
  r0 : rs ≠ []
  low : ∀ r, r ∈ rs → ∃ c, c ∈ r.1.1 ∧ c < 122
def spLineRight : Sp := fun vs H Q _ => ∃ (ll pl : Addr) (one : Int) (hd : List (List Nat × Nat)) (rs : List RowF), vs = [.ref ll, .ref pl, .int (hd.length : Int), .int one] ∧ LrOk H ll pl hd rs ∧ ∀ H', Same H H' → Q (.bl true) H'
theorem linV_take (A : List (List Str)) (n : Nat) : (linV A).take n = linV (A.take n) := by rw [← List.map_take, ← List.map_take]
theorem linV_drop (A : List (List Str)) (n : Nat) : (linV A).drop n = linV (A.drop n) := by rw [← List.map_drop, ← List.map_drop]
theorem linV_app (A B : List (List Str)) : linV A ++ linV B = linV (A ++ B) := by rw [linV, linV, linV, List.map_append, List.map_append]
theorem linV_len (A : List (List Str)) : (linV A).length = A.length := by rw [List.length_map, List.length_map]
theorem join_sz {A : List (List Str)} (h : ∀ L, L ∈ A → Gd L) (hl : A.length ≤ 60) : ((A.map lin).map (·.length)).sum + (A.map lin).length * (Str.ofString "\n").length ≤ 16777216 := by
  have l1 : (Str.ofString "\n").length = 1 := by decide +kernel
  have := sum_len (ys := A.map lin) (k := 10000) fun y hy => by
    obtain ⟨L, hL, rfl⟩ := List.mem_map.mp hy
    exact (h L hL).sz
  rw [List.length_map] at this ⊢
  rw [l1]
  omega
theorem resF_err (k : Nat) : resF (.error k) = (k : Int) := rfl
theorem zz_gd : Gd [Str.ofString "zz"] := gd_of (by simp) (by decide +kernel) (by decide +kernel)
theorem ok_lline_right (T : Txt K mg) : FnOk P w K mg base CX0 9 T.a_lline_right T.fd_lline_right ["_law_lines", "_law_places", "_law_many", "_law_one"] spLineRight := by
  refine T.F_lline_right.ok sc_lline_right (fun vs H Q E h => ?_) (fun cdv A outer s H vs Q E hr h => ?_)
  · obtain ⟨_, _, _, _, _, rfl, _⟩ := h
    rfl
  obtain ⟨ll, pl, one, hd, rs, rfl, h0, k⟩ := h
  refine ⟨_, (pss_cons (ps_par (i := 4) (j := 5) rfl sc_lline_right.nd rfl rfl (by decide) rfl rfl (pa_cons (pe_op op_add pe_int (pe_call (ok_ldraw T) (hr.mono (by decide)) rfl T.m_ldraw T.F_ldraw.kp T.b_ldraw .nil pass0 (pa_cons (pv 3) (pa_cons pe_int (pa_cons (pe_callB (len_Q K) (by rfl) T.n_len PySem.boot_len (pa_cons (pv 0) pa_nil)) pa_nil))))) (pa_cons (pe_call (ok_ldraw T) (hr.mono (by decide)) rfl T.m_ldraw T.F_ldraw.kp T.b_ldraw .nil pass0 (pa_cons (pv 3) (pa_cons pe_int (pa_cons (pe_callB (len_Q K) (by rfl) T.n_len PySem.boot_len (pa_cons (pv 1) pa_nil)) pa_nil)))) pa_nil)) rfl)
      (pss_cons (ps_set (i := 6) sc_lline_right.nd rfl (Or.inl rfl) (pe_call (ok_lbad_line T) (hr.mono (by decide)) rfl T.m_lbad_line T.F_lbad_line.kp T.b_lbad_line .nil pass0 (pa_cons (pe_call (ok_ldraw T) (hr.mono (by decide)) rfl T.m_ldraw T.F_ldraw.kp T.b_ldraw .nil pass0 (pa_cons (pv 3) (pa_cons pe_int (pa_cons pe_int pa_nil)))) (pa_cons (pv 2) (pa_cons (pe_ix (ix_Q K) (pv 1) (pv 5) (fun _ _ => rfl)) (pa_cons (pe_call (ok_ldraw T) (hr.mono (by decide)) rfl T.m_ldraw T.F_ldraw.kp T.b_ldraw .nil pass0 (pa_cons (pv 3) (pa_cons pe_int (pa_cons (pv 2) pa_nil)))) pa_nil))))))
      (pss_cons (ps_set (i := 7) sc_lline_right.nd rfl (Or.inl rfl) (pv 4))
      (pss_cons (ps_meet (ps_if (PW.pt (pw_and (pt_cmpR op_eq (pe_slice sl_str (pv 6) po_none (po_some (pe_op op_add (pe_callB call_len_str (by rfl) T.n_len PySem.boot_len (pa_cons (pe_ix (ix_Q K) (pv 1) (pv 5) (fun _ _ => rfl)) pa_nil)) pe_int))) (pe_op op_add_str (pe_ix (ix_Q K) (pv 1) (pv 5) (fun _ _ => rfl)) pe_str) (nomark _)) (pw_and1 (pt_cmpR op_lt (pv 4) (pe_op op_add (pv 5) pe_int) (nomark _)))))
      (pss_one (ps_set (i := 7) sc_lline_right.nd rfl (Or.inl rfl) (pe_op op_add (pv 5) pe_int)))
      pss_nil))
      (pss_cons (ps_set (i := 8) sc_lline_right.nd rfl (Or.inl rfl) (pe_op op_catN (pe_op op_catN (pe_slice (sl_Q K) (pv 0) po_none (po_some (pv 4))) (pe_lstA (pa_cons (pv 6) pa_nil))) (pe_slice (sl_Q K) (pv 0) (po_some (pv 4)) po_none)))
      (pss_cons (ps_meet (ps_if (pt_cmpR op_eqI (pe_call (ok_ldraw T) (hr.mono (by decide)) rfl T.m_ldraw T.F_ldraw.kp T.b_ldraw .nil pass0 (pa_cons (pv 3) (pa_cons pe_int (pa_cons pe_int pa_nil)))) pe_int (nomark _))
      (pss_one (ps_expr (pe_bm PySem.F.plainAttrs_list PySem.F.slot_list_append PySem.F.type_list_append mt_append (pv 8) (pa_cons pe_str pa_nil))))
      pss_nil))
      (pss_cons (ps_asg (pe_call (ok_llaid T) (hr.mono (by decide)) rfl T.m_llaid T.F_llaid.kp T.b_llaid .nil pass0 (pa_cons (pv 8) (pa_cons (pv 3) pa_nil))) (pg_tupQ K rfl (pgs_cons (pg_name (i := 9) sc_lline_right.nd rfl (Or.inl rfl)) (pgs_cons (pg_name (i := 10) sc_lline_right.nd rfl (Or.inl rfl)) pgs_nil))))
      (pss_cons (ps_if (PW.pt (pw_or (pt_cmpR op_ne (pe_call (ok_lrefused T) (hr.mono (by decide)) rfl T.m_lrefused T.F_lrefused.kp T.b_lrefused .nil pass0 (pa_cons (pv 9) pa_nil)) (pe_ix (ix_Q K) (pv 10) (pv 7) (fun _ _ => rfl)) (nomark _)) (pw_or1 (pt_cmpR op_ne (pe_call (ok_lrefused T) (hr.mono (by decide)) rfl T.m_lrefused T.F_lrefused.kp T.b_lrefused .nil pass0 (pa_cons (pe_bm PySem.F.plainAttrs_str PySem.F.slot_str_join PySem.F.type_str_join (join_Q K) pe_str (pa_cons (pv 8) pa_nil)) pa_nil)) (pv 7) (nomark _)))))
      (pss_one (ps_ret pe_bl))
      pss_nil)
      (pss_cons (ps_set (i := 11) sc_lline_right.nd rfl (Or.inl rfl) (pe_call (ok_lbad_head T) (hr.mono (by decide)) rfl T.m_lbad_head T.F_lbad_head.kp T.b_lbad_head .nil pass0 (pa_cons (pe_call (ok_ldraw T) (hr.mono (by decide)) rfl T.m_ldraw T.F_ldraw.kp T.b_ldraw .nil pass0 (pa_cons (pv 3) (pa_cons pe_int (pa_cons pe_int pa_nil)))) (pa_cons (pe_call (ok_ldraw T) (hr.mono (by decide)) rfl T.m_ldraw T.F_ldraw.kp T.b_ldraw .nil pass0 (pa_cons (pv 3) (pa_cons pe_int (pa_cons pe_int pa_nil)))) pa_nil))))
      (pss_cons (ps_asg (pe_call (ok_llaid T) (hr.mono (by decide)) rfl T.m_llaid T.F_llaid.kp T.b_llaid .nil pass0 (pa_cons (pe_op op_catN (pe_lstA (pa_cons (pv 11) pa_nil)) (pe_slice (sl_Q K) (pv 0) (po_some pe_int) po_none)) (pa_cons (pe_op op_fdivF (pv 3) pe_int) pa_nil))) (pg_tupQ K rfl (pgs_cons (pg_name (i := 9) sc_lline_right.nd rfl (Or.inl rfl)) (pgs_cons (pg_name (i := 10) sc_lline_right.nd rfl (Or.inl rfl)) pgs_nil))))
      (pss_one (ps_ret (pe_and (pe_cmpR op_eq (pe_call (ok_lrefused T) (hr.mono (by decide)) rfl T.m_lrefused T.F_lrefused.kp T.b_lrefused .nil pass0 (pa_cons (pv 9) pa_nil)) (pe_ix (ix_Q K) (pv 10) pe_int (fun _ _ => rfl)) (nomark _)) (pe_one (pe_cmpR op_eqI (pe_call (ok_lrefused T) (hr.mono (by decide)) rfl T.m_lrefused T.F_lrefused.kp T.b_lrefused .nil pass0 (pa_cons (pe_op op_add_str pe_str (pv 11)) pa_nil)) pe_int (nomark _)))))))))))))))), ?_⟩
  have o := h0.o
  have r12 := o.r12
  have h12 := o.h12
  have rpos : 0 < rs.length := List.length_pos_iff.mpr h0.r0
  have hpos : 0 < hd.length := List.length_pos_iff.mpr o.h1
  have hl := h0.l
  have hp := h0.p
  have ls := lines_len hd rs
  have lv : ((linV (linesS hd rs)).length : Int) = ((rs.length + 1 : Nat) : Int) := by rw [linV_len, ls]
  have lp : ((nmL (rs.map (·.1.1))).length : Int) = (rs.length : Int) := by rw [List.length_map, List.length_map, List.length_map]
  unfold tPar
  refine ⟨_, rfl, _, rfl, _, _, rfl, Or.inl (SqL.of (by assumption)), ?_⟩
  refine ⟨_, _, _, rfl, by decide, by decide, by rw [lv]; omega, fun di H1 d0 d1 S1 => ?_⟩
  rw [lv] at d1
  have hp1 := S1 _ _ hp
  refine ⟨_, _, rfl, rfl, _, rfl, _, rfl, _, _, rfl, Or.inl (SqL.of (by assumption)), ?_⟩
  refine ⟨_, _, _, rfl, by decide, by decide, by rw [lp]; omega, fun dj H2 e0 e1 S2 => ?_⟩
  rw [lp] at e1
  obtain ⟨i, ei⟩ : ∃ i : Nat, di = (i : Int) := ⟨di.toNat, by omega⟩
  obtain ⟨j, ej⟩ : ∃ j : Nat, dj = (j : Int) := ⟨dj.toNat, by omega⟩
  subst ei ej
  have hi : i ≤ rs.length := by omega
  have hj : j < rs.length := by omega
  refine ⟨.int ((i + 1 : Nat) : Int), .int (j : Int), by rw [show (((i + 1 : Nat) : Int)) = 1 + (i : Int) by omega], ?_⟩
  have S02 := S1.trans S2
  have hp2 := S02 _ _ hp
  have atj : atI (nmL (rs.map (·.1.1))) (j : Int) = some (.str (mkS rs[j].1.1)) := atI_of (by omega) (by rw [Int.toNat_natCast, List.getElem?_map, List.getElem?_map, List.getElem?_map, List.getElem?_eq_getElem hj]; rfl)
  obtain ⟨k1, k2, k3, k4⟩ := o.rk rs[j] (List.getElem_mem hj)
  have nok : NameOk (mkS rs[j].1.1) := ⟨by rw [cd_mk]; exact k1.ne, by rw [cd_mk]; exact k1.let', by rw [← cd_len, cd_mk]; exact k1.le⟩
  refine ⟨_, rfl, ?_⟩
  refine ⟨_, _, _, rfl, by decide, by decide, by decide, fun which H3 q0 q1 S3 => ?_⟩
  have hp3 := S3 _ _ hp2
  refine ⟨_, rfl, _, rfl, _, rfl, _, _, _, _, rfl, rfl, Or.inl (SqL.of (by assumption)), by assumption, _, rfl, _, rfl, ?_⟩
  refine ⟨_, _, _, rfl, by decide, by decide, by omega, fun spot H4 p0 p1 S4 => ?_⟩
  refine ⟨which, hd.length, mkS rs[j].1.1, spot, rfl, q0, q1, hpos, h12, nok, p0, p1, fun b L H5 S5 bl => ?_⟩
  have S05 := S02.trans (S3.trans (S4.trans S5))
  have hp5 := S05 _ _ hp
  have hl5 := S05 _ _ hl
  have big : (20000 : Nat) ≤ sizeLine := by decide
  have bsz : b.length ≤ 10000 := by rw [bl.e]; exact bl.g.sz
  have n8 := nok.le
  have nl : (mkS rs[j].1.1).length = rs[j].1.1.length := by rw [← cd_len, cd_mk]
  have l1 : (Str.ofString "(").length = 1 := by decide +kernel
  have due : ∀ {x : Nat}, (if which = 31 ∧ i < j + 1 then j + 2 else i + 1) = x → x = j + 2 ∨ x = i + 1 := fun h => by split at h <;> omega
  refine ⟨_, rfl, ?_⟩
  refine ⟨fun σ H' => H' = H5 ∧ σ = [some (.ref ll), some (.ref pl), some (.int (hd.length : Int)), some (.int one), some (.int ((i + 1 : Nat) : Int)), some (.int (j : Int)), some (.str b), some (.int (((if which = 31 ∧ i < j + 1 then j + 2 else i + 1) : Nat) : Int)), none, none, none, none], ?_, ?_⟩
  · refine ⟨_, rfl, _, rfl, _, rfl, _, _, _, _, rfl, rfl, Or.inl (SqL.of (by assumption)), by assumption, ?_⟩
    refine ⟨_, rfl, by omega, ?_⟩
    refine ⟨_, _, rfl, rfl, _, rfl, ?_⟩
    refine ⟨_, rfl, by omega, ?_⟩
    have esl : Txt.slice b none (some (((mkS rs[j].1.1).length : Int) + 1)) = mkS ((cd b).take (rs[j].1.1.length + 1)) := by
      rw [nl, show ((rs[j].1.1.length : Nat) : Int) + 1 = ((rs[j].1.1.length + 1 : Nat) : Int) by omega]
      exact slice_any b _
    rw [esl]
    refine ⟨_, rfl, _, rfl, _, _, _, _, rfl, rfl, Or.inl (SqL.of (by assumption)), by assumption, ?_⟩
    refine ⟨_, _, rfl, rfl, by omega, ?_⟩
    have e40 : cd (Str.ofString "(") = [40] := by decide +kernel
    refine ⟨rfl, _, rfl, ?_⟩
    by_cases h31 : which = 31
    · have eqv : V.str (mkS ((cd b).take (rs[j].1.1.length + 1))) = V.str (mkS rs[j].1.1 ++ Str.ofString "(") := by
        congr 1
        refine cd_inj ?_
        rw [cd_mk, cd_app, cd_mk, e40, bl.e, bl.dup h31, lin_cons_cd (ones_ne hpos), cd_app, cd_mk]
        have e1 : cd (Str.ofString "(1)") = [40] ++ [49, 41] := by decide +kernel
        rw [e1, ← List.append_assoc, List.append_assoc (rs[j].1.1 ++ [40])]
        exact List.take_left' (by simp)
      refine iteDT eqv ?_
      refine ⟨_, rfl, _, rfl, _, _, rfl, rfl, _, _, rfl, rfl, _, rfl, ?_⟩
      refine ite3 (fun c => ?_) (fun c => ?_)
      · refine ⟨_, rfl, _, _, rfl, rfl, ?_⟩
        refine ⟨rfl, ?_⟩
        rw [if_pos ⟨h31, by omega⟩]
        rfl
      · refine ⟨rfl, ?_⟩
        rw [if_neg (fun z => c (by omega))]
        rfl
    · have nev : V.str (mkS ((cd b).take (rs[j].1.1.length + 1))) ≠ V.str (mkS rs[j].1.1 ++ Str.ofString "(") := fun z => by
        have z := congrArg cd (V.str.inj z)
        rw [cd_mk, cd_app, cd_mk, e40] at z
        exact (bl.pre h31).no k1.let' (h0.low rs[j] (List.getElem_mem hj)) z
      refine iteDF nev (iteF ?_)
      refine ⟨rfl, ?_⟩
      rw [if_neg (fun z => h31 z.1)]
      rfl
  rintro σ H6 ⟨rfl, rfl⟩
  have run := run_made (i := i) (j := j) o hi hj bl
  obtain ⟨x, ex⟩ : ∃ x : Nat, (if which = 31 ∧ i < j + 1 then j + 2 else i + 1) = x := ⟨_, rfl⟩
  rw [ex] at run ⊢
  refine ⟨_, rfl, _, rfl, _, rfl, ?_⟩
  refine ⟨ll, _, rfl, SqL.of hl5, fun b1 H7 N7 => ?_⟩
  rw [cut_to (by rw [linV_len, ls]; omega), linV_take] at N7
  refine ⟨_, rfl, ?_⟩
  refine ⟨(by show 1 ≤ sizeLine; decide), fun b2 H8 N8 => ?_⟩
  have h8 : H8 b2 = some (.lst (linV [L])) := by rw [N8.at_, bl.e]; rfl
  refine ⟨b1, b2, _, _, rfl, rfl, N8.same _ _ N7.at_, h8, ?_, fun b3 H9 N9 => ?_⟩
  · rw [linV_len, linV_len, List.length_take, ls]
    show min (i + 1) (rs.length + 1) + 1 ≤ sizeLine
    omega
  have hl9 := (N7.same.trans (N8.same.trans N9.same)) _ _ hl5
  refine ⟨_, rfl, _, rfl, _, rfl, ?_⟩
  refine ⟨ll, _, rfl, SqL.of hl9, fun b4 H10 N10 => ?_⟩
  rw [cut_from (by rw [linV_len, ls]; omega), linV_drop] at N10
  rw [linV_app] at N9
  refine ⟨b3, b4, _, _, rfl, rfl, N10.same _ _ N9.at_, N10.at_, ?_, fun ml H11 N11 => ?_⟩
  · rw [linV_len, linV_len, List.length_append, List.length_take, List.length_drop, ls]
    show min (i + 1) (rs.length + 1) + 1 + (rs.length + 1 - (i + 1)) ≤ sizeLine
    omega
  rw [linV_app] at N11
  have S11 := N7.same.trans (N8.same.trans (N9.same.trans (N10.same.trans N11.same)))
  have nml : H6 ml = none := (N7.same.trans (N8.same.trans (N9.same.trans N10.same))).free N11.gone
  have gm : ∀ M, M ∈ (linesS hd rs).take (i + 1) ++ [L] ++ (linesS hd rs).drop (i + 1) → Gd M := fun M hM => by
    rcases List.mem_append.mp hM with h | h
    · rcases List.mem_append.mp h with h | h
      · exact line_gd o M (List.mem_of_mem_take h)
      · rw [(by simpa using h : M = L)]; exact bl.g
    · exact line_gd o M (List.mem_of_mem_drop h)
  have lm : ((linesS hd rs).take (i + 1) ++ [L] ++ (linesS hd rs).drop (i + 1)).length = rs.length + 2 := by
    rw [List.length_append, List.length_append, List.length_take, List.length_drop, ls]
    show min (i + 1) (rs.length + 1) + 1 + (rs.length + 1 - (i + 1)) = rs.length + 2
    omega
  refine ⟨fun σ H' => Same H6 H' ∧ (∃ M, H' ml = some (.lst (linV M)) ∧ (∀ N, N ∈ M → Gd N) ∧ M.length ≤ 15 ∧ M ≠ [] ∧ runL (wordsF M) = .error x) ∧ σ = [some (.ref ll), some (.ref pl), some (.int (hd.length : Int)), some (.int one), some (.int ((i + 1 : Nat) : Int)), some (.int (j : Int)), some (.str b), some (.int (x : Int)), some (.ref ml), none, none, none], ?_, ?_⟩
  · refine ⟨_, rfl, ?_⟩
    refine ⟨_, _, _, rfl, by decide, by decide, by decide, fun d8 H12 _ _ S12 => ?_⟩
    have hm12 := S12 _ _ N11.at_
    refine ⟨_, _, rfl, rfl, _, rfl, ?_⟩
    refine ite3 (fun c => ?_) (fun c => ?_)
    · refine ⟨_, rfl, ?_⟩
      refine ⟨.inl ⟨rfl, _, SqL.of hm12⟩, ?_⟩
      refine ⟨ml, _, _, rfl, rfl, hm12, ?_, ?_⟩
      · rw [linV_len, lm]
        exact Nat.lt_of_le_of_lt (show rs.length + 2 ≤ 14 by omega) (by decide)
      refine ⟨(S11.trans S12).upd nml, ⟨(linesS hd rs).take (i + 1) ++ [L] ++ (linesS hd rs).drop (i + 1) ++ [[Str.ofString "zz"]], ?_, fun N hN => ?_, ?_, by simp, ?_⟩, rfl⟩
      · have e : [V.str (Str.ofString "zz")] = linV [[Str.ofString "zz"]] := by
          have : lin [Str.ofString "zz"] = Str.ofString "zz" := cd_inj (cd_lin _)
          show _ = [V.str (lin [Str.ofString "zz"])]
          rw [this]
        rw [upd_same, e, linV_app]
      · rcases List.mem_append.mp hN with h | h
        · exact gm N h
        · rw [(by simpa using h : N = _)]; exact zz_gd
      · rw [List.length_append, lm]
        show rs.length + 2 + 1 ≤ 15
        omega
      · exact run [[Str.ofString "zz"]]
    · refine ⟨S11.trans S12, ⟨_, hm12, gm, by omega, by simp, ?_⟩, rfl⟩
      have := run []
      rw [List.append_nil] at this
      exact this
  rintro σ H12 ⟨S12, ⟨M, hm, gM, lM, neM, runM⟩, rfl⟩
  refine ⟨_, rfl, _, rfl, ?_⟩
  refine ⟨ml, M, one, rfl, hm, by omega, neM, gM, fun tu text Ls a al H13 S13 li => ?_⟩
  obtain ⟨et, ha, rd, la⟩ := li
  have lr := la.run
  rw [runM] at lr
  obtain ⟨p', hp', runT⟩ := lr
  refine ⟨_, _, rfl, SqT.of (by assumption), rfl, _, _, rfl, _, _, rfl, ?_⟩
  refine ⟨rfl, _, rfl, ?_⟩
  refine ⟨text, Ls, rfl, rd, fun H14 S14 => ?_⟩
  rw [runT, resF_err]
  have ha14 := S14 _ _ ha
  have atx : atI (natV a) (x : Int) = some (.int (p' : Int)) := atI_of (by omega) (by rw [Int.toNat_natCast, List.getElem?_map, hp']; rfl)
  refine ⟨_, rfl, _, rfl, _, _, _, _, rfl, rfl, Or.inl (SqL.of (by assumption)), by assumption, ?_⟩
  refine ⟨rfl, _, rfl, ?_⟩
  refine iteNT rfl ?_
  have hm14 := (S13.trans S14) _ _ hm
  refine ⟨rfl, _, rfl, ?_⟩
  refine ⟨_, ml, _, rfl, rfl, SqL.of hm14, join_sz gM (by omega), ?_⟩
  refine ⟨_, M, rfl, rdT_of gM neM (by omega), fun H15 S15 => ?_⟩
  rw [runM, resF_err]
  refine ⟨_, rfl, rfl, _, rfl, ?_⟩
  refine iteNT rfl ?_
  refine ⟨_, rfl, ?_⟩
  refine ⟨_, _, _, rfl, by decide, by decide, by decide, fun wh H16 u0 u1 S16 => ?_⟩
  refine ⟨_, rfl, ?_⟩
  refine ⟨_, _, _, rfl, by decide, by decide, by decide, fun sp H17 v0 v1 S17 => ?_⟩
  refine ⟨wh, sp, rfl, u0, u1, v0, v1, fun hb Lh H18 S18 ho => ?_⟩
  have S0 := S05.trans (S12.trans (S13.trans (S14.trans (S15.trans (S16.trans (S17.trans S18))))))
  have hl18 := S0 _ _ hl
  refine ⟨_, rfl, ?_⟩
  refine ⟨(by show 1 ≤ sizeLine; decide), fun c1 H19 N19 => ?_⟩
  have h19 : H19 c1 = some (.lst (linV [Lh])) := by rw [N19.at_, ho.e]; rfl
  have hl19 := N19.same _ _ hl18
  refine ⟨_, rfl, _, rfl, ?_⟩
  refine ⟨ll, _, rfl, SqL.of hl19, fun c2 H20 N20 => ?_⟩
  rw [show (1 : Int) = ((1 : Nat) : Int) from rfl, cut_from (by rw [linV_len, ls]; omega), linV_drop] at N20
  refine ⟨c1, c2, _, _, rfl, rfl, N20.same _ _ h19, N20.at_, ?_, fun c3 H21 N21 => ?_⟩
  · rw [linV_len, linV_len, List.length_drop, ls]
    show 1 + (rs.length + 1 - 1) ≤ sizeLine
    omega
  rw [linV_app] at N21
  refine ⟨_, rfl, _, _, rfl, rfl, ⟨by omega, fits_of (by omega) (by omega)⟩, ?_⟩
  refine ⟨c3, _, _, rfl, N21.at_, ?_, by simp, fun N hN => ?_, fun tu2 text2 Ls2 a2 al2 H22 S22 li2 => ?_⟩
  · rw [List.length_append, List.length_drop, ls]
    show 1 + (rs.length + 1 - 1) ≤ 20
    omega
  · rcases List.mem_append.mp hN with h | h
    · rw [(by simpa using h : N = Lh)]; exact ho.g
    · exact line_gd o N (List.mem_of_mem_drop h)
  obtain ⟨et2, ha2, rd2, la2⟩ := li2
  have lr2 := la2.run
  have r0 : runL (wordsF ([Lh] ++ (linesS hd rs).drop 1)) = .error 0 := by
    rw [wordsF_app, words_one ho.ne]
    exact run_first ho.bad _
  rw [r0] at lr2
  obtain ⟨p2, hp2', runT2⟩ := lr2
  refine ⟨_, _, rfl, SqT.of (by assumption), rfl, _, _, rfl, _, _, rfl, ?_⟩
  refine ⟨rfl, _, rfl, ?_⟩
  refine ⟨text2, Ls2, rfl, rd2, fun H23 S23 => ?_⟩
  rw [runT2, resF_err]
  have ha23 := S23 _ _ ha2
  have at0 : atI (natV a2) 0 = some (.int (p2 : Int)) := atI_of (Int.le_refl 0) (by rw [List.getElem?_map]; show Option.map _ a2[0]? = _; rw [hp2']; rfl)
  refine ⟨_, rfl, _, _, _, _, rfl, rfl, Or.inl (SqL.of (by assumption)), by assumption, ?_⟩
  refine ⟨rfl, _, rfl, ?_⟩
  refine iteDT rfl ?_
  have hsz := ho.g.sz
  have l3 : (Str.ofString " \n\n").length = 3 := by decide +kernel
  have hbe := ho.e
  refine ⟨_, rfl, ?_⟩
  refine ⟨_, _, rfl, rfl, by rw [hbe]; omega, ?_⟩
  have g3 : ∀ N, N ∈ [[Str.empty, Str.empty], [Str.empty], Lh] → Gd N := fun N hN => by
    rcases List.mem_cons.mp hN with rfl | hN
    · exact gd_of (by simp) (by decide +kernel) (by decide +kernel)
    · rcases List.mem_cons.mp hN with rfl | hN
      · exact gd_of (by simp) (by decide +kernel) (by decide +kernel)
      · rw [(by simpa using hN : N = Lh)]; exact ho.g
  have e3 : Str.ofString " \n\n" ++ hb = Txt.join (Str.ofString "\n") ([[Str.empty, Str.empty], [Str.empty], Lh].map lin) := by
    have ej : Txt.join (Str.ofString "\n") ([[Str.empty, Str.empty], [Str.empty], Lh].map lin) = mkS (J 10 (([[Str.empty, Str.empty], [Str.empty], Lh].map lin).map cd)) := join_cd 10 _
    have e4 : cd (Str.ofString " \n\n") = [32, 10, 10] := by decide +kernel
    rw [ej]
    refine cd_inj ?_
    rw [cd_mk, cd_app, e4, hbe]
    rfl
  rw [e3]
  refine ⟨_, _, rfl, rdT_of g3 (by simp) (by show 3 ≤ 90; decide), fun H24 S24 => ?_⟩
  have r3 : runL (wordsF [[Str.empty, Str.empty], [Str.empty], Lh]) = .error 2 := by
    have : wordsF [[Str.empty, Str.empty], [Str.empty], Lh] = [[], [], Lh.map cd] := by
      have := words_one ho.ne
      unfold wordsF at this ⊢
      rw [List.map_cons, List.map_cons, this]
      rfl
    rw [this]
    exact run_third ho.bad
  rw [r3, resF_err]
  refine ⟨_, _, rfl, rfl, ?_⟩
  exact k H24 (S0.trans (N19.same.trans (N20.same.trans (N21.same.trans (S22.trans (S23.trans S24))))))
end
end K5
namespace SW
open PySem L2
theorem J_flat {c : Nat} : ∀ {L : List (List Nat)} {x : List Nat}, J c (x :: L) = x ++ (L.map (fun y => c :: y)).flatten
  | [], x => by simp [J]
  | y :: L, x => by
    show x ++ c :: J c (y :: L) = _
    rw [J_flat (L := L) (x := y)]
    simp
theorem lgN {m : Nat} (h : m ≤ 10 ^ 9) : ((m : Nat) : Int).natAbs.log2 < 1920 := by
  show m.log2 < 1920
  by_cases h0 : m = 0
  · subst h0; decide
  · exact (Nat.log2_lt h0).mpr (Nat.lt_of_le_of_lt h (Nat.lt_of_lt_of_le (show 10 ^ 9 < 2 ^ 30 by decide) (Nat.pow_le_pow_right (by decide) (by decide))))
def numS (z : Nat) : Str := Str.ofString (toString (z : Int))
theorem num_mk (z : Nat) : numS z = mkS (dg z) := cd_inj (by rw [cd_mk]; exact cd_num z)
def strV : V → V
  | .int y => .str (Str.ofString (toString y))
  | v => v
theorem strV_all (l : List Nat) : ((nI l).map V.int).map strV = ((l.map dg).map mkS).map V.str := by
  unfold nI
  rw [List.map_map, List.map_map, List.map_map, List.map_map]
  exact List.map_congr_left fun z _ => congrArg V.str (num_mk z)
theorem nI_row {n : Nat} {f : Nat → Int} (h : ∀ i, i < n → 0 ≤ f i) : nI ((List.range n).map fun i => (f i).toNat) = row n f := by
  unfold nI row
  rw [List.map_map]
  exact List.map_congr_left fun i hi => Int.toNat_of_nonneg (h i (List.mem_range.mp hi))
theorem namF_nd (cell : Int) {n : Nat} (h : n ≤ 12) : ((List.range n).map fun j => namL cell (numL j cell)).Nodup := by
  unfold List.Nodup
  rw [List.pairwise_map]
  refine List.Pairwise.imp_of_mem (fun {a b} ha hb hab e => ?_) (List.nodup_range (n := n))
  have h1 := List.mem_range.mp ha
  have h2 := List.mem_range.mp hb
  exact hab (numL_inj (by omega) (by omega) (namL_inj (numL_lt _ _) (numL_lt _ _) e))
def hdF (cell : Int) (c : Nat) (qe : Nat → Int) : List (List Nat × Nat) := (List.range c).map fun j => (namL cell (numL j cell), (qe j).toNat)
def rsF (cell : Int) (r c : Nat) (pe : Nat → Int) (U : Nat → Nat → Int) : List RowF := (List.range r).map fun i => ((namL cell (numL i cell), (pe i).toNat), (List.range c).map fun j => (U i j).toNat)
structure LwOk (hd : List (List Nat × Nat)) (rs : List RowF) : Prop where
  o : TaOk hd rs
  r0 : rs ≠ []
  low : ∀ r, r ∈ rs → ∃ c, c ∈ r.1.1 ∧ c < 122
  sum : sumF (rs.map (·.1)) = sumF hd
  s300 : sumF (rs.map (·.1)) ≤ 300
theorem nm_ok (k : Nat) (cell : Int) : NmOk (namL cell (numL k cell)) := by
  obtain ⟨h1, h2, h3⟩ := namL_ok cell (numL_lt k cell)
  exact ⟨h1, h2, h3⟩
theorem nI_sumN : ∀ l : List Nat, (nI l).sum = (l.sum : Nat)
  | [] => rfl
  | a :: l => by
    show (a : Int) + (nI l).sum = ((a + l.sum : Nat) : Int)
    rw [nI_sumN l]
    omega
theorem lw_law {cell cell' : Int} {r c : Nat} {pe qe : Nat → Int} {U : Nat → Nat → Int} (r0 : 0 < r) (r1 : r ≤ 12) (c0 : 0 < c) (c1 : c ≤ 12) (ub : ∀ i j, i < r → j < c → 0 ≤ U i j ∧ U i j ≤ 10 ^ 9) (du : Due r c pe qe) : LwOk (hdF cell c qe) (rsF cell' r c pe U) := by
  have e1 : nI ((rsF cell' r c pe U).map (·.1.2)) = row r pe := by
    rw [← nI_row fun i hi => (du.p0 i hi).1]
    unfold rsF
    rw [List.map_map]
    rfl
  have e2 : nI ((hdF cell c qe).map (·.2)) = row c qe := by
    rw [← nI_row fun i hi => (du.q0 i hi).1]
    unfold hdF
    rw [List.map_map]
    rfl
  have s1 : (sumF ((rsF cell' r c pe U).map (·.1)) : Int) = sumZ r pe := by
    rw [← row_sum, ← e1, nI_sumN]
    unfold sumF
    rw [List.map_map]
    rfl
  have s2 : (sumF (hdF cell c qe) : Int) = sumZ c qe := by
    rw [← row_sum, ← e2, nI_sumN]
    rfl
  have d1 := du.eq
  have d2 := du.s300
  refine ⟨⟨fun h hh => ?_, ?_, ?_, by unfold hdF; simpa using c1, fun x hx => ?_, ?_, by unfold rsF; simpa using r1⟩, ?_, fun x hx => ?_, by omega, by omega⟩
  · unfold hdF at hh
    obtain ⟨j, hj, rfl⟩ := List.mem_map.mp hh
    have := du.q0 j (List.mem_range.mp hj)
    exact ⟨nm_ok _ _, by show (qe j).toNat ≤ 300; omega⟩
  · unfold hdF
    rw [List.map_map]
    exact namF_nd cell c1
  · intro z
    have := congrArg List.length z
    unfold hdF at this
    simp at this
    omega
  · unfold rsF at hx
    obtain ⟨i, hi, rfl⟩ := List.mem_map.mp hx
    have hi := List.mem_range.mp hi
    have := du.p0 i hi
    refine ⟨nm_ok _ _, (by show (pe i).toNat ≤ 300; omega), by unfold hdF; simp, fun z hz => ?_⟩
    obtain ⟨j, hj, rfl⟩ := List.mem_map.mp hz
    have := ub i j hi (List.mem_range.mp hj)
    omega
  · unfold rsF
    rw [List.map_map]
    exact namF_nd cell' r1
  · intro z
    have := congrArg List.length z
    unfold rsF at this
    simp at this
    omega
  · unfold rsF at hx
    obtain ⟨i, hi, rfl⟩ := List.mem_map.mp hx
    exact namL_low cell' (numL_lt _ _)
def moreF (hd : List (List Nat × Nat)) (m : Nat) : RowF := (([122, 122], m), List.replicate hd.length 0)
theorem more_ok {hd : List (List Nat × Nat)} {m : Nat} (hm : m ≤ 300) : NmOk (moreF hd m).1.1 ∧ (moreF hd m).1.2 ≤ 300 ∧ (moreF hd m).2.length = hd.length ∧ ∀ z, z ∈ (moreF hd m).2 → z ≤ 10 ^ 9 :=
  ⟨(⟨by decide, by decide, by decide⟩ : NmOk [122, 122]), hm, by unfold moreF; simp, fun z hz => by rw [(List.mem_replicate.mp hz).2]; decide⟩
theorem more_new {hd : List (List Nat × Nat)} {rs : List RowF} (h : LwOk hd rs) : [122, 122] ∉ rs.map (·.1.1) := fun z => by
  obtain ⟨r, hr, e⟩ := List.mem_map.mp z
  obtain ⟨c, hc, lt⟩ := h.low r hr
  rw [e] at hc
  simp at hc
  omega
theorem more_ta {hd : List (List Nat × Nat)} {rs : List RowF} {m : Nat} (h : LwOk hd rs) (hm : m ≤ 300) (few : rs.length < 12) : TaOk hd (rs ++ [moreF hd m]) := by
  have o := h.o
  refine ⟨o.hk, o.hn, o.h1, o.h12, fun r hr => ?_, ?_, by simp; omega⟩
  · rcases List.mem_append.mp hr with hr | hr
    · exact o.rk r hr
    · rw [(by simpa using hr : r = _)]
      exact more_ok hm
  · rw [List.map_append]
    refine List.nodup_append.mpr ⟨o.rn, by simp, fun x hx y hy e => ?_⟩
    have : y = [122, 122] := by simpa [moreF] using hy
    rw [e, this] at hx
    exact more_new h hx
theorem tab_snoc (hd : List (List Nat × Nat)) (rs : List RowF) (q : RowF) : tabc hd (rs ++ [q]) = tabc hd rs ++ [rowc q] := by unfold tabc; simp
theorem sumF_snoc (l : List (List Nat × Nat)) (q : List Nat × Nat) : sumF (l ++ [q]) = sumF l + q.2 := by unfold sumF; simp
theorem run_more {hd : List (List Nat × Nat)} {rs : List RowF} {m : Nat} (h : LwOk hd rs) (h0 : 0 < m) (hm : m ≤ 300) : resF (runL (tabc hd rs ++ [rowc (moreF hd m)])) = if rs.length < 12 then -1 else 13 := by
  by_cases few : rs.length < 12
  · rw [if_pos few, ← tab_snoc, run_tab (more_ta h hm few)]
    refine if_pos (.inr (.inl ?_))
    dsimp only
    rw [List.map_append, List.map_cons, List.map_nil, sumF_snoc, h.sum]
    show sumF hd + m ≠ sumF hd
    omega
  · have r12 := h.o.r12
    have e12 : rs.length = 12 := by omega
    rw [if_neg few]
    have := run_bad h.o (i := rs.length) (Nat.le_refl _) (ws := rowc (moreF hd m)) (by
      rw [List.take_of_length_le (Nat.le_refl _)]
      obtain ⟨k1, k2, k3, k4⟩ := more_ok (hd := hd) hm
      unfold lineF rowc
      rw [if_neg (by simp), if_neg h.o.h1]
      dsimp only
      rw [placeF_lab (labN_dup k1 k2 (.inr (by rw [List.length_map, List.length_map]; exact e12)))]
      rfl) []
    rw [List.take_of_length_le (by unfold tabc; simp)] at this
    rw [this, e12]
    rfl
theorem run_more2 {hd : List (List Nat × Nat)} {rs : List RowF} {m : Nat} (h : LwOk hd rs) (hm : m ≤ 300) (few : rs.length < 11) : resF (runL (tabc hd rs ++ [rowc (moreF hd m), [[122, 122]]])) = ((rs.length + 2 : Nat) : Int) := by
  have := run_bad (more_ta h hm (by omega)) (i := (rs ++ [moreF hd m]).length) (Nat.le_refl _) (ws := [[122, 122]]) (by
    unfold lineF
    rw [if_neg (by simp), if_neg h.o.h1]
    dsimp only
    rw [placeF_lab (labN_bad (by decide +kernel))]
    rfl) []
  rw [List.take_of_length_le (by unfold tabc; simp), tab_snoc] at this
  rw [show tabc hd rs ++ [rowc (moreF hd m), [[122, 122]]] = tabc hd rs ++ [rowc (moreF hd m)] ++ [[[122, 122]]] by simp, this]
  show (((rs ++ [moreF hd m]).length + 1 : Nat) : Int) = _
  simp
  omega
theorem run_less {hd : List (List Nat × Nat)} {rs : List RowF} (h : LwOk hd rs) {i : Nat} (hi : i < rs.length) (pos : 0 < rs[i].1.2) : resF (runL (hd.map labc :: ((rs.take i).map rowc ++ (rs.drop (i + 1)).map rowc))) = -1 := by
  have o := h.o
  have sub : (rs.take i ++ rs.drop (i + 1)).Sublist rs := by
    have := List.Sublist.append (List.Sublist.refl (rs.take i)) (List.drop_sublist_drop_left rs (show i ≤ i + 1 by omega))
    rw [List.take_append_drop] at this
    exact this
  have o2 : TaOk hd (rs.take i ++ rs.drop (i + 1)) := ⟨o.hk, o.hn, o.h1, o.h12, fun r hr => o.rk r (sub.subset hr), List.Nodup.sublist (sub.map _) o.rn, by have := sub.length_le; have := o.r12; omega⟩
  have e : hd.map labc :: ((rs.take i).map rowc ++ (rs.drop (i + 1)).map rowc) = tabc hd (rs.take i ++ rs.drop (i + 1)) := by unfold tabc; rw [List.map_append]
  rw [e, run_tab o2]
  refine if_pos (.inr (.inl ?_))
  dsimp only
  have s := h.sum
  have sp : rs = rs.take i ++ rs[i] :: rs.drop (i + 1) := by rw [← List.drop_eq_getElem_cons hi, List.take_append_drop]
  have s2 : sumF (rs.map (·.1)) = sumF ((rs.take i ++ rs[i] :: rs.drop (i + 1)).map (·.1)) := by rw [← sp]
  have s3 : sumF ((rs.take i ++ rs[i] :: rs.drop (i + 1)).map (·.1)) = sumF ((rs.take i ++ rs.drop (i + 1)).map (·.1)) + rs[i].1.2 := by
    unfold sumF
    simp only [List.map_append, List.map_cons, List.sum_append, List.sum_cons]
    omega
  omega
end SW
namespace K5
open PySem L2 SW
section
variable {P : Program} {w : World} {K : PySem.W.Frag} {mg : Str → Option Value} {base : Heap}
structure LsF (H : Hp) (cl rl vt : Addr) (bs : List Addr) (hd : List (List Nat × Nat)) (rs : List RowF) : Prop where
  c : H cl = some (.lst ((nI (hd.map (·.2))).map V.int))
  r : H rl = some (.lst ((nI (rs.map (·.1.2))).map V.int))
  v : H vt = some (.lst (bs.map V.ref))
  lb : bs.length = rs.length
  vr : ∀ (i : Nat) (b : Addr) (r : RowF), bs[i]? = some b → rs[i]? = some r → H b = some (.lst ((nI r.2).map V.int))
theorem LsF.same {H H' : Hp} {cl rl vt : Addr} {bs : List Addr} {hd : List (List Nat × Nat)} {rs : List RowF} (t : LsF H cl rl vt bs hd rs) (S : Same H H') : LsF H' cl rl vt bs hd rs :=
  ⟨S _ _ t.c, S _ _ t.r, S _ _ t.v, t.lb, fun i b r e1 e2 => S _ _ (t.vr i b r e1 e2)⟩
theorem ls_law {H : Hp} {cell cell' : Int} {r c : Nat} {pe qe : Nat → Int} {U : Nat → Nat → Int} {cl rl vt : Addr} {as : List Addr} (ub : ∀ i j, i < r → j < c → 0 ≤ U i j ∧ U i j ≤ 10 ^ 9) (du : Due r c pe qe)
    (hc : H cl = some (.lst ((row c qe).map V.int))) (hr : H rl = some (.lst ((row r pe).map V.int))) (mt : MatM H vt as (mkT U r c)) : LsF H cl rl vt as (hdF cell c qe) (rsF cell' r c pe U) := by
  refine ⟨?_, ?_, mt.top, ?_, fun i b x e1 e2 => ?_⟩
  · rw [hc, ← nI_row fun i hi => (du.q0 i hi).1]
    unfold hdF
    rw [List.map_map]
    rfl
  · rw [hr, ← nI_row fun i hi => (du.p0 i hi).1]
    unfold rsF
    rw [List.map_map]
    rfl
  · have := mt.len
    rw [mk_len] at this
    rw [this]
    unfold rsF
    simp
  · unfold rsF at e2
    rw [List.getElem?_map] at e2
    have hi : i < r := by
      have := (List.getElem?_eq_some_iff.mp e1).1
      have l := mt.len
      rw [mk_len] at l
      omega
    rw [List.getElem?_range hi] at e2
    have e2 := Option.some.inj e2
    rw [← e2]
    show H b = some (.lst ((nI ((List.range c).map fun j => (U i j).toNat)).map V.int))
    rw [nI_row fun j hj => (ub i j hi hj).1]
    exact mt.rows i b _ e1 (mk_get hi)
theorem lab_num (n : List Nat) (m : Nat) : mkS n ++ Str.ofString "(" ++ Str.ofString (toString (m : Int)) ++ Str.ofString ")" = mkS (labc (n, m)) := cd_inj (by
  have e1 : cd (Str.ofString "(") = [40] := by decide +kernel
  have e2 : cd (Str.ofString ")") = [41] := by decide +kernel
  rw [cd_mk, cd_app, cd_app, cd_app, cd_mk, cd_num, e1, e2]
  unfold labc
  simp)
theorem lines_take (hd : List (List Nat × Nat)) {rs : List RowF} {i : Nat} (h : i < rs.length) : (linesS hd rs).take (i + 1 + 1) = (linesS hd rs).take (i + 1) ++ [(rowc rs[i]).map mkS] := by
  rw [List.take_add_one (l := linesS hd rs)]
  congr 1
  unfold linesS tabc
  rw [List.getElem?_map, List.getElem?_cons_succ, List.getElem?_map, List.getElem?_eq_getElem h]
  rfl
theorem more_lin (hd : List (List Nat × Nat)) (m : Nat) : Str.ofString "zz(" ++ Str.ofString (toString (m : Int)) ++ Str.ofString ")" ++ Txt.mul (Str.ofString " 0") (hd.length : Int) = lin ((rowc (moreF hd m)).map mkS) := cd_inj (by
  have e1 : cd (Str.ofString "zz(") = [122, 122, 40] := by decide +kernel
  have e2 : cd (Str.ofString ")") = [41] := by decide +kernel
  have e3 : cd (Str.ofString " 0") = [32, 48] := by decide +kernel
  have e0 : dg 0 = [48] := by decide +kernel
  have em : cd (Txt.mul (Str.ofString " 0") (hd.length : Int)) = (List.replicate hd.length [32, 48]).flatten := by
    by_cases h : 1 ≤ (hd.length : Int)
    · rw [mulS_cd _ h, Int.toNat_natCast, e3]
    · have : hd.length = 0 := by omega
      rw [this]
      decide +kernel
  have ew : ((rowc (moreF hd m)).map mkS).map cd = labc ([122, 122], m) :: List.replicate hd.length [48] := by
    rw [List.map_map]
    have : (rowc (moreF hd m)).map (cd ∘ mkS) = (rowc (moreF hd m)).map id := List.map_congr_left fun l _ => cd_mk l
    rw [this, List.map_id]
    unfold rowc moreF
    rw [List.map_replicate, e0]
  rw [cd_lin, ew, J_flat, cd_app, cd_app, cd_app, em, cd_num, e1, e2, List.map_replicate]
  unfold labc
  simp)
theorem more_gd {hd : List (List Nat × Nat)} {m : Nat} (h12 : hd.length ≤ 12) (hm : m ≤ 300) : Gd ((rowc (moreF hd m)).map mkS) ∧ ∀ z, z ∈ (rowc (moreF hd m)).map mkS → cd z ≠ [] := by
  have d10 : (dg m).length ≤ 10 := by rw [← cd_num, cd_len]; exact PySem.W.KT.len_num (by omega) (by omega)
  have e0 : dg 0 = [48] := by decide +kernel
  have key : ∀ l, l ∈ rowc (moreF hd m) → l ≠ [] ∧ l.length ≤ 20 ∧ ∀ c, c ∈ l → c ≠ 32 ∧ c ≠ 10 ∧ c < 128 := fun l hl => by
    unfold rowc moreF at hl
    rcases List.mem_cons.mp hl with rfl | hl
    · unfold labc
      refine ⟨by simp, ?_, fun c hc => ?_⟩
      · simp only [List.length_append, List.length_cons, List.length_nil]
        omega
      · simp only [List.mem_append, List.mem_cons, List.not_mem_nil, or_false] at hc
        rcases hc with (hc | hc) | hc | hc | hc
        · omega
        · omega
        · omega
        · have := dg_all _ c hc; omega
        · omega
    · rw [List.map_replicate, e0] at hl
      rw [(List.mem_replicate.mp hl).2]
      decide
  have ln : (rowc (moreF hd m)).length = hd.length + 1 := by unfold rowc moreF; simp
  refine ⟨gd_of (fun z => ?_) (fun z hz => ?_) ?_, fun z hz => ?_⟩
  · have := congrArg List.length z
    rw [List.length_map, ln] at this
    simp at this
  · obtain ⟨l, hl, rfl⟩ := List.mem_map.mp hz
    rw [cd_mk]
    exact (key l hl).2.2
  · have := lin_le (L := (rowc (moreF hd m)).map mkS) (n := 20) fun y hy => by
      obtain ⟨l, hl, rfl⟩ := List.mem_map.mp hy
      rw [← cd_len, cd_mk]
      exact (key l hl).2.1
    rw [List.length_map, ln] at this
    omega
  · obtain ⟨l, hl, rfl⟩ := List.mem_map.mp hz
    rw [cd_mk]
    exact (key l hl).1
theorem words_row {ws : List (List Nat)} (h : ∀ z, z ∈ ws.map mkS → cd z ≠ []) : wordsF [ws.map mkS] = [ws] := by
  rw [words_one h, List.map_map]
  have : ws.map (cd ∘ mkS) = ws.map id := List.map_congr_left fun l _ => cd_mk l
  rw [this, List.map_id]
theorem words_zz : wordsF [[Str.ofString "zz"]] = [[[122, 122]]] := by decide +kernel
theorem lines_less {hd : List (List Nat × Nat)} {rs : List RowF} (o : TaOk hd rs) (i : Nat) : wordsF ((linesS hd rs).take (i + 1) ++ (linesS hd rs).drop (i + 1 + 1)) = hd.map labc :: ((rs.take i).map rowc ++ (rs.drop (i + 1)).map rowc) := by
  rw [wordsF_app, words_take, words_drop, words_lines o]
  unfold tabc
  rw [List.take_succ_cons, List.drop_succ_cons, List.map_take, List.map_drop]
  rfl
theorem fix_rd {t : Str} {Ls : List (List Str)} (e : cd t = J 10 ((Ls.map lin).map cd)) (h0 : Ls ≠ []) (hl : Ls.length ≤ 90) (h : ∀ L, L ∈ Ls → L ≠ [] ∧ (∀ z, z ∈ L → ∀ c, c ∈ cd z → c ≠ 32 ∧ c ≠ 10 ∧ c < 128) ∧ (lin L).length ≤ 10000) : RdT t Ls := by
  have := rdT_of (Ls := Ls) (fun L hL => gd_of (h L hL).1 (h L hL).2.1 (h L hL).2.2) h0 hl
  have ej : Txt.join (Str.ofString "\n") (Ls.map lin) = mkS (J 10 ((Ls.map lin).map cd)) := join_cd 10 _
  rw [ej, ← e, mk_cd] at this
  exact this
abbrev wd (l : List (List String)) : List (List Str) := l.map fun x => x.map Str.ofString
def f1 : List (List Str) := wd [["a(300)"], ["b(300)", "1"]]
def f2 : List (List Str) := wd [["a(300)", "b(1)"], ["c(300)", "1", "1"], ["d(1)", "1", "1"]]
def f3 : List (List Str) := wd [["", ""], ["", ""]]
def f4 : List (List Str) := wd [["a(0)", "b(0)"]]
def f5 : List (List Str) := wd [["a(5)"], ["b(3)", "7"]]
theorem fr1 : RdT (Str.ofString "a(300)\nb(300) 1") f1 := fix_rd (by decide +kernel) (by decide +kernel) (by decide +kernel) (by decide +kernel)
theorem fr2 : RdT (Str.ofString "a(300) b(1)\nc(300) 1 1\nd(1) 1 1") f2 := fix_rd (by decide +kernel) (by decide +kernel) (by decide +kernel) (by decide +kernel)
theorem fr3 : RdT (Str.ofString " \n ") f3 := fix_rd (by decide +kernel) (by decide +kernel) (by decide +kernel) (by decide +kernel)
theorem fr4 : RdT (Str.ofString "a(0) b(0)") f4 := fix_rd (by decide +kernel) (by decide +kernel) (by decide +kernel) (by decide +kernel)
theorem fr5 : RdT (Str.ofString "a(5)\nb(3) 7") f5 := fix_rd (by decide +kernel) (by decide +kernel) (by decide +kernel) (by decide +kernel)
theorem fe1 : resF (runL (wordsF f1)) = -2 := by decide +kernel
theorem fe2 : resF (runL (wordsF f2)) = -1 := by decide +kernel
theorem fe3 : resF (runL (wordsF f3)) = -1 := by decide +kernel
theorem fe4 : resF (runL (wordsF f4)) = -1 := by decide +kernel
theorem fe5 : resF (runL (wordsF f5)) = -1 := by decide +kernel
end
end K5
namespace K5
open PySem L2 SW
section
variable {P : Program} {w : World} {K : PySem.W.Frag} {mg : Str → Option Value} {base : Heap}
theorem lines_ne (hd : List (List Nat × Nat)) (rs : List RowF) : linesS hd rs ≠ [] := by unfold linesS tabc; simp
theorem linV_zz : linV [[Str.ofString "zz"]] = [V.str (Str.ofString "zz")] := by
  have : lin [Str.ofString "zz"] = Str.ofString "zz" := cd_inj (cd_lin _)
  show [V.str (lin [Str.ofString "zz"])] = _
  rw [this]
seal PSs PS PE PA PT PG PI PO
theorem ok_law (T : Txt K mg) : FnOk P w K mg base CX0 10 T.a_law T.fd_law ["_law_script"] (spLaw K) := by
  refine T.F_law.ok sc_law (fun vs H Q E h => ?_) (fun cdv A outer s H vs Q E hr h => ?_)
  · obtain ⟨a, ns, rfl, _⟩ := h
    rfl
  obtain ⟨a, ns, rfl, hS, _, q⟩ := h
  refine ⟨_, (pss_cons (ps_asg (pe_call (ok_ltable T) (hr.mono (by decide)) rfl T.m_ltable T.F_ltable.kp T.b_ltable .nil pass0 (pa_cons (pv 0) pa_nil)) (pg_tupQ K rfl (pgs_cons (pg_name (i := 1) sc_law.nd rfl (Or.inl rfl)) (pgs_cons (pg_name (i := 2) sc_law.nd rfl (Or.inl rfl)) (pgs_cons (pg_name (i := 3) sc_law.nd rfl (Or.inr rfl)) pgs_nil)))))
      (pss_cons (ps_set (i := 4) sc_law.nd rfl (Or.inr rfl) (pe_call (ok_lcell_at T) (hr.mono (by decide)) rfl T.m_lcell_at T.F_lcell_at.kp T.b_lcell_at .nil pass0 (pa_cons (pv 0) (pa_cons pe_int pa_nil))))
      (pss_cons (ps_setC (i := 5) [13] rfl (blk_of rfl) (pi_range1 rfl T.n_range (pa_cons (pe_callB (len_Q K) (by rfl) T.n_len PySem.boot_len (pa_cons (pv 3) pa_nil)) pa_nil)) (fun _ => (pg_name (i := 13) sc_law.nd rfl (Or.inl rfl))) (fun _ => pts_nil) (fun _ => (pe_op op_add_str (pe_op op_add_str (pe_op op_add_str (pe_call (ok_lname T) (hr.mono (by decide)) rfl T.m_lname T.F_lname.kp T.b_lname .nil pass0 (pa_cons (pv 13) (pa_cons (pv 4) pa_nil))) pe_str) (pe_callTy call_str_int (by rfl) T.n_str PyProof.Rows.boot_str (pa_cons (pe_ix (ix_Q K) (pv 3) (pv 13) (fun _ _ => rfl)) pa_nil))) pe_str)) sc_law.nd rfl rfl)
      (pss_cons (ps_setC (i := 6) [13] rfl (blk_of rfl) (pi_range1 rfl T.n_range (pa_cons (pe_callB (len_Q K) (by rfl) T.n_len PySem.boot_len (pa_cons (pv 2) pa_nil)) pa_nil)) (fun _ => (pg_name (i := 13) sc_law.nd rfl (Or.inl rfl))) (fun _ => pts_nil) (fun _ => (pe_call (ok_lname T) (hr.mono (by decide)) rfl T.m_lname T.F_lname.kp T.b_lname .nil pass0 (pa_cons (pv 13) (pa_cons (pe_op op_fdivF (pv 4) pe_int) pa_nil)))) sc_law.nd rfl rfl)
      (pss_cons (ps_set (i := 7) sc_law.nd rfl (Or.inl rfl) (pe_lstA (pa_cons (pe_bm PySem.F.plainAttrs_str PySem.F.slot_str_join PySem.F.type_str_join (join_Q K) pe_str (pa_cons (pv 5) pa_nil)) pa_nil)))
      (pss_cons (ps_for PassesOwn.never rfl (pi_range1 rfl T.n_range (pa_cons (pe_callB (len_Q K) (by rfl) T.n_len PySem.boot_len (pa_cons (pv 2) pa_nil)) pa_nil)) (pg_name (i := 8) sc_law.nd rfl (Or.inl rfl))
      (pss_one (ps_expr (pe_bm PySem.F.plainAttrs_list PySem.F.slot_list_append PySem.F.type_list_append mt_append (pv 7) (pa_cons (pe_bm PySem.F.plainAttrs_str PySem.F.slot_str_join PySem.F.type_str_join (join_Q K) pe_str (pa_cons (pe_op op_catN (pe_lstA (pa_cons (pe_op op_add_str (pe_op op_add_str (pe_op op_add_str (pe_ix (ix_Q K) (pv 6) (pv 8) (fun _ _ => rfl)) pe_str) (pe_callTy call_str_int (by rfl) T.n_str PyProof.Rows.boot_str (pa_cons (pe_ix (ix_Q K) (pv 2) (pv 8) (fun _ _ => rfl)) pa_nil))) pe_str) pa_nil)) (pe_comp [14] rfl (blk_of rfl) (pi_listQ K (pe_ix (ix_Q K) (pv 1) (pv 8) (fun _ _ => rfl))) (fun _ => (pg_name (i := 14) sc_law.nd rfl (Or.inl rfl))) (fun _ => pts_nil) (fun _ => (pe_callTy call_str_int (by rfl) T.n_str PyProof.Rows.boot_str (pa_cons (pv 14) pa_nil))))) pa_nil)) pa_nil)))))
      (pss_cons (ps_if (PW.pt (pw_or (pt_cmpR op_ne (pe_call (ok_lrefused T) (hr.mono (by decide)) rfl T.m_lrefused T.F_lrefused.kp T.b_lrefused .nil pass0 (pa_cons (pe_bm PySem.F.plainAttrs_str PySem.F.slot_str_join PySem.F.type_str_join (join_Q K) pe_str (pa_cons (pv 7) pa_nil)) pa_nil)) (pe_un un_neg pe_int) (nomark _)) (pw_or1 (pt_cmpR op_ne (pe_call (ok_lrefused T) (hr.mono (by decide)) rfl T.m_lrefused T.F_lrefused.kp T.b_lrefused .nil pass0 (pa_cons (pe_ix (ix_Q K) (pe_call (ok_llaid T) (hr.mono (by decide)) rfl T.m_llaid T.F_llaid.kp T.b_llaid .nil pass0 (pa_cons (pv 7) (pa_cons (pv 4) pa_nil))) pe_int (fun _ _ => rfl)) pa_nil)) (pe_un un_neg pe_int) (nomark _)))))
      (pss_one (ps_ret pe_bl))
      pss_nil)
      (pss_cons (ps_for PassesOwn.never rfl (pi_range1 rfl T.n_range (pa_cons (pe_callB (call_min2 rfl) (by rfl) T.n_min PyProof.Rows.boot_min (pa_cons (pe_callB (len_Q K) (by rfl) T.n_len PySem.boot_len (pa_cons (pv 0) pa_nil)) (pa_cons pe_int pa_nil))) pa_nil)) (pg_name (i := 9) sc_law.nd rfl (Or.inl rfl))
      (pss_cons (ps_set (i := 10) sc_law.nd rfl (Or.inl rfl) (pe_op op_add (pe_ix (ix_Q K) (pv 0) (pv 9) (fun _ _ => rfl)) (pe_op op_mulF pe_int (pv 9))))
      (pss_cons (ps_if (pt_not (pt_val (pe_call (ok_lline_right T) (hr.mono (by decide)) rfl T.m_lline_right T.F_lline_right.kp T.b_lline_right .nil pass0 (pa_cons (pv 7) (pa_cons (pv 6) (pa_cons (pe_callB (len_Q K) (by rfl) T.n_len PySem.boot_len (pa_cons (pv 3) pa_nil)) (pa_cons (pv 10) pa_nil)))))))
      (pss_one (ps_ret pe_bl))
      pss_nil)
      (pss_cons (ps_set (i := 11) sc_law.nd rfl (Or.inl rfl) (pe_op op_add_str (pe_op op_add_str (pe_op op_add_str pe_str (pe_callTy call_str_int (by rfl) T.n_str PyProof.Rows.boot_str (pa_cons (pe_op op_add pe_int (pe_call (ok_ldraw T) (hr.mono (by decide)) rfl T.m_ldraw T.F_ldraw.kp T.b_ldraw .nil pass0 (pa_cons (pv 10) (pa_cons pe_int (pa_cons pe_int pa_nil))))) pa_nil))) pe_str) (pe_op op_mulS pe_str (pe_callB (len_Q K) (by rfl) T.n_len PySem.boot_len (pa_cons (pv 3) pa_nil)))))
      (pss_cons (ps_meet (ps_if (pt_cmpR op_ne (pe_call (ok_lrefused T) (hr.mono (by decide)) rfl T.m_lrefused T.F_lrefused.kp T.b_lrefused .nil pass0 (pa_cons (pe_bm PySem.F.plainAttrs_str PySem.F.slot_str_join PySem.F.type_str_join (join_Q K) pe_str (pa_cons (pe_op op_catN (pv 7) (pe_lstA (pa_cons (pv 11) pa_nil))) pa_nil)) pa_nil)) (pe_ifExp (pt_cmpR op_lt (pe_callB (len_Q K) (by rfl) T.n_len PySem.boot_len (pa_cons (pv 2) pa_nil)) pe_int (nomark _)) (pe_un un_neg pe_int) pe_int) (nomark _))
      (pss_one (ps_ret pe_bl))
      pss_nil))
      (pss_cons (ps_meet (ps_if (PW.pt (pw_and (pt_cmpR op_lt (pe_callB (len_Q K) (by rfl) T.n_len PySem.boot_len (pa_cons (pv 2) pa_nil)) pe_int (nomark _)) (pw_and1 (pt_cmpR op_neI (pe_call (ok_lrefused T) (hr.mono (by decide)) rfl T.m_lrefused T.F_lrefused.kp T.b_lrefused .nil pass0 (pa_cons (pe_bm PySem.F.plainAttrs_str PySem.F.slot_str_join PySem.F.type_str_join (join_Q K) pe_str (pa_cons (pe_op op_catN (pv 7) (pe_lstA (pa_cons (pv 11) (pa_cons pe_str pa_nil)))) pa_nil)) pa_nil)) (pe_op op_add (pe_callB (len_Q K) (by rfl) T.n_len PySem.boot_len (pa_cons (pv 7) pa_nil)) pe_int) (nomark _)))))
      (pss_one (ps_ret pe_bl))
      pss_nil))
      (pss_cons (ps_set (i := 12) sc_law.nd rfl (Or.inl rfl) (pe_op op_add pe_int (pe_call (ok_ldraw T) (hr.mono (by decide)) rfl T.m_ldraw T.F_ldraw.kp T.b_ldraw .nil pass0 (pa_cons (pv 10) (pa_cons pe_int (pa_cons (pe_callB (len_Q K) (by rfl) T.n_len PySem.boot_len (pa_cons (pv 2) pa_nil)) pa_nil))))))
      (pss_one (ps_meet (ps_if (PW.pt (pw_and (pt_cmpR op_gt (pe_ix (ix_Q K) (pv 2) (pe_op op_sub (pv 12) pe_int) (fun _ _ => rfl)) pe_int (nomark _)) (pw_and1 (pt_cmpR op_ne (pe_call (ok_lrefused T) (hr.mono (by decide)) rfl T.m_lrefused T.F_lrefused.kp T.b_lrefused .nil pass0 (pa_cons (pe_bm PySem.F.plainAttrs_str PySem.F.slot_str_join PySem.F.type_str_join (join_Q K) pe_str (pa_cons (pe_op op_catN (pe_slice (sl_Q K) (pv 7) po_none (po_some (pv 12))) (pe_slice (sl_Q K) (pv 7) (po_some (pe_op op_add (pv 12) pe_int)) po_none)) pa_nil)) pa_nil)) (pe_un un_neg pe_int) (nomark _)))))
      (pss_one (ps_ret pe_bl))
      pss_nil))))))))))
      (pss_cons (ps_if (PW.pt (pw_or (pt_cmpR op_ne (pe_call (ok_lrefused T) (hr.mono (by decide)) rfl T.m_lrefused T.F_lrefused.kp T.b_lrefused .nil pass0 (pa_cons pe_str pa_nil)) (pe_un un_neg pe_int) (nomark _)) (pw_or1 (pt_cmpR op_ne (pe_call (ok_lrefused T) (hr.mono (by decide)) rfl T.m_lrefused T.F_lrefused.kp T.b_lrefused .nil pass0 (pa_cons pe_str pa_nil)) (pe_un un_neg pe_int) (nomark _)))))
      (pss_one (ps_ret pe_bl))
      pss_nil)
      (pss_one (ps_ret (pe_and (pe_cmpR op_eq (pe_call (ok_lrefused T) (hr.mono (by decide)) rfl T.m_lrefused T.F_lrefused.kp T.b_lrefused .nil pass0 (pa_cons pe_str pa_nil)) (pe_un un_neg pe_int) (nomark _)) (pe_and (pe_cmpR op_eq (pe_call (ok_lrefused T) (hr.mono (by decide)) rfl T.m_lrefused T.F_lrefused.kp T.b_lrefused .nil pass0 (pa_cons pe_str pa_nil)) (pe_un un_neg pe_int) (nomark _)) (pe_one (pe_cmpR op_eq (pe_call (ok_lrefused T) (hr.mono (by decide)) rfl T.m_lrefused T.F_lrefused.kp T.b_lrefused .nil pass0 (pa_cons pe_str pa_nil)) (pe_un un_neg pe_int) (nomark _)))))))))))))))), ?_⟩
  have big : (20000 : Nat) ≤ sizeLine := by decide
  have p1 : (Str.ofString "(").length = 1 := by decide +kernel
  have p2 : (Str.ofString ")").length = 1 := by decide +kernel
  have p3 : (Str.ofString "zz(").length = 3 := by decide +kernel
  have p4 : (Str.ofString " 0").length = 2 := by decide +kernel
  have s1 : (Str.ofString " ").length = 1 := by decide +kernel
  refine ⟨_, rfl, ?_⟩
  refine ⟨a, ns, rfl, hS, fun tt vt rl cl as U r c pe qe H1 S1 et mt hrl hcl r0 r1 c0 c1 ub du _ => ?_⟩
  have hS1 := S1.seq hS
  refine ⟨_, _, rfl, SqT.of (by assumption), rfl, _, _, rfl, _, _, rfl, _, _, rfl, ?_⟩
  refine ⟨rfl, _, rfl, ?_⟩
  refine ⟨a, ns, _, rfl, hS1, by decide, fun cell => ?_⟩
  refine ⟨_, rfl, _, _, rfl, Or.inl (SqL.of (by assumption)), ?_⟩
  rw [List.length_map, row_len]
  refine ⟨_, rfl, by omega, by omega, ?_⟩
  rw [Int.toNat_natCast]
  refine comp_mapR (fun j => V.str (mkS (labc (namL cell (numL j cell), (qe j).toNat)))) (Nat.le_trans c1 (by decide)) (fun j Q' hj hQ => ?_) fun nl H2 N2 => ?_
  · rw [show (0 : Int) + (j : Int) = (j : Int) by omega]
    have q0 := du.q0 j hj
    have nm := (nm_ok j cell).le
    have ml : (mkS (namL cell (numL j cell))).length ≤ 8 := by rw [← cd_len, cd_mk]; exact nm
    have dl : (Str.ofString (toString (((qe j).toNat : Nat) : Int))).length ≤ 10 := PySem.W.KT.len_num (by omega) (by omega)
    have atq : atI ((row c qe).map V.int) (j : Int) = some (.int (((qe j).toNat : Nat) : Int)) := atI_of (by omega) (by rw [Int.toNat_natCast, List.getElem?_map, row_get hj, Int.toNat_of_nonneg q0.1]; rfl)
    refine ⟨_, rfl, _, rfl, ?_⟩
    refine ⟨j, cell, rfl, ?_⟩
    refine ⟨_, _, rfl, rfl, by rw [p1]; omega, ?_⟩
    refine ⟨_, rfl, _, rfl, _, _, _, _, rfl, rfl, Or.inl (SqL.of (by assumption)), by assumption, ?_⟩
    refine ⟨_, rfl, lgN (by omega), ?_⟩
    refine ⟨_, _, rfl, rfl, by rw [app_len, p1]; omega, ?_⟩
    refine ⟨_, _, rfl, rfl, by rw [app_len, app_len, p1, p2]; omega, ?_⟩
    rw [lab_num]
    exact hQ
  have hrl2 := N2.same _ _ hrl
  refine ⟨_, rfl, _, _, rfl, Or.inl (SqL.of (by assumption)), ?_⟩
  rw [List.length_map, row_len]
  refine ⟨_, rfl, by omega, by omega, ?_⟩
  rw [Int.toNat_natCast]
  refine comp_mapR (fun j => V.str (mkS (namL (cell / 7) (numL j (cell / 7))))) (Nat.le_trans r1 (by decide)) (fun j Q' hj hQ => ?_) fun pl H3 N3 => ?_
  · rw [show (0 : Int) + (j : Int) = (j : Int) by omega]
    refine ⟨_, rfl, _, rfl, _, _, rfl, rfl, ⟨by omega, fits_of (by omega) (by omega)⟩, ?_⟩
    exact ⟨j, cell / 7, rfl, hQ⟩
  have S13 := N2.same.trans N3.same
  have lw := lw_law (cell := cell) (cell' := cell / 7) r0 r1 c0 c1 ub du
  have ls3 := ls_law (cell := cell) (cell' := cell / 7) ub du (S13 _ _ hcl) (S13 _ _ hrl) (mt.same S13)
  have hn3 : H3 nl = some (.lst ((((hdF cell c qe).map labc).map mkS).map V.str)) := by
    rw [N3.same _ _ N2.at_]
    unfold hdF
    rw [List.map_map, List.map_map, List.map_map]
    rfl
  have hp3 : H3 pl = some (.lst (nmL ((rsF (cell / 7) r c pe U).map (·.1.1)))) := by
    rw [N3.at_]
    unfold rsF nmL
    rw [List.map_map, List.map_map, List.map_map]
    rfl
  have S03 := S1.trans S13
  generalize hdF cell c qe = hd at *
  generalize rsF (cell / 7) r c pe U = rs at *
  clear hrl hcl mt ub du N2 N3 hrl2 et S1 S13 hS1
  have o := lw.o
  have h12 := o.h12
  have r12 := o.r12
  have rpos : 0 < rs.length := List.length_pos_iff.mpr lw.r0
  have hpos : 0 < hd.length := List.length_pos_iff.mpr o.h1
  have wok := word_ok o
  have ll13 := lines_len hd rs
  have gdl := line_gd o
  have hw : ∀ {ws : List (List Nat)}, ws ∈ tabc hd rs → (ws.map mkS).length ≤ 13 ∧ ((ws.map mkS).map (·.length)).sum ≤ 13 * 20 := fun {ws} hws => by
    obtain ⟨q1, q2, q3⟩ := wok ws hws
    have hl : (ws.map mkS).length ≤ 13 := by rw [List.length_map]; exact q2
    refine ⟨hl, ?_⟩
    have := sum_len (ys := ws.map mkS) (k := 20) fun y hy => by
      obtain ⟨l, hl, rfl⟩ := List.mem_map.mp hy
      rw [← cd_len, cd_mk]
      exact (q3 l hl).2.1
    have : (ws.map mkS).length * 20 ≤ 13 * 20 := Nat.mul_le_mul_right _ hl
    omega
  obtain ⟨w1, w2⟩ := hw (ws := hd.map labc) (by unfold tabc; simp)
  refine ⟨rfl, _, rfl, ?_⟩
  refine ⟨_, nl, _, rfl, rfl, SqL.of hn3, by rw [s1]; omega, ?_⟩
  have ej0 : Txt.join (Str.ofString " ") ((hd.map labc).map mkS) = lin ((hd.map labc).map mkS) := join_cd 32 _
  rw [ej0]
  refine ⟨(by show 1 ≤ sizeLine; decide), fun ll H4 N4 => ?_⟩
  have hll := N4.at_
  have nll : H3 ll = none := N4.gone
  have hr4 := (ls3.same N4.same).r
  refine ⟨_, rfl, _, _, rfl, Or.inl (SqL.of (by assumption)), ?_⟩
  rw [List.length_map, nI_len, List.length_map]
  refine ⟨_, rfl, by omega, by omega, ?_⟩
  rw [Int.toNat_natCast]
  refine for_range (fun i σ H' => Same H3 H' ∧ H' ll = some (.lst (linV ((linesS hd rs).take (i + 1)))) ∧ ∃ v8, σ = [some (.ref a), some (.ref vt), some (.ref rl), some (.ref cl), some (.int cell), some (.ref nl), some (.ref pl), some (.ref ll), v8, none, none, none, none, none, none]) ⟨N4.same, hll, _, rfl⟩ ?_ ?_
  · rintro i σ H5 hi ⟨S5, hl5, v8, rfl⟩
    rw [show (0 : Int) + (i : Int) = (i : Int) by omega]
    have er : rs[i]? = some rs[i] := List.getElem?_eq_getElem hi
    obtain ⟨k1, k2, k3, k4⟩ := o.rk rs[i] (List.getElem_mem hi)
    have k5 := k1.le
    have ml : (mkS rs[i].1.1).length ≤ 8 := by rw [← cd_len, cd_mk]; exact k5
    have k6 : (Str.ofString (toString ((rs[i].1.2 : Nat) : Int))).length ≤ 10 := PySem.W.KT.len_num (by omega) (by omega)
    have t5 := ls3.same S5
    have hp5 := S5 _ _ hp3
    have hr5 := t5.r
    have hv5 := t5.v
    have lb := t5.lb
    have at1 : atI (nmL (rs.map (·.1.1))) (i : Int) = some (.str (mkS rs[i].1.1)) := atI_of (by omega) (by rw [Int.toNat_natCast, List.getElem?_map, List.getElem?_map, List.getElem?_map, er]; rfl)
    have at2 : atI ((nI (rs.map (·.1.2))).map V.int) (i : Int) = some (.int (rs[i].1.2 : Int)) := atI_of (by omega) (by unfold nI; rw [Int.toNat_natCast, List.getElem?_map, List.getElem?_map, List.getElem?_map, er]; rfl)
    refine ⟨_, rfl, ?_⟩
    refine ⟨.inl ⟨rfl, _, SqL.of hl5⟩, ?_⟩
    refine ⟨rfl, _, rfl, _, rfl, _, _, _, _, rfl, rfl, Or.inl (SqL.of (by assumption)), by assumption, ?_⟩
    refine ⟨_, _, rfl, rfl, by rw [p1]; omega, ?_⟩
    refine ⟨_, rfl, _, rfl, _, _, _, _, rfl, rfl, Or.inl (SqL.of (by assumption)), by assumption, ?_⟩
    refine ⟨_, rfl, lgN (by omega), ?_⟩
    refine ⟨_, _, rfl, rfl, by rw [app_len, p1]; omega, ?_⟩
    refine ⟨_, _, rfl, rfl, by rw [app_len, app_len, p1, p2]; omega, ?_⟩
    rw [lab_num]
    refine ⟨(by show 1 ≤ sizeLine; decide), fun u1 H6 N6 => ?_⟩
    have t6 := t5.same N6.same
    have hv6 := t6.v
    have hib : i < as.length := by omega
    have ebi : as[i]? = some as[i] := List.getElem?_eq_getElem hib
    have hbi := t6.vr i as[i] rs[i] ebi er
    have atb : atI (as.map V.ref) (i : Int) = some (.ref as[i]) := at_ref ebi
    have lr : ((nI rs[i].2).map V.int).length ≤ 12 := by rw [List.length_map, nI_len, k3]; exact h12
    refine ⟨_, rfl, _, rfl, _, _, _, _, rfl, rfl, Or.inl (SqL.of (by assumption)), by assumption, ?_⟩
    refine ⟨as[i], rfl, ⟨_, SqL.of hbi⟩, ?_⟩
    refine comp_mapL strV (SqL.of hbi) (Nat.le_trans lr (by decide)) (fun j x Q' hx hQ => ?_) fun u2 H7 N7 => ?_
    · obtain ⟨z, rfl, hz⟩ : ∃ z : Nat, x = .int (z : Int) ∧ z ∈ rs[i].2 := by
        unfold nI at hx
        rw [List.getElem?_map, List.getElem?_map] at hx
        cases e : rs[i].2[j]? with
        | none => rw [e] at hx; cases hx
        | some z => rw [e] at hx; exact ⟨z, (Option.some.inj hx).symm, List.mem_of_getElem? e⟩
      refine ⟨_, rfl, ?_⟩
      exact ⟨_, rfl, lgN (k4 z hz), hQ⟩
    rw [strV_all] at N7
    have l2 : (((rs[i].2.map dg).map mkS).map V.str).length ≤ 12 := by rw [List.length_map, List.length_map, List.length_map, k3]; exact h12
    refine ⟨u1, u2, _, _, rfl, rfl, N7.same _ _ N6.at_, N7.at_, Nat.le_trans (show 1 + _ ≤ 13 by omega) (by decide), fun u3 H8 N8 => ?_⟩
    have S58 := N6.same.trans (N7.same.trans N8.same)
    have hl8 := S58 _ _ hl5
    have hw3 : H8 u3 = some (.lst (((rowc rs[i]).map mkS).map V.str)) := N8.at_
    obtain ⟨b1, b2⟩ := hw (ws := rowc rs[i]) (by unfold tabc; exact List.mem_cons_of_mem _ (List.mem_map_of_mem (List.getElem_mem hi)))
    refine ⟨_, u3, _, rfl, rfl, SqL.of hw3, by rw [s1]; omega, ?_⟩
    have ej1 : Txt.join (Str.ofString " ") ((rowc rs[i]).map mkS) = lin ((rowc rs[i]).map mkS) := join_cd 32 _
    rw [ej1]
    refine ⟨ll, _, _, rfl, rfl, hl8, ?_, ?_⟩
    · rw [linV_len, List.length_take]
      exact Nat.lt_of_lt_of_le (show min (i + 1) (linesS hd rs).length < 100 by omega) (by decide)
    refine ⟨(S5.trans S58).upd nll, ?_, _, rfl⟩
    rw [upd_same, lines_take hd hi, ← linV_app]
    rfl
  rintro σ H5 ⟨S5, hl5, v8, rfl⟩
  rw [show (linesS hd rs).take (rs.length + 1) = linesS hd rs from List.take_of_length_le (by omega)] at hl5
  have runT := run_tab o
  have resT : resF (.ok ⟨hd, rs.map (·.1)⟩) = -2 := resF_yes (by simp [lw.r0]) lw.sum lw.s300
  refine ⟨rfl, _, rfl, ?_⟩
  refine ⟨_, ll, _, rfl, rfl, SqL.of hl5, join_sz gdl (by omega), ?_⟩
  refine ⟨_, linesS hd rs, rfl, rdT_of gdl (lines_ne hd rs) (by omega), fun H6 S6 => ?_⟩
  rw [words_lines o, runT, resT]
  have hl6 := S6 _ _ hl5
  refine ⟨_, rfl, rfl, _, rfl, ?_⟩
  refine iteNT rfl ?_
  refine ⟨_, rfl, _, rfl, ?_⟩
  refine ⟨ll, linesS hd rs, cell, rfl, hl6, by omega, lines_ne hd rs, gdl, fun tu text Ls al1 al2 H7 S7 li => ?_⟩
  obtain ⟨et, ha, rd, la⟩ := li
  have lr := la.run
  rw [words_lines o, runT] at lr
  have lr : runL (wordsF Ls) = .ok ⟨hd, rs.map (·.1)⟩ := lr
  refine ⟨_, _, _, _, rfl, rfl, Or.inr (SqT.of (by assumption)), rfl, ?_⟩
  refine ⟨text, Ls, rfl, rd, fun H8 S8 => ?_⟩
  rw [lr, resT]
  refine ⟨_, rfl, rfl, _, rfl, ?_⟩
  refine iteNT rfl ?_
  have S38 := S5.trans (S6.trans (S7.trans S8))
  have hS8 := (S03.trans S38).seq hS
  refine ⟨_, rfl, _, _, rfl, Or.inl (by assumption), ?_⟩
  refine ⟨_, _, rfl, ?_⟩
  obtain ⟨N, eN, hN⟩ : ∃ N : Nat, (if (10 : Int) < ((ns.map V.int).length : Int) then (10 : Int) else ((ns.map V.int).length : Int)) = (N : Int) ∧ N ≤ ns.length := by
    rw [List.length_map]
    by_cases h : (10 : Int) < (ns.length : Int)
    · exact ⟨10, if_pos h, by omega⟩
    · exact ⟨ns.length, if_neg h, Nat.le_refl _⟩
  rw [eN]
  refine ⟨_, rfl, by omega, by omega, ?_⟩
  rw [Int.toNat_natCast]
  refine for_range (fun t σ H' => Same H8 H' ∧ ∃ v9 v10 v11 v12, σ = [some (.ref a), some (.ref vt), some (.ref rl), some (.ref cl), some (.int cell), some (.ref nl), some (.ref pl), some (.ref ll), v8, v9, v10, v11, v12, none, none]) ⟨Same.refl _, _, _, _, _, rfl⟩ ?_ ?_
  rotate_left
  · rintro σ H9 ⟨S9, v9, v10, v11, v12, rfl⟩
    refine ⟨_, f1, rfl, fr1, fun H10 S10 => ?_⟩
    rw [fe1]
    refine ⟨_, rfl, rfl, _, rfl, ?_⟩
    refine iteNT rfl ?_
    refine ⟨_, f2, rfl, fr2, fun H11 S11 => ?_⟩
    rw [fe2]
    refine ⟨_, rfl, rfl, _, rfl, ?_⟩
    refine iteNT rfl ?_
    refine ⟨_, f3, rfl, fr3, fun H12 S12 => ?_⟩
    rw [fe3]
    refine ⟨_, rfl, rfl, _, rfl, ?_⟩
    refine iteDT rfl ?_
    refine ⟨_, f4, rfl, fr4, fun H13 S13 => ?_⟩
    rw [fe4]
    refine ⟨_, rfl, rfl, _, rfl, ?_⟩
    refine iteDT rfl ?_
    refine ⟨_, f5, rfl, fr5, fun H14 S14 => ?_⟩
    rw [fe5]
    refine ⟨_, rfl, rfl, ?_⟩
    exact q H14
  rintro t σ H9 ht ⟨S9, v9, v10, v11, v12, rfl⟩
  rw [show (0 : Int) + (t : Int) = (t : Int) by omega]
  have hS9 := S9.seq hS8
  have S39 := S38.trans S9
  have ats : atI (ns.map V.int) (t : Int) = some (.int (ns[t]'(by omega))) := atI_of (by omega) (by rw [Int.toNat_natCast, List.getElem?_map, List.getElem?_eq_getElem (show t < ns.length by omega)]; rfl)
  have hl9 := (S6.trans (S7.trans (S8.trans S9))) _ _ hl5
  have hp9 := S39 _ _ hp3
  have t9 := ls3.same S39
  have hc9 := t9.c
  refine ⟨_, rfl, _, rfl, _, _, _, _, rfl, rfl, Or.inl (by assumption), by assumption, _, rfl, _, _, rfl, rfl, .inr ⟨fits_of (by omega) (by omega), fits_of (by omega) (by omega)⟩, _, _, rfl, rfl, _, rfl, _, rfl, _, rfl, _, _, rfl, Or.inl (SqL.of (by assumption)), _, rfl, ?_⟩
  rw [List.length_map, nI_len, List.length_map]
  refine ⟨ll, pl, _, hd, rs, rfl, ⟨hl9, hp9, o, lw.r0, lw.low⟩, fun H10 S10 => ?_⟩
  refine ⟨_, rfl, ?_⟩
  refine iteF ?_
  refine ⟨_, rfl, ?_⟩
  refine ⟨_, _, _, rfl, by decide, by decide, by decide, fun d H11 d0 d1 S11 => ?_⟩
  obtain ⟨n, en⟩ : ∃ n : Nat, d = (n : Int) := ⟨d.toNat, by omega⟩
  subst en
  obtain ⟨m, em⟩ : ∃ m : Nat, m = n + 1 := ⟨_, rfl⟩
  have e1 : (1 : Int) + (n : Int) = ((m : Nat) : Int) := by omega
  have m300 : m ≤ 300 := by omega
  have dl : (Str.ofString (toString ((m : Nat) : Int))).length ≤ 10 := PySem.W.KT.len_num (by omega) (by omega)
  have S911 := S10.trans S11
  have hc11 := (t9.same S911).c
  have S311 := S39.trans S911
  have hl11 := S911 _ _ hl9
  refine ⟨_, _, rfl, rfl, ?_⟩
  refine ⟨((m : Nat) : Int), congrArg (fun z => [V.int z]) e1, lgN (by omega), ?_⟩
  refine ⟨_, _, rfl, rfl, by rw [p3]; omega, ?_⟩
  refine ⟨_, _, rfl, rfl, by rw [app_len, p3, p2]; omega, ?_⟩
  refine ⟨_, rfl, _, _, rfl, Or.inl (SqL.of (by assumption)), ?_⟩
  rw [List.length_map, nI_len, List.length_map]
  refine ⟨_, _, rfl, rfl, mul_ok2 _ (.inr p4) (by omega) (by omega), ?_⟩
  obtain ⟨gm, nem⟩ := more_gd (m := m) h12 m300
  have hsz := gm.sz
  rw [← more_lin hd m, app_len] at hsz
  refine ⟨_, _, rfl, rfl, by omega, ?_⟩
  rw [more_lin]
  have wm := words_row nem
  obtain ⟨ML, eML⟩ : ∃ ML, ML = (rowc (moreF hd m)).map mkS := ⟨_, rfl⟩
  rw [← eML] at gm wm ⊢
  have hr11 := (t9.same S911).r
  refine ⟨fun σ H' => Same H11 H' ∧ σ = [some (.ref a), some (.ref vt), some (.ref rl), some (.ref cl), some (.int cell), some (.ref nl), some (.ref pl), some (.ref ll), v8, some (.int (t : Int)), some (.int (ns[t] + 977 * (t : Int))), some (.str (lin ML)), v12, none, none], ?_, ?_⟩
  · refine ⟨rfl, _, rfl, _, rfl, ?_⟩
    refine ⟨(by show 1 ≤ sizeLine; decide), fun b1 H12 N12 => ?_⟩
    refine ⟨ll, b1, _, _, rfl, rfl, N12.same _ _ hl11, N12.at_, ?_, fun b2 H13 N13 => ?_⟩
    · rw [linV_len]
      show (linesS hd rs).length + 1 ≤ sizeLine
      omega
    have h13 : H13 b2 = some (.lst (linV (linesS hd rs ++ [ML]))) := by rw [N13.at_, ← linV_app]; rfl
    have g13 : ∀ L, L ∈ linesS hd rs ++ [ML] → Gd L := fun L hL => by
      rcases List.mem_append.mp hL with h | h
      · exact gdl L h
      · rw [(by simpa using h : L = ML)]; exact gm
    have l13 : (linesS hd rs ++ [ML]).length ≤ 14 := by rw [List.length_append, ll13]; show rs.length + 1 + 1 ≤ 14; omega
    refine ⟨_, b2, _, rfl, rfl, SqL.of h13, join_sz g13 (by omega), ?_⟩
    refine ⟨_, _, rfl, rdT_of g13 (by simp) (by omega), fun H14 S14 => ?_⟩
    have rm := run_more (m := m) lw (by omega) m300
    rw [wordsF_app, words_lines o, wm, rm]
    have S1114 := N12.same.trans (N13.same.trans S14)
    have hr14 := S1114 _ _ hr11
    refine ⟨_, rfl, _, _, rfl, Or.inl (SqL.of (by assumption)), _, _, rfl, rfl, _, rfl, ?_⟩
    rw [List.length_map, nI_len, List.length_map]
    refine ite3 (fun c => ?_) (fun c => ?_)
    · rw [if_pos (show rs.length < 12 by omega)]
      refine ⟨_, rfl, rfl, _, rfl, ?_⟩
      refine iteNT rfl ?_
      exact ⟨S1114, rfl⟩
    · rw [if_neg (show ¬ rs.length < 12 by omega)]
      refine ⟨rfl, _, rfl, ?_⟩
      refine iteNT rfl ?_
      exact ⟨S1114, rfl⟩
  rintro σ H12 ⟨S12, rfl⟩
  have hr12 := S12 _ _ hr11
  have hl12 := S12 _ _ hl11
  refine ⟨fun σ H' => Same H12 H' ∧ σ = [some (.ref a), some (.ref vt), some (.ref rl), some (.ref cl), some (.int cell), some (.ref nl), some (.ref pl), some (.ref ll), v8, some (.int (t : Int)), some (.int (ns[t] + 977 * (t : Int))), some (.str (lin ML)), v12, none, none], ?_, ?_⟩
  · refine ⟨_, rfl, _, _, rfl, Or.inl (SqL.of (by assumption)), _, _, rfl, rfl, _, rfl, ?_⟩
    rw [List.length_map, nI_len, List.length_map]
    refine ite3 (fun c => ?_) (fun c => iteF ?_)
    · refine ⟨rfl, _, rfl, _, rfl, ?_⟩
      refine ⟨(by show 2 ≤ sizeLine; decide), fun b1 H13 N13 => ?_⟩
      refine ⟨ll, b1, _, _, rfl, rfl, N13.same _ _ hl12, N13.at_, ?_, fun b2 H14 N14 => ?_⟩
      · rw [linV_len]
        show (linesS hd rs).length + 2 ≤ sizeLine
        omega
      have h14 : H14 b2 = some (.lst (linV (linesS hd rs ++ [ML, [Str.ofString "zz"]]))) := by
        rw [N14.at_, ← linV_app]
        have : linV [ML, [Str.ofString "zz"]] = linV [ML] ++ linV [[Str.ofString "zz"]] := by rw [linV_app]; rfl
        rw [this, linV_zz]
        rfl
      have g14 : ∀ L, L ∈ linesS hd rs ++ [ML, [Str.ofString "zz"]] → Gd L := fun L hL => by
        rcases List.mem_append.mp hL with h | h
        · exact gdl L h
        · rcases List.mem_cons.mp h with h | h
          · rw [h]; exact gm
          · rw [(by simpa using h : L = _)]; exact zz_gd
      have l14 : (linesS hd rs ++ [ML, [Str.ofString "zz"]]).length ≤ 15 := by rw [List.length_append, ll13]; show rs.length + 1 + 2 ≤ 15; omega
      refine ⟨_, b2, _, rfl, rfl, SqL.of h14, join_sz g14 (by omega), ?_⟩
      refine ⟨_, _, rfl, rdT_of g14 (by simp) (by omega), fun H15 S15 => ?_⟩
      have rm := run_more2 (m := m) lw m300 (show rs.length < 11 by omega)
      have ew : wordsF (linesS hd rs ++ [ML, [Str.ofString "zz"]]) = tabc hd rs ++ [rowc (moreF hd m), [[122, 122]]] := by
        rw [show linesS hd rs ++ [ML, [Str.ofString "zz"]] = linesS hd rs ++ [ML] ++ [[Str.ofString "zz"]] by simp, wordsF_app, wordsF_app, words_lines o, wm, words_zz]
        simp
      rw [ew, rm]
      have S1215 := N13.same.trans (N14.same.trans S15)
      have hl15 := S1215 _ _ hl12
      refine ⟨_, rfl, _, _, rfl, Or.inl (SqL.of (by assumption)), _, _, rfl, rfl, _, _, rfl, rfl, _, rfl, ?_⟩
      rw [linV_len, ll13]
      refine iteNT (by omega) ?_
      exact ⟨S1215, rfl⟩
    · exact ⟨Same.refl _, rfl⟩
  rintro σ H13 ⟨S13, rfl⟩
  have hr13 := S13 _ _ hr12
  have hl13 := S13 _ _ hl12
  refine ⟨_, rfl, _, rfl, _, _, rfl, Or.inl (SqL.of (by assumption)), ?_⟩
  rw [List.length_map, nI_len, List.length_map]
  refine ⟨_, _, _, rfl, by decide, by decide, by omega, fun di H14 i0 i1 S14 => ?_⟩
  obtain ⟨i, ei⟩ : ∃ i : Nat, di = (i : Int) := ⟨di.toNat, by omega⟩
  subst ei
  have hi : i < rs.length := by omega
  have er : rs[i]? = some rs[i] := List.getElem?_eq_getElem hi
  have hr14 := S14 _ _ hr13
  have hl14 := S14 _ _ hl13
  have ati : atI ((nI (rs.map (·.1.2))).map V.int) (1 + (i : Int) - 1) = some (.int (rs[i].1.2 : Int)) := atI_of (by omega) (by unfold nI; rw [show (1 + (i : Int) - 1).toNat = i by omega, List.getElem?_map, List.getElem?_map, List.getElem?_map, er]; rfl)
  refine ⟨_, _, rfl, rfl, ?_⟩
  refine ⟨fun σ H' => Same H14 H' ∧ ∃ v12, σ = [some (.ref a), some (.ref vt), some (.ref rl), some (.ref cl), some (.int cell), some (.ref nl), some (.ref pl), some (.ref ll), v8, some (.int (t : Int)), some (.int (ns[t] + 977 * (t : Int))), some (.str (lin ML)), v12, none, none], ?_, ?_⟩
  · refine ⟨_, rfl, _, rfl, _, _, rfl, rfl, _, _, _, _, rfl, rfl, Or.inl (SqL.of (by assumption)), by assumption, _, _, rfl, rfl, _, rfl, ?_⟩
    refine ite3 (fun c => ?_) (fun c => iteF ?_)
    · refine ⟨rfl, _, rfl, _, rfl, _, rfl, ?_⟩
      refine ⟨ll, _, rfl, SqL.of hl14, fun b1 H15 N15 => ?_⟩
      rw [show (1 : Int) + (i : Int) = ((i + 1 : Nat) : Int) by omega, cut_to (by rw [linV_len, ll13]; omega), linV_take] at N15
      have hl15 := N15.same _ _ hl14
      refine ⟨_, rfl, _, rfl, _, _, rfl, rfl, _, rfl, ?_⟩
      refine ⟨ll, _, rfl, SqL.of hl15, fun b2 H16 N16 => ?_⟩
      rw [show (1 : Int) + (i : Int) + 1 = ((i + 1 + 1 : Nat) : Int) by omega, cut_from (by rw [linV_len, ll13]; omega), linV_drop] at N16
      refine ⟨b1, b2, _, _, rfl, rfl, N16.same _ _ N15.at_, N16.at_, ?_, fun b3 H17 N17 => ?_⟩
      · rw [linV_len, linV_len, List.length_take, List.length_drop, ll13]
        show min (i + 1) (rs.length + 1) + (rs.length + 1 - (i + 1 + 1)) ≤ sizeLine
        omega
      rw [linV_app] at N17
      have g17 : ∀ L, L ∈ (linesS hd rs).take (i + 1) ++ (linesS hd rs).drop (i + 1 + 1) → Gd L := fun L hL => by
        rcases List.mem_append.mp hL with h | h
        · exact gdl L (List.mem_of_mem_take h)
        · exact gdl L (List.mem_of_mem_drop h)
      have l17 : ((linesS hd rs).take (i + 1) ++ (linesS hd rs).drop (i + 1 + 1)).length ≤ 14 := by
        rw [List.length_append, List.length_take, List.length_drop, ll13]
        omega
      have ne17 : (linesS hd rs).take (i + 1) ++ (linesS hd rs).drop (i + 1 + 1) ≠ [] := fun z => by
        have := congrArg List.length z
        rw [List.length_append, List.length_take, ll13] at this
        simp at this
      refine ⟨_, b3, _, rfl, rfl, SqL.of N17.at_, join_sz g17 (by omega), ?_⟩
      refine ⟨_, _, rfl, rdT_of g17 ne17 (by omega), fun H18 S18 => ?_⟩
      rw [lines_less o, run_less lw hi (by omega)]
      refine ⟨_, rfl, rfl, _, rfl, ?_⟩
      refine iteNT rfl ?_
      exact ⟨N15.same.trans (N16.same.trans (N17.same.trans S18)), _, rfl⟩
    · exact ⟨Same.refl _, _, rfl⟩
  rintro σ H15 ⟨S15, v12', rfl⟩
  exact ⟨S9.trans (S911.trans (S12.trans (S13.trans (S14.trans S15)))), _, _, _, _, rfl⟩
end
end K5
namespace K5
open PySem L2 SW
section
variable {α : Type} {P : List α → Prop}
theorem A1 (h : ∀ a, P [a]) (us : List α) (e : us.length = 1) : P us := by
  obtain ⟨a, rfl⟩ := List.length_eq_one_iff.mp e
  exact h a
theorem A0 (k : Nat) (us : List α) (e : us.length = k + 1) : ∃ a v, us = a :: v ∧ v.length = k := by
  cases us with
  | nil => cases e
  | cons a v => exact ⟨a, v, rfl, Nat.succ.inj e⟩
theorem A2 (h : ∀ a b, P [a, b]) (us : List α) (e : us.length = 2) : P us := by
  obtain ⟨a, v, rfl, e2⟩ := A0 _ us e
  exact A1 (P := fun v => P (a :: v)) (h a) v e2
theorem A3 (h : ∀ a b c, P [a, b, c]) (us : List α) (e : us.length = 3) : P us := by
  obtain ⟨a, v, rfl, e2⟩ := A0 _ us e
  exact A2 (P := fun v => P (a :: v)) (h a) v e2
theorem A4 (h : ∀ a b c d, P [a, b, c, d]) (us : List α) (e : us.length = 4) : P us := by
  obtain ⟨a, v, rfl, e2⟩ := A0 _ us e
  exact A3 (P := fun v => P (a :: v)) (h a) v e2
theorem A5 (h : ∀ a b c d e, P [a, b, c, d, e]) (us : List α) (e : us.length = 5) : P us := by
  obtain ⟨a, v, rfl, e2⟩ := A0 _ us e
  exact A4 (P := fun v => P (a :: v)) (h a) v e2
theorem A6 (h : ∀ a b c d e f, P [a, b, c, d, e, f]) (us : List α) (e : us.length = 6) : P us := by
  obtain ⟨a, v, rfl, e2⟩ := A0 _ us e
  exact A5 (P := fun v => P (a :: v)) (h a) v e2
end
theorem txt_mk {K : PySem.W.Frag} {h : Heap} {mg : Str → Option Value} (X : K.In h) (G : h.Ns mainGlobals mg)
    {c_Table c_DealError c_NoTable c_NoVotes c_BadRule c_BadLine f_words_of f_is_of f_number_of f_take_name f_take_place f_take_line f_read f_lcell_at f_ldraw f_lgreat f_lvote f_lsize f_ltable f_lname f_lrefused f_lbad_line f_lbad_head f_llaid f_lline_right f_law f_BadLine_init f_Table_init : Addr}
    {dB p0 q0 p1 q1 p2 q2 p3 q3 p4 q4 p5 q5 p6 q6 p7 q7 p8 q8 p9 q9 p10 q10 p11 q11 p12 q12 p13 q13 p14 q14 p15 q15 p16 q16 p17 q17 p18 q18 p19 q19 p20 q20 p21 q21 : Option Addr}
    {sB r0 r1 r2 r3 r4 r5 r6 r7 r8 r9 r10 r11 r12 r13 r14 r15 r16 r17 r18 r19 r20 r21 : Array (Option Value)}
    {u0 v0 w0 x0 y0 z0 u1 v1 w1 x1 y1 z1 u2 v2 w2 x2 y2 z2 u3 v3 w3 x3 y3 z3 u4 v4 w4 x4 y4 z4 u5 v5 w5 x5 y5 z5 u6 v6 w6 x6 y6 z6 u7 v7 w7 x7 y7 z7 u8 v8 w8 x8 y8 z8 u9 v9 w9 x9 y9 z9 u10 v10 w10 x10 y10 z10 u11 v11 w11 x11 y11 z11 u12 v12 w12 x12 y12 z12 u13 v13 w13 x13 y13 z13 u14 v14 w14 x14 y14 z14 u15 v15 w15 x15 y15 z15 u16 v16 w16 x16 y16 z16 u17 v17 w17 x17 y17 z17 u18 v18 w18 x18 y18 z18 u19 v19 w19 x19 y19 z19 u20 v20 w20 x20 y20 z20 u21 v21 w21 x21 y21 z21 : Value}
    {tk_LETTERS tk_FIGURES tk_LONGEST_NAME tk_MOST_NAMES tk_MOST_SEATS tk_MOST_VOTES : Tok}
    {cB : ClassData}
    {jB0 jB1 jB2 jB3 jB5 : Option Value}
    (m_Table : PySem.W.nsIn K mainGlobals "Table" = some (some (.ref c_Table)))
    (m_DealError : PySem.W.nsIn K mainGlobals "DealError" = some (some (.ref c_DealError)))
    (m_NoTable : PySem.W.nsIn K mainGlobals "NoTable" = some (some (.ref c_NoTable)))
    (m_NoVotes : PySem.W.nsIn K mainGlobals "NoVotes" = some (some (.ref c_NoVotes)))
    (m_BadRule : PySem.W.nsIn K mainGlobals "BadRule" = some (some (.ref c_BadRule)))
    (m_BadLine : PySem.W.nsIn K mainGlobals "BadLine" = some (some (.ref c_BadLine)))
    (a_words_of : PySem.W.nsIn K mainGlobals "words_of" = some (some (.ref f_words_of)))
    (l0 : K.lookup f_words_of = some ⟨u0, p0, .func (PySem.W.fnOf "words_of" "words_of" (defArgs s_words_of) (defBody s_words_of) (defScope s_words_of) .none v0 w0 x0 q0 y0 z0), r0⟩)
    (c0 : PySem.W.codeIn K y0 "words_of" = true)
    (k_words_of' : PySem.W.keepIn K (.ref f_words_of) = true)
    (a_is_of : PySem.W.nsIn K mainGlobals "is_of" = some (some (.ref f_is_of)))
    (l1 : K.lookup f_is_of = some ⟨u1, p1, .func (PySem.W.fnOf "is_of" "is_of" (defArgs s_is_of) (defBody s_is_of) (defScope s_is_of) .none v1 w1 x1 q1 y1 z1), r1⟩)
    (c1 : PySem.W.codeIn K y1 "is_of" = true)
    (k_is_of' : PySem.W.keepIn K (.ref f_is_of) = true)
    (a_number_of : PySem.W.nsIn K mainGlobals "number_of" = some (some (.ref f_number_of)))
    (l2 : K.lookup f_number_of = some ⟨u2, p2, .func (PySem.W.fnOf "number_of" "number_of" (defArgs s_number_of) (defBody s_number_of) (defScope s_number_of) .none v2 w2 x2 q2 y2 z2), r2⟩)
    (c2 : PySem.W.codeIn K y2 "number_of" = true)
    (k_number_of' : PySem.W.keepIn K (.ref f_number_of) = true)
    (a_take_name : PySem.W.nsIn K mainGlobals "take_name" = some (some (.ref f_take_name)))
    (l3 : K.lookup f_take_name = some ⟨u3, p3, .func (PySem.W.fnOf "take_name" "take_name" (defArgs s_take_name) (defBody s_take_name) (defScope s_take_name) .none v3 w3 x3 q3 y3 z3), r3⟩)
    (c3 : PySem.W.codeIn K y3 "take_name" = true)
    (k_take_name' : PySem.W.keepIn K (.ref f_take_name) = true)
    (a_take_place : PySem.W.nsIn K mainGlobals "take_place" = some (some (.ref f_take_place)))
    (l4 : K.lookup f_take_place = some ⟨u4, p4, .func (PySem.W.fnOf "take_place" "take_place" (defArgs s_take_place) (defBody s_take_place) (defScope s_take_place) .none v4 w4 x4 q4 y4 z4), r4⟩)
    (c4 : PySem.W.codeIn K y4 "take_place" = true)
    (k_take_place' : PySem.W.keepIn K (.ref f_take_place) = true)
    (a_take_line : PySem.W.nsIn K mainGlobals "take_line" = some (some (.ref f_take_line)))
    (l5 : K.lookup f_take_line = some ⟨u5, p5, .func (PySem.W.fnOf "take_line" "take_line" (defArgs s_take_line) (defBody s_take_line) (defScope s_take_line) .none v5 w5 x5 q5 y5 z5), r5⟩)
    (c5 : PySem.W.codeIn K y5 "take_line" = true)
    (k_take_line' : PySem.W.keepIn K (.ref f_take_line) = true)
    (a_read : PySem.W.nsIn K mainGlobals "read" = some (some (.ref f_read)))
    (l6 : K.lookup f_read = some ⟨u6, p6, .func (PySem.W.fnOf "read" "read" (defArgs s_read) (defBody s_read) (defScope s_read) .none v6 w6 x6 q6 y6 z6), r6⟩)
    (c6 : PySem.W.codeIn K y6 "read" = true)
    (k_read' : PySem.W.keepIn K (.ref f_read) = true)
    (a_lcell_at : PySem.W.nsIn K mainGlobals "_law_cell_at" = some (some (.ref f_lcell_at)))
    (l7 : K.lookup f_lcell_at = some ⟨u7, p7, .func (PySem.W.fnOf "_law_cell_at" "_law_cell_at" (defArgs s_lcell_at) (defBody s_lcell_at) (defScope s_lcell_at) .none v7 w7 x7 q7 y7 z7), r7⟩)
    (c7 : PySem.W.codeIn K y7 "_law_cell_at" = true)
    (k_lcell_at' : PySem.W.keepIn K (.ref f_lcell_at) = true)
    (a_ldraw : PySem.W.nsIn K mainGlobals "_law_draw" = some (some (.ref f_ldraw)))
    (l8 : K.lookup f_ldraw = some ⟨u8, p8, .func (PySem.W.fnOf "_law_draw" "_law_draw" (defArgs s_ldraw) (defBody s_ldraw) (defScope s_ldraw) .none v8 w8 x8 q8 y8 z8), r8⟩)
    (c8 : PySem.W.codeIn K y8 "_law_draw" = true)
    (k_ldraw' : PySem.W.keepIn K (.ref f_ldraw) = true)
    (a_lgreat : PySem.W.nsIn K mainGlobals "_law_great" = some (some (.ref f_lgreat)))
    (l9 : K.lookup f_lgreat = some ⟨u9, p9, .func (PySem.W.fnOf "_law_great" "_law_great" (defArgs s_lgreat) (defBody s_lgreat) (defScope s_lgreat) .none v9 w9 x9 q9 y9 z9), r9⟩)
    (c9 : PySem.W.codeIn K y9 "_law_great" = true)
    (k_lgreat' : PySem.W.keepIn K (.ref f_lgreat) = true)
    (a_lvote : PySem.W.nsIn K mainGlobals "_law_vote" = some (some (.ref f_lvote)))
    (l10 : K.lookup f_lvote = some ⟨u10, p10, .func (PySem.W.fnOf "_law_vote" "_law_vote" (defArgs s_lvote) (defBody s_lvote) (defScope s_lvote) .none v10 w10 x10 q10 y10 z10), r10⟩)
    (c10 : PySem.W.codeIn K y10 "_law_vote" = true)
    (k_lvote' : PySem.W.keepIn K (.ref f_lvote) = true)
    (a_lsize : PySem.W.nsIn K mainGlobals "_law_size" = some (some (.ref f_lsize)))
    (l11 : K.lookup f_lsize = some ⟨u11, p11, .func (PySem.W.fnOf "_law_size" "_law_size" (defArgs s_lsize) (defBody s_lsize) (defScope s_lsize) .none v11 w11 x11 q11 y11 z11), r11⟩)
    (c11 : PySem.W.codeIn K y11 "_law_size" = true)
    (k_lsize' : PySem.W.keepIn K (.ref f_lsize) = true)
    (a_ltable : PySem.W.nsIn K mainGlobals "_law_table" = some (some (.ref f_ltable)))
    (l12 : K.lookup f_ltable = some ⟨u12, p12, .func (PySem.W.fnOf "_law_table" "_law_table" (defArgs s_ltable) (defBody s_ltable) (defScope s_ltable) .none v12 w12 x12 q12 y12 z12), r12⟩)
    (c12 : PySem.W.codeIn K y12 "_law_table" = true)
    (k_ltable' : PySem.W.keepIn K (.ref f_ltable) = true)
    (a_lname : PySem.W.nsIn K mainGlobals "_law_name" = some (some (.ref f_lname)))
    (l13 : K.lookup f_lname = some ⟨u13, p13, .func (PySem.W.fnOf "_law_name" "_law_name" (defArgs s_lname) (defBody s_lname) (defScope s_lname) .none v13 w13 x13 q13 y13 z13), r13⟩)
    (c13 : PySem.W.codeIn K y13 "_law_name" = true)
    (k_lname' : PySem.W.keepIn K (.ref f_lname) = true)
    (a_lrefused : PySem.W.nsIn K mainGlobals "_law_refused" = some (some (.ref f_lrefused)))
    (l14 : K.lookup f_lrefused = some ⟨u14, p14, .func (PySem.W.fnOf "_law_refused" "_law_refused" (defArgs s_lrefused) (defBody s_lrefused) (defScope s_lrefused) .none v14 w14 x14 q14 y14 z14), r14⟩)
    (c14 : PySem.W.codeIn K y14 "_law_refused" = true)
    (k_lrefused' : PySem.W.keepIn K (.ref f_lrefused) = true)
    (a_lbad_line : PySem.W.nsIn K mainGlobals "_law_bad_line" = some (some (.ref f_lbad_line)))
    (l15 : K.lookup f_lbad_line = some ⟨u15, p15, .func (PySem.W.fnOf "_law_bad_line" "_law_bad_line" (defArgs s_lbad_line) (defBody s_lbad_line) (defScope s_lbad_line) .none v15 w15 x15 q15 y15 z15), r15⟩)
    (c15 : PySem.W.codeIn K y15 "_law_bad_line" = true)
    (k_lbad_line' : PySem.W.keepIn K (.ref f_lbad_line) = true)
    (a_lbad_head : PySem.W.nsIn K mainGlobals "_law_bad_head" = some (some (.ref f_lbad_head)))
    (l16 : K.lookup f_lbad_head = some ⟨u16, p16, .func (PySem.W.fnOf "_law_bad_head" "_law_bad_head" (defArgs s_lbad_head) (defBody s_lbad_head) (defScope s_lbad_head) .none v16 w16 x16 q16 y16 z16), r16⟩)
    (c16 : PySem.W.codeIn K y16 "_law_bad_head" = true)
    (k_lbad_head' : PySem.W.keepIn K (.ref f_lbad_head) = true)
    (a_llaid : PySem.W.nsIn K mainGlobals "_law_laid" = some (some (.ref f_llaid)))
    (l17 : K.lookup f_llaid = some ⟨u17, p17, .func (PySem.W.fnOf "_law_laid" "_law_laid" (defArgs s_llaid) (defBody s_llaid) (defScope s_llaid) .none v17 w17 x17 q17 y17 z17), r17⟩)
    (c17 : PySem.W.codeIn K y17 "_law_laid" = true)
    (k_llaid' : PySem.W.keepIn K (.ref f_llaid) = true)
    (a_lline_right : PySem.W.nsIn K mainGlobals "_law_line_right" = some (some (.ref f_lline_right)))
    (l18 : K.lookup f_lline_right = some ⟨u18, p18, .func (PySem.W.fnOf "_law_line_right" "_law_line_right" (defArgs s_lline_right) (defBody s_lline_right) (defScope s_lline_right) .none v18 w18 x18 q18 y18 z18), r18⟩)
    (c18 : PySem.W.codeIn K y18 "_law_line_right" = true)
    (k_lline_right' : PySem.W.keepIn K (.ref f_lline_right) = true)
    (a_law : PySem.W.nsIn K mainGlobals "law" = some (some (.ref f_law)))
    (l19 : K.lookup f_law = some ⟨u19, p19, .func (PySem.W.fnOf "law" "law" (defArgs s_law) (defBody s_law) (defScope s_law) .none v19 w19 x19 q19 y19 z19), r19⟩)
    (c19 : PySem.W.codeIn K y19 "law" = true)
    (k_law' : PySem.W.keepIn K (.ref f_law) = true)
    (a_BadLine_init : PySem.W.findIn K (.ref c_BadLine) "__init__" = some (some (.ref f_BadLine_init)))
    (i_BadLine_init : PySem.W.isFn K (.ref f_BadLine_init) = true)
    (l20 : K.lookup f_BadLine_init = some ⟨u20, p20, .func (PySem.W.fnOf "__init__" "BadLine.__init__" (defArgs s_BadLine_init) (defBody s_BadLine_init) (defScope s_BadLine_init) .none v20 w20 x20 q20 y20 z20), r20⟩)
    (c20 : PySem.W.codeIn K y20 "BadLine.__init__" = true)
    (k_BadLine_init' : PySem.W.keepIn K (.ref f_BadLine_init) = true)
    (a_Table_init : PySem.W.findIn K (.ref c_Table) "__init__" = some (some (.ref f_Table_init)))
    (i_Table_init : PySem.W.isFn K (.ref f_Table_init) = true)
    (l21 : K.lookup f_Table_init = some ⟨u21, p21, .func (PySem.W.fnOf "__init__" "Table.__init__" (defArgs s_Table_init) (defBody s_Table_init) (defScope s_Table_init) .none v21 w21 x21 q21 y21 z21), r21⟩)
    (c21 : PySem.W.codeIn K y21 "Table.__init__" = true)
    (k_Table_init' : PySem.W.keepIn K (.ref f_Table_init) = true)
    (z_isinstance : PySem.W.nsIn K mainGlobals "isinstance" = some none)
    (z_ValueError : PySem.W.nsIn K mainGlobals "ValueError" = some none)
    (z_int : PySem.W.nsIn K mainGlobals "int" = some none)
    (z_str : PySem.W.nsIn K mainGlobals "str" = some none)
    (z_len : PySem.W.nsIn K mainGlobals "len" = some none)
    (z_min : PySem.W.nsIn K mainGlobals "min" = some none)
    (z_range : PySem.W.nsIn K mainGlobals "range" = some none)
    (z_sum : PySem.W.nsIn K mainGlobals "sum" = some none)
    (z_all : PySem.W.nsIn K mainGlobals "all" = some none)
    (g_LETTERS : PySem.W.nsIn K mainGlobals "LETTERS" = some (some (.str "abcdefghijklmnopqrstuvwxyz" tk_LETTERS)))
    (g_FIGURES : PySem.W.nsIn K mainGlobals "FIGURES" = some (some (.str "0123456789" tk_FIGURES)))
    (g_LONGEST_NAME : PySem.W.nsIn K mainGlobals "LONGEST_NAME" = some (some (.int 8 tk_LONGEST_NAME)))
    (g_MOST_NAMES : PySem.W.nsIn K mainGlobals "MOST_NAMES" = some (some (.int 12 tk_MOST_NAMES)))
    (g_MOST_SEATS : PySem.W.nsIn K mainGlobals "MOST_SEATS" = some (some (.int 300 tk_MOST_SEATS)))
    (g_MOST_VOTES : PySem.W.nsIn K mainGlobals "MOST_VOTES" = some (some (.int 1000000000 tk_MOST_VOTES)))
    (pg_Table : PySem.W.plainGet K c_Table Str.empty = true)
    (hd_Table : PySem.W.hasDictIn K c_Table = true)
    (po_Table : PySem.W.plainOver K c_Table = true)
    (sa_Table : PySem.W.findIn K (.ref c_Table) "__setattr__" = some (some (.builtin "object.__setattr__")))
    (mk_Table : PySem.W.makesIn K c_Table = true)
    (kc_Table : PySem.W.keepIn K (.ref c_Table) = true)
    (na_Table_places : PySem.W.findIn K (.ref c_Table) "places" = some none)
    (na_Table_parties : PySem.W.findIn K (.ref c_Table) "parties" = some none)
    (na_Table_rows : PySem.W.findIn K (.ref c_Table) "rows" = some none)
    (na_Table_columns : PySem.W.findIn K (.ref c_Table) "columns" = some none)
    (na_Table_votes : PySem.W.findIn K (.ref c_Table) "votes" = some none)
    (x_NoTable : PySem.W.excIn K c_NoTable bmV "ValueError.__new__" = true)
    (hn : PySem.W.specialIn K (.builtin "object.__class__") "__get__" = some (some (.builtin "getset_descriptor.__get__")))
    (tk : PySem.W.takesIn K (.builtin "object.__class__") = some true)
    (gx_NoTable : PySem.W.findIn K (.ref c_NoTable) "__getattribute__" = some (some (.builtin "BaseException.__getattribute__")))
    (gt_NoTable : PySem.W.findIn K (.ref c_NoTable) "__getattr__" = some none)
    (be_NoTable : PySem.W.mroIn K c_NoTable (.type "BaseException") = some true)
    (hx_NoTable : PySem.W.hasDictIn K c_NoTable = true)
    (ha_NoTable : PySem.W.findIn K (.ref c_NoTable) "__class__" = some (some (.builtin "object.__class__")))
    (ob_NoTable : PySem.W.mroIn K c_NoTable (.type "object") = some true)
    (gx_BadLine : PySem.W.findIn K (.ref c_BadLine) "__getattribute__" = some (some (.builtin "BaseException.__getattribute__")))
    (gt_BadLine : PySem.W.findIn K (.ref c_BadLine) "__getattr__" = some none)
    (be_BadLine : PySem.W.mroIn K c_BadLine (.type "BaseException") = some true)
    (hx_BadLine : PySem.W.hasDictIn K c_BadLine = true)
    (ha_BadLine : PySem.W.findIn K (.ref c_BadLine) "__class__" = some (some (.builtin "object.__class__")))
    (ob_BadLine : PySem.W.mroIn K c_BadLine (.type "object") = some true)
    (ct_NoTable_DealError : PySem.W.exmOne K (.ref c_NoTable) (.ref c_DealError) = some true)
    (ct_BadLine_DealError : PySem.W.exmOne K (.ref c_BadLine) (.ref c_DealError) = some true)
    (k_BadLine_BadLine : PySem.W.kitOne K (.ref c_BadLine) (.ref c_BadLine) = some true)
    (k_BadLine_NoTable : PySem.W.kitOne K (.ref c_BadLine) (.ref c_NoTable) = some false)
    (k_BadLine_BadRule : PySem.W.kitOne K (.ref c_BadLine) (.ref c_BadRule) = some false)
    (k_BadLine_NoVotes : PySem.W.kitOne K (.ref c_BadLine) (.ref c_NoVotes) = some false)
    (k_BadLine_ValueError : PySem.W.kitOne K (.ref c_BadLine) (.type "ValueError") = some true)
    (k_NoTable_BadLine : PySem.W.kitOne K (.ref c_NoTable) (.ref c_BadLine) = some false)
    (k_NoTable_NoTable : PySem.W.kitOne K (.ref c_NoTable) (.ref c_NoTable) = some true)
    (k_NoTable_BadRule : PySem.W.kitOne K (.ref c_NoTable) (.ref c_BadRule) = some false)
    (k_NoTable_NoVotes : PySem.W.kitOne K (.ref c_NoTable) (.ref c_NoVotes) = some false)
    (k_NoTable_ValueError : PySem.W.kitOne K (.ref c_NoTable) (.type "ValueError") = some true)
    (lkB : K.lookup c_BadLine = some ⟨.type "type", dB, .cls cB, sB⟩)
    (mrB : cB.mro = .ref c_BadLine :: .ref c_DealError :: bmV)
    (slB : sB.toList = [jB0, jB1, jB2, jB3, some (.builtin "ValueError.__new__"), jB5])
    (deB : cB.hasDel = false)
    (diB : cB.hasDict = true)
    (xDE : PySem.W.excIn K c_DealError bmV "ValueError.__new__" = true)
    (osa : PySem.W.findIn K (.ref c_BadLine) "__setattr__" = some (some (.builtin "object.__setattr__")))
    (oln : PySem.W.findIn K (.ref c_BadLine) "line" = some none)
    (kcB : PySem.W.keepIn K (.ref c_BadLine) = true)
    : ∃ T : Txt K mg, mg "law" = some (.ref T.a_law) ∧ ∀ (s : Shared) (v : Value), BindsTo s T.fd_law ⟨[v], []⟩ [("_law_script", v)] := by
  have F_words_of := fun_mk (st := s_words_of) l0 c0 k_words_of'
  have b_words_of := F_words_of.binds (ps := ["line"]) fun _ _ _ _ _ _ => A1 fun _ => rfl
  have F_is_of := fun_mk (st := s_is_of) l1 c1 k_is_of'
  have b_is_of := F_is_of.binds (ps := ["word", "signs"]) fun _ _ _ _ _ _ => A2 fun _ _ => rfl
  have F_number_of := fun_mk (st := s_number_of) l2 c2 k_number_of'
  have b_number_of := F_number_of.binds (ps := ["word", "most", "at"]) fun _ _ _ _ _ _ => A3 fun _ _ _ => rfl
  have F_take_name := fun_mk (st := s_take_name) l3 c3 k_take_name'
  have b_take_name := F_take_name.binds (ps := ["word", "names", "seats", "at"]) fun _ _ _ _ _ _ => A4 fun _ _ _ _ => rfl
  have F_take_place := fun_mk (st := s_take_place) l4 c4 k_take_place'
  have b_take_place := F_take_place.binds (ps := ["words", "table", "at"]) fun _ _ _ _ _ _ => A3 fun _ _ _ => rfl
  have F_take_line := fun_mk (st := s_take_line) l5 c5 k_take_line'
  have b_take_line := F_take_line.binds (ps := ["words", "table", "at"]) fun _ _ _ _ _ _ => A3 fun _ _ _ => rfl
  have F_read := fun_mk (st := s_read) l6 c6 k_read'
  have b_read := F_read.binds (ps := ["text"]) fun _ _ _ _ _ _ => A1 fun _ => rfl
  have F_lcell_at := fun_mk (st := s_lcell_at) l7 c7 k_lcell_at'
  have b_lcell_at := F_lcell_at.binds (ps := ["_law_script", "_law_k"]) fun _ _ _ _ _ _ => A2 fun _ _ => rfl
  have F_ldraw := fun_mk (st := s_ldraw) l8 c8 k_ldraw'
  have b_ldraw := F_ldraw.binds (ps := ["_law_cell", "_law_k", "_law_many"]) fun _ _ _ _ _ _ => A3 fun _ _ _ => rfl
  have F_lgreat := fun_mk (st := s_lgreat) l9 c9 k_lgreat'
  have b_lgreat := F_lgreat.binds (ps := ["_law_cell", "_law_k", "_law_most"]) fun _ _ _ _ _ _ => A3 fun _ _ _ => rfl
  have F_lvote := fun_mk (st := s_lvote) l10 c10 k_lvote'
  have b_lvote := F_lvote.binds (ps := ["_law_cell"]) fun _ _ _ _ _ _ => A1 fun _ => rfl
  have F_lsize := fun_mk (st := s_lsize) l11 c11 k_lsize'
  have b_lsize := F_lsize.binds (ps := ["_law_cell", "_law_k"]) fun _ _ _ _ _ _ => A2 fun _ _ => rfl
  have F_ltable := fun_mk (st := s_ltable) l12 c12 k_ltable'
  have b_ltable := F_ltable.binds (ps := ["_law_script"]) fun _ _ _ _ _ _ => A1 fun _ => rfl
  have F_lname := fun_mk (st := s_lname) l13 c13 k_lname'
  have b_lname := F_lname.binds (ps := ["_law_k", "_law_cell"]) fun _ _ _ _ _ _ => A2 fun _ _ => rfl
  have F_lrefused := fun_mk (st := s_lrefused) l14 c14 k_lrefused'
  have b_lrefused := F_lrefused.binds (ps := ["_law_text"]) fun _ _ _ _ _ _ => A1 fun _ => rfl
  have F_lbad_line := fun_mk (st := s_lbad_line) l15 c15 k_lbad_line'
  have b_lbad_line := F_lbad_line.binds (ps := ["_law_which", "_law_many", "_law_there", "_law_spot"]) fun _ _ _ _ _ _ => A4 fun _ _ _ _ => rfl
  have F_lbad_head := fun_mk (st := s_lbad_head) l16 c16 k_lbad_head'
  have b_lbad_head := F_lbad_head.binds (ps := ["_law_which", "_law_spot"]) fun _ _ _ _ _ _ => A2 fun _ _ => rfl
  have F_llaid := fun_mk (st := s_llaid) l17 c17 k_llaid'
  have b_llaid := F_llaid.binds (ps := ["_law_lines", "_law_cell"]) fun _ _ _ _ _ _ => A2 fun _ _ => rfl
  have F_lline_right := fun_mk (st := s_lline_right) l18 c18 k_lline_right'
  have b_lline_right := F_lline_right.binds (ps := ["_law_lines", "_law_places", "_law_many", "_law_one"]) fun _ _ _ _ _ _ => A4 fun _ _ _ _ => rfl
  have F_law := fun_mk (st := s_law) l19 c19 k_law'
  have F_BadLine_init := fun_mk (st := s_BadLine_init) l20 c20 k_BadLine_init'
  have b_BadLine_init := F_BadLine_init.binds (ps := ["self", "line"]) fun _ _ _ _ _ _ => A2 fun _ _ => rfl
  have F_Table_init := fun_mk (st := s_Table_init) l21 c21 k_Table_init'
  have b_Table_init := F_Table_init.binds (ps := ["self", "places", "parties", "rows", "columns", "votes"]) fun _ _ _ _ _ _ => A6 fun _ _ _ _ _ _ => rfl
  exact ⟨{ c_Table := c_Table, m_Table := PySem.W.mg_of X G m_Table, c_DealError := c_DealError, m_DealError := PySem.W.mg_of X G m_DealError, c_NoTable := c_NoTable, m_NoTable := PySem.W.mg_of X G m_NoTable, c_NoVotes := c_NoVotes, m_NoVotes := PySem.W.mg_of X G m_NoVotes, c_BadRule := c_BadRule, m_BadRule := PySem.W.mg_of X G m_BadRule, c_BadLine := c_BadLine, m_BadLine := PySem.W.mg_of X G m_BadLine, a_words_of := f_words_of, fd_words_of := _, F_words_of := F_words_of, b_words_of := b_words_of, m_words_of := PySem.W.mg_of X G a_words_of, a_is_of := f_is_of, fd_is_of := _, F_is_of := F_is_of, b_is_of := b_is_of, m_is_of := PySem.W.mg_of X G a_is_of, a_number_of := f_number_of, fd_number_of := _, F_number_of := F_number_of, b_number_of := b_number_of, m_number_of := PySem.W.mg_of X G a_number_of, a_take_name := f_take_name, fd_take_name := _, F_take_name := F_take_name, b_take_name := b_take_name, m_take_name := PySem.W.mg_of X G a_take_name, a_take_place := f_take_place, fd_take_place := _, F_take_place := F_take_place, b_take_place := b_take_place, m_take_place := PySem.W.mg_of X G a_take_place, a_take_line := f_take_line, fd_take_line := _, F_take_line := F_take_line, b_take_line := b_take_line, m_take_line := PySem.W.mg_of X G a_take_line, a_read := f_read, fd_read := _, F_read := F_read, b_read := b_read, m_read := PySem.W.mg_of X G a_read, a_lcell_at := f_lcell_at, fd_lcell_at := _, F_lcell_at := F_lcell_at, b_lcell_at := b_lcell_at, m_lcell_at := PySem.W.mg_of X G a_lcell_at, a_ldraw := f_ldraw, fd_ldraw := _, F_ldraw := F_ldraw, b_ldraw := b_ldraw, m_ldraw := PySem.W.mg_of X G a_ldraw, a_lgreat := f_lgreat, fd_lgreat := _, F_lgreat := F_lgreat, b_lgreat := b_lgreat, m_lgreat := PySem.W.mg_of X G a_lgreat, a_lvote := f_lvote, fd_lvote := _, F_lvote := F_lvote, b_lvote := b_lvote, m_lvote := PySem.W.mg_of X G a_lvote, a_lsize := f_lsize, fd_lsize := _, F_lsize := F_lsize, b_lsize := b_lsize, m_lsize := PySem.W.mg_of X G a_lsize, a_ltable := f_ltable, fd_ltable := _, F_ltable := F_ltable, b_ltable := b_ltable, m_ltable := PySem.W.mg_of X G a_ltable, a_lname := f_lname, fd_lname := _, F_lname := F_lname, b_lname := b_lname, m_lname := PySem.W.mg_of X G a_lname, a_lrefused := f_lrefused, fd_lrefused := _, F_lrefused := F_lrefused, b_lrefused := b_lrefused, m_lrefused := PySem.W.mg_of X G a_lrefused, a_lbad_line := f_lbad_line, fd_lbad_line := _, F_lbad_line := F_lbad_line, b_lbad_line := b_lbad_line, m_lbad_line := PySem.W.mg_of X G a_lbad_line, a_lbad_head := f_lbad_head, fd_lbad_head := _, F_lbad_head := F_lbad_head, b_lbad_head := b_lbad_head, m_lbad_head := PySem.W.mg_of X G a_lbad_head, a_llaid := f_llaid, fd_llaid := _, F_llaid := F_llaid, b_llaid := b_llaid, m_llaid := PySem.W.mg_of X G a_llaid, a_lline_right := f_lline_right, fd_lline_right := _, F_lline_right := F_lline_right, b_lline_right := b_lline_right, m_lline_right := PySem.W.mg_of X G a_lline_right, a_law := f_law, fd_law := _, F_law := F_law, a_BadLine_init := f_BadLine_init, fd_BadLine_init := _, F_BadLine_init := F_BadLine_init, b_BadLine_init := b_BadLine_init, a_Table_init := f_Table_init, fd_Table_init := _, F_Table_init := F_Table_init, b_Table_init := b_Table_init, n_isinstance := PySem.W.mg_none_of X G z_isinstance, n_ValueError := PySem.W.mg_none_of X G z_ValueError, n_int := PySem.W.mg_none_of X G z_int, n_str := PySem.W.mg_none_of X G z_str, n_len := PySem.W.mg_none_of X G z_len, n_min := PySem.W.mg_none_of X G z_min, n_range := PySem.W.mg_none_of X G z_range, n_sum := PySem.W.mg_none_of X G z_sum, n_all := PySem.W.mg_none_of X G z_all, tk_LETTERS := tk_LETTERS, m_LETTERS := PySem.W.mg_of X G g_LETTERS, tk_FIGURES := tk_FIGURES, m_FIGURES := PySem.W.mg_of X G g_FIGURES, tk_LONGEST_NAME := tk_LONGEST_NAME, m_LONGEST_NAME := PySem.W.mg_of X G g_LONGEST_NAME, tk_MOST_NAMES := tk_MOST_NAMES, m_MOST_NAMES := PySem.W.mg_of X G g_MOST_NAMES, tk_MOST_SEATS := tk_MOST_SEATS, m_MOST_SEATS := PySem.W.mg_of X G g_MOST_SEATS, tk_MOST_VOTES := tk_MOST_VOTES, m_MOST_VOTES := PySem.W.mg_of X G g_MOST_VOTES, cl_Table := ⟨pg_Table, hd_Table, po_Table, sa_Table⟩, M_Table := ⟨mk_Table, a_Table_init, i_Table_init, kc_Table⟩, na_Table_places := na_Table_places, na_Table_parties := na_Table_parties, na_Table_rows := na_Table_rows, na_Table_columns := na_Table_columns, na_Table_votes := na_Table_votes, x_NoTable := x_NoTable, t_NoTable := ⟨gx_NoTable, gt_NoTable, be_NoTable, hx_NoTable, ha_NoTable, hn, tk, ob_NoTable⟩, t_BadLine := ⟨gx_BadLine, gt_BadLine, be_BadLine, hx_BadLine, ha_BadLine, hn, tk, ob_BadLine⟩, ct_NoTable_DealError := ⟨ct_NoTable_DealError⟩, ct_BadLine_DealError := ⟨ct_BadLine_DealError⟩, k_BadLine_BadLine := k_BadLine_BadLine, k_BadLine_NoTable := k_BadLine_NoTable, k_BadLine_BadRule := k_BadLine_BadRule, k_BadLine_NoVotes := k_BadLine_NoVotes, k_BadLine_ValueError := k_BadLine_ValueError, k_NoTable_BadLine := k_NoTable_BadLine, k_NoTable_NoTable := k_NoTable_NoTable, k_NoTable_BadRule := k_NoTable_BadRule, k_NoTable_NoVotes := k_NoTable_NoVotes, k_NoTable_ValueError := k_NoTable_ValueError, o_BadLine := ⟨ownErr_of lkB mrB slB deB diB xDE, a_BadLine_init, beq_iff_eq.mp i_BadLine_init, osa, oln⟩, kc_BadLine := kcB }, PySem.W.mg_of X G a_law, fun s v => .of_eq rfl⟩
end K5
def PySem.W.Fast.tw14390631958059703242 := ()
def PySem.W.Fast.tw16429245117910458639 := ()
def PySem.W.Fast.tw14681783995287421152 := ()
def PySem.W.Fast.tw10901673002439884165 := ()
def PySem.W.Fast.tw1705279393935559938 := ()
def PySem.W.Fast.tw161702923801309926 := ()
def PySem.W.Fast.tw13112224934920307080 := ()
def PySem.W.Fast.tw13383931389927228339 := ()
def PySem.W.Fast.tw15203637649122371041 := ()
def PySem.W.Fast.tw4544641934297235324 := ()
def PySem.W.Fast.tw11592981308484240787 := ()
def PySem.W.Fast.tw10912632555229086628 := ()
def PySem.W.Fast.tw8903470262324868771 := ()
def PySem.W.Fast.tw9604294082449468015 := ()
def PySem.W.Fast.tw6160121257278505830 := ()
def PySem.W.Fast.tw9246667097410657841 := ()
def PySem.W.Fast.tw146772465287806991 := ()
def PySem.W.Fast.tw4536310999646463504 := ()
def PySem.W.Fast.tw12701761456649982545 := ()
def PySem.W.Fast.tw1354519932507215130 := ()
def PySem.W.Fast.tw16695221230268954060 := ()
def PySem.W.Fast.tw1274421673035900153 := ()
def PySem.W.Fast.tw6770486751249698610 := ()
def PySem.W.Fast.tw14549851902910946792 := ()
def PySem.W.Fast.tw11554554700051360471 := ()
def PySem.W.Fast.tw1031698023654354876 := ()
def PySem.W.Fast.tw5791201513853876214 := ()
def PySem.W.Fast.tw7003567738749786539 := ()
def PySem.W.Fast.tw3931751507535545840 := ()
def PySem.W.Fast.tw519511939458030411 := ()
def PySem.W.Fast.tw18396865889387278798 := ()
def PySem.W.Fast.tw7979738837432850339 := ()
def PySem.W.Fast.tw9840217349832993734 := ()
def PySem.W.Fast.tw3936636052560688580 := ()
def PySem.W.Fast.tw13530712064680343939 := ()
def PySem.W.Fast.tw2732209726941172480 := ()
def PySem.W.Fast.tw13133178724784053910 := ()
def PySem.W.Fast.tw8786499961306294180 := ()
def PySem.W.Fast.tw12302529229542946775 := ()
def PySem.W.Fast.tw1336697890136700808 := ()
def PySem.W.Fast.tw15059058028545721436 := ()
def PySem.W.Fast.tw8459403868930985078 := ()
def PySem.W.Fast.tw8764989455888271421 := ()
def PySem.W.Fast.tw10645783777748171866 := ()
def PySem.W.Fast.tw2778520979548171366 := ()
def PySem.W.Fast.tw6865785774006083728 := ()
def PySem.W.Fast.tw12944585771673235462 := ()
def PySem.W.Fast.tw15160294794239079854 := ()
def PySem.W.Fast.tw7300168611860435532 := ()
def PySem.W.Fast.tw6049081393878727438 := ()
def PySem.W.Fast.tw17636474338034821767 := ()
def PySem.W.Fast.tw8416112480142328686 := ()
def PySem.W.Fast.tw17430381686850206864 := ()
def PySem.W.Fast.tw14082766999190922798 := ()
def PySem.W.Fast.tw5227898645299333252 := ()
def PySem.W.Fast.tw11170041298645813117 := ()
def PySem.W.Fast.tw10289183006515294194 := ()
def PySem.W.Fast.tw11298387947480178802 := ()
def PySem.W.Fast.tw8064646798994616713 := ()
def PySem.W.Fast.tw1491902187096067395 := ()
def PySem.W.Fast.tw17481320371850302642 := ()
def PySem.W.Fast.tw9489125670876953148 := ()
def PySem.W.Fast.tw15118189411265052064 := ()
def PySem.W.Fast.tw16165245069098964831 := ()
def PySem.W.Fast.tw6316104103278838651 := ()
def PySem.W.Fast.tw14209786348684530989 := ()
def PySem.W.Fast.tw15086613137205216775 := ()
def PySem.W.Fast.tw820414100895019692 := ()
def PySem.W.Fast.tw6987370253979316617 := ()
def PySem.W.Fast.tw170272661441414711 := ()
def PySem.W.Fast.tw18071689108743167052 := ()
def PySem.W.Fast.tw8324739553043380185 := ()
def PySem.W.Fast.tw16605905256378900992 := ()
def PySem.W.Fast.tw9868831403332742435 := ()
def PySem.W.Fast.tw15628699308278511143 := ()
def PySem.W.Fast.tw5503161236089676295 := ()
def PySem.W.Fast.tw13655491677835820589 := ()
def PySem.W.Fast.tw17958042499807845308 := ()
def PySem.W.Fast.tw2065959077707373078 := ()
def PySem.W.Fast.tw9578580942044142350 := ()
def PySem.W.Fast.tw1206849885224563966 := ()
def PySem.W.Fast.tw1512326487123382122 := ()
def PySem.W.Fast.tw6187128135770918117 := ()
def PySem.W.Fast.tw5825009126851917171 := ()
def PySem.W.Fast.tw11075629869178735114 := ()
def PySem.W.Fast.tw6902037454422408382 := ()
def PySem.W.Fast.tw17957848069559959771 := ()
def PySem.W.Fast.tw83080463490756092 := ()
def PySem.W.Fast.tw12789943852295090862 := ()
def PySem.W.Fast.tw6429483702728104847 := ()
def PySem.W.Fast.tw9135276457717850394 := ()
def PySem.W.Fast.tw6564535139505679539 := ()
def PySem.W.Fast.tw13586247929412589055 := ()
def PySem.W.Fast.tw7586235226315433199 := ()
def PySem.W.Fast.tw7697211464274260640 := ()
def PySem.W.Fast.tw13223433335302663915 := ()
def PySem.W.Fast.tw2338006346114977011 := ()
def PySem.W.Fast.tw14046743405239676641 := ()
def PySem.W.Fast.tw2705430074774409851 := ()
def PySem.W.Fast.tw7632717628150446270 := ()
def PySem.W.Fast.tw13632058322434451641 := ()
def PySem.W.Fast.tw3255213822264509979 := ()
def PySem.W.Fast.tw15926980510405949720 := ()
def PySem.W.Fast.tw4893071505253819897 := ()
def PySem.W.Fast.tw8966061988960370455 := ()
def PySem.W.Fast.tw14660920696701667045 := ()
def PySem.W.Fast.tw11238304545089713632 := ()
def PySem.W.Fast.tw14897026241645253932 := ()
def PySem.W.Fast.tw104479532741152273 := ()
def PySem.W.Fast.tw5635875913447635550 := ()
def PySem.W.Fast.tw12094547148407478481 := ()
def PySem.W.Fast.tw18223785254767412624 := ()
def PySem.W.Fast.tw3965806962154262960 := ()
def PySem.W.Fast.tw17532056635383667189 := ()
def PySem.W.Fast.tw1219307033855800607 := ()
def PySem.W.Fast.tw14530128035771801697 := ()
def PySem.W.Fast.tw9411397423061323182 := ()
def PySem.W.Fast.tw8740223147332771968 := ()
def PySem.W.Fast.tw15372657783695015709 := ()
def PySem.W.Fast.tw2162024582106537759 := ()
def PySem.W.Fast.tw1441463623074624656 := ()
def PySem.W.Fast.tw13032455012994970865 := ()
def PySem.W.Fast.tw6928508119676242918 := ()
def PySem.W.Fast.tw10924866824313684931 := ()
def PySem.W.Fast.tw1318441166642698587 := ()
def PySem.W.Fast.tw6832420086551984416 := ()
def PySem.W.Fast.tw6281579135037381382 := ()
def PySem.W.Fast.tw13830018206385827770 := ()
def PySem.W.Fast.tw17534897959300247720 := ()
def PySem.W.Fast.tw4600186658616772563 := ()
def PySem.W.Fast.tw4889528612523101208 := ()
def PySem.W.Fast.tw10221069658237582419 := ()
def PySem.W.Fast.tw1394575048041285146 := ()
def PySem.W.Fast.tw12111745737112704129 := ()
def PySem.W.Fast.tw12268276055928888501 := ()
def PySem.W.Fast.tw13561349929276049103 := ()
def PySem.W.Fast.tw1283513963251231555 := ()
def PySem.W.Fast.tw4054511207197705669 := ()
def PySem.W.Fast.tw14164695859006072028 := ()
def PySem.W.Fast.tw7301479532841371869 := ()
def PySem.W.Fast.tw13609681521115060440 := ()
def PySem.W.Fast.tw9494759642102510858 := ()
def PySem.W.Fast.tw16532858232112145479 := ()
def PySem.W.Fast.tw13240364367971958392 := ()
def PySem.W.Fast.tw12398091031254502260 := ()
def PySem.W.Fast.tw7983789552875860360 := ()
def PySem.W.Fast.tw4488075147593883091 := ()
def PySem.W.Fast.tw9522000707849540142 := ()
def PySem.W.Fast.tw1302160634771126823 := ()
def PySem.W.Fast.tw9951322187986897918 := ()
def PySem.W.Fast.tw6658019199301415467 := ()
def PySem.W.Fast.tw7996335472390476870 := ()
def PySem.W.Fast.tw7653462681367624150 := ()
open PySem PySem.W PyProof.Rows
set_option maxRecDepth 100000 in
set_option maxHeartbeats 0 in
theorem PySem.Challenge.cw_seatweave_k05_refused_holds : PySem.Challenge.rw_seatweave_k05_refused.Holds := by
  w_on; o_law; k_head; (case hw => w_witness2)
  k_fill
  refine L2.walk_ofK (l := PySem.Challenge.rw_seatweave_k05_refused) (n := 63) (k := 10) (x := "_law_script") (CX := L2.CX0) (sp := SW.spLaw) rfl (by decide) rfl ⟨rfl, by decide, by decide⟩ (fun w h Y => PySem.W.kIn_of Y) ?F (fun K H a ns hl _ hS => ⟨a, ns, rfl, hS, hl, fun _ => rfl⟩) fun _ _ _ _ z => z
  case F =>
    intro w mg fa h KX G hmg
    have T : ∃ T : K5.Txt (L2.KOf KX) mg, mg "law" = some (.ref T.a_law) ∧ ∀ (s : Shared) (v : Value), BindsTo s T.fd_law ⟨[v], []⟩ [("_law_script", v)] := by
      dsimp only [L2.KOf]
      refine' K5.txt_mk KX G ?_ ?_ ?_ ?_ ?_ ?_ ?_ ?_ ?_ ?_ ?_ ?_ ?_ ?_ ?_ ?_ ?_ ?_ ?_ ?_ ?_ ?_ ?_ ?_ ?_ ?_ ?_ ?_ ?_ ?_ ?_ ?_ ?_ ?_ ?_ ?_ ?_ ?_ ?_ ?_ ?_ ?_ ?_ ?_ ?_ ?_ ?_ ?_ ?_ ?_ ?_ ?_ ?_ ?_ ?_ ?_ ?_ ?_ ?_ ?_ ?_ ?_ ?_ ?_ ?_ ?_ ?_ ?_ ?_ ?_ ?_ ?_ ?_ ?_ ?_ ?_ ?_ ?_ ?_ ?_ ?_ ?_ ?_ ?_ ?_ ?_ ?_ ?_ ?_ ?_ ?_ ?_ ?_ ?_ ?_ ?_ ?_ ?_ ?_ ?_ ?_ ?_ ?_ ?_ ?_ ?_ ?_ ?_ ?_ ?_ ?_ ?_ ?_ ?_ ?_ ?_ ?_ ?_ ?_ ?_ ?_ ?_ ?_ ?_ ?_ ?_ ?_ ?_ ?_ ?_ ?_ ?_ ?_ ?_ ?_ ?_ ?_ ?_ ?_ ?_ ?_ ?_ ?_ ?_ ?_ ?_ ?_ ?_ ?_ ?_ ?_ ?_ ?_ ?_ ?_ ?_ ?_ ?_ <;> try first | k_is | kit_is | kts_exm | k_exc | rfl
    obtain ⟨T, e1, hb⟩ := T
    have e := hmg.symm.trans e1
    cases e
    exact ⟨T.fd_law, hb, fun base _ _ => K5.ok_law T⟩
