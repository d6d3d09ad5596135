import PyProof.Rows.All
import Wide.All
import OpenK.AllK
import Wide.FinOn
import Lean
import PyProof.EqAt
import PyProof.EqKinds
import PyProof.TupleCall
import PySem.Challenge.RW_seatweave_k04_read
set_option Elab.async false
set_option linter.all false
set_option maxRecDepth 100000
namespace L2
open PySem PySem.Spec PyProof.Rows
abbrev Key := Sum Int Str
def keyIs : Key → Value → Bool
  | .inl k, v => Value.isInt k v
  | .inr x, v => Value.isStrOf x v
def keyH (w : World) : Key → Int
  | .inl k => hashInt k
  | .inr x => hashStr w x
theorem keyIs_shape : ∀ {k : Key} {v : Value}, keyIs k v = true → (∃ i t, k = Sum.inl i ∧ v = Value.int i t) ∨ (∃ x t, k = Sum.inr x ∧ v = Value.str x t)
  | .inl i, v, h => by
    obtain ⟨t, e⟩ := Value.isInt_shape (k := i) (v := v) h
    exact .inl ⟨i, t, rfl, e⟩
  | .inr x, v, h => by
    obtain ⟨t, e⟩ := Value.isStrOf_shape (x := x) (v := v) h
    exact .inr ⟨x, t, rfl, e⟩
theorem key_ll (a b : Int) : decide ((Sum.inl a : Key) = Sum.inl b) = (a == b) := by
  by_cases e : a = b
  · subst e; simp
  · have h : ¬ (Sum.inl a : Key) = Sum.inl b := fun q => e (Sum.inl.inj q)
    rw [decide_eq_false h]
    exact (beq_eq_false_iff_ne.mpr e).symm
theorem key_rr (a b : Str) : decide ((Sum.inr a : Key) = Sum.inr b) = decide (a = b) := by
  by_cases e : a = b
  · subst e; simp
  · have h : ¬ (Sum.inr a : Key) = Sum.inr b := fun q => e (Sum.inr.inj q)
    rw [decide_eq_false h, decide_eq_false e]
theorem key_lr (a : Int) (b : Str) : decide ((Sum.inl a : Key) = Sum.inr b) = false := decide_eq_false (fun q => nomatch q)
theorem key_rl (a : Str) (b : Int) : decide ((Sum.inr a : Key) = Sum.inl b) = false := decide_eq_false (fun q => nomatch q)
def mixKind (prog : Program) (w : World) : PySem.KeyKind prog w Key where
  is := keyIs
  hash := keyH w
  inj := fun v a b ha hb => by
    rcases keyIs_shape ha with ⟨i, t, rfl, rfl⟩ | ⟨x, t, rfl, rfl⟩
    · rcases keyIs_shape hb with ⟨j, u, rfl, e⟩ | ⟨y, u, rfl, e⟩
      · injection e with e1 _; rw [e1]
      · exact nomatch e
    · rcases keyIs_shape hb with ⟨j, u, rfl, e⟩ | ⟨y, u, rfl, e⟩
      · exact nomatch e
      · injection e with e1 _; rw [e1]
  byValue := fun k v h => by
    rcases keyIs_shape h with ⟨i, t, rfl, rfl⟩ | ⟨x, t, rfl, rfl⟩ <;> rfl
  pyHash := fun hv h => by
    rcases keyIs_shape hv with ⟨i, t, rfl, rfl⟩ | ⟨x, t, rfl, rfl⟩
    · exact wpAny_pyHash_int h
    · exact wpAny_pyHash_str h
  eqBool := fun hu hv h => by
    rcases keyIs_shape hu with ⟨i, t, rfl, rfl⟩ | ⟨x, t, rfl, rfl⟩
    · rcases keyIs_shape hv with ⟨j, u, rfl, rfl⟩ | ⟨y, u, rfl, rfl⟩
      · rw [key_ll] at h; exact wpAny_eqBool_int h
      · rw [key_lr] at h; exact SeqAt.EqAt.int_str i t y u _ _ _ _ h
    · rcases keyIs_shape hv with ⟨j, u, rfl, rfl⟩ | ⟨y, u, rfl, rfl⟩
      · rw [key_rl] at h; exact SeqAt.EqAt.str_int x t j u _ _ _ _ h
      · rw [key_rr] at h; exact wpAny_eqBool_str h
  «strs» := fun k x t v h => by
    rcases keyIs_shape h with ⟨i, u, rfl, e⟩ | ⟨y, u, rfl, e⟩
    · exact nomatch e
    · injection e with e1 _
      subst e1
      cases v <;> rfl
end L2
namespace L2
open PySem PySem.Spec PyProof.Rows
inductive V where
  | non | bl (b : Bool) | int (i : Int) | str (x : Str) | byt (b : Array UInt8) | flt (b : UInt64) | ref (a : Addr) | ty (n : String)
  deriving DecidableEq
def RelV : V → Value → Prop
  | .non, u => u = Value.none
  | .bl b, u => u = Value.bool b
  | .int i, u => ∃ t, u = Value.int i t
  | .str x, u => ∃ t, u = Value.str x t
  | .byt b, u => ∃ t, u = Value.bytes b t
  | .flt b, u => ∃ t, u = Value.float b t
  | .ref a, u => u = Value.ref a
  | .ty n, u => u = Value.type n
abbrev Vals : List V → List Value → Prop := Paired RelV
theorem Vals.length {xs : List V} {us : List Value} (r : Vals xs us) : xs.length = us.length := Paired.length r
theorem Vals.get : ∀ {xs : List V} {us : List Value} {i : Nat} {x : V}, Vals xs us → xs[i]? = some x → ∃ u, us[i]? = some u ∧ RelV x u
  | _, _, _, _, .nil, e => by simp at e
  | _, _, 0, _, .cons r _, e => by simp at e; subst e; exact ⟨_, rfl, r⟩
  | _, _, i + 1, x, .cons _ t, e => by
    obtain ⟨u, h1, h2⟩ := Vals.get (i := i) (x := x) t (by simpa using e)
    exact ⟨u, by simpa using h1, h2⟩
theorem Vals.set {x : V} {u : Value} (r : RelV x u) : ∀ {xs : List V} {us : List Value} (i : Nat), Vals xs us → Vals (xs.set i x) (us.set i u)
  | _, _, _, .nil => .nil
  | _, _, 0, .cons _ t => .cons r t
  | _, _, i + 1, .cons q t => .cons q (Vals.set r i t)
theorem Vals.append : ∀ {xs ys : List V} {us ws : List Value}, Vals xs us → Vals ys ws → Vals (xs ++ ys) (us ++ ws)
  | _, _, _, _, .nil, s => s
  | _, _, _, _, .cons r t, s => .cons r (Vals.append t s)
theorem Vals.take : ∀ {xs : List V} {us : List Value} (n : Nat), Vals xs us → Vals (xs.take n) (us.take n)
  | _, _, 0, _ => .nil
  | _, _, _ + 1, .nil => .nil
  | _, _, n + 1, .cons r t => .cons r (Vals.take n t)
theorem Vals.drop : ∀ {xs : List V} {us : List Value} (n : Nat), Vals xs us → Vals (xs.drop n) (us.drop n)
  | _, _, 0, r => r
  | _, _, _ + 1, .nil => .nil
  | _, _, n + 1, .cons _ t => Vals.drop n t
def RelO : Option V → Option Value → Prop
  | some v, some u => RelV v u
  | none, none => True
  | _, _ => False
def KV {κ : Type} : List (κ × V) → List (κ × Value) → Prop := Paired fun (p : κ × V) (q : κ × Value) => p.1 = q.1 ∧ RelV p.2 q.2
def kV : Key → V
  | .inl i => .int i
  | .inr x => .str x
inductive HO where
  | lst (xs : List V)
  | tup (xs : List V)
  | dK (kvs : List (Key × V)) | dT (kvs : List (List Key × V))
  | set (S : Int → Bool) (n : Nat)
  | ins (C dx : Addr) (fs : List (Str × V))
  | own (x : Addr)
  | xd (fs : List (Str × V))
  | met (f x : Addr)
  | rng (lo hi : Int)
  | frz (o : Obj) (u : HO)
  | tbl (ps : Array Value)
  | ext (φ : Heap → Prop)
abbrev Hp := Addr → Option HO
def upd (H : Hp) (a : Addr) (o : HO) : Hp := fun b => if b = a then some o else H b
theorem upd_same {H : Hp} {a : Addr} {o : HO} : upd H a o a = some o := by unfold upd; rw [if_pos rfl]
theorem upd_ne {H : Hp} {a b : Addr} {o : HO} (h : b ≠ a) : upd H a o b = H b := by unfold upd; rw [if_neg h]
theorem ne_of {H : Hp} {a b : Addr} {o u : HO} (h : H a = some o) (h' : H b = some u) (d : o ≠ u) : a ≠ b := by
  intro e; subst e; rw [h] at h'; exact d (Option.some.inj h')
theorem ne_of_none {H : Hp} {a b : Addr} {o : HO} (h : H a = some o) (h' : H b = none) : a ≠ b := by
  intro e; subst e; rw [h] at h'; cases h'
section
variable (P : Program) (w : World)
def ObjOk (H : Hp) (h : Heap) (a : Addr) : HO → Prop
  | .lst xs => xs.length ≤ sizeLine ∧ ∃ (its : List Value) (n : Nat), Vals xs its ∧ h.get? a = some { cls := .type "list", data := .seq its.toArray n }
  | .tup xs => xs.length ≤ sizeLine ∧ ∃ its : List Value, Vals xs its ∧ IsTup h a its.toArray
  | .dK kvs => kvs.length ≤ sizeLine ∧ (a == sysModules) = false ∧ ∃ vs, KV kvs vs ∧ h.DictOf (mixKind P w) a vs
  | .dT kvs => kvs.length ≤ sizeLine ∧ (a == sysModules) = false ∧ ∃ xs : List (List Key × Addr × Value),
      Paired (fun (p : List Key × V) (q : List Key × Addr × Value) => p.1 = q.1 ∧ H q.2.1 = some (.tup (p.1.map kV)) ∧ RelV p.2 q.2.2) kvs xs ∧
      ∃ o es ep, h.get? a = some o ∧ o.ExactDict ∧ o.data = .dict es ep ∧ es.toList = xs.map (entryOfKey (tupleKind (mixKind P w))) ∧ (xs.map (·.1)).Nodup
  | .set S n => h.SetOf (intKind P w) a S n
  | .ins C dx fs => H dx = some (.own a) ∧ fs.length ≤ 1000 ∧ dx ≠ a ∧ h.get? a = some (PySem.W.instObj C dx) ∧
      ∃ mA, h.Ns1 dx mA ∧ (∀ f, RelO (fs.lookup f) (mA f)) ∧ PySem.Within mA (fs.map (·.1))
  | .own _ => ∃ o, h.get? a = some o
  | .xd fs => ∃ mA, h.Ns1 a mA ∧ ∀ f, RelO (fs.lookup f) (mA f)
  | .rng lo hi => ∃ t u v, h.get? a = some { cls := .type "range", data := .fields #[.int lo t, .int hi u, .int 1 v] }
  | .frz o u => h.get? a = some o ∧ ObjOk H h a u
  | .tbl ps => h.get? a = some { cls := .none, data := .fields ps }
  | .met f x => h.get? a = some (PySem.W.methodObj (.ref f) (.ref x))
  | .ext φ => φ h ∧ (∃ o, h.get? a = some o) ∧ ∀ h1 h2 : Heap, φ h1 → (∀ o, h1.get? a = some o → h2.get? a = some o) → φ h2
def HOk (H : Hp) (h : Heap) : Prop := ∀ a o, H a = some o → ObjOk P w H h a o
end
section
variable {P : Program} {w : World} {H H' : Hp} {h h' : Heap} {a : Addr} {o : HO}
theorem ObjOk.lt (x : ObjOk P w H h a o) : a < h.objs.size := by
  cases o with
  | lst xs => obtain ⟨_, _, _, _, e⟩ := x; exact Heap.lt_size e
  | tup xs => obtain ⟨_, _, _, p⟩ := x; exact p.lt
  | dK kvs => obtain ⟨_, _, _, _, o, _, _, e, _⟩ := x; exact Heap.lt_size e
  | dT kvs => obtain ⟨_, _, _, _, o, _, _, e, _⟩ := x; exact Heap.lt_size e
  | set S n => obtain ⟨o, _, _, _, e, _⟩ := x; exact Heap.lt_size e
  | ins C dx fs => obtain ⟨_, _, _, e, _⟩ := x; exact Heap.lt_size e
  | own y => obtain ⟨_, e⟩ := x; exact Heap.lt_size e
  | xd fs => obtain ⟨_, ⟨_, _, _, e, _⟩, _⟩ := x; exact Heap.lt_size e
  | rng lo hi => obtain ⟨_, _, _, e⟩ := x; exact Heap.lt_size e
  | frz ob u => obtain ⟨e, _⟩ := x; exact Heap.lt_size e
  | tbl ps => exact Heap.lt_size (show h.get? a = some _ from x)
  | met f y => exact Heap.lt_size (show h.get? a = some _ from x)
  | ext φ => obtain ⟨_, ⟨_, e⟩, _⟩ := x; exact Heap.lt_size e
theorem Paired.mapP {α β : Type} {F G : α → β → Prop} : ∀ {l₁ : List α} {l₂ : List β}, Paired F l₁ l₂ → (∀ a b, F a b → G a b) → Paired G l₁ l₂
  | _, _, .nil, _ => .nil
  | _, _, .cons r t, f => .cons (f _ _ r) (Paired.mapP t f)
theorem ObjOk.stay (x : ObjOk P w H h a o) (k : ∀ b u, (b = a ∨ H b = some (.own a)) → h.get? b = some u → h'.get? b = some u)
    (ho : ∀ b, H b = some (.own a) → H' b = some (.own a)) (ht : ∀ b xs, H b = some (.tup xs) → H' b = some (.tup xs)) : ObjOk P w H' h' a o := by
  induction o with
  | lst xs => obtain ⟨z, its, n, r, e⟩ := x; exact ⟨z, its, n, r, k _ _ (.inl rfl) e⟩
  | tup xs => obtain ⟨z, its, r, ob, e, c⟩ := x; exact ⟨z, its, r, ob, k _ _ (.inl rfl) e, c⟩
  | dK kvs => obtain ⟨z, y, vs, r, ob, es, ep, e, c⟩ := x; exact ⟨z, y, vs, r, ob, es, ep, k _ _ (.inl rfl) e, c⟩
  | dT kvs =>
    obtain ⟨z, y, xs, r, ob, es, ep, e, c⟩ := x
    exact ⟨z, y, xs, Paired.mapP r fun p q z => ⟨z.1, ht _ _ z.2.1, z.2.2⟩, ob, es, ep, k _ _ (.inl rfl) e, c⟩
  | set S n => obtain ⟨ob, es, ep, t, e, c⟩ := x; exact ⟨ob, es, ep, t, k _ _ (.inl rfl) e, c⟩
  | ins C dx fs =>
    obtain ⟨d, z, ne, e, mA, ⟨od, es, ep, e2, c⟩, r⟩ := x
    exact ⟨ho _ d, z, ne, k _ _ (.inl rfl) e, mA, ⟨od, es, ep, k _ _ (.inr d) e2, c⟩, r⟩
  | own y => obtain ⟨ob, e⟩ := x; exact ⟨ob, k _ _ (.inl rfl) e⟩
  | xd fs => obtain ⟨mA, ⟨od, es, ep, e, c⟩, r⟩ := x; exact ⟨mA, ⟨od, es, ep, k _ _ (.inl rfl) e, c⟩, r⟩
  | rng lo hi => obtain ⟨t, u, v, e⟩ := x; exact ⟨t, u, v, k _ _ (.inl rfl) e⟩
  | frz ob u ih => obtain ⟨e, q⟩ := x; exact ⟨k _ _ (.inl rfl) e, ih q⟩
  | tbl ps =>
    have e : h.get? a = some { cls := .none, data := .fields ps } := x
    show h'.get? a = some { cls := .none, data := .fields ps }
    exact k a _ (.inl rfl) e
  | met f y =>
    have e : h.get? a = some (PySem.W.methodObj (.ref f) (.ref y)) := x
    show h'.get? a = some (PySem.W.methodObj (.ref f) (.ref y))
    exact k a _ (.inl rfl) e
  | ext φ => obtain ⟨p, ⟨o, e⟩, st⟩ := x; exact ⟨st _ _ p fun o q => k _ _ (.inl rfl) q, ⟨o, k _ _ (.inl rfl) e⟩, st⟩
theorem HOk.lt (x : HOk P w H h) (e : H a = some o) : a < h.objs.size := (x a o e).lt
theorem HOk.fresh (x : HOk P w H h) (e : h.objs.size ≤ a) : H a = none := by
  cases q : H a with
  | none => rfl
  | some u => exact absurd (Nat.lt_of_lt_of_le (x.lt q) e) (Nat.lt_irrefl _)
theorem HOk.kept (x : HOk P w H h) (k : ∀ b u, h.get? b = some u → h'.get? b = some u) : HOk P w H h' := fun a o e =>
  (x a o e).stay (fun b u _ q => k b u q) (fun _ q => q) fun _ _ q => q
theorem HOk.laid (x : HOk P w H h) (k : ∀ b u, h.get? b = some u → h'.get? b = some u) (hp : h.objs.size ≤ a) (new : ObjOk P w (upd H a o) h' a o) : HOk P w (upd H a o) h' := fun b u e => by
  have hn := x.fresh hp
  by_cases hb : b = a
  · subst hb; rw [upd_same] at e; cases e; exact new
  · rw [upd_ne hb] at e
    exact (x b u e).stay (fun c v _ q => k c v q) (fun c q => by rw [upd_ne (ne_of_none q hn)]; exact q) fun c xs q => by rw [upd_ne (ne_of_none q hn)]; exact q
end
def Rd (H : Hp) (a : Addr) (u : HO) : Prop := H a = some u ∨ ∃ o, H a = some (.frz o u)
theorem Rd.ok {P : Program} {w : World} {H : Hp} {h : Heap} {a : Addr} {u : HO} (r : Rd H a u) (x : HOk P w H h) : ObjOk P w H h a u := by
  rcases r with r | ⟨o, r⟩
  · exact x a u r
  · obtain ⟨_, q⟩ := x a _ r
    exact q
def Mut : Option HO → Prop
  | some (.lst _) => True
  | some (.dK _) => True
  | some (.dT _) => True
  | some (.set _ _) => True
  | some (.ins _ _ _) => True
  | some (.ext _) => True
  | _ => False
section
variable {P : Program} {w : World} {H : Hp} {h h' : Heap} {x e : Addr} {o' : HO}
theorem HOk.write (ok : HOk P w H h) (mu : Mut (H x)) (he : e = x ∨ H e = some (.own x)) (k : ∀ b u, b ≠ e → h.get? b = some u → h'.get? b = some u) (heo : ∃ u, h'.get? e = some u)
    (new : ObjOk P w (upd H x o') h' x o') : HOk P w (upd H x o') h' := fun b u q => by
  have nown : ∀ c y, H c = some (.own y) → c ≠ x := fun c y r z => by subst z; rw [r] at mu; exact mu
  have ntup : ∀ c xs, H c = some (.tup xs) → c ≠ x := fun c xs r z => by subst z; rw [r] at mu; exact mu
  by_cases hb : b = x
  · subst hb; rw [upd_same] at q; cases q; exact new
  · rw [upd_ne hb] at q
    by_cases hbe : b = e
    · have q' : H b = some (.own x) := by
        rcases he with z | z
        · exact absurd (hbe.trans z) hb
        · rw [hbe]; exact z
      rw [q] at q'; cases q'
      obtain ⟨v, hv⟩ := heo
      exact ⟨v, by rw [hbe]; exact hv⟩
    · refine (ok b u q).stay (fun c v hc r => k c v ?_ r) (fun c r => by rw [upd_ne (nown c b r)]; exact r) fun c xs r => by rw [upd_ne (ntup c xs r)]; exact r
      rcases hc with rfl | hc
      · exact hbe
      · rintro rfl
        rcases he with z | z
        · exact nown c b hc z
        · rw [hc] at z; cases z; exact hb rfl
end
structure Un (fs ex : List Addr) (H H' : Hp) (h h' : Heap) : Prop where
  keep : ∀ b o, h.get? b = some o → H b = none → b ∉ fs → b ∉ ex → h'.get? b = some o
  slot : ∀ b o, h.get? b = some o → H b = none → b ∈ fs → b ∉ ex → ∃ sl, h'.get? b = some { o with slots := sl }
  free : ∀ b o, h.get? b = some o → H b = none → b ∉ ex → H' b = none
  there : ∀ b o, h.get? b = some o → b ∉ ex → ∃ o', h'.get? b = some o'
  tups : ∀ b xs, H b = some (.tup xs) → H' b = some (.tup xs)
  frzs : ∀ b o u, H b = some (.frz o u) → H' b = some (.frz o u)
  tbls : ∀ b ps, H b = some (.tbl ps) → ∃ more, H' b = some (.tbl (ps ++ more))
section
variable {fs fs' ex ex' : List Addr} {H H1 H2 : Hp} {h h1 h2 h' : Heap} {a x e : Addr} {o : HO}
theorem Un.any (u : Un fs ex H H1 h h1) {b : Addr} {ob : Obj} (q : h.get? b = some ob) (n : H b = none) (hx : b ∉ ex) : ∃ sl, h1.get? b = some { ob with slots := sl } := by
  by_cases hb : b ∈ fs
  · exact u.slot b ob q n hb hx
  · exact ⟨ob.slots, u.keep b ob q n hb hx⟩
theorem Un.kept (k : ∀ b u, h.get? b = some u → h'.get? b = some u) : Un fs ex H H h h' :=
  ⟨fun b ob q _ _ _ => k b ob q, fun b ob q _ _ _ => ⟨ob.slots, k b ob q⟩, fun _ _ _ n _ => n, fun b ob q _ => ⟨ob, k b ob q⟩, fun _ _ q => q, fun _ _ _ q => q, fun _ ps q => ⟨#[], by rw [q]; simp⟩⟩
theorem Un.refl : Un fs ex H H h h := Un.kept fun _ _ q => q
theorem Un.laid (k : ∀ b u, h.get? b = some u → h'.get? b = some u) (hp : h.objs.size ≤ a) (hn : H a = none) : Un fs ex H (upd H a o) h h' where
  keep := fun b u q _ _ _ => k b u q
  slot := fun b u q _ _ _ => ⟨u.slots, k b u q⟩
  free := fun b u q n _ => by rw [upd_ne (Nat.ne_of_lt (Nat.lt_of_lt_of_le (Heap.lt_size q) hp))]; exact n
  there := fun b u q _ => ⟨u, k b u q⟩
  tups := fun b xs q => by rw [upd_ne (ne_of_none q hn)]; exact q
  frzs := fun b u xs q => by rw [upd_ne (ne_of_none q hn)]; exact q
  tbls := fun b ps q => ⟨#[], by rw [upd_ne (ne_of_none q hn), q]; simp⟩
theorem Un.write (mu : Mut (H x)) (he : e = x ∨ H e = some (.own x)) (k : ∀ b u, b ≠ e → h.get? b = some u → h'.get? b = some u) (heo : ∃ u, h'.get? e = some u) : Un fs ex H (upd H x o) h h' := by
  have hx : ∀ b, H b = none → b ≠ x := fun b n z => by subst z; rw [n] at mu; exact mu
  have hb : ∀ b, H b = none → b ≠ e := fun b n z => by
    subst z
    rcases he with r | r
    · exact hx b n r
    · rw [n] at r; cases r
  have hm : ∀ b u, H b = some u → ¬ Mut (some u) → b ≠ x := fun b u q nm z => by subst z; rw [q] at mu; exact nm mu
  refine ⟨fun b u q n _ _ => k b u (hb b n) q, fun b u q n _ _ => ⟨u.slots, k b u (hb b n) q⟩, fun b u q n _ => by rw [upd_ne (hx b n)]; exact n, fun b u q _ => ?_,
    fun b xs q => by rw [upd_ne (hm b _ q fun z => z)]; exact q, fun b u xs q => by rw [upd_ne (hm b _ q fun z => z)]; exact q, fun b ps q => ⟨#[], by rw [upd_ne (hm b _ q fun z => z), q]; simp⟩⟩
  by_cases hbe : b = e
  · subst hbe; exact heo
  · exact ⟨u, k b u hbe q⟩
end
def trk (h : Heap) (H : Hp) : List Addr := (List.range h.objs.size).filter fun a => (H a).isSome
def hidT (h : Heap) (H : Hp) : Heap := PySem.W.hideAll h (trk h H)
theorem hidT_size (h : Heap) (H : Hp) : (hidT h H).objs.size = h.objs.size := PySem.W.hideAll_size _ _
theorem hidT_get {h : Heap} {H : Hp} {b : Addr} {o : Obj} (e : h.get? b = some o) (n : H b = none) : (hidT h H).get? b = some o :=
  PySem.W.hideAll_get _ e fun hm => by
    have q : (H b).isSome = true := (List.mem_filter.mp hm).2
    rw [n] at q; simp at q
theorem of_hidT {h : Heap} {H : Hp} {b : Addr} {o : Obj} (e : (hidT h H).get? b = some o) : h.get? b = some o ∧ H b = none := by
  have e' : h.get? b = some o := PySem.W.of_hideAll (trk h H) e
  refine ⟨e', ?_⟩
  cases q : H b with
  | none => rfl
  | some x =>
    have hm : b ∈ trk h H := List.mem_filter.mpr ⟨List.mem_range.mpr (Heap.lt_size e'), by simp [q]⟩
    have z : (hidT h H).get? b = none := PySem.W.hideAll_none (trk h H) hm
    rw [z] at e; cases e
def allNews (g h : Heap) (L : Addr) : List (Addr × Obj) := (List.range h.objs.size).filterMap fun a => if a = L ∨ (g.get? a).isSome = true then none else (h.get? a).map fun o => (a, o)
def rest (g h : Heap) (L d : Addr) : List (Addr × Obj) := (allNews g h L).filter fun p => decide (p.1 ≠ d)
end L2
namespace L2
open PySem PySem.Spec PyProof.Rows
structure Mod (K : PySem.W.Frag) (mg : Str → Option Value) (base : Heap) : Prop where
  kin : K.In base
  glob : base.Ns mainGlobals mg
  blt : ∃ mb, base.Ns builtinsNs mb ∧ ∀ x : Str, x ≠ "__name__" → mb x = bootBuiltins x
  nolimit : base.NoLimit
structure Cx where
  prog : Program
  w : World
  K : PySem.W.Frag
  mg : Str → Option Value
  base : Heap
  A : Around
  N : List Str
  s₀ : Shared
  H₀ : Hp
  env : Env
  outer : List Env
  stack : List Env
  ex : List Addr
  fn : Str → Bool
  calm : Bool
  pn : List (Addr × Obj)
  xe : Value → Shared → Prop
def frs (l : List Env) : List Addr := l.filterMap (·.frame)
abbrev Cx.fs (X : Cx) : List Addr := frs X.outer
def Vis (sc : Scope) (x : Str) : Prop := sc.names.lookup x = some .local ∨ sc.names.lookup x = some .cell ∨ sc.names.lookup x = some .free
def Loc (sc : Scope) (x : Str) : Prop := sc.names.lookup x = some .local ∨ sc.names.lookup x = some .cell
def Look (env : Env) (h : Heap) (m : Str → Option Value) (x : Str) (u : Value) : Prop :=
  (env.kindOf x = some .local ∧ m x = some u) ∨ ((env.kindOf x = some .cell ∨ env.kindOf x = some .free) ∧ ∃ c, env.cells.lookup x = some c ∧ h.IsCell c (some u))
structure Cx.Ok (X : Cx) : Prop where
  mod : Mod X.K X.mg X.base
  kind : X.env.scope.kind = .function
  glob : X.env.globals = mainGlobals
  blt : X.env.builtins = builtinsNs
  above : X.s₀.heap.objs.size ≤ X.env.locals
  inj : ∀ x y c, X.env.cells.lookup x = some c → X.env.cells.lookup y = some c → x = y
  has : ∀ x, (X.env.kindOf x = some .cell ∨ X.env.kindOf x = some .free) → ∃ c, X.env.cells.lookup x = some c
  cab : ∀ x c, X.fn x = true → X.env.cells.lookup x = some c → X.s₀.heap.objs.size ≤ c
  hd : X.calm = true → X.A.handled = none
  frames : X.A.frames = some X.stack
  stk : X.stack = X.outer ∨ (X.stack = X.env :: X.outer ∧ X.env.frame = some X.env.locals)
  exf : ∀ b ∈ X.ex, b ≠ X.env.locals ∧ ∀ x c, X.env.cells.lookup x = some c → c ≠ b
  bs : ∀ b o, X.base.get? b = some o → X.s₀.heap.get? b = some o ∧ X.H₀ b = none
  bsz : X.base.objs.size ≤ X.s₀.heap.objs.size
  noex : ∀ b o, X.base.get? b = some o → b ∉ X.ex
  exfs : ∀ b ∈ X.ex, b ∉ X.fs
  funs : X.s₀.heap.FunFrames X.base X.outer
  frf : ∀ b ∈ X.fs, X.H₀ b = none
structure Inv (X : Cx) (pins : List (Addr × Obj)) (σ : List (Option V)) (H : Hp) (s : Shared) : Prop where
  ok : X.Ok
  os : s.os = X.s₀.os
  bare : AllBare s.gens
  base : Un X.fs X.ex X.H₀ H X.s₀.heap s.heap
  loc : ∃ m, s.heap.Ns X.env.locals m ∧ ∀ (i : Nat) (x : Str) (v : V), X.N[i]? = some x → σ[i]? = some (some v) → Vis X.env.scope x → ∃ u, RelV v u ∧ Look X.env s.heap m x u
  cell : ∀ x c, X.env.cells.lookup x = some c → ∃ v, s.heap.IsCell c v
  free : H X.env.locals = none
  freeC : ∀ x c, X.env.cells.lookup x = some c → H c = none
  pin : ∀ p ∈ X.pn ++ pins, s.heap.get? p.1 = some p.2 ∧ H p.1 = none ∧ p.1 ≠ X.env.locals ∧ p.1 ∉ X.fs ∧ ∀ v, p.2.data ≠ .cell v
  hok : HOk X.prog X.w H s.heap
  len : σ.length = X.N.length
section
variable {X : Cx} {pins : List (Addr × Obj)} {σ : List (Option V)} {H H' : Hp} {s : Shared} {h' : Heap}
theorem Cx.Ok.nofr (ok : X.Ok) {b : Addr} {o : Obj} (e : X.base.get? b = some o) : b ∉ X.fs := fun hb => by
  have := (ok.funs.mem hb).1
  rw [e] at this; cases this
theorem Inv.bs (I : Inv X pins σ H s) : ∀ b o, X.base.get? b = some o → s.heap.get? b = some o ∧ H b = none := fun b o e =>
  ⟨I.base.keep b o (I.ok.bs b o e).1 (I.ok.bs b o e).2 (I.ok.nofr e) (I.ok.noex b o e), I.base.free b o (I.ok.bs b o e).1 (I.ok.bs b o e).2 (I.ok.noex b o e)⟩
theorem Inv.bk (I : Inv X pins σ H s) : ∀ b o, X.base.get? b = some o → s.heap.get? b = some o := fun b o e => (I.bs b o e).1
theorem Inv.mod (I : Inv X pins σ H s) : Mod X.K X.mg X.base := I.ok.mod
theorem Inv.kIn (I : Inv X pins σ H s) : X.K.In s.heap := I.ok.mod.kin.keeps I.bk
theorem Inv.lt (I : Inv X pins σ H s) : X.env.locals < s.heap.objs.size := let ⟨_, hn, _⟩ := I.loc; hn.lt
theorem Inv.sz (I : Inv X pins σ H s) : X.s₀.heap.objs.size ≤ s.heap.objs.size := Nat.le_trans I.ok.above (Nat.le_of_lt I.lt)
theorem Inv.nofs (I : Inv X pins σ H s) {a : Addr} (h : s.heap.objs.size ≤ a) : a ∉ X.fs := fun hb => by
  obtain ⟨_, o, ho, _⟩ := I.ok.funs.mem hb
  exact absurd (Nat.lt_of_lt_of_le (Heap.lt_size ho) (Nat.le_trans I.sz h)) (Nat.lt_irrefl _)
theorem Inv.cne (I : Inv X pins σ H s) : ∀ x c, X.env.cells.lookup x = some c → c ≠ X.env.locals := fun x c e z => by
  obtain ⟨v, o, ho, hd⟩ := I.cell x c e
  obtain ⟨m, ⟨o', es, ep, ho', hd', _⟩, _⟩ := I.loc
  rw [z, ho'] at ho; cases ho; rw [hd'] at hd; cases hd
theorem Inv.funs (I : Inv X pins σ H s) : s.heap.FunFrames X.base X.outer := by
  have all : ∀ (l : List Env), (∀ b ∈ frs l, b ∈ X.fs) → X.s₀.heap.FunFrames X.base l → s.heap.FunFrames X.base l := by
    intro l
    induction l with
    | nil => intro _ _; trivial
    | cons env r ih =>
      intro hs hl
      obtain ⟨hk, ⟨L, o, hf, hn, ho, hd⟩, hr⟩ := hl
      have hL : L ∈ X.fs := hs L (by unfold frs; rw [List.filterMap_cons, hf]; exact List.mem_cons_self)
      obtain ⟨sl, e⟩ := I.base.slot L o ho (I.ok.frf L hL) hL fun z => I.ok.exfs L z hL
      exact ⟨hk, ⟨L, _, hf, hn, e, hd⟩, ih (fun b hb => hs b (by unfold frs; rw [List.filterMap_cons, hf]; exact List.mem_cons_of_mem _ hb)) hr⟩
  exact all X.outer (fun _ hb => hb) I.ok.funs
theorem Inv.stack (I : Inv X pins σ H s) : s.heap.FunFrames X.base X.stack := by
  rcases I.ok.stk with e | ⟨e, hf⟩
  · rw [e]; exact I.funs
  · rw [e]
    obtain ⟨m, hn, _⟩ := I.loc
    refine .cons (by rw [I.ok.kind]; decide) hf hn ?_ I.funs
    exact Heap.get?_none_of_le (Nat.le_trans I.ok.bsz I.ok.above)
theorem Inv.stkSub (I : Inv X pins σ H s) : ∀ b ∈ frs X.stack, b ∈ X.env.locals :: X.fs := fun b hb => by
  rcases I.ok.stk with e | ⟨e, hf⟩
  · rw [e] at hb; exact List.mem_cons_of_mem _ hb
  · rw [e] at hb
    unfold frs at hb
    rw [List.filterMap_cons, hf] at hb
    exact hb
theorem Inv.stkFree (I : Inv X pins σ H s) : ∀ b ∈ frs X.stack, H b = none := fun b hb => by
  rcases List.mem_cons.mp (I.stkSub b hb) with e | hb
  · rw [e]; exact I.free
  · obtain ⟨_, o, ho, _⟩ := I.ok.funs.mem hb
    exact I.base.free b o ho (I.ok.frf b hb) fun z => I.ok.exfs b z hb
theorem Inv.step {g' : Array GenState} {t' : Nat} {d' : Drawn} {ch : List Addr} (I : Inv X pins σ H s)
    (hch : ∀ b ∈ ch, (b ∈ X.ex ∨ X.s₀.heap.objs.size ≤ b) ∧ b ≠ X.env.locals ∧ (∀ x c, X.env.cells.lookup x = some c → c ≠ b) ∧ ∀ p ∈ X.pn ++ pins, p.1 ≠ b)
    (keep : ∀ b o, b ≠ X.env.locals → b ∉ X.fs → b ∉ ch → s.heap.get? b = some o → H b = none → h'.get? b = some o)
    (slot : ∀ b o, b ≠ X.env.locals → b ∈ X.fs → b ∉ ch → s.heap.get? b = some o → H b = none → ∃ sl, h'.get? b = some { o with slots := sl }) (free : ∀ b o, b ∉ ch → s.heap.get? b = some o → H b = none → H' b = none)
    (there : ∀ b o, b ∉ ch → s.heap.get? b = some o → ∃ o', h'.get? b = some o')
    (tups : ∀ b xs, H b = some (.tup xs) → H' b = some (.tup xs)) (frzs : ∀ b o u, H b = some (.frz o u) → H' b = some (.frz o u)) (tbls : ∀ b ps, H b = some (.tbl ps) → ∃ more, H' b = some (.tbl (ps ++ more)))
    (ns : ∀ m, s.heap.Ns X.env.locals m → h'.Ns X.env.locals m) (hok : HOk X.prog X.w H' h') (hg : AllBare g') :
    Inv X pins σ H' { s with heap := h', gens := g', drawn := d', toks := t' } := by
  have neL : ∀ b o, X.s₀.heap.get? b = some o → b ≠ X.env.locals := fun b o e => Nat.ne_of_lt (Nat.lt_of_lt_of_le (Heap.lt_size e) I.ok.above)
  have neC : ∀ b o, X.s₀.heap.get? b = some o → b ∉ X.ex → b ∉ ch := fun b o e hx hb => by
    rcases (hch b hb).1 with z | z
    · exact hx z
    · exact absurd (Nat.lt_of_lt_of_le (Heap.lt_size e) z) (Nat.lt_irrefl _)
  have cellK : ∀ x c, X.env.cells.lookup x = some c → ∀ v, s.heap.IsCell c v → h'.IsCell c v := fun x c e v ⟨o, ho, hd⟩ => by
    have nch : c ∉ ch := fun z => (hch c z).2.2.1 x c e rfl
    by_cases hc : c ∈ X.fs
    · obtain ⟨sl, q⟩ := slot c o (I.cne x c e) hc nch ho (I.freeC x c e)
      exact ⟨_, q, hd⟩
    · exact ⟨o, keep c o (I.cne x c e) hc nch ho (I.freeC x c e), hd⟩
  refine ⟨I.ok, I.os, hg, ⟨fun b o e n hb hx => ?_, fun b o e n hb hx => ?_, fun b o e n hx => ?_, fun b o e hx => ?_, fun b xs e => tups b xs (I.base.tups b xs e), fun b o xs e => frzs b o xs (I.base.frzs b o xs e), fun b ps e => ?_⟩, ?_, fun x c e => ?_, ?_, fun x c e => ?_, fun p hp => ?_, hok, I.len⟩
  · exact keep b o (neL b o e) hb (neC b o e hx) (I.base.keep b o e n hb hx) (I.base.free b o e n hx)
  · obtain ⟨sl, e1⟩ := I.base.slot b o e n hb hx
    obtain ⟨sl', e2⟩ := slot b _ (neL b o e) hb (neC b o e hx) e1 (I.base.free b o e n hx)
    exact ⟨sl', e2⟩
  · obtain ⟨o', e1⟩ := I.base.there b o e hx
    exact free b o' (neC b o e hx) e1 (I.base.free b o e n hx)
  · obtain ⟨o', e1⟩ := I.base.there b o e hx
    exact there b o' (neC b o e hx) e1
  · obtain ⟨m1, e1⟩ := I.base.tbls b ps e
    obtain ⟨m2, e2⟩ := tbls b _ e1
    exact ⟨m1 ++ m2, by rw [e2, Array.append_assoc]⟩
  · obtain ⟨m, hn, hl⟩ := I.loc
    refine ⟨m, ns m hn, fun i x v e1 e2 e3 => ?_⟩
    obtain ⟨u, r, l⟩ := hl i x v e1 e2 e3
    refine ⟨u, r, ?_⟩
    rcases l with l | ⟨k, c, e, z⟩
    · exact .inl l
    · exact .inr ⟨k, c, e, cellK x c e _ z⟩
  · obtain ⟨v, z⟩ := I.cell x c e
    exact ⟨v, cellK x c e v z⟩
  · obtain ⟨m, ⟨o, _, _, ho, _⟩, _⟩ := I.loc
    exact free _ o (fun z => (hch _ z).2.1 rfl) ho I.free
  · obtain ⟨v, o, ho, hd⟩ := I.cell x c e
    exact free c o (fun z => (hch c z).2.2.1 x c e rfl) ho (I.freeC x c e)
  · obtain ⟨e, n, ne, nf, d⟩ := I.pin p hp
    have nch : p.1 ∉ ch := fun z => (hch p.1 z).2.2.2 p hp rfl
    exact ⟨keep p.1 p.2 ne nf nch e n, free p.1 p.2 nch e n, ne, nf, d⟩
theorem Inv.un {t' : Nat} (I : Inv X pins σ H s) (u : Un X.fs [] H H' s.heap h') (hok : HOk X.prog X.w H' h') : Inv X pins σ H' { s with heap := h', toks := t' } := by
  obtain ⟨m, ⟨o, es, ep, ho, r⟩, _⟩ := id I.loc
  obtain ⟨sl, hL⟩ := u.any ho I.free (by simp)
  exact I.step (g' := s.gens) (d' := s.drawn) (ch := []) (fun _ z => nomatch z) (fun b o _ hb _ e n => u.keep b o e n hb (by simp)) (fun b o _ hb _ e n => u.slot b o e n hb (by simp)) (fun b o _ e n => u.free b o e n (by simp)) (fun b o _ e => u.there b o e (by simp)) u.tups u.frzs u.tbls (fun m' hm => by
    obtain ⟨o', es', ep', ho', r'⟩ := hm
    rw [ho] at ho'; cases ho'
    exact ⟨_, es', ep', hL, r'⟩) hok I.bare
theorem Inv.call {g' : Array GenState} {t' : Nat} {d' : Drawn} {ch : List Addr} (I : Inv X pins σ H s) (u : Un (frs X.stack) ch H H' s.heap h') (hok : HOk X.prog X.w H' h') (hg : AllBare g')
    (hch : ∀ b ∈ ch, (b ∈ X.ex ∨ X.s₀.heap.objs.size ≤ b) ∧ b ≠ X.env.locals ∧ (∀ x c, X.env.cells.lookup x = some c → c ≠ b) ∧ ∀ p ∈ X.pn ++ pins, p.1 ≠ b) :
    Inv X pins σ H' { s with heap := h', gens := g', drawn := d', toks := t' } := by
  obtain ⟨m, ⟨o, es, ep, ho, r⟩, _⟩ := id I.loc
  obtain ⟨sl, hL⟩ := u.any ho I.free fun z => (hch _ z).2.1 rfl
  exact I.step (ch := ch) hch (fun b o hL hb hc e n => u.keep b o e n (fun z => (List.mem_cons.mp (I.stkSub b z)).elim hL hb) hc) (fun b o _ _ hc e n => u.any e n hc) (fun b o hc e n => u.free b o e n hc) (fun b o hc e => u.there b o e hc) u.tups u.frzs u.tbls (fun m' hm => by
    obtain ⟨o', es', ep', ho', r'⟩ := hm
    rw [ho] at ho'; cases ho'
    exact ⟨_, es', ep', hL, r'⟩) hok hg
theorem Inv.turned {t' : Nat} {it : Addr} (I : Inv X pins σ H s) (k : ∀ b o, b ≠ it → s.heap.get? b = some o → h'.get? b = some o) (hn : H it = none) (hL : it ≠ X.env.locals)
    (h1 : it ∈ X.ex ∨ X.s₀.heap.objs.size ≤ it) (h2 : ∀ x c, X.env.cells.lookup x = some c → c ≠ it) (h3 : ∀ p ∈ X.pn ++ pins, p.1 ≠ it) : Inv X pins σ H { s with heap := h', toks := t' } := by
  have nit : ∀ b u, H b = some u → b ≠ it := fun b u e z => by rw [z, hn] at e; cases e
  refine I.step (g' := s.gens) (d' := s.drawn) (ch := [it]) (fun b hb => ?_) (fun b o _ _ hc e _ => k b o (fun z => hc (by simp [z])) e) (fun b o _ _ hc e _ => ⟨o.slots, k b o (fun z => hc (by simp [z])) e⟩) (fun _ _ _ _ n => n)
    (fun b o hc e => ⟨o, k b o (fun z => hc (by simp [z])) e⟩) (fun _ _ e => e) (fun _ _ _ e => e) (fun b ps e => ⟨#[], by rw [e]; simp⟩) (fun m hm => ?_) (fun b u e => ?_) I.bare
  · have e : b = it := by simpa using hb
    subst e
    exact ⟨h1, hL, h2, h3⟩
  · obtain ⟨o, es, ep, ho, r⟩ := hm
    exact ⟨o, es, ep, k _ o (Ne.symm hL) ho, r⟩
  · refine (I.hok b u e).stay (fun c v hc q => k c v ?_ q) (fun _ q => q) fun _ _ q => q
    rcases hc with z | z
    · rw [z]; exact nit b u e
    · exact nit c _ z
theorem Inv.tok (I : Inv X pins σ H s) (t : Nat) : Inv X pins σ H { s with toks := t } := I.un (h' := s.heap) (t' := t) Un.refl I.hok
theorem Inv.kept {t' : Nat} (I : Inv X pins σ H s) (k : ∀ b u, s.heap.get? b = some u → h'.get? b = some u) : Inv X pins σ H { s with heap := h', toks := t' } := I.un (Un.kept k) (I.hok.kept k)
theorem Inv.laid {a : Addr} {o : HO} {t' : Nat} (I : Inv X pins σ H s) (k : ∀ b u, s.heap.get? b = some u → h'.get? b = some u) (hp : s.heap.objs.size ≤ a) (new : ObjOk X.prog X.w (upd H a o) h' a o) :
    Inv X pins σ (upd H a o) { s with heap := h', toks := t' } := I.un (Un.laid k hp (I.hok.fresh hp)) (I.hok.laid k hp new)
theorem Inv.write {x e : Addr} {o : HO} {t' : Nat} (I : Inv X pins σ H s) (mu : Mut (H x)) (he : e = x ∨ H e = some (.own x)) (k : ∀ b u, b ≠ e → s.heap.get? b = some u → h'.get? b = some u) (heo : ∃ u, h'.get? e = some u)
    (new : ObjOk X.prog X.w (upd H x o) h' x o) : Inv X pins σ (upd H x o) { s with heap := h', toks := t' } := I.un (Un.write mu he k heo) (I.hok.write mu he k heo new)
theorem Inv.weak {σ' : List (Option V)} (I : Inv X pins σ H s) (hl : σ'.length = σ.length) (w : ∀ (i : Nat) v, σ'[i]? = some (some v) → σ[i]? = some (some v)) : Inv X pins σ' H s :=
  ⟨I.ok, I.os, I.bare, I.base, let ⟨m, hn, hl'⟩ := I.loc; ⟨m, hn, fun i x v e1 e2 e3 => hl' i x v e1 (w i v e2) e3⟩, I.cell, I.free, I.freeC, I.pin, I.hok, hl.trans I.len⟩
theorem Inv.pins_of {pins' : List (Addr × Obj)} (I : Inv X pins σ H s) (h : ∀ p ∈ pins', s.heap.get? p.1 = some p.2 ∧ H p.1 = none ∧ p.1 ≠ X.env.locals ∧ p.1 ∉ X.fs ∧ ∀ v, p.2.data ≠ .cell v) : Inv X pins' σ H s :=
  ⟨I.ok, I.os, I.bare, I.base, I.loc, I.cell, I.free, I.freeC, fun p hp => (List.mem_append.mp hp).elim (fun z => I.pin p (List.mem_append_left _ z)) (h p), I.hok, I.len⟩
theorem nodup_ix {N : List Str} (hN : N.Nodup) {i j : Nat} {x : Str} (a : N[i]? = some x) (b : N[j]? = some x) : i = j := by
  obtain ⟨h1, e1⟩ := List.getElem?_eq_some_iff.mp a
  obtain ⟨h2, e2⟩ := List.getElem?_eq_some_iff.mp b
  exact (List.getElem_inj hN).mp (e1.trans e2.symm)
theorem store_ok2 {M : Model} {A : Around} {E : Value → Shared → Prop} {i : Nat} {x : Str} {v : V} {u : Value} {Q : Unit → Shared → Prop} (I : Inv X pins σ H s) (hN : X.N.Nodup) (hi : X.N[i]? = some x) (hx : Loc X.env.scope x) (r : RelV v u)
    (h : ∀ s', Inv X pins (σ.set i (some v)) H s' → (∃ a, Heap.SameBut a s.heap s'.heap ∧ (a = X.env.locals ∨ X.env.cells.lookup x = some a)) → Q () s') (hf : X.fn x = true ∨ X.env.scope.names.lookup x = some .local := by first | exact .inl rfl | exact .inr rfl | assumption) : wpAny M A (storeName X.env x u) Q E s := by
  obtain ⟨m, hn, hl⟩ := id I.loc
  have hcls : (X.env.scope.kind == .class || (X.env.scope.kind == .module && X.env.locals != X.env.globals)) = false := by rw [I.ok.kind]; rfl
  have hiσ : i < σ.length := by rw [I.len]; exact (List.getElem?_eq_some_iff.mp hi).1
  have cne := I.cne
  have tracked : ∀ {a : Addr} {h' : Heap}, (∃ o, s.heap.get? a = some o ∧ H a = none) → Heap.SameBut a s.heap h' → HOk X.prog X.w H h' := fun {a h'} ha hs b ob e => by
    obtain ⟨_, _, hfree⟩ := ha
    refine (I.hok b ob e).stay (fun c w' hc q => (hs.2 c ?_).trans q) (fun _ q => q) fun _ _ q => q
    rintro rfl
    rcases hc with rfl | hc
    · rw [hfree] at e; cases e
    · rw [hfree] at hc; cases hc
  rcases hx with hk | hk
  · refine wpAny_storeName_local hk hn (fun h' hn' hs => ?_) hcls
    obtain ⟨oL, _, _, hoL, _⟩ := id hn
    refine h _ ⟨I.ok, I.os, I.bare, ⟨fun b o e n hb hx => ?_, fun b o e n hb hx => ?_, I.base.free, fun b o e hx => ?_, I.base.tups, I.base.frzs, I.base.tbls⟩, ⟨_, hn', fun j y v' e1 e2 e3 => ?_⟩, fun y c e => ?_, I.free, I.freeC, fun p hp => ?_, tracked ⟨oL, hoL, I.free⟩ hs, by simpa using I.len⟩ ⟨_, hs, .inl rfl⟩
    · exact (hs.2 b (Nat.ne_of_lt (Nat.lt_of_lt_of_le (Heap.lt_size e) I.ok.above))).trans (I.base.keep b o e n hb hx)
    · obtain ⟨sl, e1⟩ := I.base.slot b o e n hb hx
      exact ⟨sl, (hs.2 b (Nat.ne_of_lt (Nat.lt_of_lt_of_le (Heap.lt_size e) I.ok.above))).trans e1⟩
    · obtain ⟨o', e1⟩ := I.base.there b o e hx
      exact ⟨o', (hs.2 b (Nat.ne_of_lt (Nat.lt_of_lt_of_le (Heap.lt_size e) I.ok.above))).trans e1⟩
    · by_cases hj : j = i
      · subst hj
        rw [hi] at e1; cases e1
        rw [List.getElem?_set_self hiσ] at e2
        cases e2
        exact ⟨u, r, .inl ⟨hk, by simp⟩⟩
      · rw [List.getElem?_set_ne (Ne.symm hj)] at e2
        obtain ⟨u', r', q⟩ := hl j y v' e1 e2 e3
        refine ⟨u', r', ?_⟩
        rcases q with ⟨k, e⟩ | ⟨k, c, e, z⟩
        · refine .inl ⟨k, ?_⟩
          have : y ≠ x := fun e => hj (nodup_ix hN e1 (e ▸ hi))
          simp [this, e]
        · exact .inr ⟨k, c, e, z.sameBut hs (cne y c e)⟩
    · obtain ⟨w', z⟩ := I.cell y c e
      exact ⟨w', z.sameBut hs (cne y c e)⟩
    · obtain ⟨e, n, ne, nf, d⟩ := I.pin p hp
      exact ⟨(hs.2 p.1 ne).trans e, n, ne, nf, d⟩
  · have hfn : X.fn x = true := by
      rcases hf with z | z
      · exact z
      · rw [z] at hk; cases hk
    obtain ⟨c, hc⟩ := I.ok.has x (.inl hk)
    obtain ⟨w', z⟩ := I.cell x c hc
    refine wpAny_storeName_cell I.ok.kind hk hc z (fun h' hc' hs => ?_)
    obtain ⟨oc, hoc, hocd⟩ := id z
    refine h { s with heap := h' } ⟨I.ok, I.os, I.bare, ⟨fun b o e n hb hx => ?_, fun b o e n hb hx => ?_, I.base.free, fun b o e hx => ?_, I.base.tups, I.base.frzs, I.base.tbls⟩, ⟨m, hn.sameBut hs (Ne.symm (cne x c hc)), fun j y v' e1 e2 e3 => ?_⟩, fun y c' e => ?_, I.free, I.freeC, fun p hp => ?_, tracked ⟨oc, hoc, I.freeC x c hc⟩ hs, by simpa using I.len⟩ ⟨c, hs, .inr hc⟩
    · exact (hs.2 b (Nat.ne_of_lt (Nat.lt_of_lt_of_le (Heap.lt_size e) (I.ok.cab x c hfn hc)))).trans (I.base.keep b o e n hb hx)
    · obtain ⟨sl, e1⟩ := I.base.slot b o e n hb hx
      exact ⟨sl, (hs.2 b (Nat.ne_of_lt (Nat.lt_of_lt_of_le (Heap.lt_size e) (I.ok.cab x c hfn hc)))).trans e1⟩
    · obtain ⟨o', e1⟩ := I.base.there b o e hx
      exact ⟨o', (hs.2 b (Nat.ne_of_lt (Nat.lt_of_lt_of_le (Heap.lt_size e) (I.ok.cab x c hfn hc)))).trans e1⟩
    · by_cases hj : j = i
      · subst hj
        rw [hi] at e1; cases e1
        rw [List.getElem?_set_self hiσ] at e2
        cases e2
        exact ⟨u, r, .inr ⟨.inl hk, c, hc, hc'⟩⟩
      · rw [List.getElem?_set_ne (Ne.symm hj)] at e2
        obtain ⟨u', r', q⟩ := hl j y v' e1 e2 e3
        refine ⟨u', r', ?_⟩
        rcases q with q | ⟨k, c', e, z'⟩
        · exact .inl q
        · refine .inr ⟨k, c', e, z'.sameBut hs ?_⟩
          rintro rfl
          exact hj (nodup_ix hN e1 (I.ok.inj _ _ _ e hc ▸ hi))
    · by_cases hcc : c' = c
      · subst hcc; exact ⟨_, hc'⟩
      · obtain ⟨w2, z2⟩ := I.cell y c' e
        exact ⟨w2, z2.sameBut hs hcc⟩
    · obtain ⟨e, n, ne, nf, d⟩ := I.pin p hp
      refine ⟨(hs.2 p.1 ?_).trans e, n, ne, nf, d⟩
      intro q
      rw [q, hoc] at e
      have q' : oc = p.2 := Option.some.inj e
      exact d w' (by rw [← q']; exact hocd)
theorem store_ok {M : Model} {A : Around} {E : Value → Shared → Prop} {i : Nat} {x : Str} {v : V} {u : Value} {Q : Unit → Shared → Prop} (I : Inv X pins σ H s) (hN : X.N.Nodup) (hi : X.N[i]? = some x) (hx : Loc X.env.scope x) (r : RelV v u)
    (h : ∀ s', Inv X pins (σ.set i (some v)) H s' → Q () s') (hf : X.fn x = true ∨ X.env.scope.names.lookup x = some .local := by first | exact .inl rfl | exact .inr rfl | assumption) : wpAny M A (storeName X.env x u) Q E s :=
  store_ok2 I hN hi hx r (fun s' I' _ => h s' I') hf
theorem Inv.call' {s' : Shared} {ch : List Addr} (I : Inv X pins σ H s) (ho : s'.os = s.os) (u : Un (frs X.stack) ch H H' s.heap s'.heap) (hok : HOk X.prog X.w H' s'.heap) (hg : AllBare s'.gens)
    (hch : ∀ b ∈ ch, (b ∈ X.ex ∨ X.s₀.heap.objs.size ≤ b) ∧ b ≠ X.env.locals ∧ (∀ x c, X.env.cells.lookup x = some c → c ≠ b) ∧ ∀ p ∈ X.pn ++ pins, p.1 ≠ b) : Inv X pins σ H' s' := by
  obtain ⟨h', g', d', t', o'⟩ := s'
  have e : o' = s.os := ho
  subst e
  exact I.call (g' := g') (t' := t') (d' := d') u hok hg hch
end
abbrev XK := Value → Option Addr → Hp → Prop
abbrev St := List (Option V)
abbrev VK := V → Hp → Prop
abbrev TE := St → Hp → VK → Prop
abbrev TT := St → Hp → (Bool → Hp → Prop) → Prop
abbrev TA := St → Hp → (List V → Hp → Prop) → Prop
structure Ends where
  nx : St → Hp → Prop
  rt : VK
  bk : St → Hp → Prop := fun _ _ => False
  ct : St → Hp → Prop := fun _ _ => False
abbrev TS := Ends → St → Hp → Prop
def EP (X : Cx) (pins : List (Addr × Obj)) (σ : St) (Q : VK) (u : Value) (s' : Shared) : Prop := ∃ v H', Inv X pins σ H' s' ∧ RelV v u ∧ Q v H'
def TP (X : Cx) (pins : List (Addr × Obj)) (σ : St) (Q : Bool → Hp → Prop) (b : Bool) (s' : Shared) : Prop := ∃ H', Inv X pins σ H' s' ∧ Q b H'
def AP (X : Cx) (pins : List (Addr × Obj)) (σ : St) (Q : List V → Hp → Prop) (us : List Value) (s' : Shared) : Prop := ∃ vs H', Inv X pins σ H' s' ∧ Vals vs us ∧ Q vs H'
def SP (X : Cx) (pins : List (Addr × Obj)) (D : Ends) (f : Flow) (s' : Shared) : Prop :=
  match f with
  | .next => ∃ σ' H', Inv X pins σ' H' s' ∧ D.nx σ' H'
  | .brk => ∃ σ' H', Inv X pins σ' H' s' ∧ D.bk σ' H'
  | .cont => ∃ σ' H', Inv X pins σ' H' s' ∧ D.ct σ' H'
  | .ret u => ∃ v σ' H', Inv X pins σ' H' s' ∧ RelV v u ∧ D.rt v H'
def PE (X : Cx) (e : Expr) (t : TE) : Prop :=
  ∀ (pins : List (Addr × Obj)) (s : Shared) (σ : St) (H : Hp) (Q : VK), Inv X pins σ H s → t σ H Q → wpAny (model X.prog X.w) X.A (eval e X.env) (EP X pins σ Q) X.xe s
def PT (X : Cx) (e : Expr) (t : TT) : Prop :=
  ∀ (pins : List (Addr × Obj)) (s : Shared) (σ : St) (H : Hp) (Q : Bool → Hp → Prop), Inv X pins σ H s → t σ H Q → wpAny (model X.prog X.w) X.A (isTrue e X.env (eval e X.env)) (TP X pins σ Q) X.xe s
def PW (X : Cx) (e : Expr) (t : TT) : Prop :=
  ∀ (whole : Sem Value) (pins : List (Addr × Obj)) (s : Shared) (σ : St) (H : Hp) (Q : Bool → Hp → Prop), Inv X pins σ H s → t σ H Q → wpAny (model X.prog X.w) X.A (isTrue e X.env whole) (TP X pins σ Q) X.xe s
theorem PW.pt {X : Cx} {e : Expr} {t : TT} (h : PW X e t) : PT X e t := h _
def PA (X : Cx) (es : List Expr) (t : TA) : Prop :=
  ∀ (pos : Pos) (pins : List (Addr × Obj)) (s : Shared) (σ : St) (H : Hp) (Q : List V → Hp → Prop), Inv X pins σ H s → t σ H Q → wpAny (model X.prog X.w) X.A (spliced (backTo pos (starEach es X.env))) (AP X pins σ Q) X.xe s
def PS (X : Cx) (st : Stmt) (t : TS) : Prop :=
  ∀ (pins : List (Addr × Obj)) (s : Shared) (σ : St) (H : Hp) (D : Ends), Inv X pins σ H s → t D σ H → wpAny (model X.prog X.w) X.A (exec st X.env) (SP X pins D) X.xe s
def PSs (X : Cx) (st : List Stmt) (t : TS) : Prop :=
  ∀ (pins : List (Addr × Obj)) (s : Shared) (σ : St) (H : Hp) (D : Ends), Inv X pins σ H s → t D σ H → wpAny (model X.prog X.w) X.A (execs st X.env) (SP X pins D) X.xe s
theorem thn {α : Type} {t : Sem α} {Q Q' : α → Shared → Prop} {M : Model} {A : Around} {E : Value → Shared → Prop} {s : Shared} (h : wpAny M A t Q E s) (hQ : ∀ a s, Q a s → Q' a s) : wpAny M A t Q' E s := wpAny_mono h hQ fun _ _ x => x
end L2
namespace L2
open PySem PySem.Spec PyProof.Rows
section
variable {X : Cx}
def tVar (i : Nat) : TE := fun σ H Q => ∃ v, σ[i]? = some (some v) ∧ Q v H
def tC (v : V) : TE := fun _ H Q => Q v H
theorem pe_var {i : Nat} {x : Str} {pos : Pos} (hN : X.N[i]? = some x) (hv : Vis X.env.scope x) (hd : (x == ("__debug__" : Str)) = false := by decide) (hcd : (x == ("__classdict__" : Str)) = false := by decide) : PE X (.Name x pos) (tVar i) := by
  intro pins s σ H Q I h
  obtain ⟨v, e, h⟩ := h
  obtain ⟨m, hn, hl⟩ := I.loc
  obtain ⟨u, r, l⟩ := hl i x v hN e hv
  have fin : EP X pins σ Q u s := ⟨v, H, I, r, h⟩
  rcases l with ⟨hk, hm⟩ | ⟨hk, c, hc, hcell⟩
  · exact wpAny_Name (wpAny_loadName_local I.ok.kind hk hn hm fin) hd
  · rcases hk with hk | hk
    · exact wpAny_Name (wpAny_loadName_cell I.ok.kind hk hc hcell fin) hd
    · exact wpAny_Name (wpAny_loadName_free I.ok.kind hk hc hcell fin hcd) hd
theorem pe_int {i j pos} : PE X (.Constant (.int i) j pos) (tC (.int i)) := fun _ _ _ H _ I h => wpAny_Constant_int ⟨.int i, H, I.tok _, ⟨_, rfl⟩, h⟩
theorem pe_bl {b j pos} : PE X (.Constant (.bool b) j pos) (tC (.bl b)) := fun _ _ _ H _ I h => Constant_bool ⟨.bl b, H, I, rfl, h⟩
theorem pe_str {x j pos} : PE X (.Constant (.str x) j pos) (tC (.str x)) := fun _ _ _ H _ I h => Calls.Constant_str ⟨.str x, H, I.tok _, ⟨_, rfl⟩, h⟩
def Gl (X : Cx) (x : Str) : Prop := X.env.kindOf x = some .globalImplicit
theorem ld_glob {E : Value → Shared → Prop} {pins : List (Addr × Obj)} {s : Shared} {σ : St} {H : Hp} {x : Str} {u : Value} {pos : Pos} {Q : Value → Shared → Prop} (I : Inv X pins σ H s) (hg : Gl X x) (hm : X.mg x = some u) (h : Q u s)
    (hd : (x == ("__debug__" : Str)) = false := by decide) : wpAny (model X.prog X.w) X.A (eval (.Name x pos) X.env) Q E s :=
  Calls.Name_function_global I.ok.kind hg (Calls.loadGlobal_global (by rw [I.ok.glob]; exact I.mod.glob.keeps I.bk) hm h) hd
theorem ld_blt {E : Value → Shared → Prop} {pins : List (Addr × Obj)} {s : Shared} {σ : St} {H : Hp} {x : Str} {u : Value} {pos : Pos} {Q : Value → Shared → Prop} (I : Inv X pins σ H s) (hg : Gl X x) (hm : X.mg x = none) (hv : bootBuiltins x = some u) (h : Q u s)
    (hn : x ≠ "__name__" := by decide) (hd : (x == ("__debug__" : Str)) = false := by decide) : wpAny (model X.prog X.w) X.A (eval (.Name x pos) X.env) Q E s := by
  obtain ⟨mb, h1, h2⟩ := I.mod.blt
  exact Calls.Name_function_global I.ok.kind hg (Calls.loadGlobal_builtin (by rw [I.ok.glob]; exact I.mod.glob.keeps I.bk) hm (by rw [I.ok.blt]; exact h1.keeps I.bk) ((h2 x hn).trans hv) h) hd
theorem pe_glob {x : Str} {v : V} {u : Value} {pos : Pos} (hg : Gl X x) (hm : X.mg x = some u) (r : RelV v u) (hd : (x == ("__debug__" : Str)) = false := by decide) : PE X (.Name x pos) (tC v) :=
  fun _ _ _ H _ I h => ld_glob I hg hm ⟨v, H, I, r, h⟩ hd
theorem pe_bltn {x : Str} {v : V} {u : Value} {pos : Pos} (hg : Gl X x) (hm : X.mg x = none) (hv : bootBuiltins x = some u) (r : RelV v u) (hn : x ≠ "__name__" := by decide) (hd : (x == ("__debug__" : Str)) = false := by decide) : PE X (.Name x pos) (tC v) :=
  fun _ _ _ H _ I h => ld_blt I hg hm hv ⟨v, H, I, r, h⟩ hn hd
def t2I (ta tb : TE) (k : Int → Int → Hp → Prop) : St → Hp → Prop := fun σ H => ta σ H fun x H1 => tb σ H1 fun y H2 => ∃ i j, x = .int i ∧ y = .int j ∧ k i j H2
def tAdd (ta tb : TE) : TE := fun σ H Q => t2I ta tb (fun i j H2 => Q (.int (i + j)) H2) σ H
def tSub (ta tb : TE) : TE := fun σ H Q => t2I ta tb (fun i j H2 => Q (.int (i - j)) H2) σ H
def tMul (ta tb : TE) : TE := fun σ H Q => t2I ta tb (fun i j H2 => (-(2 ^ 64) < i ∧ i < 2 ^ 64) ∧ Q (.int (i * j)) H2) σ H
variable {a b : Expr} {ta tb : TE} {pos : Pos}
def PC (X : Cx) (op : CmpOp) (a b : Expr) (t : TE) : Prop :=
  ∀ (pins : List (Addr × Obj)) (s : Shared) (σ : St) (H : Hp) (Q : VK), Inv X pins σ H s → t σ H Q →
    wpAny (model X.prog X.w) X.A (eval a X.env) (fun v s₁ => wpAny (model X.prog X.w) X.A (eval b X.env) (fun u s₂ => wpAny (model X.prog X.w) X.A (compareOp op v u) (EP X pins σ Q) X.xe s₂) X.xe s₁) X.xe s
def tCmp (p : Int → Int → Bool) (ta tb : TE) : TE := fun σ H Q => t2I ta tb (fun i j H2 => Q (.bl (p i j)) H2) σ H
abbrev tLt : TE → TE → TE := tCmp fun i j => decide (i < j)
abbrev tLe : TE → TE → TE := tCmp fun i j => decide (i ≤ j)
abbrev tGt : TE → TE → TE := tCmp fun i j => decide (j < i)
abbrev tGe : TE → TE → TE := tCmp fun i j => decide (j ≤ i)
abbrev tEqI : TE → TE → TE := tCmp fun i j => decide (i = j)
abbrev tNeI : TE → TE → TE := tCmp fun i j => !decide (i = j)
def tIsN (ta : TE) : TE := fun σ H Q => ta σ H fun x H1 => Q (.bl (decide (x = .non))) H1
def tNotN (ta : TE) : TE := fun σ H Q => ta σ H fun x H1 => Q (.bl (!decide (x = .non))) H1
def tB (t : TE) : TT := fun σ H Q => t σ H fun x H1 => ∃ c, x = .bl c ∧ Q c H1
theorem pt_val {e : Expr} {t : TE} (h : PE X e t) (he : ∀ whole, isTrue e X.env whole = (do let v ← whole; standAt e.pos; holding [v] (truthy v)) := by intro _; rfl) : PT X e (tB t) := by
  intro pins s σ H Q I hw
  refine isTrue_plain (thn (h pins s σ H _ I hw) fun v s1 ⟨x, H1, I1, r1, q1⟩ => ?_) (he _)
  obtain ⟨d, rfl, q⟩ := q1
  cases r1
  exact wpAny_truthy_bool ⟨H1, I1, q⟩
variable {tA tB' : TT} {rest : List Expr}
def tAnd (t u : TT) : TT := fun σ H Q => t σ H fun c H1 => if c = true then u σ H1 Q else Q false H1
def tOr (t u : TT) : TT := fun σ H Q => t σ H fun c H1 => if c = true then Q true H1 else u σ H1 Q
def tNot (t : TT) : TT := fun σ H Q => t σ H fun c H1 => Q (!c) H1
theorem pw_and1 (ha : PT X a tA) : PW X (.BoolOp .And [a] pos) tA := by
  intro wh pins s σ H Q I h
  refine isTrue_and (thn (ha pins s σ H Q I h) fun c s1 e => ?_)
  cases c with
  | true => exact isTrue_and_nil e
  | false => exact e
theorem pw_or1 (ha : PT X a tA) : PW X (.BoolOp .Or [a] pos) tA := by
  intro wh pins s σ H Q I h
  refine isTrue_or (thn (ha pins s σ H Q I h) fun c s1 e => ?_)
  cases c with
  | false => exact isTrue_or_nil e
  | true => exact e
theorem pw_and (ha : PT X a tA) (hb : PW X (.BoolOp .And (b :: rest) pos) tB') : PW X (.BoolOp .And (a :: b :: rest) pos) (tAnd tA tB') := by
  intro wh pins s σ H Q I h
  refine isTrue_and (thn (ha pins s σ H _ I h) fun c s1 ⟨H1, I1, q1⟩ => ?_)
  cases c with
  | true => exact hb wh pins s1 σ H1 Q I1 q1
  | false => exact ⟨H1, I1, q1⟩
theorem pw_or (ha : PT X a tA) (hb : PW X (.BoolOp .Or (b :: rest) pos) tB') : PW X (.BoolOp .Or (a :: b :: rest) pos) (tOr tA tB') := by
  intro wh pins s σ H Q I h
  refine isTrue_or (thn (ha pins s σ H _ I h) fun c s1 ⟨H1, I1, q1⟩ => ?_)
  cases c with
  | true => exact ⟨H1, I1, q1⟩
  | false => exact hb wh pins s1 σ H1 Q I1 q1
theorem pt_not (ha : PT X a tA) : PT X (.UnaryOp .Not a pos) (tNot tA) := by
  intro pins s σ H Q I h
  exact isTrue_not (ha pins s σ H (fun c H1 => Q (!c) H1) I h)
def tAndV (ta tb : TE) : TE := fun σ H Q => ta σ H fun x H1 => ∃ c, x = .bl c ∧ if c = true then tb σ H1 Q else Q (.bl false) H1
def tOrV (ta tb : TE) : TE := fun σ H Q => ta σ H fun x H1 => ∃ c, x = .bl c ∧ if c = true then Q (.bl true) H1 else tb σ H1 Q
def tNotV (ta : TE) : TE := fun σ H Q => ta σ H fun x H1 => ∃ c, x = .bl c ∧ Q (.bl (!c)) H1
theorem pe_one {op} {t : TE} (h : PE X a t) : PE X (.BoolOp op [a] pos) t := fun pins s σ H Q I hw => BoolOp_one (h pins s σ H Q I hw)
theorem pe_and (ha : PE X a ta) (hb : PE X (.BoolOp .And (b :: rest) pos) tb) : PE X (.BoolOp .And (a :: b :: rest) pos) (tAndV ta tb) := by
  intro pins s σ H Q I h
  refine BoolOp_and (thn (ha pins s σ H _ I h) fun v s1 ⟨x, H1, I1, r1, q1⟩ => ?_)
  obtain ⟨c, rfl, q1⟩ := q1
  cases r1
  refine wpAny_truthy_bool ?_
  cases c with
  | true => exact hb pins s1 σ H1 Q I1 q1
  | false => exact ⟨.bl false, H1, I1, rfl, q1⟩
def tIf (t : TT) (ta tb : TE) : TE := fun σ H Q => t σ H fun c H1 => if c = true then ta σ H1 Q else tb σ H1 Q
theorem pe_ifExp {c : Expr} (hc : PT X c tA) (ha : PE X a ta) (hb : PE X b tb) : PE X (.IfExp c a b pos) (tIf tA ta tb) := by
  intro pins s σ H Q I h
  refine wpAny_IfExp (thn (hc pins s σ H _ I h) fun d s1 ⟨H1, I1, q1⟩ => ?_)
  cases d with
  | true => exact ha pins s1 σ H1 Q I1 q1
  | false => exact hb pins s1 σ H1 Q I1 q1
end
end L2
namespace L2
open PySem PySem.Spec PyProof.Rows
def SqL (K : PySem.W.Frag) (H : Hp) (a : Addr) (xs : List V) : Prop :=
  Rd H a (.lst xs) ∨
    ∃ (o : Obj) (its : Array Value) (n : Nat), K.lookup a = some o ∧ o.cls = .type "list" ∧ o.dict = none ∧ o.data = .seq its n ∧ its.size ≤ sizeLine ∧ Vals xs its.toList
def SqT (K : PySem.W.Frag) (H : Hp) (a : Addr) (xs : List V) : Prop :=
  Rd H a (.tup xs) ∨
    ∃ (o : Obj) (its : Array Value) (n : Nat), K.lookup a = some o ∧ o.cls = .type "tuple" ∧ o.data = .seq its n ∧ its.size ≤ sizeLine ∧ Vals xs its.toList
def absV : Value → Option V
  | .none => some .non
  | .bool b => some (.bl b)
  | .int i _ => some (.int i)
  | .str x _ => some (.str x)
  | .bytes b _ => some (.byt b)
  | .float b _ => some (.flt b)
  | .ref a => some (.ref a)
  | .type n => some (.ty n)
  | _ => none
theorem RelV.abs {x : V} {u : Value} (r : RelV x u) : absV u = some x := by
  cases x with
  | non => cases r; rfl
  | bl _ => cases r; rfl
  | int _ => obtain ⟨t, rfl⟩ := r; rfl
  | str _ => obtain ⟨t, rfl⟩ := r; rfl
  | byt _ => obtain ⟨t, rfl⟩ := r; rfl
  | flt _ => obtain ⟨t, rfl⟩ := r; rfl
  | ref _ => cases r; rfl
  | ty _ => cases r; rfl
theorem RelV.inj {x y : V} {u : Value} (r : RelV x u) (q : RelV y u) : x = y := Option.some.inj (r.abs.symm.trans q.abs)
theorem Vals.inj : ∀ {xs ys : List V} {us : List Value}, Vals xs us → Vals ys us → xs = ys
  | _, _, _, .nil, .nil => rfl
  | _, _, _, .cons r t, .cons r' t' => by rw [r.inj r', Vals.inj t t']
section
variable {X : Cx} {pins : List (Addr × Obj)} {σ : St} {H : Hp} {s : Shared} {a : Addr} {xs ys : List V}
theorem SqL.of {K : PySem.W.Frag} (h : H a = some (.lst xs)) : SqL K H a xs := .inl (.inl h)
theorem SqT.of {K : PySem.W.Frag} (h : H a = some (.tup xs)) : SqT K H a xs := .inl (.inl h)
theorem Inv.list (I : Inv X pins σ H s) (h : SqL X.K H a xs) : ∃ its : List Value, Vals xs its ∧ PlainL s.heap a its.toArray ∧ xs.length ≤ sizeLine := by
  rcases h with h | ⟨o, its, n, hk, hc, hd, hs, hz, r⟩
  · obtain ⟨z, its, n, r, e⟩ := h.ok I.hok
    exact ⟨its, r, ⟨_, n, e, rfl, rfl, rfl⟩, z⟩
  · refine ⟨its.toList, r, ⟨o, n, I.kIn a o hk, hc, hd, by simpa using hs⟩, ?_⟩
    have e := r.length
    simp only [Array.length_toList] at e
    omega
theorem Inv.tuple (I : Inv X pins σ H s) (h : SqT X.K H a xs) : ∃ its : List Value, Vals xs its ∧ IsTup s.heap a its.toArray ∧ xs.length ≤ sizeLine := by
  rcases h with h | ⟨o, its, n, hk, hc, hs, hz, r⟩
  · obtain ⟨z, its, r, p⟩ := h.ok I.hok
    exact ⟨its, r, p, z⟩
  · refine ⟨its.toList, r, ⟨o, I.kIn a o hk, hc, n, by simpa using hs⟩, ?_⟩
    have e := r.length
    simp only [Array.length_toList] at e
    omega
theorem Inv.list_inj (I : Inv X pins σ H s) (h : SqL X.K H a xs) (h' : SqL X.K H a ys) : xs = ys := by
  obtain ⟨its, r, ⟨o, n, e, _, _, d⟩, _⟩ := I.list h
  obtain ⟨its', r', ⟨o', n', e', _, _, d'⟩, _⟩ := I.list h'
  rw [e] at e'; cases e'
  rw [d] at d'
  injection d' with d1 _
  have : its = its' := by simpa using congrArg Array.toList d1
  subst this
  exact r.inj r'
end
abbrev Cx.wish (X : Cx) (E : Value → Shared → Prop) : Cx := { X with xe := E }
abbrev Cx.nox (X : Cx) : Cx := X.wish fun _ _ => False
theorem Cx.Ok.wish {X : Cx} (ok : X.Ok) (E : Value → Shared → Prop) : (X.wish E).Ok :=
  ⟨ok.mod, ok.kind, ok.glob, ok.blt, ok.above, ok.inj, ok.has, ok.cab, ok.hd, ok.frames, ok.stk, ok.exf, ok.bs, ok.bsz, ok.noex, ok.exfs, ok.funs, ok.frf⟩
theorem Cx.Ok.unwish {X : Cx} {E : Value → Shared → Prop} (ok : (X.wish E).Ok) : X.Ok :=
  ⟨ok.mod, ok.kind, ok.glob, ok.blt, ok.above, ok.inj, ok.has, ok.cab, ok.hd, ok.frames, ok.stk, ok.exf, ok.bs, ok.bsz, ok.noex, ok.exfs, ok.funs, ok.frf⟩
section
variable {X : Cx} {pins : List (Addr × Obj)} {σ : St} {H : Hp} {s : Shared} {E : Value → Shared → Prop}
theorem Inv.wish (I : Inv X pins σ H s) (E : Value → Shared → Prop) : Inv (X.wish E) pins σ H s := ⟨I.ok.wish E, I.os, I.bare, I.base, I.loc, I.cell, I.free, I.freeC, I.pin, I.hok, I.len⟩
theorem Inv.unwish (I : Inv (X.wish E) pins σ H s) : Inv X pins σ H s := ⟨I.ok.unwish, I.os, I.bare, I.base, I.loc, I.cell, I.free, I.freeC, I.pin, I.hok, I.len⟩
theorem SP.unwish {D : Ends} {f : Flow} {s' : Shared} (h : SP (X.wish E) pins D f s') : SP X pins D f s' := by
  cases f with
  | next => obtain ⟨σ', H', I, q⟩ := h; exact ⟨σ', H', I.unwish, q⟩
  | brk => obtain ⟨σ', H', I, q⟩ := h; exact ⟨σ', H', I.unwish, q⟩
  | cont => obtain ⟨σ', H', I, q⟩ := h; exact ⟨σ', H', I.unwish, q⟩
  | ret u => obtain ⟨v, σ', H', I, r, q⟩ := h; exact ⟨v, σ', H', I.unwish, r, q⟩
theorem PSs.nox {st : List Stmt} {t : TS} (h : PSs X.nox st t) : PSs X st t := fun pins s σ H D I hw =>
  wpAny_mono (h pins s σ H D (I.wish _) hw) (fun _ _ q => q.unwish) fun _ _ z => False.elim z
end
section
variable {X : Cx} {st : Stmt} {rest : List Stmt} {t u : TS} {e : Expr} {te : TE} {pos : Pos}
def tNext : TS := fun D σ H => D.nx σ H
def tSeq (t u : TS) : TS := fun D σ H => t { D with nx := u D } σ H
theorem pss_nil : PSs X [] tNext := fun _ _ σ H _ I h => wpAny_execs_nil ⟨σ, H, I, h⟩
theorem pss_cons (h1 : PS X st t) (h2 : PSs X rest u) : PSs X (st :: rest) (tSeq t u) := by
  intro pins s σ H D I h
  refine wpAny_execs_cons (thn (h1 pins s σ H { D with nx := u D } I h) fun f s1 q => ?_)
  cases f with
  | next =>
    obtain ⟨σ', H', I', q⟩ := q
    exact h2 pins s1 σ' H' D I' q
  | ret v => exact q
  | brk => exact q
  | cont => exact q
theorem pss_one (h1 : PS X st t) : PSs X [st] t := by
  intro pins s σ H D I h
  refine wpAny_execs_cons (thn (h1 pins s σ H D I h) fun f s1 q => ?_)
  cases f with
  | next => exact wpAny_execs_nil q
  | ret v => exact q
  | brk => exact q
  | cont => exact q
def tBreak : TS := fun D σ H => D.bk σ H
def tCont : TS := fun D σ H => D.ct σ H
theorem Inv.quiet {pins : List (Addr × Obj)} {σ : St} {H : Hp} {s : Shared} (I : Inv X pins σ H s) : interactive X.env = false := by simp [interactive, I.ok.kind]
def tDrop (te : TE) : TS := fun D σ H => te σ H fun _ H1 => D.nx σ H1
theorem ps_expr (he : PE X e te) (hs : swapsWith e none pos.line X.env = pure false := by rfl) : PS X (.Expr e pos) (tDrop te) := by
  intro pins s σ H D I h
  exact wpAny_Expr_any (thn (he pins s σ H _ I h) fun v s1 ⟨x, H1, I1, r1, q1⟩ => ⟨σ, H1, I1, q1⟩) I.quiet hs
def tRet (te : TE) : TS := fun D σ H => te σ H D.rt
theorem ps_ret (he : PE X e te) : PS X (.Return (some e) pos) (tRet te) := by
  intro pins s σ H D I h
  exact wpAny_Return_some (thn (he pins s σ H _ I h) fun v s1 ⟨x, H1, I1, r1, q1⟩ => ⟨x, σ, H1, I1, r1, q1⟩)
def tRetN : TS := fun D _ H => D.rt .non H
def tIfS (c : TT) (t u : TS) : TS := fun D σ H => c σ H fun b H1 => if b = true then t D σ H1 else u D σ H1
theorem ps_if {c : Expr} {a b : List Stmt} {tc : TT} (hc : PT X c tc) (ha : PSs X a t) (hb : PSs X b u) : PS X (.If c a b pos) (tIfS tc t u) := by
  intro pins s σ H D I h
  refine wpAny_If (thn (hc pins s σ H _ I h) fun d s1 ⟨H1, I1, q1⟩ => ?_)
  cases d with
  | true => exact ha pins s1 σ H1 D I1 q1
  | false => exact hb pins s1 σ H1 D I1 q1
def tNever : TS := fun _ _ _ => False
end
abbrev TG := V → St → Hp → (St → Hp → Prop) → Prop
abbrev TGs := List V → St → Hp → (St → Hp → Prop) → Prop
def PG (X : Cx) (target : Expr) (t : TG) : Prop :=
  ∀ (pins : List (Addr × Obj)) (s : Shared) (σ : St) (H : Hp) (v : V) (u : Value) (Q : St → Hp → Prop), Inv X pins σ H s → RelV v u → t v σ H Q →
    wpAny (model X.prog X.w) X.A (assign target X.env u) (fun _ s' => ∃ σ' H', Inv X pins σ' H' s' ∧ Q σ' H') X.xe s
def PGs (X : Cx) (ts : List Expr) (t : TGs) : Prop :=
  ∀ (pins : List (Addr × Obj)) (s : Shared) (σ : St) (H : Hp) (vs : List V) (us : List Value) (Q : St → Hp → Prop), Inv X pins σ H s → Vals vs us → t vs σ H Q →
    wpAny (model X.prog X.w) X.A (assignInOrder ((assignEach ts X.env).map (·.2)) us) (fun _ s' => ∃ σ' H', Inv X pins σ' H' s' ∧ Q σ' H') X.xe s
abbrev TSet := V → V → V → Hp → (Hp → Prop) → Prop
def PSet (X : Cx) (t : TSet) : Prop :=
  ∀ (pins : List (Addr × Obj)) (s : Shared) (σ : St) (H : Hp) (o i v : V) (ov iv u : Value) (Q : Hp → Prop), Inv X pins σ H s → RelV o ov → RelV i iv → RelV v u → t o i v H Q →
    wpAny (model X.prog X.w) X.A (setItem ov iv u) (fun _ s' => ∃ H', Inv X pins σ H' s' ∧ Q H') X.xe s
abbrev TIp := V → V → Hp → VK → Prop
def PIp (X : Cx) (op : Operator) (t : TIp) : Prop :=
  ∀ (pins : List (Addr × Obj)) (s : Shared) (σ : St) (H : Hp) (x y : V) (v u : Value) (Q : VK), Inv X pins σ H s → RelV x v → RelV y u → t x y H Q →
    wpAny (model X.prog X.w) X.A (inplaceOp op v u) (EP X pins σ Q) X.xe s
section
variable {X : Cx} {pos : Pos}
def gName (i : Nat) : TG := fun v σ H Q => Q (σ.set i (some v)) H
theorem pg_name {i : Nat} {x : Str} (hN : X.N.Nodup) (hi : X.N[i]? = some x) (hx : Loc X.env.scope x) (hf : X.fn x = true ∨ X.env.scope.names.lookup x = some .local := by first | exact .inl rfl | exact .inr rfl | assumption) : PG X (.Name x pos) (gName i) := by
  intro pins s σ H v u Q I r h
  exact wpAny_assign_Name (store_ok I hN hi hx r (fun s' I' => ⟨_, H, I', h⟩) hf)
def gNil : TGs := fun vs σ H Q => vs = [] ∧ Q σ H
def gCons (t : TG) (u : TGs) : TGs := fun vs σ H Q => ∃ v r, vs = v :: r ∧ t v σ H fun σ' H' => u r σ' H' Q
theorem pgs_nil : PGs X [] gNil := by
  intro pins s σ H vs us Q I r h
  obtain ⟨e, h⟩ := h
  subst e
  cases r
  exact assignInOrder_nil ⟨σ, H, I, h⟩
theorem pgs_cons {e : Expr} {es : List Expr} {t : TG} {u : TGs} (h1 : PG X e t) (h2 : PGs X es u)
    (hs : (assignEach (e :: es) X.env).map (·.2) = assign e X.env :: (assignEach es X.env).map (·.2) := by rfl) : PGs X (e :: es) (gCons t u) := by
  intro pins s σ H vs us Q I r h
  obtain ⟨v, vr, e1, h⟩ := h
  subst e1
  cases r with
  | cons r rr =>
    rw [hs]
    refine assignInOrder_cons (thn (h1 pins s σ H _ _ _ I r h) fun _ s1 ⟨σ1, H1, I1, q1⟩ => ?_)
    exact h2 pins s1 σ1 H1 _ _ Q I1 rr q1
def gTup (K : PySem.W.Frag) (n : Nat) (t : TGs) : TG := fun v σ H Q => ∃ a xs, v = .ref a ∧ SqT K H a xs ∧ xs.length = n ∧ t xs σ H Q
theorem pg_tup {es : List Expr} {k : Nat} {t : TGs} {n : Nat} (hc : X.calm = true) (h : PGs X es t)
    (hn : (assignEach es X.env).length = n := by rfl) (hst : (assignEach es X.env).findIdx? (·.1) = none := by rfl) : PG X (.Tuple es k pos) (gTup X.K n t) := by
  intro pins s σ H v u Q I r hw
  obtain ⟨a, xs, e1, hq, hl, hw⟩ := hw
  subst e1
  cases r
  obtain ⟨its, rv, ht, hz⟩ := I.tuple hq
  refine assign_Tuple_tuple (I.ok.hd hc) ht (by simp [hn, ← hl, rv.length]) hst fun h' hx => ?_
  have I1 : Inv X pins σ H { s with heap := h' } := I.kept (t' := s.toks) fun b o e => hx b o (Nat.ne_of_lt (Heap.lt_size e)) e
  exact h pins _ σ H xs _ Q I1 (by simpa using rv) hw
def gSub (to ti : TE) (t : TSet) : TG := fun v σ H Q => to σ H fun o H1 => ti σ H1 fun i H2 => t o i v H2 fun H3 => Q σ H3
def tAsg (te : TE) (g : TG) : TS := fun D σ H => te σ H fun x H1 => g x σ H1 D.nx
theorem ps_asg {tg e : Expr} {te : TE} {g : TG} (he : PE X e te) (hg : PG X tg g) (hs : swapsWithSole [tg] e pos.line X.env = pure false := by rfl) (hw : swappedStores [tg] e X.env = pure none := by rfl)
    (h1 : (assignEach [tg] X.env).map (·.2) = [assign tg X.env] := by rfl) : PS X (.Assign [tg] e pos) (tAsg te g) := by
  intro pins s σ H D I h
  refine wpAny_Assign_stores (thn (he pins s σ H _ I h) fun v s1 ⟨x, H1, I1, r1, q1⟩ => ?_) hs hw
  rw [h1]
  exact thn (hg pins s1 σ H1 x v _ I1 r1 q1) fun _ s2 q => q
theorem ps_set {i : Nat} {x : Str} {e : Expr} {te : TE} {pos' : Pos} (hN : X.N.Nodup) (hi : X.N[i]? = some x) (hx : Loc X.env.scope x) (he : PE X e te) (hs : swapsWith e (some (.Name x pos')) pos.line X.env = pure false := by rfl) (hf : X.fn x = true ∨ X.env.scope.names.lookup x = some .local := by first | exact .inl rfl | exact .inr rfl | assumption) :
    PS X (.Assign [.Name x pos'] e pos) (tAsg te (gName i)) := by
  intro pins s σ H D I h
  refine wpAny_Assign_Name (thn (he pins s σ H _ I h) fun v s1 ⟨y, H1, I1, r1, q1⟩ => ?_) hs
  exact store_ok I1 hN hi hx r1 (fun s2 I2 => ⟨_, H1, I2, q1⟩) hf
def tPar (i j : Nat) (ta : TA) : TS := fun D σ H => ta σ H fun vs H1 => ∃ v w, vs = [v, w] ∧ D.nx ((σ.set i (some v)).set j (some w)) H1
theorem ps_par {i j : Nat} {x y : Str} {a b : Expr} {ta : TA} {px py pt : Pos} {kt k2 pt2} (hc : X.calm = true) (hN : X.N.Nodup) (hi : X.N[i]? = some x) (hj : X.N[j]? = some y) (hij : i ≠ j)
    (hx : X.env.scope.names.lookup x = some .local) (hy : X.env.scope.names.lookup y = some .local) (ha : PA X [a, b] ta)
    (hw : swappedStores [.Tuple [.Name x px, .Name y py] kt pt] (.Tuple [a, b] k2 pt2) X.env = pure (some [x, y]))
    (hs : swapsWithSole [.Tuple [.Name x px, .Name y py] kt pt] (.Tuple [a, b] k2 pt2) pos.line X.env = pure false := by rfl) :
    PS X (.Assign [.Tuple [.Name x px, .Name y py] kt pt] (.Tuple [a, b] k2 pt2) pos) (tPar i j ta) := by
  intro pins s σ H D I h
  rw [exec_Assign_arm]
  refine wpAny_bind (wpAny_standAt ?_)
  rw [hs]
  refine wpAny_bind (wpAny_pure ?_)
  rw [if_neg (by decide)]
  refine wpAny_bind (Tuple_ (thn (ha _ pins s σ H _ I h) fun us s1 ⟨vs, H1, I1, r1, q1⟩ => ?_))
  obtain ⟨v, w, e1, q1⟩ := q1
  subst e1
  obtain ⟨u1, u2, rfl, rv, rw'⟩ : ∃ u1 u2, us = [u1, u2] ∧ RelV v u1 ∧ RelV w u2 := by
    cases r1 with
    | cons p q =>
      cases q with
      | cons p' q' =>
        cases q'
        exact ⟨_, _, rfl, p, p'⟩
  refine wpAny_newObj_type ?_ (by show 2 ≤ sizeLine; decide)
  have I2 : Inv X pins σ H1 { s1 with heap := s1.heap.push { cls := .type "tuple", data := .seq [u1, u2].toArray } } := I1.kept (t' := s1.toks) fun b o e => Heap.get?_push_of_some _ e
  rw [hw]
  refine wpAny_bind (wpAny_pure ?_)
  show wpAny (model X.prog X.w) X.A (do rule "assign.swapped-stores"; let items ← unpackItems (.ref s1.heap.objs.size) 2 none; assignInOrder [fun v => bindName X.env y v, fun v => bindName X.env x v] items.reverse; pure Flow.next) _ _ _
  refine wpAny_bind (wpAny_rule (wpAny_bind (unpackItems_tuple (items := #[u1, u2]) (I.ok.hd hc) (IsTup.new s1.heap _) fun h' hx' => ?_)))
  have I3 := I2.kept (h' := h') (t' := s1.toks) fun b o e => hx' b o (Nat.ne_of_lt (Heap.lt_size e)) e
  show wpAny _ _ (assignInOrder [fun v => bindName X.env y v, fun v => bindName X.env x v] [u2, u1] >>= fun _ => pure Flow.next) _ _ _
  refine wpAny_bind (assignInOrder_cons (wpAny_bindName (store_ok I3 hN hj (.inl hy) rw' (fun s2 I4 => ?_) (.inr hy))))
  refine assignInOrder_cons (wpAny_bindName (store_ok I4 hN hi (.inl hx) rv (fun s3 I5 => assignInOrder_nil (wpAny_pure ?_)) (.inr hx)))
  rw [List.set_comm _ _ (Ne.symm hij)] at I5
  exact ⟨_, H1, I5, q1⟩
def tAug (i : Nat) (te : TE) (ti : TIp) : TS := fun D σ H => ∃ x, σ[i]? = some (some x) ∧ te σ H fun y H1 => ti x y H1 fun z H2 => D.nx (σ.set i (some z)) H2
def tAugS (to ti te : TE) (tget : V → V → Hp → VK → Prop) (tip : TIp) (tset : TSet) : TS := fun D σ H => to σ H fun o H1 => ti σ H1 fun i H2 => tget o i H2 fun x H3 => te σ H3 fun y H4 => tip x y H4 fun z H5 => tset o i z H5 fun H6 => D.nx σ H6
def PGet (X : Cx) (t : V → V → Hp → VK → Prop) : Prop :=
  ∀ (pins : List (Addr × Obj)) (s : Shared) (σ : St) (H : Hp) (o i : V) (ov iv : Value) (Q : VK), Inv X pins σ H s → RelV o ov → RelV i iv → t o i H Q →
    wpAny (model X.prog X.w) X.A (getItem ov iv) (EP X pins σ Q) X.xe s
theorem ps_augS {o i e : Expr} {to ti te : TE} {tget : V → V → Hp → VK → Prop} {tip : TIp} {tset : TSet} {op : Operator} {tpos : Pos} (ho : PE X o to) (hi : PE X i ti) (hg : PGet X tget) (he : PE X e te) (hp : PIp X op tip) (hs : PSet X tset)
    (ha : ∀ ov iv new, augStore i ov iv new = (do holding [new, ov, iv] (setItem ov iv new); release [new, ov, iv] []; pure .next) := by intros; rfl) : PS X (.AugAssign (.Subscript o i tpos) op e pos) (tAugS to ti te tget tip tset) := by
  intro pins s σ H D I h
  refine wpAny_AugAssign_SubscriptAny (thn (ho pins s σ H _ I h) fun ov s1 ⟨x1, H1, I1, r1, q1⟩ => ?_) ha
  refine thn (hi pins s1 σ H1 _ I1 q1) fun iv s2 ⟨x2, H2, I2, r2, q2⟩ => ?_
  refine thn (hg pins s2 σ H2 x1 x2 ov iv _ I2 r1 r2 q2) fun old s3 ⟨x3, H3, I3, r3, q3⟩ => ?_
  refine thn (he pins s3 σ H3 _ I3 q3) fun v s4 ⟨x4, H4, I4, r4, q4⟩ => ?_
  refine thn (hp pins s4 σ H4 x3 x4 old v _ I4 r3 r4 q4) fun new s5 ⟨x5, H5, I5, r5, q5⟩ => ?_
  exact thn (hs pins s5 σ H5 x1 x2 x5 ov iv new _ I5 r1 r2 r5 q5) fun _ s6 ⟨H6, I6, q6⟩ => ⟨σ, H6, I6, q6⟩
def ipI (f : Int → Int → Int) : TIp := fun x y H Q => ∃ i j, x = .int i ∧ y = .int j ∧ Q (.int (f i j)) H
theorem ip_add : PIp X .Add (ipI fun i j => i + j) := by
  intro pins s σ H x y v u Q I r1 r2 h
  obtain ⟨i, j, e1, e2, q⟩ := h
  subst e1; subst e2
  obtain ⟨t, rfl⟩ := r1
  obtain ⟨t', rfl⟩ := r2
  exact iadd_int ⟨.int _, H, I.tok _, ⟨_, rfl⟩, q⟩
end
section
variable {X : Cx} {pos : Pos}
def tWhile (c : TT) (tb : TS) : TS := fun D σ H => ∃ W : Nat → St → Hp → Prop, (∃ m, W m σ H) ∧ ∀ m σ H, W m σ H →
  c σ H fun b H1 => if b = true then ∃ N : St → Hp → Prop, (∀ σ' H', N σ' H' → ∃ m', m' < m ∧ W m' σ' H') ∧ tb { D with nx := N, ct := N, bk := D.nx } σ H1 else D.nx σ H1
end
structure It where
  go : Nat → Hp → Prop
  yld : Nat → Hp → V → Hp → Prop
  stop : Nat → Hp → Prop
def FpOk (X : Cx) (pins : List (Addr × Obj)) (H : Hp) (b : Addr) : Prop :=
  H b = none ∧ b ≠ X.env.locals ∧ b ∉ X.fs ∧ (b ∈ X.ex ∨ X.s₀.heap.objs.size ≤ b) ∧ (∀ x c, X.env.cells.lookup x = some c → c ≠ b) ∧ ∀ p ∈ X.pn ++ pins, p.1 ≠ b
theorem Inv.fpOk {X : Cx} {pins : List (Addr × Obj)} {σ : St} {H H' : Hp} {s : Shared} {b : Addr} (I : Inv X pins σ H s) (hb : s.heap.objs.size ≤ b) (hn : H' b = none) : FpOk X pins H' b := by
  refine ⟨hn, Nat.ne_of_gt (Nat.lt_of_lt_of_le I.lt hb), I.nofs hb, .inr (Nat.le_trans I.sz hb), fun x c e z => ?_, fun p hp z => ?_⟩
  · obtain ⟨v, q⟩ := I.cell x c e
    exact absurd (Nat.lt_of_lt_of_le q.lt (by rw [z]; exact hb)) (Nat.lt_irrefl _)
  · exact absurd (Nat.lt_of_lt_of_le (Heap.lt_size (I.pin p hp).1) (by rw [z]; exact hb)) (Nat.lt_irrefl _)
structure Turn (P : Program) (w : World) (K : PySem.W.Frag) (tg : Expr) (J : It) (fp : List Addr) (it : Addr) (tn : Nat → Heap → Prop) : Prop where
  mem : it ∈ fp
  obj : ∀ i h, tn i h → ∀ b ∈ fp, ∃ o, h.get? b = some o ∧ ∀ v, o.data ≠ .cell v
  keep : ∀ i h h', tn i h → (∀ b ∈ fp, ∀ o, h.get? b = some o → h'.get? b = some o) → tn i h'
  item : ∀ (X : Cx), X.prog = P → X.w = w → X.K = K → X.calm = true → ∀ (i : Nat) (pins : List (Addr × Obj)) (s : Shared) (σ : St) (H : Hp) (E : Value → Shared → Prop), Inv X pins σ H s → (∀ b ∈ fp, FpOk X pins H b) → tn i s.heap → J.go i H →
    wpAny (model P w) X.A (pyNext (.ref it)) (fun r s1 => ∃ u, r = some u ∧
      wpAny (model P w) X.A (letOwnedTupleGo tg (.ref it) u) (fun _ s2 => ∃ x H', Inv X pins σ H' s2 ∧ RelV x u ∧ J.yld i H x H' ∧ tn (i + 1) s2.heap ∧ ∀ b ∈ fp, H' b = none) E s1) E s
  done : ∀ (X : Cx), X.prog = P → X.w = w → X.K = K → X.calm = true → ∀ (i : Nat) (pins : List (Addr × Obj)) (s : Shared) (σ : St) (H : Hp) (E : Value → Shared → Prop), Inv X pins σ H s → (∀ b ∈ fp, FpOk X pins H b) → tn i s.heap → J.stop i H →
    wpAny (model P w) X.A (pyNext (.ref it)) (fun r s1 => r = none ∧ Inv X pins σ H s1) E s
  self : ∀ (A : Around) (i : Nat) (s : Shared) (Q : Value → Shared → Prop) (E : Value → Shared → Prop), tn i s.heap → Q (.ref it) s → wpAny (model P w) A (pyIter (.ref it)) Q E s
abbrev TI := St → Hp → (It → Hp → Prop) → Prop
def PIE (X : Cx) (pins : List (Addr × Obj)) (σ : St) (tg : Expr) (R : It → Hp → Prop) (itv : Value) (s2 : Shared) : Prop :=
  ∃ (it : Addr) (fp : List Addr) (tn : Nat → Heap → Prop) (J : It) (H' : Hp), itv = .ref it ∧ Inv X pins σ H' s2 ∧ Turn X.prog X.w X.K tg J fp it tn ∧ tn 0 s2.heap ∧ (∀ b ∈ fp, FpOk X pins H' b) ∧ R J H'
def PI (X : Cx) (tg iter : Expr) (wi : TI) : Prop :=
  ∀ (pins : List (Addr × Obj)) (s : Shared) (σ : St) (H : Hp) (R : It → Hp → Prop), Inv X pins σ H s → wi σ H R →
    wpAny (model X.prog X.w) X.A (eval iter X.env) (fun v s1 => wpAny (model X.prog X.w) X.A (pyIter v) (PIE X pins σ tg R) X.xe s1) X.xe s
theorem go_of {M : Model} {A : Around} {E : Value → Shared → Prop} {s : Shared} {tg : Expr} {it : Addr} {u : Value} {o : Obj} {n : String} {vs : Array Value} {Q : Unit → Shared → Prop} (ho : s.heap.get? it = some o) (hc : o.cls = .type n) (hd : o.data = .fields vs)
    (hn : ["enumerate", "zip", "dict_itemiterator", "dict_reverseitemiterator", "odict_iterator", "itertools.zip_longest", "itertools.pairwise"].contains n = false) (hQ : Q () s) : wpAny M A (letOwnedTupleGo tg (.ref it) u) Q E s := by
  unfold letOwnedTupleGo
  cases tg <;> first
    | exact wpAny_pure hQ
    | (cases u <;> first
        | exact wpAny_pure hQ
        | (refine wpAny_bind (wpAny_load ho ?_)
           rw [hc, hd]
           show wpAny M A (if (["enumerate", "zip", "dict_itemiterator", "dict_reverseitemiterator", "odict_iterator", "itertools.zip_longest", "itertools.pairwise"].contains n && vs[0]? == some (rawInt _)) = true then _ else _) Q E s
           rw [if_neg (by intro h; rw [hn, Bool.false_and] at h; cases h)]
           exact wpAny_pure hQ))
def Itl (K : PySem.W.Frag) (a : Addr) : It :=
  ⟨fun i H => ∃ xs x, SqL K H a xs ∧ xs[i]? = some x, fun i H x H' => H' = H ∧ ∀ xs, SqL K H a xs → xs[i]? = some x, fun i H => ∃ xs, SqL K H a xs ∧ xs.length ≤ i⟩
def Itt (K : PySem.W.Frag) (a : Addr) : It :=
  ⟨fun i H => ∃ xs x, SqT K H a xs ∧ xs[i]? = some x, fun i H x H' => H' = H ∧ ∀ xs, SqT K H a xs → xs[i]? = some x, fun i H => ∃ xs, SqT K H a xs ∧ xs.length ≤ i⟩
def Itr (lo : Int) (n : Nat) : It := ⟨fun i _ => i < n, fun i H x H' => H' = H ∧ x = .int (lo + i), fun i _ => n ≤ i⟩
theorem turn_list {P : Program} {w : World} {K : PySem.W.Frag} {tg : Expr} (a it : Addr) : Turn P w K tg (Itl K a) [it] it (fun i h => h.IsListIter it a i) where
  mem := by simp
  obj := fun i h st b hb => by
    have e : b = it := by simpa using hb
    subst e
    obtain ⟨o, e, c, d⟩ := st
    exact ⟨o, e, fun v z => by rw [d] at z; cases z⟩
  keep := fun i h h' st k => st.at fun o e => k it (by simp) o e
  item := by
    intro X hP hw hK hc i pins s σ H E I hf st hg
    subst hP hw hK
    obtain ⟨xs, x, hq, hx⟩ := hg
    obtain ⟨its, rv, p, hz⟩ := I.list hq
    obtain ⟨u, hu, ru⟩ := rv.get hx
    obtain ⟨f0, f1, f2, f3, f4, f5⟩ := hf it (by simp)
    refine wpAny_pyNext_list_item st p.isList (x := u) (by simpa using hu) fun h' st' sb => ?_
    have I1 : Inv X pins σ H { s with heap := h' } := I.turned (t' := s.toks) (fun b o hb e => (sb.2 b hb).trans e) f0 f1 f3 f4 f5
    obtain ⟨o, e, c, d⟩ := id st'
    exact ⟨u, rfl, go_of (s := { s with heap := h' }) e c d (by decide) ⟨x, H, I1, ru, ⟨rfl, fun ys hy => by rw [I.list_inj hy hq]; exact hx⟩, st', fun b hb => (hf b hb).1⟩⟩
  done := by
    intro X hP hw hK hc i pins s σ H E I hf st hg
    subst hP hw hK
    obtain ⟨xs, hq, hx⟩ := hg
    obtain ⟨its, rv, p, hz⟩ := I.list hq
    obtain ⟨f0, f1, f2, f3, f4, f5⟩ := hf it (by simp)
    have hl := rv.length
    exact wpAny_pyNext_list_end (I.ok.hd hc) st p.isList (by simp; omega) fun h' eb => ⟨rfl, I.turned (t' := s.toks) (fun b o hb e => eb b o hb e) f0 f1 f3 f4 f5⟩
  self := fun _ _ _ _ _ st h => wpAny_pyIter_listiter st h
theorem turn_range {P : Program} {w : World} {K : PySem.W.Frag} {tg : Expr} (it : Addr) (lo : Int) (n : Nat) : Turn P w K tg (Itr lo n) [it] it (fun i h => IsRangeIter h it (lo + (i : Nat) * 1) ((n : Int) - (i : Nat)) 1) where
  mem := by simp
  obj := fun i h st b hb => by
    have e : b = it := by simpa using hb
    subst e
    exact ⟨_, st, fun v z => by
      have z' : Data.fields _ = Data.cell v := z
      cases z'⟩
  keep := fun i h h' st k => k it (by simp) _ st
  item := by
    intro X hP hw hK hc i pins s σ H E I hf st hg
    subst hP hw hK
    obtain ⟨f0, f1, f2, f3, f4, f5⟩ := hf it (by simp)
    have W := Walks.range (prog := X.prog) (w := X.w) (I.ok.hd hc) it lo 1 n
    refine W.item i s _ _ hg st fun v h' tk hv st' kk => ?_
    obtain ⟨t, rfl⟩ := hv
    have I1 : Inv X pins σ H { s with heap := h', toks := tk } := I.turned (fun b o hb e => kk b o (by simpa using hb) e) f0 f1 f3 f4 f5
    refine ⟨_, rfl, go_of (s := { s with heap := h', toks := tk }) (n := "range_iterator") st' rfl rfl (by decide) ⟨.int (lo + i), H, I1, ⟨t, ?_⟩, ⟨rfl, rfl⟩, st', fun b hb => (hf b hb).1⟩⟩
    rw [Int.mul_one]
  done := by
    intro X hP hw hK hc i pins s σ H E I hf st hg
    subst hP hw hK
    obtain ⟨f0, f1, f2, f3, f4, f5⟩ := hf it (by simp)
    exact wpAny_pyNext_range_end (I.ok.hd hc) st (by have : n ≤ i := hg; omega) fun h' eb => ⟨rfl, I.turned (t' := s.toks) (fun b o hb e => eb b o hb e) f0 f1 f3 f4 f5⟩
  self := fun _ _ _ _ _ st h => wpAny_pyIter_rangeiter st h
end L2
namespace L2
open PySem PySem.Spec PyProof.Rows
section
variable {X : Cx} {tg : Expr}
def iList (K : PySem.W.Frag) (tl : TE) : TI := fun σ H R => tl σ H fun x H1 => ∃ a, x = .ref a ∧ (∃ xs, SqL K H1 a xs) ∧ R (Itl K a) H1
def iTup (K : PySem.W.Frag) (tl : TE) : TI := fun σ H R => tl σ H fun x H1 => ∃ a, x = .ref a ∧ (∃ xs, SqT K H1 a xs) ∧ R (Itt K a) H1
theorem pi_list {l : Expr} {tl : TE} (hl : PE X l tl) : PI X tg l (iList X.K tl) := by
  intro pins s σ H R I h
  refine thn (hl pins s σ H _ I h) fun v s1 ⟨x, H1, I1, r1, q1⟩ => ?_
  obtain ⟨a, e, ⟨xs, hq⟩, q⟩ := q1
  subst e
  cases r1
  obtain ⟨its, rv, p, hz⟩ := I1.list hq
  refine wpAny_pyIter_list p.isList ?_
  refine ⟨s1.heap.objs.size, [s1.heap.objs.size], _, _, H1, rfl, I1.kept (t' := s1.toks) fun b o e => Heap.get?_push_of_some _ e, turn_list a _, ⟨_, Heap.get?_push_size _ rfl, rfl, rfl⟩, fun b hb => ?_, q⟩
  have e : b = s1.heap.objs.size := by simpa using hb
  subst e
  exact I1.fpOk (Nat.le_refl _) (I1.hok.fresh (Nat.le_refl _))
theorem range_it {pins : List (Addr × Obj)} {σ : St} {H : Hp} {s : Shared} {R : It → Hp → Prop} {E : Value → Shared → Prop} {lo hi : Int} {t u v : Tok} {tk : Nat} (I : Inv X pins σ H s) (h1 : -(2 ^ 62) ≤ lo) (h2 : lo < 2 ^ 62) (h3 : -(2 ^ 62) ≤ hi) (h4 : hi < 2 ^ 62)
    (q : R (Itr lo (hi - lo).toNat) H) : wpAny (model X.prog X.w) X.A (pyIter (.ref s.heap.objs.size)) (PIE X pins σ tg R) E { s with heap := s.heap.push { cls := .type "range", data := .fields #[.int lo t, .int hi u, .int 1 v] }, toks := tk } := by
  refine wpAny_pyIter_range (IsRange.new ..) (small_one h1 h2 h3 h4) ?_
  have I1 : Inv X pins σ H { s with heap := s.heap.push { cls := .type "range", data := .fields #[.int lo t, .int hi u, .int 1 v] }, toks := tk } := I.kept fun b o e => Heap.get?_push_of_some _ e
  refine ⟨(s.heap.push { cls := .type "range", data := .fields #[.int lo t, .int hi u, .int 1 v] }).objs.size, [(s.heap.push { cls := .type "range", data := .fields #[.int lo t, .int hi u, .int 1 v] }).objs.size], _, _, H, rfl,
    I1.kept (t' := tk) fun b o e => Heap.get?_push_of_some _ e, turn_range _ lo (hi - lo).toNat, ?_, fun b hb => ?_, q⟩
  · have e1 : lo + ((0 : Nat) : Int) * 1 = lo := by simp
    have e2 : (((hi - lo).toNat : Nat) : Int) - ((0 : Nat) : Int) = Builtin.Range.rangeSize lo hi 1 := by rw [rangeSize_one]; split <;> omega
    show IsRangeIter _ _ (lo + ((0 : Nat) : Int) * 1) ((((hi - lo).toNat : Nat) : Int) - ((0 : Nat) : Int)) 1
    rw [e1, e2]
    exact Heap.get?_push_size _ rfl
  · have e : b = (s.heap.push { cls := .type "range", data := .fields #[.int lo t, .int hi u, .int 1 v] }).objs.size := by simpa using hb
    subst e
    exact I1.fpOk (Nat.le_refl _) (I1.hok.fresh (Nat.le_refl _))
def iRng1 (ta : TA) : TI := fun σ H R => ta σ H fun vs H1 => ∃ j : Int, vs = [.int j] ∧ -(2 ^ 62) ≤ j ∧ j < 2 ^ 62 ∧ R (Itr 0 j.toNat) H1
def iRng2 (ta : TA) : TI := fun σ H R => ta σ H fun vs H1 => ∃ i j : Int, vs = [.int i, .int j] ∧ (-(2 ^ 62) ≤ i ∧ i < 2 ^ 62 ∧ -(2 ^ 62) ≤ j ∧ j < 2 ^ 62) ∧ R (Itr i (j - i).toNat) H1
theorem pi_range1 {a : Expr} {ta : TA} {p pos : Pos} (hg : Gl X "range") (hm : X.mg "range" = none) (ha : PA X [a] ta) (hs : starEach [a] X.env = [(false, eval a X.env)] := by rfl) : PI X tg (.Call (.Name "range" p) [a] [] pos) (iRng1 ta) := by
  intro pins s σ H R I h
  refine Call_ (ld_blt I hg hm boot_range (PyProof.Rows.callWith_type1 (thn (ha pos pins s σ H _ I h) fun us s1 ⟨vs, H1, I1, r1, q1⟩ => ?_) hs rfl))
  obtain ⟨j, e, q1, q2, q⟩ := q1
  subst e
  cases r1 with
  | cons r rr =>
    cases rr
    obtain ⟨t, rfl⟩ := r
    exact call_range_1 (range_it I1 (by omega) (by omega) q1 q2 (by simpa using q))
def tFor (wi : TI) (g : TG) (tb : TS) : TS := fun D σ H => wi σ H fun J H1 => ∃ W : Nat → Nat → St → Hp → Prop, (∃ m, W 0 m σ H1) ∧ ∀ i m σ H, W i m σ H →
  (J.stop i H ∧ D.nx σ H) ∨ (J.go i H ∧ ∃ N : St → Hp → Prop, (∀ σ' H', N σ' H' → ∃ m', m' < m ∧ W (i + 1) m' σ' H') ∧ ∀ x H', J.yld i H x H' → g x σ H' fun σ2 H2 => tb { D with nx := N, ct := N, bk := D.nx } σ2 H2)
def pinsAt (fp : List Addr) (h : Heap) : List (Addr × Obj) := fp.filterMap fun b => (h.get? b).map fun o => (b, o)
theorem mem_pinsAt {fp : List Addr} {h : Heap} {b : Addr} {o : Obj} (hb : b ∈ fp) (e : h.get? b = some o) : (b, o) ∈ pinsAt fp h := List.mem_filterMap.mpr ⟨b, hb, by rw [e]; rfl⟩
theorem of_pinsAt {fp : List Addr} {h : Heap} {p : Addr × Obj} (hp : p ∈ pinsAt fp h) : p.1 ∈ fp ∧ h.get? p.1 = some p.2 := by
  obtain ⟨b, hb, e⟩ := List.mem_filterMap.mp hp
  cases q : h.get? b with
  | none => rw [q] at e; cases e
  | some o =>
    rw [q] at e
    have e' : (b, o) = p := Option.some.inj e
    subst e'
    exact ⟨hb, q⟩
theorem Inv.pinned {pins : List (Addr × Obj)} {σ : St} {H : Hp} {s : Shared} {fp : List Addr} (I : Inv X pins σ H s) (hf : ∀ b ∈ fp, FpOk X pins H b) (ho : ∀ b ∈ fp, ∃ o, s.heap.get? b = some o ∧ ∀ v, o.data ≠ .cell v) : Inv X (pins ++ pinsAt fp s.heap) σ H s :=
  I.pins_of fun p hp => (List.mem_append.mp hp).elim (fun z => I.pin p (List.mem_append_right _ z)) fun z => by
    obtain ⟨hb, e⟩ := of_pinsAt z
    obtain ⟨f0, f1, f2, _⟩ := hf p.1 hb
    obtain ⟨o, e', d⟩ := ho p.1 hb
    rw [e] at e'; cases e'
    exact ⟨e, f0, f1, f2, d⟩
theorem Inv.unpinned {pins pl : List (Addr × Obj)} {σ : St} {H : Hp} {s : Shared} (I : Inv X (pins ++ pl) σ H s) : Inv X pins σ H s := I.pins_of fun p hp => I.pin p (List.mem_append_right _ (List.mem_append_left _ hp))
theorem ps_for {iter : Expr} {body : List Stmt} {wi : TI} {g : TG} {tb : TS} {pos : Pos} (hp : PassesOwn (model X.prog X.w) X.A X.env X.xe) (hc : X.calm = true) (hi : PI X tg iter wi) (hg : PG X tg g) (hb : PSs X body tb)
    (hs : ∀ x, foldedSetIterable iter X.env x = pure x := by intro _; rfl) : PS X (.For tg iter body [] pos) (tFor wi g tb) := by
  intro pins s σ H D I h
  refine wpAny_For (thn (hi pins s σ H _ I h) fun v s1 h1 => thn h1 fun itv s2 h2 => ?_) hs
  obtain ⟨it, fp, tn, J, H2, e, I2, T, st2, f2, W, ⟨m0, w0⟩, turn⟩ := h2
  subst e
  have stat : ∀ {H' : Hp}, (∀ b ∈ fp, H' b = none) → ∀ b ∈ fp, FpOk X pins H' b := fun hn b hb => ⟨hn b hb, (f2 b hb).2⟩
  refine codeAny_forLoop_any (fun n s' => ∃ i σ' H', Inv X pins σ' H' s' ∧ tn i s'.heap ∧ (∀ b ∈ fp, H' b = none) ∧ W i n σ' H') ?_ m0 ⟨0, σ, H2, I2, st2, fun b hb => (f2 b hb).1, w0⟩
  rintro n s3 ⟨i, σ3, H3, I3, st3, fr3, w3⟩
  rcases turn i n σ3 H3 w3 with ⟨stop, qn⟩ | ⟨go, N, hN, step⟩
  · refine wpAny_passesOwn hp (thn (T.done X rfl rfl rfl hc i pins s3 σ3 H3 X.xe I3 (stat fr3) st3 stop) fun r s4 ⟨hr, I4⟩ => ?_)
    subst hr
    exact wpAny_execs_nil ⟨σ3, H3, I4, qn⟩
  · refine wpAny_passesOwn hp (thn (T.item X rfl rfl rfl hc i pins s3 σ3 H3 X.xe I3 (stat fr3) st3 go) fun r s4 ⟨u, hr, h4⟩ => ?_)
    subst hr
    refine wpAny_passesOwn hp (thn h4 fun _ s5 ⟨x, H5, I5, r5, y5, st5, fr5⟩ => ?_)
    have I5' := I5.pinned (stat fr5) (T.obj _ _ st5)
    refine wpAny_passesOwn hp (thn (hg _ s5 σ3 H5 x u _ I5' r5 (step x H5 y5)) fun _ s6 ⟨σ6, H6, I6, q6⟩ => ?_)
    refine wpAny_passesOwn hp (thn (hb _ s6 σ6 H6 _ I6 q6) fun f s7 q7 => ?_)
    have again : ∀ {σ7 : St} {H7 : Hp}, Inv X (pins ++ pinsAt fp s5.heap) σ7 H7 s7 → N σ7 H7 → ∃ m, m < n ∧ ∃ i σ' H', Inv X pins σ' H' s7 ∧ tn i s7.heap ∧ (∀ b ∈ fp, H' b = none) ∧ W i m σ' H' := fun {σ7 H7} I7 n7 => by
      obtain ⟨m', hm, w7⟩ := hN σ7 H7 n7
      refine ⟨m', hm, i + 1, σ7, H7, I7.unpinned, T.keep _ _ _ st5 fun b hb o e => (I7.pin (b, o) (List.mem_append_right _ (List.mem_append_right _ (mem_pinsAt hb e)))).1, fun b hb => ?_, w7⟩
      obtain ⟨o, e, d⟩ := T.obj _ _ st5 b hb
      exact (I7.pin (b, o) (List.mem_append_right _ (List.mem_append_right _ (mem_pinsAt hb e)))).2.1
    cases f with
    | next => obtain ⟨σ7, H7, I7, n7⟩ := q7; exact again I7 n7
    | cont => obtain ⟨σ7, H7, I7, n7⟩ := q7; exact again I7 n7
    | brk => obtain ⟨σ7, H7, I7, q7⟩ := q7; exact ⟨σ7, H7, I7.unpinned, q7⟩
    | ret v => obtain ⟨x7, σ7, H7, I7, r7, q7⟩ := q7; exact ⟨x7, σ7, H7, I7.unpinned, r7, q7⟩
end
theorem for_list {K : PySem.W.Frag} {a : Addr} {xs : List V} {g : TG} {tb : TS} {D : Ends} {σ : St} {H : Hp} (Pv : Nat → St → Hp → Prop) (h0 : Pv 0 σ H) (hl : ∀ i σ H, i ≤ xs.length → Pv i σ H → SqL K H a xs)
    (hs : ∀ i x σ H, xs[i]? = some x → Pv i σ H → g x σ H fun σ2 H2 => tb { D with nx := Pv (i + 1), ct := Pv (i + 1), bk := D.nx } σ2 H2) (hd : ∀ σ H, Pv xs.length σ H → D.nx σ H) :
    ∃ W : Nat → Nat → St → Hp → Prop, (∃ m, W 0 m σ H) ∧ ∀ i m σ H, W i m σ H →
      ((Itl K a).stop i H ∧ D.nx σ H) ∨ ((Itl K a).go i H ∧ ∃ N : St → Hp → Prop, (∀ σ' H', N σ' H' → ∃ m', m' < m ∧ W (i + 1) m' σ' H') ∧ ∀ x H', (Itl K a).yld i H x H' → g x σ H' fun σ2 H2 => tb { D with nx := N, ct := N, bk := D.nx } σ2 H2) := by
  refine ⟨fun i m σ H => m = xs.length - i ∧ i ≤ xs.length ∧ Pv i σ H, ⟨xs.length, by simp, Nat.zero_le _, h0⟩, ?_⟩
  rintro i m σ H ⟨rfl, hi, p⟩
  have q := hl i σ H hi p
  by_cases hlt : i < xs.length
  · refine .inr ⟨⟨xs, xs[i], q, by simp [hlt]⟩, Pv (i + 1), fun σ' H' p' => ⟨xs.length - (i + 1), by omega, rfl, hlt, p'⟩, fun x H' y => ?_⟩
    obtain ⟨e, y⟩ := y
    subst e
    exact hs i x σ _ (y xs q) p
  · have e : i = xs.length := by omega
    subst e
    exact .inl ⟨⟨xs, q, Nat.le_refl _⟩, hd σ H p⟩
theorem for_range {lo : Int} {n : Nat} {g : TG} {tb : TS} {D : Ends} {σ : St} {H : Hp} (Pv : Nat → St → Hp → Prop) (h0 : Pv 0 σ H)
    (hs : ∀ i σ H, i < n → Pv i σ H → g (.int (lo + i)) σ H fun σ2 H2 => tb { D with nx := Pv (i + 1), ct := Pv (i + 1), bk := D.nx } σ2 H2) (hd : ∀ σ H, Pv n σ H → D.nx σ H) :
    ∃ W : Nat → Nat → St → Hp → Prop, (∃ m, W 0 m σ H) ∧ ∀ i m σ H, W i m σ H →
      ((Itr lo n).stop i H ∧ D.nx σ H) ∨ ((Itr lo n).go i H ∧ ∃ N : St → Hp → Prop, (∀ σ' H', N σ' H' → ∃ m', m' < m ∧ W (i + 1) m' σ' H') ∧ ∀ x H', (Itr lo n).yld i H x H' → g x σ H' fun σ2 H2 => tb { D with nx := N, ct := N, bk := D.nx } σ2 H2) := by
  refine ⟨fun i m σ H => m = n - i ∧ i ≤ n ∧ Pv i σ H, ⟨n, by simp, Nat.zero_le _, h0⟩, ?_⟩
  rintro i m σ H ⟨rfl, hi, p⟩
  by_cases hlt : i < n
  · refine .inr ⟨hlt, Pv (i + 1), fun σ' H' p' => ⟨n - (i + 1), by omega, rfl, hlt, p'⟩, fun x H' y => ?_⟩
    obtain ⟨e, y⟩ := y
    subst e y
    exact hs i σ _ hlt p
  · have e : i = n := by omega
    subst e
    exact .inl ⟨Nat.le_refl _, hd σ H p⟩
end L2
namespace L2
open PySem PySem.Spec PyProof.Rows
abbrev R2 := V → V → Hp → VK → Prop
def OpR (X : Cx) (f : Value → Value → Sem Value) (r : R2) : Prop :=
  ∀ (pins : List (Addr × Obj)) (s : Shared) (σ : St) (H : Hp) (x y : V) (v u : Value) (Q : VK), Inv X pins σ H s → RelV x v → RelV y u → r x y H Q →
    wpAny (model X.prog X.w) X.A (f v u) (EP X pins σ Q) X.xe s
def UnR (X : Cx) (f : Value → Sem Value) (r : V → Hp → VK → Prop) : Prop :=
  ∀ (pins : List (Addr × Obj)) (s : Shared) (σ : St) (H : Hp) (x : V) (v : Value) (Q : VK), Inv X pins σ H s → RelV x v → r x H Q →
    wpAny (model X.prog X.w) X.A (f v) (EP X pins σ Q) X.xe s
def CallR (X : Cx) (f : Value) (r : List V → Hp → VK → Prop) : Prop :=
  ∀ (pins : List (Addr × Obj)) (s : Shared) (σ : St) (H : Hp) (xs : List V) (us : List Value) (Q : VK), Inv X pins σ H s → Vals xs us → r xs H Q →
    wpAny (model X.prog X.w) X.A (call f us) (EP X pins σ Q) X.xe s
def TruR (X : Cx) (r : V → Hp → (Bool → Hp → Prop) → Prop) : Prop :=
  ∀ (pins : List (Addr × Obj)) (s : Shared) (σ : St) (H : Hp) (x : V) (v : Value) (Q : Bool → Hp → Prop), Inv X pins σ H s → RelV x v → r x H Q →
    wpAny (model X.prog X.w) X.A (truthy v) (TP X pins σ Q) X.xe s
def tOp (r : R2) (ta tb : TE) : TE := fun σ H Q => ta σ H fun x H1 => tb σ H1 fun y H2 => r x y H2 Q
def tUn (r : V → Hp → VK → Prop) (ta : TE) : TE := fun σ H Q => ta σ H fun x H1 => r x H1 Q
def rI (C : Int → Int → Prop) (g : Int → Int → V) : R2 := fun x y H Q => ∃ i j, x = .int i ∧ y = .int j ∧ C i j ∧ Q (g i j) H
def rI0 (g : Int → Int → V) : R2 := fun x y H Q => ∃ i j, x = .int i ∧ y = .int j ∧ Q (g i j) H
def rU (g : Int → V) : V → Hp → VK → Prop := fun x H Q => ∃ i, x = .int i ∧ Q (g i) H
section
variable {X : Cx} {a b c : Expr} {ta tb tc : TE} {pos : Pos}
theorem binT (ha : PE X a ta) (hb : PE X b tb) {pins : List (Addr × Obj)} {s : Shared} {σ : St} {H : Hp} {R : V → V → Hp → Prop} (I : Inv X pins σ H s)
    (h : ta σ H fun x H1 => tb σ H1 fun y H2 => R x y H2) {Q : Value → Shared → Prop} {f : Value → Value → Sem Value}
    (hf : ∀ v u s2 x y H2, Inv X pins σ H2 s2 → RelV x v → RelV y u → R x y H2 → wpAny (model X.prog X.w) X.A (f v u) Q X.xe s2) :
    wpAny (model X.prog X.w) X.A (eval a X.env) (fun v s₁ => wpAny (model X.prog X.w) X.A (eval b X.env) (fun u s₂ => wpAny (model X.prog X.w) X.A (f v u) Q X.xe s₂) X.xe s₁) X.xe s := by
  refine thn (ha pins s σ H _ I h) fun v s1 ⟨x, H1, I1, r1, q1⟩ => ?_
  refine thn (hb pins s1 σ H1 _ I1 q1) fun u s2 ⟨y, H2, I2, r2, q2⟩ => ?_
  exact hf v u s2 x y H2 I2 r1 r2 q2
theorem pe_op {op : Operator} {r : R2} (ho : OpR X (binaryOp op) r) (ha : PE X a ta) (hb : PE X b tb) : PE X (.BinOp a op b pos) (tOp r ta tb) := by
  intro pins s σ H Q I h
  exact wpAny_BinOp (binT ha hb I h fun v u s2 x y H2 I2 rx ry q => ho pins s2 σ H2 x y v u Q I2 rx ry q)
theorem pe_un {op : UnaryOp} {r : V → Hp → VK → Prop} (ho : UnR X (unaryOp op) r) (ha : PE X a ta) : PE X (.UnaryOp op a pos) (tUn r ta) := by
  intro pins s σ H Q I h
  exact UnaryOp_ (thn (ha pins s σ H _ I h) fun v s1 ⟨x, H1, I1, r1, q1⟩ => ho pins s1 σ H1 x v Q I1 r1 q1)
theorem opI {f : Value → Value → Sem Value} {C : Int → Int → Prop} {g : Int → Int → Int}
    (rule : ∀ (i j : Int) (t u : Tok) (s : Shared) (Q : Value → Shared → Prop) (E : Value → Shared → Prop), C i j → Q (.int (g i j) s.toks) { s with toks := s.toks + 1 } → wpAny (model X.prog X.w) X.A (f (.int i t) (.int j u)) Q E s) :
    OpR X f (rI C fun i j => .int (g i j)) := by
  intro pins s σ H x y v u Q I rx ry h
  obtain ⟨i, j, rfl, rfl, hc, q⟩ := h
  obtain ⟨t, rfl⟩ := rx
  obtain ⟨t', rfl⟩ := ry
  exact rule i j t t' s _ _ hc ⟨.int (g i j), H, I.tok _, ⟨_, rfl⟩, q⟩
theorem opI0 {f : Value → Value → Sem Value} {g : Int → Int → Int}
    (rule : ∀ (i j : Int) (t u : Tok) (s : Shared) (Q : Value → Shared → Prop) (E : Value → Shared → Prop), Q (.int (g i j) s.toks) { s with toks := s.toks + 1 } → wpAny (model X.prog X.w) X.A (f (.int i t) (.int j u)) Q E s) :
    OpR X f (rI0 fun i j => .int (g i j)) := by
  intro pins s σ H x y v u Q I rx ry h
  obtain ⟨i, j, rfl, rfl, q⟩ := h
  obtain ⟨t, rfl⟩ := rx
  obtain ⟨t', rfl⟩ := ry
  exact rule i j t t' s _ _ ⟨.int (g i j), H, I.tok _, ⟨_, rfl⟩, q⟩
theorem opB0 {f : Value → Value → Sem Value} {g : Int → Int → Bool}
    (rule : ∀ (i j : Int) (t u : Tok) (s : Shared) (Q : Value → Shared → Prop) (E : Value → Shared → Prop), Q (.bool (g i j)) s → wpAny (model X.prog X.w) X.A (f (.int i t) (.int j u)) Q E s) :
    OpR X f (rI0 fun i j => .bl (g i j)) := by
  intro pins s σ H x y v u Q I rx ry h
  obtain ⟨i, j, rfl, rfl, q⟩ := h
  obtain ⟨t, rfl⟩ := rx
  obtain ⟨t', rfl⟩ := ry
  exact rule i j t t' s _ _ ⟨.bl (g i j), H, I, rfl, q⟩
def CDiv (i j : Int) : Prop := 0 < j ∧ j < 1073741824
def CDivN (i j : Int) : Prop := j ≠ 0 ∧ j.natAbs < 1073741824
def CPow (i j : Int) : Prop := 0 ≤ j ∧ j ≤ 1000000 ∧ i.natAbs < 2 ^ 64
def CMul (i j : Int) : Prop := (-(2 ^ 64) < i ∧ i < 2 ^ 64) ∨ (-(2 ^ 64) < j ∧ j < 2 ^ 64)
theorem CMul.ok {i j : Int} (h : CMul i j) : IntMulOk i j := by
  rcases h with ⟨h1, h2⟩ | ⟨h1, h2⟩
  · exact .of_left (intBits_le_64 h1 h2)
  · exact .of_right (intBits_le_64 h1 h2)
theorem op_add : OpR X (binaryOp .Add) (rI0 fun i j => .int (i + j)) := opI0 fun _ _ _ _ _ _ _ q => add_int q
theorem op_sub : OpR X (binaryOp .Sub) (rI0 fun i j => .int (i - j)) := opI0 fun _ _ _ _ _ _ _ q => sub_int q
theorem op_mod : OpR X (binaryOp .Mod) (rI (fun _ j => 0 < j) fun i j => .int (i % j)) := opI fun i j _ _ _ _ _ hc q => by
  have h1 : (0 : Int) < j := hc
  exact mod_int' (by omega) (by rw [Int.fmod_eq_emod_of_nonneg i (by omega)]; exact q)
theorem unI {f : Value → Sem Value} {g : Int → Int}
    (rule : ∀ (i : Int) (t : Tok) (s : Shared) (Q : Value → Shared → Prop) (E : Value → Shared → Prop), Q (.int (g i) s.toks) { s with toks := s.toks + 1 } → wpAny (model X.prog X.w) X.A (f (.int i t)) Q E s) :
    UnR X f (rU fun i => .int (g i)) := by
  intro pins s σ H x v Q I rx h
  obtain ⟨i, rfl, q⟩ := h
  obtain ⟨t, rfl⟩ := rx
  exact rule i t s _ _ ⟨.int (g i), H, I.tok _, ⟨_, rfl⟩, q⟩
theorem un_neg : UnR X (unaryOp .USub) (rU fun i => .int (-i)) := unI fun _ _ _ _ _ q => neg_int q
end
def scal : V → V → Bool
  | .non, .non => true | .non, .int _ => true | .int _, .non => true | .non, .bl _ => true | .bl _, .non => true | .non, .str _ => true | .str _, .non => true
  | .int _, .int _ => true | .bl _, .bl _ => true | .str _, .str _ => true | .byt _, .byt _ => true
  | .int _, .str _ => true | .str _, .int _ => true | .bl _, .str _ => true | .str _, .bl _ => true
  | _, _ => false
def rEq : R2 := fun x y H Q => scal x y = true ∧ Q (.bl (decide (x = y))) H
def rNe : R2 := fun x y H Q => scal x y = true ∧ Q (.bl (!decide (x = y))) H
theorem dec_int {i j : Int} : decide (V.int i = V.int j) = (i == j) := by
  rw [Bool.eq_iff_iff]
  simp
theorem dec_bl {i j : Bool} : decide (V.bl i = V.bl j) = (i == j) := by
  rw [Bool.eq_iff_iff]
  simp
theorem dec_str {i j : Str} : decide (V.str i = V.str j) = (i == j) := by
  rw [Bool.eq_iff_iff]
  simp
theorem dec_byt {i j : Array UInt8} : decide (V.byt i = V.byt j) = (i.toList == j.toList) := by
  rw [Bool.eq_iff_iff]
  cases i
  cases j
  simp
section
variable {X : Cx} {a b c : Expr} {ta tb tc : TE} {pos : Pos}
theorem fin_bl {pins : List (Addr × Obj)} {σ : St} {H : Hp} {s : Shared} {Q : VK} {k k' : Bool} (I : Inv X pins σ H s) (q : Q (.bl k) H) (e : k = k') : EP X pins σ Q (.bool k') s := by
  subst e
  exact ⟨.bl k, H, I, rfl, q⟩
theorem op_eq : OpR X (compareOp .Eq) rEq := by
  intro pins s σ H x y v u Q I rx ry h
  obtain ⟨hs, q⟩ := h
  cases x with
  | non =>
    cases rx
    cases y with
    | non => cases ry; exact PySem.EqNone.eq_none_none (fin_bl I q (by simp))
    | bl j => cases ry; exact PySem.EqNone.eq_none_bool (fin_bl I q (by simp))
    | int j => obtain ⟨t', rfl⟩ := ry; exact PySem.EqNone.eq_none_int (fin_bl I q (by simp))
    | str j => obtain ⟨t', rfl⟩ := ry; exact PySem.EqNone.eq_none_str (fin_bl I q (by simp))
    | _ => exact absurd (show false = true from hs) Bool.false_ne_true
  | bl i =>
    cases rx
    cases y with
    | non => cases ry; exact PySem.EqNone.eq_bool_none (fin_bl I q (by simp))
    | bl j => cases ry; exact eq_bool (fin_bl I q dec_bl)
    | str j => obtain ⟨t', rfl⟩ := ry; exact PySem.EqMixed.eq_bool_str (fin_bl I q (by simp))
    | _ => exact absurd (show false = true from hs) Bool.false_ne_true
  | int i =>
    obtain ⟨t, rfl⟩ := rx
    cases y with
    | non => cases ry; exact PySem.EqNone.eq_int_none (fin_bl I q (by simp))
    | int j => obtain ⟨t', rfl⟩ := ry; exact eq_int (fin_bl I q dec_int)
    | str j => obtain ⟨t', rfl⟩ := ry; exact PySem.EqMixed.eq_int_str (fin_bl I q (by simp))
    | _ => exact absurd (show false = true from hs) Bool.false_ne_true
  | str i =>
    obtain ⟨t, rfl⟩ := rx
    cases y with
    | non => cases ry; exact PySem.EqNone.eq_str_none (fin_bl I q (by simp))
    | bl j => cases ry; exact PySem.EqMixed.eq_str_bool (fin_bl I q (by simp))
    | int j => obtain ⟨t', rfl⟩ := ry; exact PySem.EqMixed.eq_str_int (fin_bl I q (by simp))
    | str j => obtain ⟨t', rfl⟩ := ry; exact eq_str (fin_bl I q dec_str)
    | _ => exact absurd (show false = true from hs) Bool.false_ne_true
  | byt i =>
    obtain ⟨t, rfl⟩ := rx
    cases y with
    | byt j => obtain ⟨t', rfl⟩ := ry; exact PySem.W.eq_bytes (fin_bl I q dec_byt)
    | _ => exact absurd (show false = true from hs) Bool.false_ne_true
  | _ => cases y <;> exact absurd (show false = true from hs) Bool.false_ne_true
theorem op_ne : OpR X (compareOp .NotEq) rNe := by
  intro pins s σ H x y v u Q I rx ry h
  obtain ⟨hs, q⟩ := h
  cases x with
  | non =>
    cases rx
    cases y with
    | non => cases ry; exact PySem.EqNone.ne_none_none (fin_bl I q (by simp))
    | bl j => cases ry; exact PySem.EqNone.ne_none_bool (fin_bl I q (by simp))
    | int j => obtain ⟨t', rfl⟩ := ry; exact PySem.EqNone.ne_none_int (fin_bl I q (by simp))
    | str j => obtain ⟨t', rfl⟩ := ry; exact PySem.EqNone.ne_none_str (fin_bl I q (by simp))
    | _ => exact absurd (show false = true from hs) Bool.false_ne_true
  | bl i =>
    cases rx
    cases y with
    | non => cases ry; exact PySem.EqNone.ne_bool_none (fin_bl I q (by simp))
    | bl j => cases ry; exact ne_bool (fin_bl I q (congrArg not dec_bl))
    | str j => obtain ⟨t', rfl⟩ := ry; exact PySem.EqMixed.ne_bool_str (fin_bl I q (by simp))
    | _ => exact absurd (show false = true from hs) Bool.false_ne_true
  | int i =>
    obtain ⟨t, rfl⟩ := rx
    cases y with
    | non => cases ry; exact PySem.EqNone.ne_int_none (fin_bl I q (by simp))
    | int j => obtain ⟨t', rfl⟩ := ry; exact ne_int (fin_bl I q (congrArg not dec_int))
    | str j => obtain ⟨t', rfl⟩ := ry; exact PySem.EqMixed.ne_int_str (fin_bl I q (by simp))
    | _ => exact absurd (show false = true from hs) Bool.false_ne_true
  | str i =>
    obtain ⟨t, rfl⟩ := rx
    cases y with
    | non => cases ry; exact PySem.EqNone.ne_str_none (fin_bl I q (by simp))
    | bl j => cases ry; exact PySem.EqMixed.ne_str_bool (fin_bl I q (by simp))
    | int j => obtain ⟨t', rfl⟩ := ry; exact PySem.EqMixed.ne_str_int (fin_bl I q (by simp))
    | str j => obtain ⟨t', rfl⟩ := ry; exact ne_str (fin_bl I q (congrArg not dec_str))
    | _ => exact absurd (show false = true from hs) Bool.false_ne_true
  | byt i =>
    obtain ⟨t, rfl⟩ := rx
    cases y with
    | byt j => obtain ⟨t', rfl⟩ := ry; exact PySem.W.ne_bytes (fin_bl I q (congrArg not dec_byt))
    | _ => exact absurd (show false = true from hs) Bool.false_ne_true
  | _ => cases y <;> exact absurd (show false = true from hs) Bool.false_ne_true
theorem op_lt : OpR X (compareOp .Lt) (rI0 fun i j => .bl (decide (i < j))) := opB0 fun _ _ _ _ _ _ _ q => lt_int q
theorem op_gt : OpR X (compareOp .Gt) (rI0 fun i j => .bl (decide (j < i))) := opB0 fun _ _ _ _ _ _ _ q => gt_int q
theorem op_in_str : OpR X (compareOp .In) (fun x y H Q => ∃ i j, x = .str i ∧ y = .str j ∧ Q (.bl (!(Builtin.Str.occurrences j i 0 j.length 1).isEmpty)) H) := by
  intro pins s σ H x y v u Q I rx ry h
  obtain ⟨i, j, rfl, rfl, q⟩ := h
  obtain ⟨t, rfl⟩ := rx
  obtain ⟨t', rfl⟩ := ry
  exact in_str (fin_bl I q rfl)
def isObj : HO → Bool
  | .lst _ => true
  | .ins _ _ _ => true
  | _ => false
theorem nomark (b : Expr) {op : CmpOp} (h : op ≠ .In := by decide) (h2 : op ≠ .NotIn := by decide) : behindInMarks op b = false := by
  have e1 : (op == CmpOp.In) = false := by cases op <;> first | rfl | exact absurd rfl h
  have e2 : (op == CmpOp.NotIn) = false := by cases op <;> first | rfl | exact absurd rfl h2
  cases b <;> simp [behindInMarks, e1, e2]
theorem pe_cmpR {op : CmpOp} {r : R2} (ho : OpR X (compareOp op) r) (ha : PE X a ta) (hb : PE X b tb) (hm : behindInMarks op b = false) : PE X (.Compare a [op] [b] pos) (tOp r ta tb) := by
  intro pins s σ H Q I h
  exact wpAny_Compare1 (binT ha hb I h fun v u s2 x y H2 I2 rx ry q => ho pins s2 σ H2 x y v u Q I2 rx ry q) hm
def tTest (t : TE) : TT := fun σ H Q => t σ H fun x H' => ∃ k, x = .bl k ∧ Q k H'
theorem pt_cmpR {op : CmpOp} {r : R2} (ho : OpR X (compareOp op) r) (ha : PE X a ta) (hb : PE X b tb) (hm : behindInMarks op b = false) : PT X (.Compare a [op] [b] pos) (tTest (tOp r ta tb)) := by
  intro pins s σ H Q I h
  refine wpAny_isTrue_Compare1 (thn (ha pins s σ H _ I h) fun v s1 ⟨x, H1, I1, r1, q1⟩ => thn (hb pins s1 σ H1 _ I1 q1) fun u s2 ⟨y, H2, I2, r2, q2⟩ =>
    thn (ho pins s2 σ H2 x y v u _ I2 r1 r2 q2) fun c s3 ⟨z, H3, I3, r3, k, e, q3⟩ => ?_) hm
  subst e
  cases r3
  exact wpAny_truthy_bool ⟨H3, I3, q3⟩
def tChain (r r' : R2) (ta tb tc : TE) : TE := fun σ H Q => ta σ H fun x H1 => tb σ H1 fun y H2 => r x y H2 fun z H3 => ∃ k, z = .bl k ∧
  (if k = true then tc σ H3 fun w' H4 => r' y w' H4 Q else Q (.bl false) H3)
def TruV (K : PySem.W.Frag) (x : V) (H : Hp) (k : Bool) : Prop :=
  match x with
  | .non => k = false
  | .bl b => k = b
  | .int i => k = (i != 0)
  | .str y => y.length ≤ sizeLine ∧ k = ((y.length : Int) != 0)
  | .byt y => y.size ≤ sizeLine ∧ k = ((y.size : Int) != 0)
  | .ref p => (∃ xs, SqL K H p xs ∧ k = !xs.isEmpty) ∨ (∃ xs, SqT K H p xs ∧ k = !xs.isEmpty) ∨ ∃ kvs, H p = some (.dK kvs) ∧ k = !kvs.isEmpty
  | _ => False
theorem line63 : (sizeLine : Nat) < 2 ^ 63 := by rw [sizeLine_eq]; decide
theorem op_add_str : OpR X (binaryOp .Add) (fun x y H Q => ∃ i j, x = .str i ∧ y = .str j ∧ i.length + j.length ≤ sizeLine ∧ Q (.str (i ++ j)) H) := by
  intro pins s σ H x y v u Q I rx ry h
  obtain ⟨i, j, rfl, rfl, hz, q⟩ := h
  obtain ⟨t, rfl⟩ := rx
  obtain ⟨t', rfl⟩ := ry
  exact add_str (fun t' tk => ⟨.str (i ++ j), H, I.tok _, ⟨_, rfl⟩, q⟩) hz
def PlainIxT (b : Expr) : Prop := ∀ o i, subscripted b false o i = operate [o, i] (getItem o i)
theorem vals1 {x : V} {us : List Value} (r : Vals [x] us) : ∃ u, us = [u] ∧ RelV x u := by
  cases r with
  | cons r1 r2 => cases r2; exact ⟨_, rfl, r1⟩
theorem vals2 {x y : V} {us : List Value} (r : Vals [x, y] us) : ∃ u w', us = [u, w'] ∧ RelV x u ∧ RelV y w' := by
  cases r with
  | cons r1 r2 =>
    cases r2 with
    | cons r3 r4 => cases r4; exact ⟨_, _, rfl, r1, r3⟩
theorem call_min2 (hc : X.calm = true) : CallR X (.builtin "min") (fun xs H Q => ∃ i j, xs = [.int i, .int j] ∧ Q (.int (if j < i then j else i)) H) := by
  intro pins s σ H xs us Q I r h
  obtain ⟨i, j, rfl, q⟩ := h
  obtain ⟨u, w', rfl, ⟨t, rfl⟩, ⟨t', rfl⟩⟩ := vals2 r
  refine min_two_ints (I.ok.hd hc) fun h' tk k => ⟨_, H, I.kept k, ?_, q⟩
  by_cases hj : j < i
  · rw [if_pos hj, if_pos hj]; exact ⟨_, rfl⟩
  · rw [if_neg hj, if_neg hj]; exact ⟨_, rfl⟩
theorem call_str_int : CallR X (.type "str") (fun xs H Q => ∃ i, xs = [.int i] ∧ i.natAbs.log2 < 1920 ∧ Q (.str (toString i)) H) := by
  intro pins s σ H xs us Q I r h
  obtain ⟨i, rfl, hz, q⟩ := h
  obtain ⟨u, rfl, t, rfl⟩ := vals1 r
  exact PySem.P.str_of_int hz ⟨.str _, H, I.tok _, ⟨_, rfl⟩, q⟩
def LenV (K : PySem.W.Frag) (x : V) (H : Hp) (n : Nat) : Prop :=
  match x with
  | .str y => y.length ≤ sizeLine ∧ n = y.length
  | .byt y => y.size ≤ sizeLine ∧ n = y.size
  | .ref p => (∃ xs, SqL K H p xs ∧ n = xs.length) ∨ ∃ xs, SqT K H p xs ∧ n = xs.length
  | _ => False
end
end L2
namespace L2
open PySem PySem.Spec PyProof.Rows
structure ObjM (h : Heap) (x dx C : Addr) (mA : Str → Option Value) : Prop where
  obj : h.get? x = some (PySem.W.instObj C dx)
  ns : h.Ns1 dx mA
  ne : dx ≠ x
theorem lookIn_ns {h : Heap} {dx : Addr} {mA : Str → Option Value} (n : h.Ns1 dx mA) : ∃ od, h.get? dx = some od ∧ ∀ name, PySem.W.lookIn name od = some (mA name) := by
  obtain ⟨o, es, ep, ho, hd, hk, _, hm⟩ := n
  refine ⟨o, ho, fun name => ?_⟩
  have e := hm name
  unfold nsFind findBy at e
  rw [← Array.find?_toList] at e
  unfold PySem.W.lookIn
  rw [hd]
  dsimp only
  split
  · rename_i y q
    rw [q] at e
    exact congrArg some e
  · rename_i q
    rw [q] at e
    have a : es.toList.any (·.refKey) = false := by
      rw [List.any_eq_false]
      intro y hy
      obtain ⟨z, t, hkey⟩ := hk y (Array.mem_toList_iff.mp hy)
      simp [DictEntry.refKey, hkey]
    have a' : ¬ es.toList.any (·.refKey) = true := by rw [a]; exact Bool.false_ne_true
    rw [if_neg a']
    exact congrArg some e
theorem ObjM.look {h : Heap} {x dx C : Addr} {mA : Str → Option Value} (I : ObjM h x dx C mA) : ∃ od, PySem.W.InstAt h x (PySem.W.instObj C dx) C (some od) ∧ ∀ name, PySem.W.lookIn name od = some (mA name) :=
  let ⟨od, ho, hl⟩ := lookIn_ns I.ns
  ⟨od, ⟨I.obj, rfl, rfl, ho⟩, hl⟩
section
variable {prog : Program} {w : World} {A : Around} {E : Value → Shared → Prop} {s : Shared} {K : PySem.W.Frag} {x dx C f : Addr} {mA : Str → Option Value} {name : Str} {v : Value}
theorem get_map {expr : Bool} {Q : Value → Shared → Prop} (X : K.In s.heap) (I : ObjM s.heap x dx C mA) (hg : PySem.W.plainGet K C name = true) (hh : PySem.W.hasDictIn K C = true)
    (ha : PySem.W.findIn K (.ref C) name = some none) (hv : mA name = some v) (hv' : PySem.W.handedIn v = true) (h : Q v { s with toks := s.toks + 1 }) :
    wpAny (model prog w) A (getAttr (.ref x) name expr) Q E s := by
  obtain ⟨od, J, hl⟩ := I.look
  exact PySem.W.get_value X J (PySem.W.plainGet_of hg).1 (PySem.W.findObj_own hh ha rfl (by rw [hl, hv])) hv' h
theorem set_map {ns : List Str} {Q : Unit → Shared → Prop} (X : K.In s.heap) (I : ObjM s.heap x dx C mA)
    (hs : PySem.W.findIn K (.ref C) "__setattr__" = some (some (.builtin "object.__setattr__"))) (hp : PySem.W.plainOver K C = true) (ht : PySem.W.takerIn K C name = some none) (hh : PySem.W.hasDictIn K C = true)
    (hw : PySem.Within mA ns) (hsz : ns.length ≤ sizeLine)
    (h : ∀ h', ObjM h' x dx C (fun y => if y = name then some v else mA y) → Heap.SameBut dx s.heap h' → Q () { s with heap := h', toks := s.toks + 2 }) :
    wpAny (model prog w) A (setAttr (.ref x) name v) Q E s := by
  obtain ⟨od, J, hl⟩ := I.look
  refine PySem.W.set_plain X J hs (PySem.W.osa_open (s := { s with toks := s.toks + 1 }) (r := none) X J hp ht fun b => ?_)
  obtain ⟨cd, hc, hd'⟩ := PySem.W.any_some hh
  have hx : s.heap.get? x = some ⟨.ref C, some dx, .plain, #[]⟩ := I.obj
  refine wpAny_bind (wpAny_pure (wpAny_bind (wpAny_bind (wpAny_loadPart hx (wpAny_bind (PySem.W.Looks.here (s := { s with toks := s.toks + 1 }) (PySem.W.looks_clsIn X hc) ?_))))))
  rw [hd']
  refine wpAny_pure (a := some dx) (wpAny_bind (wpAny_pure (wpAny_bind ?_)))
  refine wpAny_nsSet1 (s := { s with toks := s.toks + 1 }) I.ns fun h' hn2 hs2 => ?_
  obtain ⟨oD, esD, epD, hoD, hdD, hcD⟩ := hn2.count (PySem.Within.cons name v hw)
  refine wpAny_bind (wpAny_lookBehind hoD (by rw [hdD]; exact pastItsLine_dict (Nat.le_trans hcD (by rw [List.length_cons]; omega))) ?_)
  exact wpAny_pure (h _ ⟨(hs2.2 _ (Ne.symm I.ne)).trans I.obj, hn2, I.ne⟩ hs2)
theorem make_map {R : Result → Shared → Prop} {vs : List Value} {kw : List (Str × Value)} (X : K.In s.heap) (hm : PySem.W.makesIn K C = true)
    (hi : PySem.W.findIn K (.ref C) "__init__" = some (some (.ref f))) (hf : PySem.W.typeIn K (.ref f) = some (.type "function"))
    (h : codeAny (model prog w) (A.under (.builtin "type.__call__" ⟨.ref C :: vs, kw⟩)) (.call (.ref f) ⟨.ref (s.heap.objs.size + 1) :: vs, kw⟩) (PySem.W.InitBack (s.heap.objs.size + 1) R)
      { s with heap := (s.heap.push PySem.W.emptyDict).push (PySem.W.instObj C s.heap.objs.size) }) :
    codeAny (model prog w) A (.call (.ref C) ⟨vs, kw⟩) R s := by
  obtain ⟨hh, g, d, t, os⟩ := s
  exact PySem.W.make_core (PySem.W.makes_of X hm) (PySem.W.looks_findIn X hi) (fun self => PySem.W.bind_fn X self hf) (.inl rfl) h
end
def putF (f : Str) (v : V) : List (Str × V) → List (Str × V)
  | [] => [(f, v)]
  | (g, x) :: r => if g = f then (g, v) :: r else (g, x) :: putF f v r
theorem lookup_putF (f g : Str) (v : V) : ∀ fs : List (Str × V), (putF f v fs).lookup g = if g = f then some v else fs.lookup g
  | [] => by
    show List.lookup g [(f, v)] = _
    by_cases h : g = f
    · have hb : (g == f) = true := beq_iff_eq.mpr h
      simp only [List.lookup, hb, if_pos h]
    · have hb : (g == f) = false := beq_eq_false_iff_ne.mpr h
      simp only [List.lookup, hb, if_neg h]
  | (k, x) :: r => by
    have ih := lookup_putF f g v r
    rw [show putF f v ((k, x) :: r) = (if k = f then (k, v) :: r else (k, x) :: putF f v r) from rfl]
    by_cases hk : k = f
    · rw [if_pos hk]
      by_cases h : g = k
      · have hb : (g == k) = true := beq_iff_eq.mpr h
        simp only [List.lookup, hb, if_pos (h.trans hk)]
      · have hb : (g == k) = false := beq_eq_false_iff_ne.mpr h
        simp only [List.lookup, hb, if_neg (fun e : g = f => h (e.trans hk.symm))]
    · rw [if_neg hk]
      by_cases h : g = k
      · have hb : (g == k) = true := beq_iff_eq.mpr h
        simp only [List.lookup, hb, if_neg (fun e : g = f => hk (h.symm.trans e))]
      · have hb : (g == k) = false := beq_eq_false_iff_ne.mpr h
        simp only [List.lookup, hb]
        exact ih
theorem keys_putF (f : Str) (v : V) : ∀ fs : List (Str × V), f ∈ (putF f v fs).map (·.1) ∧ ∀ g, g ∈ fs.map (·.1) → g ∈ (putF f v fs).map (·.1)
  | [] => ⟨by simp [putF], fun g h => by simp at h⟩
  | (k, x) :: r => by
    obtain ⟨i1, i2⟩ := keys_putF f v r
    rw [show putF f v ((k, x) :: r) = (if k = f then (k, v) :: r else (k, x) :: putF f v r) from rfl]
    by_cases hk : k = f
    · rw [if_pos hk]
      subst hk
      exact ⟨by simp, fun g h => by simpa using h⟩
    · rw [if_neg hk]
      refine ⟨?_, fun g h => ?_⟩
      · rw [List.map_cons]
        exact List.mem_cons_of_mem _ i1
      · rw [List.map_cons] at h ⊢
        rcases List.mem_cons.mp h with e | e
        · exact List.mem_cons.mpr (.inl e)
        · exact List.mem_cons_of_mem _ (i2 g e)
theorem length_putF (f : Str) (v : V) : ∀ fs : List (Str × V), (putF f v fs).length ≤ fs.length + 1
  | [] => by simp [putF]
  | (k, x) :: r => by
    have ih := length_putF f v r
    rw [show putF f v ((k, x) :: r) = (if k = f then (k, v) :: r else (k, x) :: putF f v r) from rfl]
    by_cases hk : k = f
    · rw [if_pos hk, List.length_cons, List.length_cons]; omega
    · rw [if_neg hk, List.length_cons, List.length_cons]; omega
theorem RelO.some_of {v : V} {o : Option Value} (r : RelO (some v) o) : ∃ u, o = some u ∧ RelV v u := by
  cases o with
  | none => exact (show False from r).elim
  | some u => exact ⟨u, rfl, r⟩
theorem handed_of {v : V} {u : Value} (r : RelV v u) : PySem.W.handedIn u = true := by
  cases v with
  | non => cases (show u = Value.none from r); rfl
  | bl b => cases (show u = Value.bool b from r); rfl
  | int i => obtain ⟨t, e⟩ := (show ∃ t, u = Value.int i t from r); cases e; rfl
  | str x => obtain ⟨t, e⟩ := (show ∃ t, u = Value.str x t from r); cases e; rfl
  | byt b => obtain ⟨t, e⟩ := (show ∃ t, u = Value.bytes b t from r); cases e; rfl
  | flt b => obtain ⟨t, e⟩ := (show ∃ t, u = Value.float b t from r); cases e; rfl
  | ref a => cases (show u = Value.ref a from r); rfl
  | ty n => cases (show u = Value.type n from r); rfl
section
variable {P : Program} {w : World} {H H' : Hp} {h h' : Heap} {a C dx : Addr} {fs fs' : List (Str × V)}
theorem ins_get (hok : HOk P w H h) (e : H a = some (.ins C dx fs)) : ∃ mA, ObjM h a dx C mA ∧ (∀ f, RelO (fs.lookup f) (mA f)) ∧ PySem.Within mA (fs.map (·.1)) ∧ fs.length ≤ 1000 ∧ H dx = some (.own a) := by
  obtain ⟨d, z, ne, ob, mA, n, r, q⟩ := (show ObjOk P w H h a (.ins C dx fs) from hok a _ e)
  exact ⟨mA, ⟨ob, n, ne⟩, r, q, z, d⟩
end
structure Cls (K : PySem.W.Frag) (C : Addr) : Prop where
  pg : PySem.W.plainGet K C Str.empty = true
  hd : PySem.W.hasDictIn K C = true
  po : PySem.W.plainOver K C = true
  sa : PySem.W.findIn K (.ref C) "__setattr__" = some (some (.builtin "object.__setattr__"))
theorem Cls.get {K : PySem.W.Frag} {C : Addr} (c : Cls K C) (f : Str) : PySem.W.plainGet K C f = true := c.pg
def NoAttr (K : PySem.W.Frag) (C : Addr) (f : Str) : Prop := PySem.W.findIn K (.ref C) f = some none
theorem NoAttr.taker {K : PySem.W.Frag} {C : Addr} {f : Str} (n : NoAttr K C f) : PySem.W.takerIn K C f = some none := by
  unfold PySem.W.takerIn
  rw [show PySem.W.findIn K (.ref C) f = some none from n]
  rfl
structure Con (K : PySem.W.Frag) (C : Addr) (f : Str) (v : V) (u : Value) : Prop where
  at_ : PySem.W.findIn K (.ref C) f = some (some u)
  rel : RelV v u
  get : PySem.W.specialIn K u "__get__" = some none
  cp : PySem.W.copiedNames.contains f = false
structure Meth (K : PySem.W.Frag) (C : Addr) (m : Str) (f : Addr) : Prop where
  at_ : PySem.W.findIn K (.ref C) m = some (some (.ref f))
  fn : PySem.W.isFn K (.ref f) = true
  kp : PySem.W.keepIn K (.ref f) = true
section
variable {X : Cx} {pins : List (Addr × Obj)} {σ : St} {H : Hp} {s : Shared} {a C dx : Addr} {fs : List (Str × V)} {f : Str} {v : V} {A : Around} {E : Value → Shared → Prop}
theorem getattr_ok {b : Bool} {Q : Value → Shared → Prop} (I : Inv X pins σ H s) (e : H a = some (.ins C dx fs)) (c : Cls X.K C) (n : NoAttr X.K C f) (l : fs.lookup f = some v)
    (h : ∀ u s', Inv X pins σ H s' → RelV v u → Q u s') : wpAny (model X.prog X.w) A (getAttr (.ref a) f b) Q E s := by
  obtain ⟨mA, O, r, _, _, _⟩ := ins_get I.hok e
  obtain ⟨u, hu, ru⟩ := RelO.some_of (v := v) (o := mA f) (by rw [← l]; exact r f)
  exact get_map I.kIn O (c.get f) c.hd n hu (handed_of ru) (h u _ (I.tok _) ru)
theorem setattr_ok {y : V} {u : Value} {Q : Unit → Shared → Prop} (I : Inv X pins σ H s) (e : H a = some (.ins C dx fs)) (c : Cls X.K C) (n : NoAttr X.K C f) (hl : fs.length < 1000) (ry : RelV y u)
    (h : ∀ s', Inv X pins σ (upd H a (.ins C dx (putF f y fs))) s' → Q () s') : wpAny (model X.prog X.w) A (setAttr (.ref a) f u) Q E s := by
  obtain ⟨mA, O, r, wi, _, ho⟩ := ins_get I.hok e
  have hz : (fs.map (·.1)).length ≤ sizeLine := by rw [List.length_map, sizeLine_eq]; omega
  refine set_map I.kIn O c.sa c.po n.taker c.hd wi hz fun h' O' sb => h _ ?_
  have hd : ∃ o, h'.get? dx = some o := let ⟨o, _, _, e', _⟩ := O'.ns; ⟨o, e'⟩
  refine I.write (x := a) (e := dx) (by rw [e]; exact True.intro) (.inr ho) (fun b q hb z => (sb.2 b hb).trans z) hd ?_
  refine ⟨by rw [upd_ne O.ne]; exact ho, ?_, O.ne, O'.obj, _, O'.ns, fun g => ?_, fun g hg => ?_⟩
  · have := length_putF f y fs; omega
  · show RelO ((putF f y fs).lookup g) (if g = f then some u else mA g)
    rw [lookup_putF]
    by_cases q : g = f
    · rw [if_pos q, if_pos q]; exact ry
    · rw [if_neg q, if_neg q]; exact r g
  · by_cases q : g = f
    · rw [q]; exact (keys_putF f y fs).1
    · refine (keys_putF f y fs).2 g (wi g fun z => hg ?_)
      show (if g = f then some u else mA g) = none
      rw [if_neg q]; exact z
theorem Inv.made (I : Inv X pins σ H s) : Inv X pins σ (upd (upd H s.heap.objs.size (.own (s.heap.objs.size + 1))) (s.heap.objs.size + 1) (.ins C s.heap.objs.size []))
    { s with heap := (s.heap.push PySem.W.emptyDict).push (PySem.W.instObj C s.heap.objs.size) } := by
  have e1 : (s.heap.push PySem.W.emptyDict).get? s.heap.objs.size = some PySem.W.emptyDict := Heap.get?_push_size s.heap rfl
  have e2 : ((s.heap.push PySem.W.emptyDict).push (PySem.W.instObj C s.heap.objs.size)).get? (s.heap.objs.size + 1) = some (PySem.W.instObj C s.heap.objs.size) := by
    have := Heap.get?_push_size (s.heap.push PySem.W.emptyDict) (o := PySem.W.instObj C s.heap.objs.size) rfl
    rwa [Heap.size_push] at this
  have e3 : (s.heap.push PySem.W.emptyDict).Ns s.heap.objs.size (fun _ => none) := ⟨PySem.W.emptyDict, #[], _, e1, rfl, (fun e he => absurd he (by simp)), fun _ => rfl⟩
  have I1 := I.laid (a := s.heap.objs.size) (o := .own (s.heap.objs.size + 1)) (h' := s.heap.push PySem.W.emptyDict) (t' := s.toks) (fun b u q => Heap.get?_push_of_some _ q) (Nat.le_refl _) ⟨_, e1⟩
  refine I1.laid (a := s.heap.objs.size + 1) (o := .ins C s.heap.objs.size []) (t' := s.toks) (fun b u q => Heap.get?_push_of_some _ q) (Nat.le_of_eq (Heap.size_push _ _)) ?_
  have ne : s.heap.objs.size ≠ s.heap.objs.size + 1 := Nat.ne_of_lt (Nat.lt_succ_self _)
  refine ⟨by rw [upd_ne ne, upd_same], Nat.zero_le _, ne, e2, fun _ => none, (Heap.Ns1.of_empty e3).at fun o q => Heap.get?_push_of_some _ q, fun _ => True.intro, fun y hy => absurd rfl hy⟩
theorem attr_of {prog : Program} {w : World} {env : Env} {e : Expr} {f : Str} {pos : Pos} {s : Shared} {Q : Value → Shared → Prop} (hb : attributeBase e f env (eval e env) = eval e env)
    (h : wpAny (model prog w) A (eval e env) (fun o s₁ => wpAny (model prog w) A (getAttr o f true) Q E s₁) E s) : wpAny (model prog w) A (eval (.Attribute e f pos) env) Q E s :=
  Attribute_any_ h (by rw [arm_eval_Attribute, hb])
end
def tFld (K : PySem.W.Frag) (ta : TE) (f : Str) : TE := fun σ H Q => ta σ H fun x H1 => ∃ a C dx fs v, x = .ref a ∧ H1 a = some (.ins C dx fs) ∧ Cls K C ∧ NoAttr K C f ∧ fs.lookup f = some v ∧ Q v H1
def tCon (K : PySem.W.Frag) (ta : TE) (f : Str) : TE := fun σ H Q => ta σ H fun x H1 => ∃ a C dx fs v u, x = .ref a ∧ H1 a = some (.ins C dx fs) ∧ Cls K C ∧ Con K C f v u ∧ fs.lookup f = none ∧ Q v H1
def sFld (K : PySem.W.Frag) (ta tv : TE) (f : Str) : TS := fun D σ H => tv σ H fun y H1 => ta σ H1 fun x H2 => ∃ a C dx fs, x = .ref a ∧ H2 a = some (.ins C dx fs) ∧ Cls K C ∧ NoAttr K C f ∧ fs.length < 1000 ∧
  D.nx σ (upd H2 a (.ins C dx (putF f y fs)))
def InOp (X : Cx) (op : Operator) (rd : V → V → Hp → VK → Prop) : Prop :=
  ∀ (pins : List (Addr × Obj)) (s : Shared) (σ : St) (H : Hp) (x y : V) (u v : Value) (Q : VK), Inv X pins σ H s → RelV x u → RelV y v → rd x y H Q → wpAny (model X.prog X.w) X.A (inplaceOp op u v) (EP X pins σ Q) X.xe s
def sFldAug (K : PySem.W.Frag) (ta tv : TE) (rd : V → V → Hp → VK → Prop) (f : Str) : TS := fun D σ H => ta σ H fun x H1 => ∃ a C dx fs v, x = .ref a ∧ H1 a = some (.ins C dx fs) ∧ Cls K C ∧ NoAttr K C f ∧ fs.lookup f = some v ∧
  tv σ H1 fun y H2 => rd v y H2 fun z H3 => ∃ dx' fs', H3 a = some (.ins C dx' fs') ∧ fs'.length < 1000 ∧ D.nx σ (upd H3 a (.ins C dx' (putF f z fs')))
section
variable {X : Cx} {o e value : Expr} {f : Str} {pos pos' tpos : Pos} {ta tv : TE}
theorem pe_fld (he : PE X e ta) (hb : attributeBase e f X.env (eval e X.env) = eval e X.env) : PE X (.Attribute e f pos) (tFld X.K ta f) := by
  intro pins s σ H Q I h
  refine attr_of hb (thn (he pins s σ H _ I h) fun u s1 ⟨x, H1, I1, rx, a, C, dx, fs, v, ex, ea, c, n, l, q⟩ => ?_)
  subst ex
  obtain rfl : u = Value.ref a := rx
  exact getattr_ok I1 ea c n l fun u' s2 I2 ru => ⟨v, H1, I2, ru, q⟩
theorem ps_fld (ha : PE X o ta) (hv : PE X value tv) (hs : swapsWith value (some (.Attribute o f pos')) pos.line X.env = pure false) : PS X (.Assign [.Attribute o f pos'] value pos) (sFld X.K ta tv f) := by
  intro pins s σ H D I h
  refine plainObj_wpAny_Assign_Attribute (thn (hv pins s σ H _ I h) fun u s1 ⟨y, H1, I1, ry, q⟩ => thn (ha pins s1 σ H1 _ I1 q) fun ov s2 ⟨x, H2, I2, rx, a, C, dx, fs, ex, ea, c, n, l, q2⟩ => ?_) hs
  subst ex
  obtain rfl : ov = Value.ref a := rx
  exact setattr_ok I2 ea c n l ry fun s3 I3 => ⟨σ, _, I3, q2⟩
def rAdd : V → V → Hp → VK → Prop := fun x y H Q => ∃ i j, x = .int i ∧ y = .int j ∧ Q (.int (i + j)) H
def rSub : V → V → Hp → VK → Prop := fun x y H Q => ∃ i j, x = .int i ∧ y = .int j ∧ Q (.int (i - j)) H
end
section
variable {X : Cx} {pins : List (Addr × Obj)} {σ : St} {H : Hp} {s : Shared} {A : Around} {E : Value → Shared → Prop} {Q : Value → Shared → Prop} {c : Value} {b : Bool}
inductive TyOf (K : PySem.W.Frag) (H : Hp) : V → Value → Prop where
  | non : TyOf K H .non (.type "NoneType")
  | bl (x : Bool) : TyOf K H (.bl x) (.type "bool")
  | int (i : Int) : TyOf K H (.int i) (.type "int")
  | str (x : Str) : TyOf K H (.str x) (.type "str")
  | flt (x : UInt64) : TyOf K H (.flt x) (.type "float")
  | lst {a : Addr} {xs : List V} (e : H a = some (.lst xs)) : TyOf K H (.ref a) (.type "list")
  | frz {a : Addr} {o : Obj} {xs : List V} (e : H a = some (.frz o (.lst xs))) : TyOf K H (.ref a) (.type "list")
  | tup {a : Addr} {xs : List V} (e : H a = some (.tup xs)) : TyOf K H (.ref a) (.type "tuple")
  | dK {a : Addr} {kvs : List (Key × V)} (e : H a = some (.dK kvs)) : TyOf K H (.ref a) (.type "dict")
  | dT {a : Addr} {kvs : List (List Key × V)} (e : H a = some (.dT kvs)) : TyOf K H (.ref a) (.type "dict")
  | ins {a C dx : Addr} {fs : List (Str × V)} (e : H a = some (.ins C dx fs)) (cl : Cls K C) (ha : PySem.W.findIn K (.ref C) "__class__" = some (some (.builtin "object.__class__")))
      (hn : PySem.W.specialIn K (.builtin "object.__class__") "__get__" = some (some (.builtin "getset_descriptor.__get__"))) (htk : PySem.W.takesIn K (.builtin "object.__class__") = some true)
      (hm : PySem.W.mroIn K C (.type "object") = some true) : TyOf K H (.ref a) (.ref C)
theorem isinst_ok {x : V} {u t : Value} (I : Inv X pins σ H s) (rx : RelV x u) (ty : TyOf X.K H x t) (e : PySem.W.kitOne X.K t c = some b) (h : ∀ tk, Q (.bool b) { s with toks := tk }) :
    wpAny (model X.prog X.w) A (call (.builtin "isinstance") [u, c]) Q E s := by
  cases ty with
  | non => cases (show u = Value.none from rx); exact PySem.W.kia_one PySem.W.kitx_none I.kIn True.intro e (fun z => nomatch z) h
  | bl y => cases (show u = Value.bool y from rx); exact PySem.W.kia_one PySem.W.kitx_bool I.kIn True.intro e (fun z => nomatch z) h
  | int i => obtain ⟨t, q⟩ := (show ∃ t, u = Value.int i t from rx); cases q; exact PySem.W.kia_one PySem.W.kitx_int I.kIn True.intro e (fun z => nomatch z) h
  | str y => obtain ⟨t, q⟩ := (show ∃ t, u = Value.str y t from rx); cases q; exact PySem.W.kia_one PySem.W.kitx_str I.kIn True.intro e (fun z => nomatch z) h
  | flt y => obtain ⟨t, q⟩ := (show ∃ t, u = Value.float y t from rx); cases q; exact PySem.W.kia_one PySem.W.kitx_float I.kIn True.intro e (fun z => nomatch z) h
  | @lst a xs ea =>
    cases (show u = Value.ref a from rx)
    obtain ⟨_, _, n, _, h1⟩ := (show ObjOk X.prog X.w H s.heap a (.lst xs) from I.hok a _ ea)
    exact PySem.W.kia_one PySem.W.kitx_list I.kIn ⟨_, h1, rfl⟩ e (fun z => nomatch z) h
  | @frz a ob xs ea =>
    cases (show u = Value.ref a from rx)
    obtain ⟨_, _, _, n, _, h1⟩ := (show ObjOk X.prog X.w H s.heap a (.frz ob (.lst xs)) from I.hok a _ ea)
    exact PySem.W.kia_one PySem.W.kitx_list I.kIn ⟨_, h1, rfl⟩ e (fun z => nomatch z) h
  | @tup a xs ea =>
    cases (show u = Value.ref a from rx)
    obtain ⟨_, _, _, p⟩ := (show ObjOk X.prog X.w H s.heap a (.tup xs) from I.hok a _ ea)
    obtain ⟨o, h1, h2, _⟩ := p
    exact PySem.W.kia_one PySem.W.kitx_tuple I.kIn ⟨o, h1, h2⟩ e (fun z => nomatch z) h
  | @dK a kvs ea =>
    cases (show u = Value.ref a from rx)
    obtain ⟨_, _, vs, _, p⟩ := (show ObjOk X.prog X.w H s.heap a (.dK kvs) from I.hok a _ ea)
    obtain ⟨o, es, ep, h1, h2, _⟩ := p
    exact PySem.W.kia_one PySem.W.kitx_dict I.kIn ⟨o, h1, h2.1⟩ e (fun z => nomatch z) h
  | @dT a kvs ea =>
    cases (show u = Value.ref a from rx)
    obtain ⟨_, _, xs, _, o, es, ep, h1, h2, _⟩ := (show ObjOk X.prog X.w H s.heap a (.dT kvs) from I.hok a _ ea)
    exact PySem.W.kia_one PySem.W.kitx_dict I.kIn ⟨o, h1, h2.1⟩ e (fun z => nomatch z) h
  | @ins a C dx fs ea cl ha hn htk hm =>
    cases (show u = Value.ref a from rx)
    obtain ⟨mA, O, _⟩ := ins_get I.hok ea
    obtain ⟨od, J, _⟩ := O.look
    exact PySem.W.kia_one (PySem.W.kitx_own (cl.get _) cl.hd ha hn htk hm) I.kIn J e (fun z => nomatch z) h
end
end L2
namespace L2
open PySem PySem.Spec PyProof.Rows
structure Room (k : Nat) (A : Around) : Prop where
  hd : A.handled = none
  dp : A.depth + 3 * k + 5 < recursionLimit
  un : A.units + 16 * k + 200 < cLine
theorem Room.mono {j k : Nat} {A : Around} (r : Room k A) (h : j ≤ k) : Room j A := ⟨r.hd, by have := r.dp; omega, by have := r.un; omega⟩
theorem Room.deeper {k : Nat} {A : Around} (r : Room (k + 1) A) (env : Env) : Room k (A.deeper env) :=
  ⟨r.hd, by have := r.dp; show A.depth + 1 + 3 * k + 5 < _; omega, by have := r.un; show A.units + 3 + 16 * k + 200 < _; omega⟩
theorem make_depth {A : Around} {C : Addr} {us : List Value} {kw : List (Str × Value)} : (A.under (.builtin "type.__call__" ⟨.ref C :: us, kw⟩)).depth = A.depth + 1 := by
  first | rfl | simp [Around.under, Code.weight, Code.isCreation, Code.isGuard, Code.isCaller, Code.frames, Code.isFrame, guardIds]
theorem make_units {A : Around} {C : Addr} {us : List Value} {kw : List (Str × Value)} : (A.under (.builtin "type.__call__" ⟨.ref C :: us, kw⟩)).units = A.units + 1 := by
  first | rfl | simp [Around.under, Code.cUnits, Code.frames, Code.isFrame]
theorem Room.make {k : Nat} {A : Around} (r : Room (k + 1) A) (C : Addr) (us : List Value) (kw : List (Str × Value)) : Room k (A.under (.builtin "type.__call__" ⟨.ref C :: us, kw⟩)) :=
  ⟨r.hd, by have := r.dp; rw [make_depth]; omega, by have := r.un; rw [make_units]; omega⟩
theorem Room.depth {k : Nat} {A : Around} (r : Room k A) : A.depth < recursionLimit := by have := r.dp; omega
theorem Room.units {k : Nat} {A : Around} (r : Room k A) : A.units + 64 < cLine := by have := r.un; omega
def tNil : TA := fun _ H Q => Q [] H
def tCons (ta : TE) (tr : TA) : TA := fun σ H Q => ta σ H fun x H1 => tr σ H1 fun xs H2 => Q (x :: xs) H2
section
variable {X : Cx} {e : Expr} {es : List Expr} {te : TE} {t : TA} {pos : Pos}
theorem pa_nil : PA X [] tNil := fun _ _ _ _ H Q I h => Calls.spliced_nil ⟨[], H, I, .nil, h⟩
theorem pa_cons (ha : PE X e te) (hr : PA X es t) (hs : starEach (e :: es) X.env = (false, eval e X.env) :: starEach es X.env := by rfl) : PA X (e :: es) (tCons te t) := by
  intro pos pins s σ H Q I h
  rw [hs]
  show wpAny _ _ (spliced ((false, eval e X.env) :: backTo pos (starEach es X.env))) _ _ s
  refine Calls.spliced_cons (thn (ha pins s σ H _ I h) fun u s1 ⟨x, H1, I1, r1, q1⟩ => ?_)
  exact thn (hr pos pins s1 σ H1 _ I1 q1) fun us s2 ⟨xs, H2, I2, r2, q2⟩ => ⟨x :: xs, H2, I2, .cons r1 r2, q2⟩
def tTup (t : TA) : TE := fun σ H Q => t σ H fun xs H1 => xs.length ≤ sizeLine ∧ ∀ p, H1 p = none → Q (.ref p) (upd H1 p (.tup xs))
def tLst (t : TA) : TE := fun σ H Q => t σ H fun xs H1 => xs.length ≤ sizeLine ∧ ∀ p, H1 p = none → Q (.ref p) (upd H1 p (.lst xs))
theorem pe_tup {x1} (h : PA X es t) : PE X (.Tuple es x1 pos) (tTup t) := by
  intro pins s σ H Q I hq
  refine wpAny_Tuple_spliced (thn (h pos pins s σ H _ I hq) fun us s1 ⟨xs, H1, I1, r, z, q⟩ => ⟨by rw [← r.length]; exact z, ?_⟩)
  have hf : H1 s1.heap.objs.size = none := I1.hok.fresh (Nat.le_refl _)
  refine ⟨.ref s1.heap.objs.size, upd H1 s1.heap.objs.size (.tup xs), I1.laid (t' := s1.toks) (fun b u e => Heap.get?_push_of_some _ e) (Nat.le_refl _) ?_, rfl, q _ hf⟩
  exact ⟨z, us, r, ⟨_, Heap.get?_push_size _ rfl, rfl, _, rfl⟩⟩
end
abbrev Sp := List V → Hp → VK → XK → Prop
abbrev CXT := List Env → Hp → Shared → XK → Value → Shared → Prop
structure Env0 (P : Program) (w : World) (K : PySem.W.Frag) (mg : Str → Option Value) (base : Heap) (A : Around) (outer : List Env) (s : Shared) (H : Hp) : Prop where
  frames : A.frames = some outer
  mod : Mod K mg base
  bs : ∀ b o, base.get? b = some o → s.heap.get? b = some o ∧ H b = none
  bsz : base.objs.size ≤ s.heap.objs.size
  funs : s.heap.FunFrames base outer
  frf : ∀ b ∈ frs outer, H b = none
  hok : HOk P w H s.heap
  bare : AllBare s.gens
def CE (outer : List Env) (P : Program) (w : World) (H : Hp) (s : Shared) (Q : VK) (u : Value) (s' : Shared) : Prop :=
  ∃ v H', s'.os = s.os ∧ AllBare s'.gens ∧ Un (frs outer) [] H H' s.heap s'.heap ∧ HOk P w H' s'.heap ∧ RelV v u ∧ Q v H'
def CR (CX : CXT) (outer : List Env) (P : Program) (w : World) (H : Hp) (s : Shared) (Q : VK) (E : XK) (r : Result) (s' : Shared) : Prop :=
  match r with
  | .ok (.ret u) => CE outer P w H s Q u s'
  | .ok _ => False
  | .error e => CX outer H s E e s'
structure FnOk (P : Program) (w : World) (K : PySem.W.Frag) (mg : Str → Option Value) (base : Heap) (CX : CXT) (k : Nat) (f : Addr) (fd : FuncData) (ps : List Str) (sp : Sp) : Prop where
  len : ∀ vs H Q E, sp vs H Q E → vs.length = ps.length
  run : ∀ (A : Around) (outer : List Env) (s : Shared) (H : Hp) (args : Args) (us : List Value) (vs : List V) (Q : VK) (E : XK), Room k A → Env0 P w K mg base A outer s H → BindsTo s fd args (ps.zip us) → Vals vs us → sp vs H Q E →
    codeAny (model P w) A (.call (.ref f) args) (CR CX outer P w H s Q E) s
theorem Env0.make {P : Program} {w : World} {K : PySem.W.Frag} {mg : Str → Option Value} {base : Heap} {A : Around} {outer : List Env} {s : Shared} {H : Hp} (e : Env0 P w K mg base A outer s H) (C : Addr) (us : List Value) (kw : List (Str × Value)) :
    Env0 P w K mg base (A.under (.builtin "type.__call__" ⟨.ref C :: us, kw⟩)) outer s H := ⟨by first | exact e.frames | (simpa [Around.under, Code.envs, Code.isFrame, pushEnvs] using e.frames), e.mod, e.bs, e.bsz, e.funs, e.frf, e.hok, e.bare⟩
section
variable {X : Cx} {pins : List (Addr × Obj)} {σ : St} {H : Hp} {s s' : Shared}
theorem Inv.env0 (I : Inv X pins σ H s) : Env0 X.prog X.w X.K X.mg X.base X.A X.stack s H :=
  ⟨I.ok.frames, I.ok.mod, I.bs, Nat.le_trans I.ok.bsz I.sz, I.stack, I.stkFree, I.hok, I.bare⟩
theorem Inv.after {Q : VK} {u : Value} (I : Inv X pins σ H s) (h : CE X.stack X.prog X.w H s Q u s') : EP X pins σ Q u s' := by
  obtain ⟨v, H', os, bare, un, hok, r, q⟩ := h
  obtain ⟨hh, g, d, t, os'⟩ := s'
  obtain rfl : os' = s.os := os
  exact ⟨v, H', I.call (h' := hh) (g' := g) (d' := d) (t' := t) (ch := []) un hok bare (fun b z => absurd z (by simp)), r, q⟩
end
def tCall (sp : Sp) (dvs : List V) (E : XK) (t : TA) : TE := fun σ H Q => t σ H fun vs H1 => sp (vs ++ dvs) H1 Q E
def tMeth (C : Addr) (m : Str) (sp : Sp) (dvs : List V) (E : XK) (ta : TE) (t : TA) : TE := fun σ H Q => ta σ H fun x H1 => ∃ a dx fs, x = .ref a ∧ H1 a = some (.ins C dx fs) ∧ fs.lookup m = none ∧
  t σ H1 fun vs H2 => sp (x :: (vs ++ dvs)) H2 Q E
def tMake (C : Addr) (sp : Sp) (dvs : List V) (E : XK) (t : TA) : TE := fun σ H Q => t σ H fun vs H1 => ∀ x dx, H1 x = none → H1 dx = none → dx ≠ x →
  sp (.ref x :: (vs ++ dvs)) (upd (upd H1 dx (.own x)) x (.ins C dx [])) (fun v H2 => v = .non ∧ Q (.ref x) H2) E
def Binds (K : PySem.W.Frag) (fd : FuncData) (ps : List Str) (ds : List Value) : Prop :=
  ∀ (s : Shared) (us : List Value), K.In s.heap → (us ++ ds).length = ps.length → BindsTo s fd ⟨us, []⟩ (ps.zip (us ++ ds))
theorem Binds.all {K : PySem.W.Frag} {fd : FuncData} {ps : List Str} (h : ∀ us : List Value, us.length = ps.length → bindArgs fd ⟨us, []⟩ = pure (ps.zip us)) : Binds K fd ps [] := fun s us _ hl => by
  rw [List.append_nil] at hl ⊢
  exact .of_eq (h us hl)
def Passes (CX : CXT) (X : Cx) (E : XK) : Prop := ∀ (pins : List (Addr × Obj)) (σ : St) (H : Hp) (s : Shared) (e : Value) (s' : Shared), Inv X pins σ H s → CX X.stack H s E e s' → X.xe e s'
section
variable {X : Cx} {CX : CXT} {k : Nat} {f C : Addr} {fd : FuncData} {ps : List Str} {sp : Sp} {dvs : List V} {ds : List Value} {E : XK} {x m : Str} {p pos apos : Pos} {e o : Expr} {es : List Expr} {ta : TE} {t : TA}
theorem run_fn {pins : List (Addr × Obj)} {σ : St} {H : Hp} {s : Shared} {Q : VK} {us : List Value} {vs : List V} (F : FnOk X.prog X.w X.K X.mg X.base CX k f fd ps sp) (hr : Room k X.A) (hb : Binds X.K fd ps ds) (hd : Vals dvs ds) (hx : Passes CX X E)
    (I : Inv X pins σ H s) (r : Vals vs us) (h : sp (vs ++ dvs) H Q E) : wpAny (model X.prog X.w) X.A (call (.ref f) us) (EP X pins σ Q) X.xe s := by
  have r2 : Vals (vs ++ dvs) (us ++ ds) := r.append hd
  have hl : (us ++ ds).length = ps.length := by rw [← r2.length]; exact F.len _ _ _ _ h
  refine wpAny_call (codeAny_mono (F.run X.A X.stack s H ⟨us, []⟩ (us ++ ds) (vs ++ dvs) Q E hr I.env0 (hb s us I.kIn hl) r2 h) fun r s' hq => ?_)
  cases r with
  | error e => exact hx pins σ H s e s' I hq
  | ok fl =>
    cases fl with
    | ret u => exact I.after hq
    | next => exact False.elim hq
    | brk => exact False.elim hq
    | cont => exact False.elim hq
theorem pe_call (F : FnOk X.prog X.w X.K X.mg X.base CX k f fd ps sp) (hr : Room k X.A) (hg : Gl X x) (hm : X.mg x = some (.ref f)) (hk : PySem.W.keepIn X.K (.ref f) = true) (hb : Binds X.K fd ps ds) (hd : Vals dvs ds) (hx : Passes CX X E)
    (ha : PA X (e :: es) t) (hdb : (x == ("__debug__" : Str)) = false := by decide) (he : starEach (e :: es) X.env = (false, eval e X.env) :: starEach es X.env := by rfl) (hpl : (backTo pos (starEach es X.env)).any (·.1) = false := by rfl) :
    PE X (.Call (.Name x p) (e :: es) [] pos) (tCall sp dvs E t) := by
  intro pins s σ H Q I h
  refine wpAny_Call_Name_kw (ld_glob I hg hm ?_ hdb)
  refine PySem.W.callWith_K (h₀ := X.base) I.ok.mod.kin hk (thn (ha pos pins s σ H _ I h) fun us s1 ⟨vs, H1, I1, r, q⟩ => ⟨I1.kIn, ?_⟩) he hpl
  exact run_fn F hr hb hd hx I1 r q
structure Mk (K : PySem.W.Frag) (C f : Addr) : Prop where
  makes : PySem.W.makesIn K C = true
  init : PySem.W.findIn K (.ref C) "__init__" = some (some (.ref f))
  fn : PySem.W.isFn K (.ref f) = true
  kp : PySem.W.keepIn K (.ref C) = true
theorem run_make {pins : List (Addr × Obj)} {σ : St} {H : Hp} {s : Shared} {Q : VK} {us : List Value} {vs : List V} (M : Mk X.K C f) (F : FnOk X.prog X.w X.K X.mg X.base CX k f fd ps sp) (hr : Room (k + 1) X.A) (hb : Binds X.K fd ps ds) (hd : Vals dvs ds)
    (hx : Passes CX X E) (I : Inv X pins σ H s) (r : Vals vs us)
    (h : ∀ x dx, H x = none → H dx = none → dx ≠ x → sp (.ref x :: (vs ++ dvs)) (upd (upd H dx (.own x)) x (.ins C dx [])) (fun v H2 => v = .non ∧ Q (.ref x) H2) E) :
    wpAny (model X.prog X.w) X.A (call (.ref C) us) (EP X pins σ Q) X.xe s := by
  have hq := h (s.heap.objs.size + 1) s.heap.objs.size (I.hok.fresh (Nat.le_succ _)) (I.hok.fresh (Nat.le_refl _)) (Nat.ne_of_lt (Nat.lt_succ_self _))
  have I2 := Inv.made (C := C) I
  have r2 : Vals (V.ref (s.heap.objs.size + 1) :: (vs ++ dvs)) (Value.ref (s.heap.objs.size + 1) :: (us ++ ds)) := .cons rfl (r.append hd)
  have hl : (Value.ref (s.heap.objs.size + 1) :: us ++ ds).length = ps.length := by
    have e := r2.length
    rw [F.len _ _ _ _ hq] at e
    exact e.symm
  refine wpAny_call (make_map (f := f) I.kIn M.makes M.init (beq_iff_eq.mp M.fn) (codeAny_mono (F.run _ X.stack _ _ ⟨Value.ref (s.heap.objs.size + 1) :: us, []⟩ (Value.ref (s.heap.objs.size + 1) :: (us ++ ds)) _ _ E (hr.make C us [])
    (I2.env0.make C us []) (hb _ (Value.ref (s.heap.objs.size + 1) :: us) I2.kIn hl) r2 hq) fun r s' hq' => ?_))
  cases r with
  | error e => exact hx pins σ _ _ e s' I2 hq'
  | ok fl =>
    cases fl with
    | ret u =>
      obtain ⟨v, H', I3, rv, ev, q3⟩ := I2.after hq'
      subst ev
      exact ⟨rv, ⟨V.ref (s.heap.objs.size + 1), H', I3, rfl, q3⟩⟩
    | next => exact False.elim hq'
    | brk => exact False.elim hq'
    | cont => exact False.elim hq'
theorem pe_make (M : Mk X.K C f) (F : FnOk X.prog X.w X.K X.mg X.base CX k f fd ps sp) (hr : Room (k + 1) X.A) (hg : Gl X x) (hm : X.mg x = some (.ref C)) (hb : Binds X.K fd ps ds) (hd : Vals dvs ds) (hx : Passes CX X E)
    (ha : PA X (e :: es) t) (hdb : (x == ("__debug__" : Str)) = false := by decide) (he : starEach (e :: es) X.env = (false, eval e X.env) :: starEach es X.env := by rfl) (hpl : (backTo pos (starEach es X.env)).any (·.1) = false := by rfl) :
    PE X (.Call (.Name x p) (e :: es) [] pos) (tMake C sp dvs E t) := by
  intro pins s σ H Q I h
  refine wpAny_Call_Name_kw (ld_glob I hg hm ?_ hdb)
  refine PySem.W.callWith_K (h₀ := X.base) I.ok.mod.kin M.kp (thn (ha pos pins s σ H _ I h) fun us s1 ⟨vs, H1, I1, r, q⟩ => ⟨I1.kIn, ?_⟩) he hpl
  exact run_make M F hr hb hd hx I1 r q
end
def PK (X : Cx) (kws : List Keyword) (t : TA) : Prop :=
  ∀ (pos : Pos) (pins : List (Addr × Obj)) (s : Shared) (σ : St) (H : Hp) (Q : List V → Hp → Prop), Inv X pins σ H s → t σ H Q → wpAny (model X.prog X.w) X.A (evalAll ((backToKw pos (keywordEach kws X.env)).map (·.2))) (AP X pins σ Q) X.xe s
section
variable {X : Cx} {CX : CXT} {k : Nat} {f C : Addr} {fd : FuncData} {ps ks : List Str} {sp : Sp} {E : XK} {x m : Str} {p pos apos kpos : Pos} {e o : Expr} {es : List Expr} {kws : List Keyword} {te ta : TE} {t tk : TA} {nm : Option Str}
structure KBinds (K : PySem.W.Frag) (fd : FuncData) (ps ks : List Str) (g : List Value → List Value → List Value) (gV : List V → List V → List V) : Prop where
  to : ∀ (s : Shared) (us ws : List Value), K.In s.heap → (g us ws).length = ps.length → BindsTo s fd ⟨us, ks.zip ws⟩ (ps.zip (g us ws))
  rel : ∀ {vs : List V} {us : List Value} {zs : List V} {ws : List Value}, Vals vs us → Vals zs ws → Vals (gV vs zs) (g us ws)
def tCallK (sp : Sp) (gV : List V → List V → List V) (E : XK) (t tk : TA) : TE := fun σ H Q => t σ H fun vs H1 => tk σ H1 fun zs H2 => sp (gV vs zs) H2 Q E
variable {g : List Value → List Value → List Value} {gV : List V → List V → List V}
end
structure FnScope (N P : List Str) (sc : Scope) : Prop where
  kind : sc.kind = .function
  co : sc.isCoroutine = false
  gen : sc.isGenerator = false
  nd : N.Nodup
  pre : N.take P.length = P
  par : ∀ x ∈ P, sc.names.lookup x = some .local ∨ sc.names.lookup x = some .cell
  nofree : ∀ y ∈ sc.names, y.2 ≠ .free
theorem bindL_out {kindOf : Str → Option NameKind} {x : Str} : ∀ {binds : List (Str × Value)} {m : Str → Option Value}, (∀ v, (x, v) ∉ binds) → bindL kindOf binds m x = m x
  | [], _, _ => rfl
  | (n, v) :: r, m, h => by
    unfold bindL
    rw [bindL_out fun w hw => h w (List.mem_cons_of_mem _ hw)]
    split
    · have : x ≠ n := by rintro rfl; exact h v List.mem_cons_self
      simp [this]
    · rfl
theorem bindC_out {kindOf : Str → Option NameKind} {x : Str} : ∀ {binds : List (Str × Value)} {m : Str → Option Value}, (∀ v, (x, v) ∉ binds) → bindC kindOf binds m x = m x
  | [], _, _ => rfl
  | (n, v) :: r, m, h => by
    unfold bindC
    rw [bindC_out fun w hw => h w (List.mem_cons_of_mem _ hw)]
    split
    · rfl
    · have : x ≠ n := by rintro rfl; exact h v List.mem_cons_self
      simp [this]
theorem bindL_get {kindOf : Str → Option NameKind} {x : Str} {v : Value} : ∀ {P : List Str} {vs : List Value} {i : Nat} {m : Str → Option Value}, P.Nodup → P[i]? = some x → vs[i]? = some v → kindOf x = some .local →
    bindL kindOf (P.zip vs) m x = some v
  | [], _, _, _, _, h, _, _ => by simp at h
  | _ :: _, [], _, _, _, _, h, _ => by simp at h
  | p :: P, w :: vs, 0, m, nd, h1, h2, hk => by
    simp at h1 h2; subst h1; subst h2
    show bindL kindOf ((p, w) :: P.zip vs) m p = _
    unfold bindL
    rw [bindL_out fun v hv => (List.nodup_cons.mp nd).1 (List.of_mem_zip hv).1, if_pos hk]
    simp
  | p :: P, w :: vs, i + 1, m, nd, h1, h2, hk => by
    show bindL kindOf ((p, w) :: P.zip vs) m x = _
    unfold bindL
    exact bindL_get (i := i) (List.nodup_cons.mp nd).2 (by simpa using h1) (by simpa using h2) hk
theorem bindC_get {kindOf : Str → Option NameKind} {x : Str} {v : Value} : ∀ {P : List Str} {vs : List Value} {i : Nat} {m : Str → Option Value}, P.Nodup → P[i]? = some x → vs[i]? = some v → kindOf x ≠ some .local →
    bindC kindOf (P.zip vs) m x = some v
  | [], _, _, _, _, h, _, _ => by simp at h
  | _ :: _, [], _, _, _, _, h, _ => by simp at h
  | p :: P, w :: vs, 0, m, nd, h1, h2, hk => by
    simp at h1 h2; subst h1; subst h2
    show bindC kindOf ((p, w) :: P.zip vs) m p = _
    unfold bindC
    rw [bindC_out fun v hv => (List.nodup_cons.mp nd).1 (List.of_mem_zip hv).1, if_neg hk]
    simp
  | p :: P, w :: vs, i + 1, m, nd, h1, h2, hk => by
    show bindC kindOf ((p, w) :: P.zip vs) m x = _
    unfold bindC
    exact bindC_get (i := i) (List.nodup_cons.mp nd).2 (by simpa using h1) (by simpa using h2) hk
def start (N : List Str) (vs : List V) : St := vs.map some ++ List.replicate (N.length - vs.length) none
def cxOf (CX : CXT) (P : Program) (w : World) (K : PySem.W.Frag) (mg : Str → Option Value) (base : Heap) (N : List Str) (qual : Str) (scope : Scope) (f : Addr) (cd : Value) (A : Around) (outer : List Env) (s : Shared) (H : Hp) (E : XK) : Cx where
  prog := P
  w := w
  K := K
  mg := mg
  base := base
  A := A.deeper (envOfC qual scope s.heap.objs.size f cd)
  N := N
  s₀ := s
  H₀ := H
  env := envOfC qual scope s.heap.objs.size f cd
  outer := outer
  stack := envOfC qual scope s.heap.objs.size f cd :: outer
  ex := []
  calm := true
  fn := fun _ => true
  pn := []
  xe := fun e s' => wpAny (model P w) (A.deeper (envOfC qual scope s.heap.objs.size f cd)) (leaving (envOfC qual scope s.heap.objs.size f cd) e) (fun _ s'' => CX outer H s E e s'') (fun e' s'' => CX outer H s E e' s'') s'
theorem cell_has {sc : Scope} {n : Nat} {x : Str} (h : sc.names.lookup x = some .cell) : ∃ c, (cellsFrom n sc.names []).lookup x = some c := by
  have q := PySem.W.cellsFrom_some sc.names n [] (.inl h)
  exact Option.isSome_iff_exists.mp q
theorem inv_start {CX : CXT} {P : Program} {w : World} {K : PySem.W.Frag} {mg : Str → Option Value} {base : Heap} {N ps : List Str} {qual : Str} {scope : Scope} {f : Addr} {cd : Value} {A : Around} {outer : List Env} {s s1 : Shared} {H : Hp} {E : XK} {us : List Value} {vs : List V}
    (S : FnScope N ps scope) (hd : A.handled = none) (e0 : Env0 P w K mg base A outer s H) (hl : vs.length = ps.length) (r : Vals vs us)
    (x : InCallC s s.heap.objs.size (bindL (envOfC qual scope s.heap.objs.size f cd).kindOf (ps.zip us) fun _ => none) (cellsFrom (s.heap.objs.size + 1) scope.names []) (bindC (envOfC qual scope s.heap.objs.size f cd).kindOf (ps.zip us) fun _ => none) s1) :
    Inv (cxOf CX P w K mg base N qual scope f cd A outer s H E) [] (start N vs) H s1 := by
  have hpl : ps.length ≤ N.length := by have := congrArg List.length S.pre; rw [List.length_take] at this; omega
  obtain ⟨h1, tk, rfl, hk⟩ := x.done
  have noA : ∀ b : Addr, b ∉ (cxOf CX P w K mg base N qual scope f cd A outer s H E).ex := fun b z => absurd (show b ∈ ([] : List Addr) from z) (by simp)
  refine ⟨⟨e0.mod, S.kind, rfl, rfl, Nat.le_refl _, fun y z c h1 h2 => ?_, fun y hy => ?_, fun y c _ h => ?_, fun _ => hd, Around.frames_deeper e0.frames, .inr ⟨rfl, rfl⟩, fun b z => absurd z (noA b), e0.bs, e0.bsz, fun b _ _ => noA b, fun b z => absurd z (noA b), e0.funs, e0.frf⟩,
    rfl, e0.bare, Un.kept hk, ⟨_, x.toInCall.ns, fun i y v h1 h2 h3 => ?_⟩, fun y c h => ⟨_, x.cell y c h⟩, e0.hok.fresh (Nat.le_refl _), fun y c h => ?_, fun p hp => absurd (show p ∈ ([] : List (Addr × Obj)) from hp) (by simp), e0.hok.kept hk, ?_⟩
  · exact name_of_addr x.apart (PySem.mem_of_lookup h1) (PySem.mem_of_lookup h2)
  · have hy : scope.names.lookup y = some .cell ∨ scope.names.lookup y = some .free := hy
    rcases hy with hy | hy
    · exact cell_has hy
    · exact absurd rfl (S.nofree _ (PySem.mem_of_lookup hy))
  · exact Nat.le_of_lt (x.above y c (PySem.mem_of_lookup h))
  · have hi : i < vs.length := by
      unfold start at h2
      by_cases hi : i < vs.length
      · exact hi
      · rw [List.getElem?_append_right (by simpa using hi)] at h2
        rw [List.getElem?_replicate] at h2
        split at h2 <;> cases h2
    have ha : vs[i]? = some v := by
      unfold start at h2
      rw [List.getElem?_append_left (by simpa using hi), List.getElem?_map] at h2
      cases e : vs[i]? with
      | none => rw [e] at h2; cases h2
      | some a => rw [e] at h2; cases h2; rfl
    obtain ⟨u, hu, rv⟩ := r.get ha
    have hp : ps[i]? = some y := by
      rw [← S.pre, List.getElem?_take_of_lt (by omega)]; exact h1
    have ndP : ps.Nodup := by rw [← S.pre]; exact S.nd.sublist (List.take_sublist _ _)
    refine ⟨u, rv, ?_⟩
    rcases S.par y (List.mem_of_getElem? hp) with k | k
    · exact .inl ⟨k, bindL_get ndP hp hu k⟩
    · obtain ⟨c, e⟩ := cell_has (n := s.heap.objs.size + 1) k
      refine .inr ⟨.inl k, c, e, ?_⟩
      have q := x.cell y c e
      rw [bindC_get ndP hp hu (by show scope.names.lookup y ≠ _; rw [k]; decide)] at q
      exact q
  · exact e0.hok.fresh (Nat.le_of_lt (x.above y c (PySem.mem_of_lookup h)))
  · unfold start
    show _ = N.length
    rw [List.length_append, List.length_map, List.length_replicate]
    omega
theorem fn_of {CX : CXT} {P : Program} {w : World} {K : PySem.W.Frag} {mg : Str → Option Value} {base : Heap} {k : Nat} {f : Addr} {name qual : Str} {params : Arguments} {body : List Stmt} {scope : Scope} {dV kV doc pm cdv ct oc : Value} {an od : Option Addr}
    {osl : Array (Option Value)} {N ps : List Str} {sp : Sp} (lk : K.lookup f = some ⟨oc, od, .func (PySem.W.fnOf name qual params body scope dV kV doc pm an cdv ct), osl⟩) (hcd : PySem.W.codeIn K cdv qual = true) (S : FnScope N ps scope)
    (len : ∀ vs H Q E, sp vs H Q E → vs.length = ps.length)
    (hbody : ∀ (A : Around) (outer : List Env) (s : Shared) (H : Hp) (vs : List V) (Q : VK) (E : XK), Room k (A.deeper (envOfC qual scope s.heap.objs.size f cdv)) → sp vs H Q E →
      ∃ t, PSs (cxOf CX P w K mg base N qual scope f cdv A outer s H E) body t ∧ t { nx := fun _ H' => Q .non H', rt := Q } (start N vs) H) :
    FnOk P w K mg base CX (k + 1) f (PySem.W.fnOf name qual params body scope dV kV doc pm an cdv ct) ps sp := by
  refine ⟨len, fun A outer s H args us vs Q E hr e0 hb r hsp => ?_⟩
  have hl := len _ _ _ _ hsp
  have KX : K.In s.heap := e0.mod.kin.keeps fun b o e => (e0.bs b o e).1
  have lim : s.heap.NoLimit := e0.mod.nolimit.keeps fun b o e => (e0.bs b o e).1
  have hkind : ∀ y ∈ ps.zip us, scope.names.lookup y.1 = some .local ∨ (scope.names.lookup y.1 = some .cell ∧ ((cellsFrom (s.heap.objs.size + 1) scope.names []).lookup y.1).isSome = true) := fun ⟨n, v⟩ hy => by
    rcases S.par n (List.of_mem_zip hy).1 with q | q
    · exact .inl q
    · exact .inr ⟨q, PySem.W.cellsFrom_some _ _ _ (.inl q)⟩
  refine codeAny_call_function hr.depth (KX _ _ lk) rfl S.co S.gen rfl (PySem.W.codeRec_of KX hcd) (hb _ _ _ _ ?_)
  refine wpAny_newFunctionEnv_cells S.kind hkind fun env he s1 x => ?_
  subst he
  refine ⟨lim.keeps x.toInCall.keep, codeAny_func ?_⟩
  obtain ⟨t, ht, hq⟩ := hbody A outer s H vs Q E (hr.deeper _) hsp
  have I : Inv (cxOf CX P w K mg base N qual scope f cdv A outer s H E) [] (start N vs) H s1 := inv_start S hr.hd e0 hl r x
  refine wpAny_mono (ht [] s1 (start N vs) H _ I hq) (fun fl s' hs => ?_) fun e s' hs => hs
  have fin : ∀ {σ' : St} {H' : Hp} {v : V} {u : Value}, Inv (cxOf CX P w K mg base N qual scope f cdv A outer s H E) [] σ' H' s' → RelV v u → Q v H' → CE outer P w H s Q u s' :=
    fun {σ' H' v u} J rv q => ⟨v, H', J.os, J.bare, J.base, J.hok, rv, q⟩
  cases fl with
  | ret u =>
    obtain ⟨v, σ', H', J, rv, q⟩ := hs
    exact fin J rv q
  | next =>
    obtain ⟨σ', H', J, q⟩ := hs
    exact fin (v := V.non) (u := Value.none) J rfl q
  | brk =>
    obtain ⟨_, _, _, q⟩ := hs
    exact False.elim q
  | cont =>
    obtain ⟨_, _, _, q⟩ := hs
    exact False.elim q
end L2
namespace L2
open PySem PySem.Spec PyProof.Rows
section
variable {X : Cx} {x : Str} {p pos : Pos} {e : Expr} {es : List Expr} {t : TA} {id T : String} {r : List V → Hp → VK → Prop}
def tCB (r : List V → Hp → VK → Prop) (t : TA) : TE := fun σ H Q => t σ H fun vs H1 => r vs H1 Q
theorem pe_callB (hc : CallR X (.builtin id) r) (hg : Gl X x) (hm : X.mg x = none) (hv : bootBuiltins x = some (.builtin id)) (ha : PA X (e :: es) t) (hn : x ≠ "__name__" := by decide) (hdb : (x == ("__debug__" : Str)) = false := by decide)
    (he : starEach (e :: es) X.env = (false, eval e X.env) :: starEach es X.env := by rfl) (hpl : (backTo pos (starEach es X.env)).any (·.1) = false := by rfl) : PE X (.Call (.Name x p) (e :: es) [] pos) (tCB r t) := by
  intro pins s σ H Q I h
  refine wpAny_Call_Name_kw (ld_blt I hg hm hv ?_ hn hdb)
  exact PyProof.Rows.callWith_builtin1 (thn (ha pos pins s σ H _ I h) fun us s1 ⟨vs, H1, I1, r1, q1⟩ => hc pins s1 σ H1 vs us Q I1 r1 q1) he hpl
theorem pe_callTy (hc : CallR X (.type T) r) (hg : Gl X x) (hm : X.mg x = none) (hv : bootBuiltins x = some (.type T)) (ha : PA X (e :: es) t) (hn : x ≠ "__name__" := by decide) (hdb : (x == ("__debug__" : Str)) = false := by decide)
    (he : starEach (e :: es) X.env = (false, eval e X.env) :: starEach es X.env := by rfl) (hpl : (backTo pos (starEach es X.env)).any (·.1) = false := by rfl) : PE X (.Call (.Name x p) (e :: es) [] pos) (tCB r t) := by
  intro pins s σ H Q I h
  refine wpAny_Call_Name_kw (ld_blt I hg hm hv ?_ hn hdb)
  exact PyProof.Rows.callWith_type1 (thn (ha pos pins s σ H _ I h) fun us s1 ⟨vs, H1, I1, r1, q1⟩ => hc pins s1 σ H1 vs us Q I1 r1 q1) he hpl
end
end L2
namespace HT
open PySem PyProof.Rows
def lexLt : List Int → List Int → Bool
  | [], [] => false
  | [], _ :: _ => true
  | _ :: _, [] => false
  | x :: xs, y :: ys => if x = y then lexLt xs ys else decide (x < y)
section
open PySem.SeqAt
open PySem.AutoSeq1 (wpAny_loadPart')
open PySem.MeetsSeq PySem.MeetsSeq2 PySem.MeetsSeq3
end
section
variable {prog : Program} {w : World} {A : Around} {E : Value → Shared → Prop} {s : Shared}
def sIx (n d : Nat) : Option Int → Nat
  | none => d
  | some v => if v < 0 then (v + (n : Int)).toNat else min v.toNat n
end
end HT
namespace L2
open PySem PySem.Spec PyProof.Rows
abbrev TO := St → Hp → (Option Int → Hp → Prop) → Prop
def PO (X : Cx) (e : Option Expr) (t : TO) : Prop :=
  ∀ (pins : List (Addr × Obj)) (s : Shared) (σ : St) (H : Hp) (Q : Option Int → Hp → Prop), Inv X pins σ H s → t σ H Q →
    wpAny (model X.prog X.w) X.A (evalPart e X.env) (fun u s' => ∃ o H', Inv X pins σ H' s' ∧ IsPart u o ∧ Q o H') X.xe s
def tNoPart : TO := fun _ H Q => Q none H
def tPart (t : TE) : TO := fun σ H Q => t σ H fun x H1 => ∃ i, x = .int i ∧ Q (some i) H1
section
variable {X : Cx} {e : Expr} {te : TE} {lo hi : Option Expr} {tl th : TO} {pos p2 : Pos}
theorem po_none : PO X none tNoPart := by
  intro pins s σ H Q I h
  rw [evalPart_none]
  exact wpAny_pure ⟨none, H, I, .none, h⟩
theorem po_some (h : PE X e te) : PO X (some e) (tPart te) := by
  intro pins s σ H Q I hw
  rw [evalPart_some]
  refine thn (h pins s σ H _ I hw) fun u s1 ⟨x, H1, I1, r1, q1⟩ => ?_
  obtain ⟨i, rfl, q⟩ := q1
  obtain ⟨t, rfl⟩ := r1
  exact ⟨some i, H1, I1, .int i t, q⟩
def SlR (X : Cx) (r : V → Option Int → Option Int → Hp → VK → Prop) : Prop :=
  ∀ (pins : List (Addr × Obj)) (s : Shared) (σ : St) (H : Hp) (x : V) (v vl vu : Value) (lo hi : Option Int) (sl : Addr) (Q : VK), Inv X pins σ H s → RelV x v → s.heap.IsSliceOf sl vl vu .none → IsPart vl lo → IsPart vu hi → r x lo hi H Q →
    ∃ T id, typeLookup (.type T) "__getitem__" = pure (some (.builtin id)) ∧ s.TypeIs v T ∧ wpAny (model X.prog X.w) X.A (getItem v (.ref sl)) (EP X pins σ Q) X.xe s
def tSl (r : V → Option Int → Option Int → Hp → VK → Prop) (te : TE) (tl th : TO) : TE := fun σ H Q => te σ H fun x H1 => tl σ H1 fun l H2 => th σ H2 fun u H3 => r x l u H3 Q
theorem pe_slice {r : V → Option Int → Option Int → Hp → VK → Prop} (hr : SlR X r) (he : PE X e te) (hl : PO X lo tl) (hu : PO X hi th) : PE X (.Subscript e (.Slice lo hi none p2) pos) (tSl r te tl th) := by
  intro pins s σ H Q I h
  refine Subscript_ (thn (he pins s σ H _ I h) fun v s1 ⟨x, H1, I1, r1, q1⟩ => ?_)
  refine wpAny_Slice (thn (hl pins s1 σ H1 _ I1 q1) fun vl s2 ⟨l, H2, I2, pl, q2⟩ => thn (hu pins s2 σ H2 _ I2 q2) fun vu s3 ⟨u, H3, I3, pu, q3⟩ => ?_)
  rw [evalPart_none]
  refine wpAny_pure ?_
  have I4 : Inv X pins σ H3 { s3 with heap := s3.heap.push { cls := .type "slice", data := .fields #[vl, vu, .none] } } := I3.kept (t' := s3.toks) fun b ob q => Heap.get?_push_of_some _ q
  obtain ⟨T, id, hT, ht, hg⟩ := hr pins { s3 with heap := s3.heap.push { cls := .type "slice", data := .fields #[vl, vu, .none] } } σ H3 x v vl vu l u s3.heap.objs.size Q I4 r1 (Heap.IsSliceOf.new ..) pl pu q3
  show wpAny (model X.prog X.w) X.A (subscriptTail e (.Slice lo hi none p2) v (.ref s3.heap.objs.size)) (EP X pins σ Q) X.xe { s3 with heap := s3.heap.push { cls := .type "slice", data := .fields #[vl, vu, .none] } }
  exact tail_any (ops := [.ref s3.heap.objs.size, v]) ht hT hg (by with_unfolding_all rfl)
def cutV (xs : List V) (lo hi : Option Int) : List V := (xs.drop (HT.sIx xs.length 0 lo)).take (HT.sIx xs.length xs.length hi - HT.sIx xs.length 0 lo)
theorem cutV_length (xs : List V) (lo hi : Option Int) : (cutV xs lo hi).length ≤ xs.length := by
  unfold cutV
  rw [List.length_take, List.length_drop]
  omega
def rSlT (K : PySem.W.Frag) : V → Option Int → Option Int → Hp → VK → Prop := fun x lo hi H Q => ∃ a xs, x = .ref a ∧ SqT K H a xs ∧
  ¬ (HT.sIx xs.length 0 lo = 0 ∧ HT.sIx xs.length xs.length hi = xs.length) ∧ ∀ p, H p = none → Q (.ref p) (upd H p (.tup (cutV xs lo hi)))
def rLtT (K : PySem.W.Frag) : R2 := fun x y H Q => ∃ a b ns ms, x = .ref a ∧ y = .ref b ∧ SqT K H a (ns.map V.int) ∧ SqT K H b (ms.map V.int) ∧ Q (.bl (HT.lexLt ns ms)) H
def rCatT (K : PySem.W.Frag) : R2 := fun x y H Q => ∃ a b xs ys, x = .ref a ∧ y = .ref b ∧ SqT K H a xs ∧ SqT K H b ys ∧ xs ≠ [] ∧ xs.length + ys.length ≤ sizeLine ∧
  (ys = [] → Q (.ref a) H) ∧ (ys ≠ [] → ∀ p, H p = none → Q (.ref p) (upd H p (.tup (xs ++ ys))))
end
end L2
namespace L2
open PySem PySem.Spec PyProof.Rows
def ixN (n : Nat) (i : Int) : Option Nat := if 0 ≤ i then (if i < n then some i.toNat else none) else if -(n : Int) ≤ i then some (i + n).toNat else none
def atI {α : Type} (xs : List α) (i : Int) : Option α := (ixN xs.length i).bind fun j => xs[j]?
theorem ixN_seq {n : Nat} {i : Int} {j : Nat} (h : ixN n i = some j) : seqIndex? i n = some j ∧ j < n ∧ -(n : Int) ≤ i ∧ i < n := by
  unfold ixN at h
  by_cases h0 : 0 ≤ i
  · rw [if_pos h0] at h
    by_cases h1 : i < n
    · rw [if_pos h1] at h
      have e : i.toNat = j := Option.some.inj h
      exact ⟨by rw [seqIndex_of h0 h1, e], by omega, by omega, h1⟩
    · rw [if_neg h1] at h; cases h
  · rw [if_neg h0] at h
    by_cases h1 : -(n : Int) ≤ i
    · rw [if_pos h1] at h
      have e : (i + n).toNat = j := Option.some.inj h
      exact ⟨by rw [seqIndex_neg (by omega) h1, e], by omega, h1, by omega⟩
    · rw [if_neg h1] at h; cases h
theorem atI_get {α : Type} {xs : List α} {i : Int} {v : α} (h : atI xs i = some v) : ∃ j, seqIndex? i xs.length = some j ∧ xs[j]? = some v ∧ j < xs.length ∧ -(xs.length : Int) ≤ i ∧ i < xs.length := by
  unfold atI at h
  cases e : ixN xs.length i with
  | none => rw [e] at h; cases h
  | some j =>
    rw [e] at h
    obtain ⟨h1, h2, h3, h4⟩ := ixN_seq e
    exact ⟨j, h1, h, h2, h3, h4⟩
theorem atI_nat {α : Type} {xs : List α} {j : Nat} {v : α} (h : xs[j]? = some v) : atI xs (j : Int) = some v := by
  have hj : j < xs.length := (List.getElem?_eq_some_iff.mp h).1
  have e : ixN xs.length (j : Int) = some j := by
    unfold ixN
    rw [if_pos (by omega), if_pos (by omega)]; simp
  unfold atI; rw [e]; exact h
def PlainIx (b : Expr) : Prop := ∀ o i, subscripted b false o i = operate [o, i] (getItem o i)
def IxR (X : Cx) (r : R2) : Prop :=
  ∀ (value slice : Expr) (pins : List (Addr × Obj)) (s : Shared) (σ : St) (H : Hp) (x y : V) (v u : Value) (Q : VK), Inv X pins σ H s → RelV x v → RelV y u → r x y H Q →
    subscripted slice false v u = operate [v, u] (getItem v u) → wpAny (model X.prog X.w) X.A (subscriptTail value slice v u) (EP X pins σ Q) X.xe s
def MtR (X : Cx) (id : String) (r : V → List V → Hp → VK → Prop) : Prop :=
  ∀ (pins : List (Addr × Obj)) (s : Shared) (σ : St) (H : Hp) (x : V) (xs : List V) (v : Value) (us : List Value) (Q : VK), Inv X pins σ H s → RelV x v → Vals xs us → r x xs H Q →
    wpAny (model X.prog X.w) X.A (call (.builtin id) (v :: us)) (EP X pins σ Q) X.xe s
section
variable {X : Cx} {a b : Expr} {ta tb : TE} {pos : Pos}
theorem pe_ix {r : R2} (hr : IxR X r) (ha : PE X a ta) (hb : PE X b tb) (hs : PlainIx b) : PE X (.Subscript a b pos) (tOp r ta tb) := by
  intro pins s σ H Q I h
  exact Subscript_ (binT ha hb I h fun v u s2 x y H2 I2 rx ry q => hr a b pins s2 σ H2 x y v u Q I2 rx ry q (hs _ _))
def rIxL (K : PySem.W.Frag) : R2 := fun x y H Q => ∃ p xs i v, x = .ref p ∧ y = .int i ∧ SqL K H p xs ∧ atI xs i = some v ∧ Q v H
def rIxT (K : PySem.W.Frag) : R2 := fun x y H Q => ∃ p xs i v, x = .ref p ∧ y = .int i ∧ SqT K H p xs ∧ atI xs i = some v ∧ Q v H
def rIxS : R2 := fun x y H Q => ∃ z i c, x = .str z ∧ y = .int i ∧ z.length ≤ sizeLine ∧ atI z.cps.toList i = some c ∧ Q (.str ⟨#[c]⟩) H
theorem ix_list : IxR X (rIxL X.K) := by
  intro value slice pins s σ H x y v u Q I rx ry h hs
  obtain ⟨p, xs, i, z, rfl, rfl, hq, he, q⟩ := h
  cases rx
  obtain ⟨t, rfl⟩ := ry
  obtain ⟨its, r, pl, hz⟩ := I.list hq
  obtain ⟨j, h1, h2, h3, h4, h5⟩ := atI_get he
  obtain ⟨w, ew, rw'⟩ := r.get h2
  have hl := r.length
  have hn := line63
  have fin : EP X pins σ Q w s := ⟨z, H, I, rw', q⟩
  by_cases h0 : 0 ≤ i
  · have hj : i.toNat = j := by
      rw [seqIndex_of h0 h5] at h1
      exact Option.some.inj h1
    exact item_listR pl.isList h0 (by omega) (by rw [hj]; simpa using ew) fin hs
  · have hj : (i + (its.toArray.size : Int)).toNat = j := by
      rw [seqIndex_neg (by omega) h4] at h1
      rw [List.size_toArray, ← hl]
      exact Option.some.inj h1
    exact subscriptTail_builtinR (x := w) pl.isList.typeIs slot_list_getitem.lookup
      (wpAny_getItem_list_neg (Q := fun r s' => r = w ∧ EP X pins σ Q r s') pl.isList (by omega) (by rw [List.size_toArray] <;> omega) (by omega) (by rw [hj]; simpa using ew) ⟨rfl, fin⟩) hs
theorem ix_tup : IxR X (rIxT X.K) := by
  intro value slice pins s σ H x y v u Q I rx ry h hs
  obtain ⟨p, xs, i, z, rfl, rfl, hq, he, q⟩ := h
  cases rx
  obtain ⟨t, rfl⟩ := ry
  obtain ⟨its, r, pl, hz⟩ := I.tuple hq
  obtain ⟨j, h1, h2, h3, h4, h5⟩ := atI_get he
  obtain ⟨w, ew, rw'⟩ := r.get h2
  have hl := r.length
  have hn := line63
  have fin : EP X pins σ Q w s := ⟨z, H, I, rw', q⟩
  exact subscriptTail_builtinR (x := w) pl.typeIs slot_tuple_getitem.lookup
    (getItem_tuple (j := j) (Q := fun r s' => r = w ∧ EP X pins σ Q r s') pl (by omega) (by omega) (by rw [List.size_toArray, ← hl]; exact h1) (by simpa using ew) ⟨rfl, fin⟩) hs
theorem ix_str : IxR X rIxS := by
  intro value slice pins s σ H x y v u Q I rx ry h hs
  obtain ⟨z, i, c, rfl, rfl, hz, he, q⟩ := h
  obtain ⟨t, rfl⟩ := rx
  obtain ⟨t', rfl⟩ := ry
  obtain ⟨j, h1, h2, h3, h4, h5⟩ := atI_get he
  have hl : z.cps.toList.length = z.length := by simp [Str.length]
  rw [hl] at h1 h4 h5
  have hn := line63
  exact tail_any (typeIs_str s z t) slot_str_getitem.lookup (getItem_str (c := c) (by
    have e1 : decide (i < -(2 ^ 63 : Int)) = false := decide_eq_false (by omega)
    have e2 : decide (i ≥ 2 ^ 63) = false := decide_eq_false (by omega)
    rw [e1, e2, Bool.or_false]) (by rw [h1]; simpa using h2) ⟨.str ⟨#[c]⟩, H, I.tok _, ⟨_, rfl⟩, q⟩) hs
def rIx (K : PySem.W.Frag) : R2 := fun x y H Q => rIxL K x y H Q ∨ rIxT K x y H Q ∨ rIxS x y H Q
theorem mapSeq_set (its : List Value) (n j : Nat) (u : Value) : Obj.mapSeq (·.setIfInBounds j u) { cls := .type "list", data := .seq its.toArray n } = { cls := .type "list", data := .seq (its.set j u).toArray n } := by
  simp [Obj.mapSeq]
theorem Inv.lst {pins : List (Addr × Obj)} {σ : St} {H : Hp} {s : Shared} {p : Addr} {xs : List V} (I : Inv X pins σ H s) (h : H p = some (.lst xs)) :
    ∃ (its : List Value) (n : Nat), Vals xs its ∧ s.heap.get? p = some { cls := .type "list", data := .seq its.toArray n } ∧ xs.length ≤ sizeLine := by
  obtain ⟨z, its, n, r, e⟩ := I.hok p _ h
  exact ⟨its, n, r, e, z⟩
theorem Inv.lstUpd {pins : List (Addr × Obj)} {σ : St} {H : Hp} {s : Shared} {p : Addr} {xs ys : List V} {its its' : List Value} {n n' : Nat} {f : Obj → Obj} (I : Inv X pins σ H s) (h : H p = some (.lst xs))
    (ho : s.heap.get? p = some { cls := .type "list", data := .seq its.toArray n }) (hf : f { cls := .type "list", data := .seq its.toArray n } = { cls := .type "list", data := .seq its'.toArray n' }) (r : Vals ys its') (hz : ys.length ≤ sizeLine) (t : Nat) :
    Inv X pins σ (upd H p (.lst ys)) { s with heap := s.heap.update p f, toks := t } := by
  have e : (s.heap.update p f).get? p = some { cls := .type "list", data := .seq its'.toArray n' } := by
    rw [Heap.get?_update_self f ho (by rw [hf] <;> rfl), hf]
  refine I.write (x := p) (e := p) (by rw [h]; trivial) (.inl rfl) (fun b u hb q => (Heap.get?_update_other _ _ (Ne.symm hb)).trans q) ⟨_, e⟩ ?_
  exact ⟨hz, its', n', r, e⟩
def rSetL : V → V → V → Hp → (Hp → Prop) → Prop := fun o i v H Q => ∃ p xs k j, o = .ref p ∧ i = .int k ∧ H p = some (.lst xs) ∧ ixN xs.length k = some j ∧ Q (upd H p (.lst (xs.set j v)))
theorem set_list : PSet X rSetL := by
  intro pins s σ H o i v ov iv u Q I ro ri rv h
  obtain ⟨p, xs, k, j, rfl, rfl, hp, hj, q⟩ := h
  cases ro
  obtain ⟨t, rfl⟩ := ri
  obtain ⟨its, n, r, ho, hz⟩ := I.lst hp
  obtain ⟨h1, h2, h3, h4⟩ := ixN_seq hj
  have hl := r.length
  have hn := line63
  have I' : Inv X pins σ (upd H p (.lst (xs.set j v))) { s with heap := s.heap.update p (Obj.mapSeq (·.setIfInBounds j u)) } :=
    I.lstUpd hp ho (mapSeq_set its n j u) (r.set rv j) (by rw [List.length_set]; exact hz) s.toks
  by_cases h0 : 0 ≤ k
  · have hk : k.toNat = j := by
      rw [seqIndex_of h0 h4] at h1
      exact Option.some.inj h1
    exact PySem.W.ki_setAt ho h0 (by omega) (by rw [List.size_toArray, ← hl]; exact h4) (by rw [hk]; exact ⟨_, I', q⟩)
  · have hk : (k + (its.toArray.size : Int)).toNat = j := by
      rw [seqIndex_neg (by omega) h3] at h1
      rw [List.size_toArray, ← hl]
      exact Option.some.inj h1
    exact PySem.W.ki_setBack ho (by omega) (by rw [List.size_toArray, ← hl]; exact h3) (by omega) (by rw [hk]; exact ⟨_, I', q⟩)
theorem slice_bounds (lo hi : Option Int) (n : Nat) : (sliceBounds lo hi none n).1 = ((HT.sIx n 0 lo : Nat) : Int) ∧ (sliceBounds lo hi none n).2.1 = ((HT.sIx n n hi : Nat) : Int) ∧ (sliceBounds lo hi none n).2.2 = 1 := by
  refine ⟨?_, ?_, rfl⟩
  · cases lo with
    | none => simp [sliceBounds, HT.sIx]
    | some i =>
      simp only [sliceBounds, HT.sIx, Option.getD_none, show (1 : Int) > 0 by decide, if_true]
      by_cases h : i < 0
      · simp only [h, if_true] <;> omega
      · simp only [h, if_false] <;> omega
  · cases hi with
    | none => simp [sliceBounds, HT.sIx]
    | some i =>
      simp only [sliceBounds, HT.sIx, Option.getD_none, show (1 : Int) > 0 by decide, if_true]
      by_cases h : i < 0
      · simp only [h, if_true] <;> omega
      · simp only [h, if_false] <;> omega
theorem slicePick_cut (its : List Value) (lo hi : Option Int) : slicePick its.toArray lo hi none = ((its.drop (HT.sIx its.length 0 lo)).take (HT.sIx its.length its.length hi - HT.sIx its.length 0 lo)).toArray := by
  obtain ⟨h1, h2, h3⟩ := slice_bounds lo hi its.toArray.size
  unfold slicePick
  rw [h1, h2, h3]
  simp only [sliceRange_one, pick_run, List.size_toArray] <;> rfl
def rSlL (K : PySem.W.Frag) : V → Option Int → Option Int → Hp → VK → Prop := fun x lo hi H Q => ∃ a xs, x = .ref a ∧ SqL K H a xs ∧ ∀ p, H p = none → Q (.ref p) (upd H p (.lst (cutV xs lo hi)))
theorem sl_list : SlR X (rSlL X.K) := by
  intro pins s σ H x v vl vu lo hi sl Q I rx hs pl pu h
  obtain ⟨a, xs, rfl, hx, q⟩ := h
  cases rx
  obtain ⟨its, r, ht, hz⟩ := I.list hx
  have hlen := r.length
  refine ⟨"list", _, slot_list_getitem.lookup, ht.isList.typeIs, ?_⟩
  refine wpAny_getItem_list_slice ht.isList hs pl pu .none (by simp) ?_ (by rw [List.size_toArray] <;> omega)
  rw [slicePick_cut, ← hlen]
  refine ⟨.ref s.heap.objs.size, _, I.laid (t' := s.toks) (o := .lst (cutV xs lo hi)) (fun b ob q => Heap.get?_push_of_some _ q) (Nat.le_refl _) ?_, rfl, q _ (I.hok.fresh (Nat.le_refl _))⟩
  exact ⟨Nat.le_trans (cutV_length xs lo hi) hz, _, 0, (r.drop (HT.sIx xs.length 0 lo)).take (HT.sIx xs.length xs.length hi - HT.sIx xs.length 0 lo), Heap.get?_push_size _ rfl⟩
def flatV : V → Bool
  | .non => true
  | .bl _ => true
  | .int _ => true
  | .str _ => true
  | _ => false
def eqV : V → V → Bool
  | .non, .non => true
  | .bl a, .bl b => a == b
  | .bl a, .int b => (if a then 1 else 0) == b
  | .int a, .bl b => a == (if b then 1 else 0)
  | .int a, .int b => a == b
  | .str a, .str b => a == b
  | _, _ => false
theorem eqAt_V {A : Around} {s : Shared} {y x : V} {u v : Value} (ry : RelV y u) (rx : RelV x v) (fy : flatV y = true) (fx : flatV x = true) : SeqAt.EqAt A s u v (eqV y x) := by
  cases y with
  | non =>
    cases ry
    cases x with
    | non => cases rx; exact SeqAt.EqAt.same _
    | bl b => cases rx; exact SeqAt.EqAt.none_bool b
    | int b => obtain ⟨t, rfl⟩ := rx; exact SeqAt.EqAt.none_int b t
    | str b => obtain ⟨t, rfl⟩ := rx; exact SeqAt.EqAt.none_str b t
    | _ => exact absurd (show false = true from fx) Bool.false_ne_true
  | bl a =>
    cases ry
    cases x with
    | non => cases rx; exact SeqAt.EqAt.bool_none a
    | bl b => cases rx; exact SeqAt.EqAt.bool_bool a b
    | int b => obtain ⟨t, rfl⟩ := rx; exact SeqAt.EqAt.bool_int a b t
    | str b => obtain ⟨t, rfl⟩ := rx; exact SeqAt.EqAt.bool_str a b t
    | _ => exact absurd (show false = true from fx) Bool.false_ne_true
  | int a =>
    obtain ⟨t', rfl⟩ := ry
    cases x with
    | non => cases rx; exact SeqAt.EqAt.int_none a t'
    | bl b => cases rx; exact SeqAt.EqAt.int_bool a t' b
    | int b => obtain ⟨t, rfl⟩ := rx; exact SeqAt.EqAt.int_int a t' b t
    | str b => obtain ⟨t, rfl⟩ := rx; exact SeqAt.EqAt.int_str a t' b t
    | _ => exact absurd (show false = true from fx) Bool.false_ne_true
  | str a =>
    obtain ⟨t', rfl⟩ := ry
    cases x with
    | non => cases rx; exact SeqAt.EqAt.str_none a t'
    | bl b => cases rx; exact SeqAt.EqAt.str_bool a t' b
    | int b => obtain ⟨t, rfl⟩ := rx; exact SeqAt.EqAt.str_int a t' b t
    | str b => obtain ⟨t, rfl⟩ := rx; exact SeqAt.EqAt.str_str a t' b t
    | _ => exact absurd (show false = true from fx) Bool.false_ne_true
  | _ => exact absurd (show false = true from fy) Bool.false_ne_true
def eqU (x : V) (u : Value) : Bool := match u with
  | .none => eqV .non x
  | .bool b => eqV (.bl b) x
  | .int i _ => eqV (.int i) x
  | .str z _ => eqV (.str z) x
  | _ => false
theorem eqU_of {x y : V} {u : Value} (r : RelV y u) (f : flatV y = true) : eqU x u = eqV y x := by
  cases y with
  | non => cases r; rfl
  | bl b => cases r; rfl
  | int i => obtain ⟨t, rfl⟩ := r; rfl
  | str z => obtain ⟨t, rfl⟩ := r; rfl
  | _ => exact absurd (show false = true from f) Bool.false_ne_true
theorem any_eqU {x : V} : ∀ {xs : List V} {us : List Value}, Vals xs us → xs.all flatV = true → us.any (eqU x) = xs.any fun y => eqV y x
  | _, _, .nil, _ => rfl
  | y :: xs, u :: us, .cons r t, f => by
    rw [List.all_cons, Bool.and_eq_true] at f
    rw [List.any_cons, List.any_cons, eqU_of r f.1, any_eqU t f.2]
theorem mem_eqAt {A : Around} {s : Shared} {x : V} {v : Value} (rx : RelV x v) (fx : flatV x = true) : ∀ {xs : List V} {us : List Value}, Vals xs us → xs.all flatV = true → ∀ u ∈ us, SeqAt.EqAt A s u v (eqU x u)
  | _, _, .nil, _ => fun u hu => by cases hu
  | y :: xs, u :: us, .cons r t, f => fun u' hu => by
    rw [List.all_cons, Bool.and_eq_true] at f
    rcases List.mem_cons.mp hu with rfl | hu
    · rw [eqU_of r f.1]; exact eqAt_V r rx f.1 fx
    · exact mem_eqAt rx fx t f.2 u' hu
def inV (x : V) (xs : List V) : Bool := xs.any fun y => eqV y x
def rIn (K : PySem.W.Frag) (neg : Bool) : R2 := fun x y H Q => ∃ p xs, y = .ref p ∧ (SqL K H p xs ∨ SqT K H p xs) ∧ flatV x = true ∧ xs.all flatV = true ∧ Q (.bl (if neg then !inV x xs else inV x xs)) H
theorem op_in_seq : OpR X (compareOp .In) (rIn X.K false) := by
  intro pins s σ H x y v u Q I rx ry h
  obtain ⟨p, xs, rfl, hq, fx, fs, q⟩ := h
  cases ry
  rcases hq with hq | hq
  · obtain ⟨its, r, pl, hz⟩ := I.list hq
    refine SeqAt.in_listAt (eqU x) pl.isList (fun w hw => mem_eqAt rx fx r fs w (by simpa using hw)) ⟨.bl _, H, I, rfl, ?_⟩
    rw [show its.toArray.any (eqU x) = its.any (eqU x) by simp, any_eqU r fs]
    exact q
  · obtain ⟨its, r, pl, hz⟩ := I.tuple hq
    refine SeqAt.in_tupleAt (eqU x) pl (fun w hw => mem_eqAt rx fx r fs w (by simpa using hw)) ⟨.bl _, H, I, rfl, ?_⟩
    rw [show its.toArray.any (eqU x) = its.any (eqU x) by simp, any_eqU r fs]
    exact q
theorem call_len_seq : CallR X (.builtin "len") (fun xs H Q => ∃ p ys, xs = [.ref p] ∧ (SqL X.K H p ys ∨ SqT X.K H p ys) ∧ Q (.int ys.length) H) := by
  intro pins s σ H xs us Q I r h
  obtain ⟨p, ys, rfl, hq, q⟩ := h
  obtain ⟨u, rfl, rx⟩ := vals1 r
  cases rx
  have hn := line63
  rcases hq with hq | hq
  · obtain ⟨its, r', pl, hz⟩ := I.list hq
    have hlen := r'.length
    exact Calls.call_len_list pl.isList (by simp only [List.size_toArray] <;> omega) ⟨.int ys.length, H, I.tok _, ⟨s.toks + 1, by rw [List.size_toArray, hlen]⟩, q⟩
  · obtain ⟨its, r', pl, hz⟩ := I.tuple hq
    have hlen := r'.length
    exact len_tuple pl (by simp only [List.size_toArray] <;> omega) ⟨.int ys.length, H, I.tok _, ⟨s.toks + 1, by rw [List.size_toArray, hlen]⟩, q⟩
theorem call_len_str : CallR X (.builtin "len") (fun xs H Q => ∃ z, xs = [.str z] ∧ z.length ≤ sizeLine ∧ Q (.int z.length) H) := by
  intro pins s σ H xs us Q I r h
  obtain ⟨z, rfl, hz, q⟩ := h
  obtain ⟨u, rfl, t, rfl⟩ := vals1 r
  have hn := line63
  exact len_str (by omega) ⟨.int z.length, H, I.tok _, ⟨_, rfl⟩, q⟩
def tyV (K : PySem.W.Frag) (T : String) (x : V) (H : Hp) : Prop := match x with
  | .str _ => T = "str"
  | .int _ => T = "int"
  | .ref p => (T = "list" ∧ ∃ xs, SqL K H p xs) ∨ (T = "tuple" ∧ ∃ o, K.lookup p = some o ∧ o.cls = .type "tuple" ∧ o.dict = none) ∨
      (T = "dict" ∧ ((∃ kvs, H p = some (.dK kvs)) ∨ ∃ kvs, H p = some (.dT kvs))) ∨ (T = "set" ∧ ∃ S n, H p = some (.set S n))
  | _ => False
theorem tyV_is {pins : List (Addr × Obj)} {σ : St} {H : Hp} {s : Shared} {T : String} {x : V} {v : Value} (I : Inv X pins σ H s) (r : RelV x v) (ty : tyV X.K T x H) :
    s.TypeIs v T ∧ ∀ a, v = .ref a → ∃ ob, s.heap.get? a = some ob ∧ ob.dict = none := by
  cases x with
  | str z =>
    obtain ⟨t, rfl⟩ := r
    cases (show T = "str" from ty)
    exact ⟨typeIs_str s z t, fun _ e => nomatch e⟩
  | int i =>
    obtain ⟨t, rfl⟩ := r
    cases (show T = "int" from ty)
    exact ⟨typeIs_int s i t, fun _ e => nomatch e⟩
  | ref p =>
    cases r
    rcases ty with ⟨rfl, xs, hq⟩ | ⟨rfl, o, hk, hc, hd⟩ | ⟨rfl, hk⟩ | ⟨rfl, S, n, hk⟩
    · obtain ⟨its, _, pl, _⟩ := I.list hq
      refine ⟨pl.isList.typeIs, fun a e => ?_⟩
      cases e
      obtain ⟨o, n, e, c, hd, _⟩ := pl
      exact ⟨o, e, hd⟩
    · refine ⟨⟨o, I.kIn p o hk, hc⟩, fun a e => ?_⟩
      cases e
      exact ⟨o, I.kIn _ o hk, hd⟩
    · have z : ∃ o, s.heap.get? p = some o ∧ o.ExactDict := by
        rcases hk with ⟨kvs, hk⟩ | ⟨kvs, hk⟩
        · obtain ⟨_, _, _, _, o, _, _, e, ex, _⟩ := I.hok p _ hk
          exact ⟨o, e, ex⟩
        · obtain ⟨_, _, _, _, o, _, _, e, ex, _⟩ := I.hok p _ hk
          exact ⟨o, e, ex⟩
      obtain ⟨o, e, ex⟩ := z
      refine ⟨⟨o, e, ex.1⟩, fun a e2 => ?_⟩
      cases e2
      exact ⟨o, e, ex.2.1⟩
    · obtain ⟨o, _, _, _, e, ex, _⟩ := I.hok p _ hk
      refine ⟨⟨o, e, ex.1⟩, fun a e2 => ?_⟩
      cases e2
      exact ⟨o, e, ex.2.1⟩
  | _ => exact False.elim ty
def tBM0 (K : PySem.W.Frag) (T : String) (r : V → List V → Hp → VK → Prop) (to : TE) : TE := fun σ H Q => to σ H fun x H1 => tyV K T x H1 ∧ r x [] H1 Q
def tBM (K : PySem.W.Frag) (T : String) (r : V → List V → Hp → VK → Prop) (to : TE) (t : TA) : TE := fun σ H Q => to σ H fun x H1 => tyV K T x H1 ∧ t σ H1 fun xs H2 => r x xs H2 Q
variable {o e : Expr} {es : List Expr} {to : TE} {t : TA} {name : Str} {apos cpos : Pos} {T id : String} {r : V → List V → Hp → VK → Prop}
theorem pe_bm (pa : PlainAttrs T) (slot : Slot T name id) (hty : typeOf (.builtin id) = pure (.type "method_descriptor")) (hm : MtR X id r) (ho : PE X o to) (ha : PA X (e :: es) t)
    (hbase : attributeBase o name X.env (eval o X.env) = eval o X.env := by rfl)
    (hfew : ((backTo cpos (starEach (e :: es) X.env)).all (fun x => !x.1) && (backToKw cpos (keywordEach [] X.env)).all (fun x => x.1.isSome)
      && decide ((e :: es).length + ([] : List Keyword).length + (if ([] : List Keyword).isEmpty then 0 else 1) < 30)) = true := by rfl)
    (hline : (apos.endLine == cpos.line) = true := by rfl) (hs : starEach (e :: es) X.env = (false, eval e X.env) :: starEach es X.env := by rfl) (hplain : (backTo cpos (starEach es X.env)).any (·.1) = false := by rfl) :
    PE X (.Call (.Attribute o name apos) (e :: es) [] cpos) (tBM X.K T r to t) := by
  intro pins s σ H Q I h
  refine wpAny_Call_method_late hbase hfew hline rfl (thn (ho pins s σ H _ I h) fun v s1 ⟨x, H1, I1, r1, ty, q1⟩ => ?_)
  obtain ⟨h1, h2⟩ := tyV_is I1 r1 ty
  refine ⟨T, id, pa, slot, hty, h1, h2, ?_⟩
  have hA := ha cpos pins s1 σ H1 _ I1 q1
  rw [hs] at hA ⊢
  refine Calls.callWith_builtin (by show (false || (backTo cpos (starEach es X.env)).any (·.1)) = false; rw [hplain] <;> rfl) (Calls.evalArgs_plain ?_)
  exact thn hA fun us s2 ⟨vs, H2, I2, r2, q2⟩ => hm pins s2 σ H2 x vs v us Q I2 r1 r2 q2
end
end L2
namespace L2
open PySem PySem.Spec PyProof.Rows
def MtM (X : Cx) (id : String) (r : V → List V → Hp → VK → Prop) : Prop :=
  ∀ (pins : List (Addr × Obj)) (s : Shared) (σ : St) (H : Hp) (x : V) (xs : List V) (v : Value) (us : List Value) (Q : VK), Inv X pins σ H s → RelV x v → Vals xs us → r x xs H Q →
    wpAny (model X.prog X.w) X.A (call (.builtin id) (v :: us)) (EP X pins σ Q) X.xe s
theorem Vals.one : ∀ {x : V} {us : List Value}, Vals [x] us → ∃ u, us = [u] ∧ RelV x u
  | _, _, .cons r .nil => ⟨_, rfl, r⟩
section
variable {X : Cx} {pins : List (Addr × Obj)} {σ : St} {H : Hp} {s : Shared} {l b : Addr} {xs ys zs : List V}
theorem Inv.lset {its its' : List Value} {n : Nat} {f : Array Value → Array Value} {t' : Nat} (I : Inv X pins σ H s) (hH : H l = some (.lst xs))
    (e : s.heap.get? l = some { cls := .type "list", data := .seq its.toArray n }) (hf : f its.toArray = its'.toArray) (hv : Vals ys its') (hz : ys.length ≤ sizeLine) :
    Inv X pins σ (upd H l (.lst ys)) { s with heap := s.heap.update l (Obj.mapSeq f), toks := t' } := by
  have q := PySem.IsL.update e f
  rw [hf] at q
  refine I.write (x := l) (e := l) (by rw [hH]; exact trivial) (.inl rfl) (fun b' u hb hu => (Heap.get?_update_other s.heap (Obj.mapSeq f) (Ne.symm hb)).trans hu) ⟨_, q⟩ ?_
  exact ⟨hz, its', _, hv, q⟩
theorem Inv.lnew {its : List Value} {t' : Nat} (I : Inv X pins σ H s) (hv : Vals ys its) (hz : ys.length ≤ sizeLine) :
    Inv X pins σ (upd H s.heap.objs.size (.lst ys)) { s with heap := s.heap.push { cls := .type "list", data := .seq its.toArray }, toks := t' } :=
  I.laid (fun _ _ q => Heap.get?_push_of_some _ q) (Nat.le_refl _) ⟨hz, its, 0, hv, Heap.get?_push_size _ rfl⟩
theorem Inv.fresh (I : Inv X pins σ H s) : H s.heap.objs.size = none := I.hok.fresh (Nat.le_refl _)
theorem Inv.lstM (I : Inv X pins σ H s) (hH : H l = some (.lst xs)) : xs.length ≤ sizeLine ∧ ∃ (its : List Value) (n : Nat), Vals xs its ∧ xs.length = its.length ∧ s.heap.get? l = some { cls := .type "list", data := .seq its.toArray n } := by
  obtain ⟨z, its, n, r, e⟩ := I.hok l _ hH
  exact ⟨z, its, n, r, r.length, e⟩
end
section
variable {X : Cx}
def rAppend : V → List V → Hp → VK → Prop := fun x vs H Q => ∃ l xs y, x = .ref l ∧ vs = [y] ∧ H l = some (.lst xs) ∧ xs.length < sizeLine ∧ Q .non (upd H l (.lst (xs ++ [y])))
theorem mt_append : MtM X "list.append" rAppend := by
  intro pins s σ H x vs v us Q I rx rv h
  obtain ⟨l, xs, y, rfl, rfl, hH, hz, q⟩ := h
  cases rx
  obtain ⟨u, rfl, ru⟩ := rv.one
  obtain ⟨z, its, n, r, hl, e⟩ := I.lstM hH
  refine call_meets F.slot_list_append ⟨_, e, rfl⟩ F.entry_list_append (F.args_list_append_2 _ _) (PySem.list_append l its.toArray n u (by rw [List.size_toArray]; omega)) ⟨e, ?_⟩
  refine ⟨.non, _, I.lset (its' := its ++ [u]) hH e (by simp) (r.append (.cons ru .nil)) ?_, rfl, q⟩
  rw [List.length_append, List.length_singleton]
  omega
def rExtend : V → List V → Hp → VK → Prop := fun x vs H Q => ∃ l b xs zs, x = .ref l ∧ vs = [.ref b] ∧ H l = some (.lst xs) ∧ H b = some (.lst zs) ∧ xs.length + zs.length ≤ sizeLine ∧ Q .non (upd H l (.lst (xs ++ zs)))
def rPop : V → List V → Hp → VK → Prop := fun x vs H Q => ∃ l xs y, x = .ref l ∧ vs = [] ∧ H l = some (.lst xs) ∧ xs[xs.length - 1]? = some y ∧ Q y (upd H l (.lst xs.dropLast))
def rPopAt : V → List V → Hp → VK → Prop := fun x vs H Q => ∃ l xs i k y, x = .ref l ∧ vs = [.int i] ∧ H l = some (.lst xs) ∧ -(2 ^ 63) ≤ i ∧ i < 2 ^ 63 ∧ seqIndex? i xs.length = some k ∧ xs[k]? = some y ∧ Q y (upd H l (.lst (xs.eraseIdx k)))
def rReverse : V → List V → Hp → VK → Prop := fun x vs H Q => ∃ l xs, x = .ref l ∧ vs = [] ∧ H l = some (.lst xs) ∧ Q .non (upd H l (.lst xs.reverse))
def rClear : V → List V → Hp → VK → Prop := fun x vs H Q => ∃ l xs, x = .ref l ∧ vs = [] ∧ H l = some (.lst xs) ∧ Q .non (upd H l (.lst []))
def rCat : R2 := fun x y H Q => ∃ l b xs zs, x = .ref l ∧ y = .ref b ∧ H l = some (.lst xs) ∧ H b = some (.lst zs) ∧ xs.length + zs.length ≤ sizeLine ∧ ∀ p, H p = none → Q (.ref p) (upd H p (.lst (xs ++ zs)))
theorem op_cat : OpR X (binaryOp .Add) rCat := by
  intro pins s σ H x y v u Q I rx ry h
  obtain ⟨l, b, xs, zs, rfl, rfl, hH, hB, hz, q⟩ := h
  cases rx
  cases ry
  obtain ⟨z, its, n, r, hl, e⟩ := I.lstM hH
  obtain ⟨z2, its2, n2, r2, hl2, e2⟩ := I.lstM hB
  refine PySem.P.add_list e e2 ?_ (by rw [List.size_toArray, List.size_toArray]; omega)
  have ea : its.toArray ++ its2.toArray = (its ++ its2).toArray := by simp
  rw [ea]
  exact ⟨.ref _, _, I.lnew (t' := s.toks) (r.append r2) (by rw [List.length_append]; omega), rfl, q _ I.fresh⟩
def rRep : R2 := fun x y H Q => ∃ l k xs, x = .ref l ∧ y = .int k ∧ H l = some (.lst xs) ∧ -(2 ^ 63) ≤ k ∧ k < 2 ^ 63 ∧ xs.length * k.toNat ≤ sizeLine ∧
  ∀ p, H p = none → Q (.ref p) (upd H p (.lst (List.replicate k.toNat xs).flatten))
end
section
variable {prog : Program} {w : World} {A : Around} {E : Value → Shared → Prop} {s : Shared}
set_option maxRecDepth 100000 in
end
section
variable {X : Cx}
end
end L2
namespace Att
open PySem PySem.W PySem.Calls PyProof.Rows
theorem ints_of_wellAll {P : Params} {h : Heap} : ∀ (ns : List Int) (vs : List Value), WellAll P h vs (ns.map WData.int) → IntsAre vs ns := by
  intro ns
  induction ns with
  | nil =>
    intro vs w
    rw [List.map_nil] at w
    cases w
    exact .nil
  | cons n ns ih =>
    intro vs w
    rw [List.map_cons] at w
    cases w with
    | cons a b =>
      cases a
      exact .cons _ _ (ih _ b)
theorem script_of {l : OpenLaw} {n : Nat} (hn : l.most = some n) {P : Params} {h : Heap} {args : List WData} {vals : List Value}
    (hpre : l.row.toRowW.claim.pre args = true) (hwl : WellAll P h vals args) :
    ∃ a vs ns, vals = [Value.ref a] ∧ args = [WData.list (ns.map WData.int)] ∧ h.get? a = some { cls := .type "list", data := .seq vs.toArray } ∧ IntsAre vs ns ∧ ns.length ≤ n := by
  have hsh : WShape.hasAll [] args [.list .int] = true := (pre_splitW hpre).1
  have hc : l.pre.holds [] { args := args } = true := (pre_splitW hpre).2
  obtain ⟨d, r, rfl, h1, h2⟩ := hasAllW_cons hsh
  obtain rfl := hasAllW_nil h2
  obtain ⟨xs, rfl, h3⟩ := hasW_list h1
  obtain ⟨ns, rfl⟩ := items_int h3
  have hlen : ns.length ≤ n := by
    unfold OpenLaw.pre at hc
    have h4 : (WTm.not (.lt (.lit (.int (n : Int))) (.len (.arg 0)))).holds [] { args := [.list (ns.map .int)] } = true := by
      have h4 := (holds_andW hc).1
      rw [hn] at h4
      exact h4
    have h5 := condW_of h4 (w_not (w_lt w_lit (w_len_list (w_arg rfl))))
    rw [List.length_map] at h5
    refine Nat.le_of_not_lt fun q => ?_
    have q' : (n : Int) < ((ns.length : Nat) : Int) := by omega
    first
      | (rw [decide_eq_true q'] at h5; exact absurd h5 (by decide))
      | (simp at h5; omega)
  cases hwl with
  | cons w1 w2 =>
    cases w2
    cases w1 with
    | list ho hall => exact ⟨_, _, ns, rfl, rfl, ho, ints_of_wellAll ns _ hall, hlen⟩
theorem post_true (l : OpenLaw) (args : List WData) : l.row.toRowW.claim.post args (.bool true) args = true :=
  postW_of (r := l.row.toRowW) (X := (true == true))
    (show WShape.has [] (.bool true) .bool = true by first | rfl | decide | simp [WShape.has, WShape.arms, WShape.armsAll])
    (show (WTm.eq .res (.lit (.bool true))).value [] { args := args, res := some (.bool true), after := args } = some (.bool (true == true)) from w_eq_bool (w_res rfl) w_lit) rfl
theorem attach_call {l : OpenLaw} {n : Nat} {q : Program} {loose : List Str} {XP : (Str → Option Value) → Heap → Prop} {YP : World → Heap → Prop} {d : DefRec}
    (hn : l.most = some n) (hdf : d.params.defaults = [])
    (call : ∀ (w : World) (s₀ s₁ : Shared) (mg mb : Str → Option Value) (fa : Addr) (o : Obj) (pm cd doc : Value) (a : Addr) (vs : List Value) (ns : List Int),
      Ground q loose [] XP w s₀ mg mb s₁.heap → YP w s₁.heap →
      s₁.heap.get? fa = some o → o.data = .func (docDef d.name d.params d.body d.scope pm cd doc) → s₁.heap.CodeRec cd d.name → mg d.name = some (.ref fa) →
      s₁.heap.get? a = some { cls := .type "list", data := .seq vs.toArray } → IntsAre vs ns → ns.length ≤ n → s₁.gens = #[] →
      codeAny (model l.prog w) callerA (.call (.ref fa) ⟨[.ref a], []⟩) (fun r s' => r = .ok (.ret (.bool true)) ∧ OldK s₁.heap s'.heap ∧ s'.os = s₁.os ∧ AllBare s'.gens) s₁) :
    WalkO q loose XP YP l.row.toRowW d [] (fun f vs => PySem.call f vs) := by
  intro w s₀ s₁ mg mb G Y fa o pm cd doc dV kV ho hd hcd hD hmg hg args vals as hpre hlay hrd hwl hlo
  obtain rfl : dV = .none := Dflts.none hD hdf
  obtain rfl : kV = .none := Dflts.noKw hD
  obtain ⟨a, vs, ns, rfl, rfl, hobj, hints, hlen⟩ := script_of hn hpre hwl
  refine enter_call (codeAny_mono (call w s₀ s₁ mg mb fa o pm cd doc a vs ns G Y ho (fd_plain hd) hcd hmg hobj hints hlen hg) fun r s' hq => ?_)
  obtain ⟨rfl, h2, h3, h4⟩ := hq
  exact ⟨.inl ⟨.bool true, .bool true, [], rfl, fun _ => rfl, .bool true, post_true l _, fun _ => ⟨List.Pairwise.nil, fun _ hm => (nomatch hm)⟩⟩, h2, h3, h4⟩
section
variable {prog : Program} {w : World} {A : Around} {E : Value → Shared → Prop} {s : Shared} {K : Frag}
def noObjs (h : Heap) : Heap := { h with objs := #[] }
def ledger (h : Heap) (L d : Addr) : List (Addr × Obj) := (List.range h.objs.size).filterMap fun a => if a = L ∨ a = d then none else (h.get? a).map fun o => (a, o)
end
end Att
namespace L2
open PySem PySem.Spec PyProof.Rows
theorem vals_ints : ∀ {vs : List Value} {ns : List Int}, IntsAre vs ns → Vals (ns.map V.int) vs
  | _, _, .nil => .nil
  | _, _, .cons n t h => .cons ⟨t, rfl⟩ (vals_ints h)
def Only (H : Hp) : Prop := ∀ b, H b = none ∨ ∃ o xs, H b = some (.frz o (.lst xs))
theorem law_call {P : Program} {w : World} {K : PySem.W.Frag} {mg mb : Str → Option Value} {CX : CXT} {k : Nat} {fa a : Addr} {fd : FuncData} {x : Str} {sp : Sp} {s₁ : Shared} {vs : List Value} {ns : List Int}
    (KX : K.In s₁.heap) (hns : s₁.heap.Ns mainGlobals mg) (hb : s₁.heap.Ns builtinsNs mb) (hbb : ∀ x : Str, x ≠ "__name__" → mb x = bootBuiltins x) (hlim : s₁.heap.NoLimit) (hg : s₁.gens = #[])
    (ha : s₁.heap.get? a = some { cls := .type "list", data := .seq vs.toArray }) (hi : IntsAre vs ns) (hl : ns.length ≤ sizeLine) (hr : Room k callerA)
    (F : ∀ base : Heap, K.In base → base.Ns mainGlobals mg → FnOk P w K mg base CX k fa fd [x] sp) (hbind : ∀ (s : Shared) (u : Value), BindsTo s fd ⟨[u], []⟩ [(x, u)])
    (hsp : ∀ H : Hp, Only H → SqL K H a (ns.map V.int) → sp [.ref a] H (fun v _ => v = .bl true) fun _ _ _ => False)
    (hCX : ∀ H e s', CX [] H s₁ (fun _ _ _ => False) e s' → False) :
    codeAny (model P w) callerA (.call (.ref fa) ⟨[.ref a], []⟩) (fun r s' => r = .ok (.ret (.bool true)) ∧ OldK s₁.heap s'.heap ∧ s'.os = s₁.os ∧ AllBare s'.gens) s₁ := by
  have rv := vals_ints hi
  have lenV := hi.length
  have core : ∀ H : Hp, Only H → SqL K H a (ns.map V.int) → HOk P w H s₁.heap → (∀ b, H b ≠ none → b = a) → (H a ≠ none → K.lookup a = none) →
      codeAny (model P w) callerA (.call (.ref fa) ⟨[.ref a], []⟩) (fun r s' => r = .ok (.ret (.bool true)) ∧ OldK s₁.heap s'.heap ∧ s'.os = s₁.os ∧ AllBare s'.gens) s₁ := by
    intro H hO hS hok hA hK
    have base_of : ∀ {b : Addr} {o : Obj}, s₁.heap.get? b = some o → H b = none → (hidT s₁.heap H).get? b = some o := fun e n => hidT_get e n
    have noA : ∀ {b : Addr} {o : Obj} {es : Array DictEntry} {ep : Nat}, s₁.heap.get? b = some o → o.data = .dict es ep → H b = none := fun {b o es ep} e d => by
      cases q : H b with
      | none => rfl
      | some u =>
        have e' : b = a := hA b (by rw [q]; simp)
        subst e'
        rw [ha] at e; cases e
        have d' : Data.seq vs.toArray _ = Data.dict es ep := d
        cases d'
    have nsK : ∀ {b : Addr} {m : Str → Option Value}, s₁.heap.Ns b m → (hidT s₁.heap H).Ns b m := fun {b m} ⟨o, es, ep, e, d, r⟩ => ⟨o, es, ep, base_of e (noA e d), d, r⟩
    have hKb : K.In (hidT s₁.heap H) := fun b o e => base_of (KX b o e) (by
      cases q : H b with
      | none => rfl
      | some u =>
        have e' : b = a := hA b (by rw [q]; simp)
        subst e'
        rw [hK (by rw [q]; simp)] at e; cases e)
    have hM : Mod K mg (hidT s₁.heap H) := ⟨hKb, nsK hns, ⟨mb, nsK hb, hbb⟩, let ⟨mc, h1, h2⟩ := hlim; ⟨mc, nsK h1, h2⟩⟩
    have e0 : Env0 P w K mg (hidT s₁.heap H) callerA [] s₁ H := ⟨rfl, hM, fun b o e => of_hidT e, Nat.le_of_eq (hidT_size _ _), trivial, fun b hb => absurd (show b ∈ ([] : List Addr) from hb) (by simp), hok, .of_eq hg⟩
    refine codeAny_mono ((F _ hKb (nsK hns)).run callerA [] s₁ H ⟨[.ref a], []⟩ [.ref a] [.ref a] _ _ hr e0 (hbind s₁ (.ref a)) (.cons rfl .nil) (hsp H hO hS)) fun r s' h => ?_
    cases r with
    | error e => exact (hCX H e s' h).elim
    | ok fl =>
      cases fl with
      | next => exact False.elim h
      | brk => exact False.elim h
      | cont => exact False.elim h
      | ret u =>
        obtain ⟨v, H', os, bare, un, hok', r', q⟩ := h
        have q' : v = .bl true := q
        subst q'
        obtain rfl : u = Value.bool true := r'
        refine ⟨rfl, OldK.of_keep fun b o e => ?_, os, bare⟩
        cases q : H b with
        | none => exact un.keep b o e q (by intro z; exact absurd (show b ∈ ([] : List Addr) from z) (by simp)) (by simp)
        | some u =>
          rcases hO b with z | ⟨ob, xs, z⟩
          · rw [q] at z; cases z
          · have z2 := un.frzs b ob _ z
            obtain ⟨e1, _⟩ := hok b _ z
            obtain ⟨e2, _⟩ := hok' b _ z2
            rw [e] at e1; cases e1
            exact e2
  cases hk : K.lookup a with
  | some o =>
    have e := KX a o hk
    rw [ha] at e
    cases e
    refine core (fun _ => none) (fun _ => .inl rfl) (.inr ⟨_, vs.toArray, _, hk, rfl, rfl, rfl, by rw [List.size_toArray, lenV]; exact hl, by simpa using rv⟩) (fun b u z => by have z' : (none : Option HO) = some u := z; cases z') (fun b z => absurd rfl z) fun z => absurd rfl z
  | none =>
    refine core (fun b => if b = a then some (.frz { cls := .type "list", data := .seq vs.toArray } (.lst (ns.map V.int))) else none) (fun b => ?_) (.inl (.inr ⟨{ cls := .type "list", data := .seq vs.toArray }, if_pos rfl⟩)) (fun b u z => ?_) (fun b z => ?_) fun _ => hk
    · by_cases hb : b = a
      · exact .inr ⟨_, _, if_pos hb⟩
      · exact .inl (if_neg hb)
    · by_cases hb : b = a
      · have z' := (if_pos hb).symm.trans z
        cases z'
        subst hb
        exact ⟨ha, by rw [List.length_map]; exact hl, vs, _, rv, ha⟩
      · have z' := (if_neg hb).symm.trans z
        cases z'
    · by_cases hb : b = a
      · exact hb
      · exact absurd (if_neg hb) z
end L2
namespace L2
open PySem PySem.Spec PyProof.Rows
abbrev KOf {K : PySem.W.Frag} {h : Heap} (_ : K.In h) : PySem.W.Frag := K
theorem walk_of {l : PySem.W.OpenLaw} {n k : Nat} {q : Program} {loose : List Str} {XP : (Str → Option Value) → Heap → Prop} {YP : World → Heap → Prop} {d : DefRec} {K : Params → PySem.W.Frag} {CX : World → CXT} {sp : World → Sp} {x : Str}
    (hn : l.most = some n) (hn2 : n ≤ sizeLine) (hdf : d.params.defaults = []) (hr : Room k callerA)
    (hY : ∀ (w : World) (h : Heap), YP w h → (K w.params).In h)
    (F : ∀ (w : World) (mg : Str → Option Value) (fa : Addr) (h : Heap), (K w.params).In h → h.Ns mainGlobals mg → mg d.name = some (.ref fa) →
      ∃ fd : FuncData, (∀ (s : Shared) (u : Value), BindsTo s fd ⟨[u], []⟩ [(x, u)]) ∧
        ∀ base : Heap, (K w.params).In base → base.Ns mainGlobals mg → FnOk l.prog w (K w.params) mg base (CX w) k fa fd [x] (sp w))
    (hsp : ∀ (w : World) (H : Hp) (a : Addr) (ns : List Int), ns.length ≤ n → Only H → SqL (K w.params) H a (ns.map V.int) → sp w [.ref a] H (fun v _ => v = .bl true) fun _ _ _ => False)
    (hCX : ∀ (w : World) (H : Hp) (s : Shared) (e : Value) (s' : Shared), CX w [] H s (fun _ _ _ => False) e s' → False) :
    PySem.W.WalkO q loose XP YP l.row.toRowW d [] (fun f vs => PySem.call f vs) := by
  refine Att.attach_call hn hdf fun w s₀ s₁ mg mb fa o pm cd doc a vs ns G Y ho hd hcd hmg hobj hints hlen hg => ?_
  have KX := hY w _ Y
  obtain ⟨fd, hb, hF⟩ := F w mg fa _ KX G.T.g hmg
  exact law_call KX G.T.g G.T.b G.T.builtins G.T.nolimit hg hobj hints (Nat.le_trans hlen hn2) hr hF hb (fun H hO hS => hsp w H a ns hlen hO hS) fun H e s' => hCX w H s₁ e s'
theorem walk_ofK {l : PySem.W.OpenLaw} {n k : Nat} {q : Program} {loose : List Str} {XP : (Str → Option Value) → Heap → Prop} {YP : World → Heap → Prop} {d : DefRec} {K : Params → PySem.W.Frag} {CX : CXT} {sp : PySem.W.Frag → Sp} {x : Str}
    (hn : l.most = some n) (hn2 : n ≤ sizeLine) (hdf : d.params.defaults = []) (hr : Room k callerA)
    (hY : ∀ (w : World) (h : Heap), YP w h → (K w.params).In h)
    (F : ∀ (w : World) (mg : Str → Option Value) (fa : Addr) (h : Heap), (K w.params).In h → h.Ns mainGlobals mg → mg d.name = some (.ref fa) →
      ∃ fd : FuncData, (∀ (s : Shared) (u : Value), BindsTo s fd ⟨[u], []⟩ [(x, u)]) ∧
        ∀ base : Heap, (K w.params).In base → base.Ns mainGlobals mg → FnOk l.prog w (K w.params) mg base CX k fa fd [x] (sp (K w.params)))
    (hsp : ∀ (K : PySem.W.Frag) (H : Hp) (a : Addr) (ns : List Int), ns.length ≤ n → Only H → SqL K H a (ns.map V.int) → sp K [.ref a] H (fun v _ => v = .bl true) fun _ _ _ => False)
    (hCX : ∀ (H : Hp) (s : Shared) (e : Value) (s' : Shared), CX [] H s (fun _ _ _ => False) e s' → False) :
    PySem.W.WalkO q loose XP YP l.row.toRowW d [] (fun f vs => PySem.call f vs) :=
  walk_of (K := K) (CX := fun _ => CX) (sp := fun w => sp (K w.params)) hn hn2 hdf hr hY F (fun w H a ns h1 h2 h3 => hsp (K w.params) H a ns h1 h2 h3) fun _ H s e s' => hCX H s e s'
end L2
namespace L2
open PySem PySem.Spec PyProof.Rows
def inClass (s : Stmt) (j : Nat) : Stmt := match s with
  | .ClassDef _ _ _ body _ _ _ _ _ _ _ => body.getD j (.Pass ⟨0, 0, 0, 0⟩)
  | _ => .Pass ⟨0, 0, 0, 0⟩
def defArgs (s : Stmt) : Arguments := match s with
  | .FunctionDef _ a _ _ _ _ _ _ _ _ => a
  | _ => { posonlyargs := [], args := [], vararg := none, kwonlyargs := [], kw_defaults := [], kwarg := none, defaults := [] }
def defBody (s : Stmt) : List Stmt := match s with
  | .FunctionDef _ _ b _ _ _ _ _ _ _ => b
  | _ => []
def defScope (s : Stmt) : Scope := match s with
  | .FunctionDef _ _ _ _ _ _ sc _ _ _ => sc
  | _ => { kind := .function, names := [], isGenerator := false, isCoroutine := false }
abbrev CX0 : CXT := fun _ _ _ _ _ _ => False
abbrev E0 : XK := fun _ _ _ => False
theorem pass0 {X : Cx} : Passes CX0 X E0 := fun _ _ _ _ _ _ _ h => h.elim
structure Fun (K : PySem.W.Frag) (x qual : Str) (st : Stmt) (f : Addr) (fd : FuncData) : Prop where
  ex : ∃ (oc : Value) (od : Option Addr) (kV doc pm : Value) (an : Option Addr) (cdv ct : Value) (osl : Array (Option Value)),
    fd = PySem.W.fnOf x qual (defArgs st) (defBody st) (defScope st) .none kV doc pm an cdv ct ∧ K.lookup f = some ⟨oc, od, .func fd, osl⟩ ∧ PySem.W.codeIn K cdv qual = true
  kp : PySem.W.keepIn K (.ref f) = true
section
variable {P : Program} {w : World} {K : PySem.W.Frag} {mg : Str → Option Value} {base : Heap}
theorem Fun.ok {x qual : Str} {st : Stmt} {f : Addr} {fd : FuncData} {N ps : List Str} {k : Nat} {sp : Sp} (F : Fun K x qual st f fd) (S : FnScope N ps (defScope st)) (len : ∀ vs H Q E, sp vs H Q E → vs.length = ps.length)
    (hbody : ∀ (cdv : Value) (A : Around) (outer : List Env) (s : Shared) (H : Hp) (vs : List V) (Q : VK) (E : XK), Room k (A.deeper (envOfC qual (defScope st) s.heap.objs.size f cdv)) → sp vs H Q E →
      ∃ t, PSs (cxOf CX0 P w K mg base N qual (defScope st) f cdv A outer s H E).nox (defBody st) t ∧ t { nx := fun _ H' => Q .non H', rt := Q } (start N vs) H) : FnOk P w K mg base CX0 (k + 1) f fd ps sp := by
  obtain ⟨oc, od, kV, doc, pm, an, cdv, ct, osl, rfl, lk, hcd⟩ := F.ex
  refine fn_of lk hcd S len fun A outer s H vs Q E hr hsp => ?_
  obtain ⟨t, h, q⟩ := hbody cdv A outer s H vs Q E hr hsp
  exact ⟨t, h.nox, q⟩
theorem Fun.binds {x qual : Str} {st : Stmt} {f : Addr} {fd : FuncData} {ps : List Str} (F : Fun K x qual st f fd)
    (h : ∀ (kV doc pm : Value) (an : Option Addr) (cdv ct : Value) (us : List Value), us.length = ps.length → bindArgs (PySem.W.fnOf x qual (defArgs st) (defBody st) (defScope st) .none kV doc pm an cdv ct) ⟨us, []⟩ = pure (ps.zip us)) : Binds K fd ps [] := by
  obtain ⟨oc, od, kV, doc, pm, an, cdv, ct, osl, rfl, lk, hcd⟩ := F.ex
  exact .all (h kV doc pm an cdv ct)
theorem fun_mk {x qual : Str} {st : Stmt} {f : Addr} {oc : Value} {od an : Option Addr} {osl : Array (Option Value)} {kV doc pm cdv ct : Value} (l : K.lookup f = some ⟨oc, od, .func (PySem.W.fnOf x qual (defArgs st) (defBody st) (defScope st) .none kV doc pm an cdv ct), osl⟩)
    (c : PySem.W.codeIn K cdv qual = true) (k : PySem.W.keepIn K (.ref f) = true) : Fun K x qual st f (PySem.W.fnOf x qual (defArgs st) (defBody st) (defScope st) .none kV doc pm an cdv ct) := ⟨⟨oc, od, kV, doc, pm, an, cdv, ct, osl, rfl, l, c⟩, k⟩
end
section
variable {X : Cx}
theorem pv (i : Nat) {x : Str} {pos : Pos} (hN : X.N[i]? = some x := by rfl) (hv : Vis X.env.scope x := by first | exact Or.inl rfl | exact Or.inr (Or.inl rfl) | exact Or.inr (Or.inr rfl)) (hd : (x == ("__debug__" : Str)) = false := by decide)
    (hcd : (x == ("__classdict__" : Str)) = false := by decide) : PE X (.Name x pos) (tVar i) := pe_var hN hv hd hcd
end
theorem iteF {A B : Prop} (h : B) : if false = true then A else B := by
  rw [if_neg Bool.false_ne_true]
  exact h
theorem iteT {A B : Prop} (h : A) : if true = true then A else B := by
  rw [if_pos rfl]
  exact h
theorem ite2 {c A B : Prop} [Decidable c] (h1 : c → A) (h2 : ¬ c → B) : if c then A else B := by
  by_cases h : c
  · rw [if_pos h]
    exact h1 h
  · rw [if_neg h]
    exact h2 h
def Same (H H' : Hp) : Prop := ∀ b o, H b = some o → H' b = some o
theorem Same.refl (H : Hp) : Same H H := fun _ _ h => h
theorem Same.trans {H H1 H2 : Hp} (a : Same H H1) (b : Same H1 H2) : Same H H2 := fun c o h => b c o (a c o h)
theorem Same.free {H H' : Hp} (e : Same H H') {l : Addr} (h : H' l = Option.none) : H l = Option.none := by
  cases q : H l with
  | none => rfl
  | some o =>
    rw [e l o q] at h
    cases h
theorem Same.seq {K : PySem.W.Frag} {H H' : Hp} {a : Addr} {xs : List V} (e : Same H H') (h : SqL K H a xs) : SqL K H' a xs := by
  rcases h with (h | ⟨o, h⟩) | h
  · exact .inl (.inl (e _ _ h))
  · exact .inl (.inr ⟨o, e _ _ h⟩)
  · exact .inr h
end L2
set_option maxHeartbeats 4000000
namespace L2
open PySem PySem.Spec PyProof.Rows
section
variable {κ : Type} [DecidableEq κ]
def valV (kvs : List (κ × V)) (k : κ) : Option V := (kvs.find? fun kv => decide (kv.1 = k)).map (·.2)
def putK (kvs : List (κ × V)) (k : κ) (v : V) : List (κ × V) :=
  if (kvs.any fun kv => decide (kv.1 = k)) = true then kvs.map (fun kv => if kv.1 = k then (kv.1, v) else kv) else kvs ++ [(k, v)]
def dropK (kvs : List (κ × V)) (k : κ) : List (κ × V) := kvs.filter fun kv => decide (kv.1 ≠ k)
end
abbrev KT (H : Hp) : List (List Key × V) → List (List Key × Addr × Value) → Prop := Paired fun p q => p.1 = q.1 ∧ H q.2.1 = some (.tup (p.1.map kV)) ∧ RelV p.2 q.2.2
section
variable {P : Program} {w : World} {H : Hp} {h : Heap} {a : Addr}
end
def DGet (H : Hp) (a : Addr) (y : V) (r : Option V) : Prop :=
  (∃ kvs k, Rd H a (.dK kvs) ∧ y = kV k ∧ r = valV kvs k) ∨ ∃ kvs k b, Rd H a (.dT kvs) ∧ y = .ref b ∧ H b = some (.tup (k.map kV)) ∧ r = valV kvs k
def DPut (H : Hp) (a : Addr) (y v : V) (H' : Hp) : Prop :=
  (∃ kvs k, H a = some (.dK kvs) ∧ y = kV k ∧ kvs.length < sizeLine ∧ H' = upd H a (.dK (putK kvs k v))) ∨
  ∃ kvs k b, H a = some (.dT kvs) ∧ y = .ref b ∧ H b = some (.tup (k.map kV)) ∧ kvs.length < sizeLine ∧ H' = upd H a (.dT (putK kvs k v))
section
variable {X : Cx} {pins : List (Addr × Obj)} {σ : St} {H : Hp} {s : Shared} {a : Addr} {y v : V} {u r : Value} {o : Option V} {A : Around} {E : Value → Shared → Prop}
end
section
variable {X : Cx} {pins : List (Addr × Obj)} {σ : St} {H : Hp} {s : Shared} {a : Addr} {kvs : List (Key × V)} {k : Key} {u : Value} {A : Around} {E : Value → Shared → Prop}
end
def NoSl (i : Expr) : Prop := ∀ ov iv, subscripted i false ov iv = operate [ov, iv] (getItem ov iv)
def tDGet (td ty : TE) : TE := fun σ H Q => td σ H fun x H1 => ty σ H1 fun y H2 => ∃ a v, x = .ref a ∧ DGet H2 a y (some v) ∧ Q v H2
def tDIn (ty td : TE) : TE := fun σ H Q => ty σ H fun y H1 => td σ H1 fun x H2 => ∃ a o, x = .ref a ∧ DGet H2 a y o ∧ Q (.bl o.isSome) H2
def tDNotIn (ty td : TE) : TE := fun σ H Q => ty σ H fun y H1 => td σ H1 fun x H2 => ∃ a o, x = .ref a ∧ DGet H2 a y o ∧ Q (.bl (!o.isSome)) H2
def sDPut (td ty tv : TE) : TS := fun D σ H => tv σ H fun v H1 => td σ H1 fun x H2 => ty σ H2 fun y H3 => ∃ a H4, x = .ref a ∧ DPut H3 a y v H4 ∧ D.nx σ H4
def sDAug (td ty tv : TE) (rd : V → V → Hp → VK → Prop) : TS := fun D σ H => td σ H fun x H1 => ty σ H1 fun y H2 => ∃ a v, x = .ref a ∧ DGet H2 a y (some v) ∧
  tv σ H2 fun y2 H3 => rd v y2 H3 fun z H4 => ∃ H5, DPut H4 a y z H5 ∧ D.nx σ H5
def sDDel (td ty : TE) : TS := fun D σ H => td σ H fun x H1 => ty σ H1 fun y H2 => ∃ a kvs k, x = .ref a ∧ H2 a = some (.dK kvs) ∧ y = kV k ∧ (valV kvs k).isSome = true ∧ D.nx σ (upd H2 a (.dK (dropK kvs k)))
section
variable {X : Cx} {o i e value : Expr} {pos pos' tpos : Pos} {td ty tv : TE}
end
def tDNewK : TE := fun _ H Q => ∀ p, H p = none → Q (.ref p) (upd H p (.dK []))
def tDNewT : TE := fun _ H Q => ∀ p, H p = none → Q (.ref p) (upd H p (.dT []))
section
variable {X : Cx} {pos : Pos}
end
def tPairs : List (TE × TE) → St → Hp → (List (V × V) → Hp → Prop) → Prop
  | [], _, H, Q => Q [] H
  | (tk, tv) :: r, σ, H, Q => tk σ H fun x H1 => tv σ H1 fun y H2 => tPairs r σ H2 fun ps H3 => Q ((x, y) :: ps) H3
abbrev VV : List (V × V) → List (Value × Value) → Prop := Paired fun p q => RelV p.1 q.1 ∧ RelV p.2 q.2
def PPs (X : Cx) (pos : Pos) (keys : List (Option Expr)) (values : List Expr) (trs : List (TE × TE)) : Prop :=
  ∀ (pins : List (Addr × Obj)) (s : Shared) (σ : St) (H : Hp) (Q : List (V × V) → Hp → Prop), Inv X pins σ H s → tPairs trs σ H Q →
    wpAny (model X.prog X.w) X.A (evalPairs (pairTrees keys values X.env pos)) (fun vs s' => ∃ ps H', Inv X pins σ H' s' ∧ VV ps vs ∧ Q ps H') X.xe s
def mergeK (kvs more : List (Key × V)) : List (Key × V) := more.foldl (fun acc kv => putK acc kv.1 kv.2) kvs
def tDisp (trs : List (TE × TE)) : TE := fun σ H Q => ∀ p, H p = none → tPairs trs σ (upd H p (.dK [])) fun ps H2 => H2 p = some (.dK []) ∧ ∃ kvs : List (Key × V), ps = kvs.map (fun kv => (kV kv.1, kv.2)) ∧ kvs.length ≤ 15 ∧ Q (.ref p) (upd H2 p (.dK (mergeK [] kvs)))
structure M1 (X : Cx) (o : Expr) (m : Str) (apos : Pos) (e : Expr) (cpos : Pos) : Prop where
  base : attributeBase o m X.env (eval o X.env) = eval o X.env
  few : ((backTo cpos (starEach [e] X.env)).all (fun x => !x.1) && (backToKw cpos (keywordEach [] X.env)).all (fun x => x.1.isSome)
    && decide (([e] : List Expr).length + ([] : List Keyword).length + (if ([] : List Keyword).isEmpty then 0 else 1) < 30)) = true
  line : (apos.endLine == cpos.line) = true
  trees : backTo cpos (starEach [e] X.env) = [(false, eval e X.env)]
structure M2 (X : Cx) (o : Expr) (m : Str) (apos : Pos) (e f : Expr) (cpos : Pos) : Prop where
  base : attributeBase o m X.env (eval o X.env) = eval o X.env
  few : ((backTo cpos (starEach [e, f] X.env)).all (fun x => !x.1) && (backToKw cpos (keywordEach [] X.env)).all (fun x => x.1.isSome)
    && decide (([e, f] : List Expr).length + ([] : List Keyword).length + (if ([] : List Keyword).isEmpty then 0 else 1) < 30)) = true
  line : (apos.endLine == cpos.line) = true
  trees : backTo cpos (starEach [e, f] X.env) = [(false, eval e X.env), (false, eval f X.env)]
def IsD (H : Hp) (a : Addr) : Prop := (∃ kvs, Rd H a (.dK kvs)) ∨ ∃ kvs, Rd H a (.dT kvs)
section
variable {X : Cx} {pins : List (Addr × Obj)} {σ : St} {H : Hp} {s : Shared} {a : Addr} {y d : V} {u r : Value} {o : Option V} {A : Around} {E : Value → Shared → Prop}
end
def tDGet1 (td ty : TE) : TE := fun σ H Q => td σ H fun x H1 => ∃ a, x = .ref a ∧ IsD H1 a ∧ ty σ H1 fun y H2 => ∃ o, DGet H2 a y o ∧ Q (o.getD .non) H2
def tDGet2 (td ty tx : TE) : TE := fun σ H Q => td σ H fun x H1 => ∃ a, x = .ref a ∧ IsD H1 a ∧ ty σ H1 fun y H2 => tx σ H2 fun z H3 => ∃ o, DGet H3 a y o ∧ Q (o.getD z) H3
def tDPop1 (td ty : TE) : TE := fun σ H Q => td σ H fun x H1 => ∃ a, x = .ref a ∧ IsD H1 a ∧ ty σ H1 fun y H2 => ∃ kvs k v, H2 a = some (.dK kvs) ∧ y = kV k ∧ valV kvs k = some v ∧ Q v (upd H2 a (.dK (dropK kvs k)))
def tDPop2 (td ty tx : TE) : TE := fun σ H Q => td σ H fun x H1 => ∃ a, x = .ref a ∧ IsD H1 a ∧ ty σ H1 fun y H2 => tx σ H2 fun z H3 => ∃ kvs k, H3 a = some (.dK kvs) ∧ y = kV k ∧
  (∀ v, valV kvs k = some v → Q v (upd H3 a (.dK (dropK kvs k)))) ∧ (valV kvs k = none → Q z H3)
section
variable {X : Cx} {o e f : Expr} {apos cpos : Pos} {td ty tx : TE}
end
section
variable {X : Cx} {pins : List (Addr × Obj)} {σ : St} {H : Hp} {s : Shared} {a : Addr} {kvs : List (Key × V)} {A : Around} {E : Value → Shared → Prop}
end
section
variable {X : Cx} {pins : List (Addr × Obj)} {σ : St} {H : Hp} {s : Shared} {a : Addr} {y : V} {u : Value} {A : Around} {E : Value → Shared → Prop}
end
end L2
namespace SW
def gcdI (a b : Int) : Int := (Int.gcd a b : Int)
structure Low (a b x y : Int) : Prop where
  x0 : 0 ≤ x
  y0 : 0 < y
  one : gcdI x y = 1
  eq : x * b = y * a
  lex : x ≤ a
  ley : y ≤ b
theorem mul_bd {a b m n : Int} (ha : 0 ≤ a) (ha' : a ≤ m) (hb : 0 ≤ b) (hb' : b ≤ n) : 0 ≤ a * b ∧ a * b ≤ m * n :=
  ⟨Int.mul_nonneg ha hb, Int.mul_le_mul ha' hb' hb (by omega)⟩
end SW
namespace SW
end SW
namespace L2
open PySem PySem.Spec PyProof.Rows
def Fits (i : Int) : Prop := i.natAbs < 2 ^ 8192
theorem Fits.log {i : Int} (h : Fits i) : i.natAbs.log2 < 8192 := by
  by_cases h0 : i.natAbs = 0
  · rw [h0]; exact (by decide : Nat.log2 0 < 8192)
  · exact (Nat.log2_lt h0).mpr h
theorem Fits.bits {i : Int} (h : Fits i) : Builtin.Int.intBits i ≤ 2 ^ 20 := by
  have h1 := h.log
  have h2 : (8193 : Nat) ≤ 2 ^ 20 := by decide
  unfold Builtin.Int.intBits
  split
  · exact Nat.zero_le _
  · omega
theorem pow100 : (10 ^ 100 : Nat) ≤ 2 ^ 8192 := Nat.le_trans (by decide +kernel : (10 ^ 100 : Nat) ≤ 2 ^ 340) (Nat.pow_le_pow_right (by decide) (by decide))
theorem fits_of {i : Int} (h1 : -(10 ^ 100) < i) (h2 : i < 10 ^ 100) : Fits i := by
  have h3 : i.natAbs < 10 ^ 100 := by omega
  exact Nat.lt_of_lt_of_le h3 pow100
def CMulF (i j : Int) : Prop := CMul i j ∨ (Fits i ∧ Fits j)
def CDivF (_ j : Int) : Prop := 0 < j ∧ Fits j
theorem CMulF.ok {i j : Int} (h : CMulF i j) : IntMulOk i j := by
  rcases h with h | ⟨h1, h2⟩
  · exact h.ok
  · exact .of_bits h1.bits h2.bits
section
variable {X : Cx}
theorem op_mulF : OpR X (binaryOp .Mult) (rI CMulF fun i j => .int (i * j)) := opI fun _ _ _ _ _ _ _ hc q => mul_int q hc.ok
theorem op_fdivF : OpR X (binaryOp .FloorDiv) (rI CDivF fun i j => .int (i / j)) := opI fun i j _ _ _ _ _ hc q => by
  have h1 : (0 : Int) < j := hc.1
  have h2 : j.natAbs.log2 < 9000 := by have := hc.2.log; omega
  refine floordiv_int (by omega) ?_ (.inl (PyProof.noPylong_of_log2 h2))
  rw [Int.fdiv_eq_ediv_of_nonneg i (by omega)]
  exact q
theorem call_isT {n : String} : CallR X (.builtin "isinstance") (fun xs H Q => ∃ x t b, xs = [x, .ty n] ∧ TyOf X.K H x t ∧ PySem.W.kitOne X.K t (.type n) = some b ∧ Q (.bl b) H) := by
  intro pins s σ H xs us Q I r h
  obtain ⟨x, t, b, rfl, ty, e, q⟩ := h
  obtain ⟨u, w', rfl, rx, ry⟩ := vals2 r
  cases ry
  exact isinst_ok I rx ty e fun tk => ⟨.bl b, H, I.tok tk, rfl, q⟩
theorem call_isO {C : Addr} : CallR X (.builtin "isinstance") (fun xs H Q => ∃ x t b, xs = [x, .ref C] ∧ TyOf X.K H x t ∧ PySem.W.kitOne X.K t (.ref C) = some b ∧ Q (.bl b) H) := by
  intro pins s σ H xs us Q I r h
  obtain ⟨x, t, b, rfl, ty, e, q⟩ := h
  obtain ⟨u, w', rfl, rx, ry⟩ := vals2 r
  cases ry
  exact isinst_ok I rx ty e fun tk => ⟨.bl b, H, I.tok tk, rfl, q⟩
theorem pe_isinstT {e : Expr} {te : TE} {T : Str} {n : String} {p p2 pos : Pos} (hg : Gl X "isinstance") (hm : X.mg "isinstance" = none) (hgT : Gl X T) (hmT : X.mg T = none) (hvT : bootBuiltins T = some (.type n)) (he : PE X e te)
    (hn : T ≠ "__name__" := by decide) (hd : (T == ("__debug__" : Str)) = false := by decide)
    (s1 : starEach [e, .Name T p2] X.env = (false, eval e X.env) :: starEach [.Name T p2] X.env := by rfl) (hpl : (backTo pos (starEach [.Name T p2] X.env)).any (·.1) = false := by rfl) :
    PE X (.Call (.Name "isinstance" p) [e, .Name T p2] [] pos) (tCB (fun xs H Q => ∃ x t b, xs = [x, .ty n] ∧ TyOf X.K H x t ∧ PySem.W.kitOne X.K t (.type n) = some b ∧ Q (.bl b) H) (tCons te (tCons (tC (.ty n)) tNil))) :=
  pe_callB call_isT hg hm boot_isinstance (pa_cons he (pa_cons (pe_bltn hgT hmT hvT rfl hn hd) pa_nil) s1) (by decide) (by decide) s1 hpl
theorem pe_isinst {e : Expr} {te : TE} {T : Str} {C : Addr} {p p2 pos : Pos} (hg : Gl X "isinstance") (hm : X.mg "isinstance" = none) (hgT : Gl X T) (hmT : X.mg T = some (.ref C)) (he : PE X e te)
    (hd : (T == ("__debug__" : Str)) = false := by decide)
    (s1 : starEach [e, .Name T p2] X.env = (false, eval e X.env) :: starEach [.Name T p2] X.env := by rfl) (hpl : (backTo pos (starEach [.Name T p2] X.env)).any (·.1) = false := by rfl) :
    PE X (.Call (.Name "isinstance" p) [e, .Name T p2] [] pos) (tCB (fun xs H Q => ∃ x t b, xs = [x, .ref C] ∧ TyOf X.K H x t ∧ PySem.W.kitOne X.K t (.ref C) = some b ∧ Q (.bl b) H) (tCons te (tCons (tC (.ref C)) tNil))) :=
  pe_callB call_isO hg hm boot_isinstance (pa_cons he (pa_cons (pe_glob hgT hmT rfl hd) pa_nil) s1) (by decide) (by decide) s1 hpl
end
theorem kit_tt (K : PySem.W.Frag) {S T : String} {b : Bool} (h1 : (Value.type S == Value.type T) = false) (h2 : PySem.W.kitMeta T = true) (h3 : (PySem.fastBuiltinMro S).map (·.contains (Value.type T)) = some b) :
    PySem.W.kitOne K (.type S) (.type T) = some b := by
  unfold PySem.W.kitOne
  rw [if_neg (by rw [h1]; exact Bool.false_ne_true)]
  show (if PySem.W.kitMeta T = true then PySem.W.subIn K (.type S) (.type T) else none) = some b
  rw [if_pos h2]
  exact h3
theorem kit_same (K : PySem.W.Frag) (t : Value) : PySem.W.kitOne K t t = some true := by
  unfold PySem.W.kitOne
  rw [if_pos (beq_self_eq_true t)]
theorem kit_int_bool (K : PySem.W.Frag) : PySem.W.kitOne K (.type "int") (.type "bool") = some false := kit_tt K (by decide +kernel) (by decide +kernel) (by decide +kernel)
theorem kit_int_int (K : PySem.W.Frag) : PySem.W.kitOne K (.type "int") (.type "int") = some true := kit_same K _
theorem kit_list_list (K : PySem.W.Frag) : PySem.W.kitOne K (.type "list") (.type "list") = some true := kit_same K _
def Sq (K : PySem.W.Frag) (H : Hp) (a : Addr) (xs : List V) : Prop := SqL K H a xs ∨ SqT K H a xs
def rAt (K : PySem.W.Frag) : R2 := fun x y H Q => ∃ p xs i v, x = .ref p ∧ y = .int i ∧ Sq K H p xs ∧ atI xs i = some v ∧ Q v H
section
variable {X : Cx}
theorem ix_any : IxR X (rAt X.K) := by
  intro value slice pins s σ H x y v u Q I rx ry h hs
  obtain ⟨p, xs, i, z, e1, e2, hq | hq, he, q⟩ := h
  · exact ix_list value slice pins s σ H x y v u Q I rx ry ⟨p, xs, i, z, e1, e2, hq, he, q⟩ hs
  · exact ix_tup value slice pins s σ H x y v u Q I rx ry ⟨p, xs, i, z, e1, e2, hq, he, q⟩ hs
end
theorem atI_of {α : Type} {xs : List α} {i : Int} {v : α} (h0 : 0 ≤ i) (h : xs[i.toNat]? = some v) : atI xs i = some v := by
  obtain ⟨n, rfl⟩ := Int.eq_ofNat_of_zero_le h0
  exact atI_nat (by simpa using h)
theorem Same.tup {K : PySem.W.Frag} {H H' : Hp} {a : Addr} {xs : List V} (e : Same H H') (h : SqT K H a xs) : SqT K H' a xs := by
  rcases h with (h | ⟨o, h⟩) | h
  · exact .inl (.inl (e _ _ h))
  · exact .inl (.inr ⟨o, e _ _ h⟩)
  · exact .inr h
theorem Same.sq {K : PySem.W.Frag} {H H' : Hp} {a : Addr} {xs : List V} (e : Same H H') (h : Sq K H a xs) : Sq K H' a xs := h.elim (fun h => .inl (e.seq h)) fun h => .inr (e.tup h)
theorem same_new {H : Hp} {p : Addr} (h : H p = none) (o : HO) : Same H (upd H p o) := fun b u e => by
  rw [upd_ne (ne_of_none e h)]; exact e
mutual
def Rep (K : PySem.W.Frag) (H : Hp) : PyData → V → Prop
  | .none, v => v = .non
  | .bool b, v => v = .bl b
  | .int i, v => v = .int i
  | .str x, v => v = .str x
  | .list ds, v => ∃ p xs, v = .ref p ∧ SqL K H p xs ∧ RepAll K H ds xs
  | .tuple ds, v => ∃ p xs, v = .ref p ∧ SqT K H p xs ∧ RepAll K H ds xs
  | .dict _, _ => False
def RepAll (K : PySem.W.Frag) (H : Hp) : List PyData → List V → Prop
  | [], xs => xs = []
  | d :: ds, xs => ∃ x r, xs = x :: r ∧ Rep K H d x ∧ RepAll K H ds r
end
section
variable {X : Cx} {pins : List (Addr × Obj)} {σ : St} {H : Hp} {s : Shared}
mutual
theorem rep_reads (I : Inv X pins σ H s) : ∀ (d : PyData) (x : V) (u : Value), Rep X.K H d x → RelV x u → ∃ as, Reads s.heap u d as
  | .none, x, u, h, r => by
    rw [Rep] at h; subst h; cases r; exact ⟨_, .none⟩
  | .bool b, x, u, h, r => by
    rw [Rep] at h; subst h; cases r; exact ⟨_, .bool b⟩
  | .int i, x, u, h, r => by
    rw [Rep] at h; subst h; obtain ⟨t, rfl⟩ := r; exact ⟨_, .int i t⟩
  | .str i, x, u, h, r => by
    rw [Rep] at h; subst h; obtain ⟨t, rfl⟩ := r; exact ⟨_, .str i t⟩
  | .list ds, x, u, h, r => by
    rw [Rep] at h
    obtain ⟨p, xs, rfl, hq, ha⟩ := h
    cases r
    obtain ⟨its, rv, ⟨o, n, e, c, _, dd⟩, _⟩ := I.list hq
    obtain ⟨as, ra⟩ := repAll_reads I ds xs its ha rv
    exact ⟨_, .list e c dd (by simpa using ra)⟩
  | .tuple ds, x, u, h, r => by
    rw [Rep] at h
    obtain ⟨p, xs, rfl, hq, ha⟩ := h
    cases r
    obtain ⟨its, rv, ⟨o, e, c, n, dd⟩, _⟩ := I.tuple hq
    obtain ⟨as, ra⟩ := repAll_reads I ds xs its ha rv
    exact ⟨_, .tuple e c dd (by simpa using ra)⟩
  | .dict kvs, x, u, h, r => by
    rw [Rep] at h; exact h.elim
theorem repAll_reads (I : Inv X pins σ H s) : ∀ (ds : List PyData) (xs : List V) (us : List Value), RepAll X.K H ds xs → Vals xs us → ∃ as, ReadsAll s.heap us ds as
  | [], xs, us, h, r => by
    rw [RepAll] at h; subst h; cases r; exact ⟨_, .nil⟩
  | d :: ds, xs, us, h, r => by
    rw [RepAll] at h
    obtain ⟨x, t, rfl, h1, h2⟩ := h
    cases r with
    | cons r1 r2 =>
      obtain ⟨as, ra⟩ := rep_reads I d x _ h1 r1
      obtain ⟨bs, rb⟩ := repAll_reads I ds t _ h2 r2
      exact ⟨_, .cons ra rb⟩
end
def rEqD (K : PySem.W.Frag) : R2 := fun x y H Q => ∃ d e, Rep K H d x ∧ Rep K H e y ∧ d.canLay0 = true ∧ e.canLay0 = true ∧ d.depth ≤ 64 ∧ Q (.bl (PyData.eqv d e)) H
def rNeD (K : PySem.W.Frag) : R2 := fun x y H Q => ∃ d e, Rep K H d x ∧ Rep K H e y ∧ d.canLay0 = true ∧ e.canLay0 = true ∧ d.depth ≤ 64 ∧ Q (.bl (!PyData.eqv d e)) H
theorem op_neD (hu : X.A.units + 64 < cLine) : OpR X (compareOp .NotEq) (rNeD X.K) := by
  intro pins s σ H x y v u Q I rx ry h
  obtain ⟨d, e, h1, h2, c1, c2, dp, q⟩ := h
  obtain ⟨as, ra⟩ := rep_reads I d x v h1 rx
  obtain ⟨bs, rb⟩ := rep_reads I e y u h2 ry
  exact SeqAt.compareNe_reads ra rb c1 c2 (by omega) (fin_bl I q rfl)
end
end L2
namespace L2
open PySem PySem.Spec PyProof.Rows
section
variable {X : Cx} {st : Stmt} {e : Expr}
def tMeet (t : TS) : TS := fun D σ H => ∃ M : St → Hp → Prop, t { D with nx := M } σ H ∧ ∀ σ' H', M σ' H' → D.nx σ' H'
theorem ps_meet {t : TS} (h : PS X st t) : PS X st (tMeet t) := by
  intro pins s σ H D I hw
  obtain ⟨M, hm, k⟩ := hw
  refine thn (h pins s σ H { D with nx := M } I hm) fun f s1 q => ?_
  cases f with
  | next => obtain ⟨σ', H', I', q⟩ := q; exact ⟨σ', H', I', k σ' H' q⟩
  | ret v => exact q
  | brk => exact q
  | cont => exact q
def tMeetE (t : TE) : TE := fun σ H Q => ∃ M : VK, t σ H M ∧ ∀ v H', M v H' → Q v H'
def tMeetT (t : TT) : TT := fun σ H Q => ∃ M : Bool → Hp → Prop, t σ H M ∧ ∀ b H', M b H' → Q b H'
end
end L2
namespace L2
open PySem PySem.Spec PyProof.Rows
section
variable {X : Cx} {a b c d : Expr} {ta tb tc td : TE} {pos : Pos}
def tChain3 (r r' r'' : R2) (ta tb tc td : TE) : TE := fun σ H Q => ta σ H fun x H1 => tb σ H1 fun y H2 => r x y H2 fun z H3 => ∃ k, z = .bl k ∧
  (if k = true then tc σ H3 fun u H4 => r' y u H4 fun z2 H5 => ∃ k2, z2 = .bl k2 ∧ (if k2 = true then td σ H5 fun v H6 => r'' u v H6 Q else Q (.bl false) H5) else Q (.bl false) H3)
def rCount (K : PySem.W.Frag) : V → List V → Hp → VK → Prop := fun x vs H Q => ∃ l xs y, x = .ref l ∧ vs = [y] ∧ SqL K H l xs ∧ flatV y = true ∧ xs.all flatV = true ∧ Q (.int (xs.countP fun z => eqV z y : Nat)) H
end
end L2
namespace L2
open PySem PySem.Spec PyProof.Rows
inductive Ints : List Expr → List Int → Prop where
  | nil : Ints [] []
  | cons {i : Int} {j pos} {es : List Expr} {is : List Int} : Ints es is → Ints (.Constant (.int i) j pos :: es) (i :: is)
def tInts (is : List Int) : TA := fun _ H Q => Q (is.map V.int) H
theorem pa_ints {X : Cx} {es : List Expr} {is : List Int} (h : Ints es is) : PA X es (tInts is) := by
  induction h with
  | nil => exact pa_nil
  | cons _ ih => exact pa_cons pe_int ih rfl
end L2
namespace L2
open PySem PySem.Spec PyProof.Rows
theorem ps_setInts {X : Cx} {i : Nat} {x : Str} {es : List Expr} {is : List Int} {x1} {p2 pos pos' : Pos} (hN : X.N.Nodup) (hi : X.N[i]? = some x) (hx : Loc X.env.scope x) (h : Ints es is) (hf : X.fn x = true ∨ X.env.scope.names.lookup x = some .local) :
    PS X (.Assign [.Name x pos'] (.Tuple es x1 p2) pos) (tAsg (tTup (tInts is)) (gName i)) := ps_set hN hi hx (pe_tup (pa_ints h)) rfl hf
end L2
namespace L2
open PySem PySem.Spec PyProof.Rows
structure New (H H' : Hp) (p : Addr) (o : HO) : Prop where
  same : Same H H'
  gone : H p = none
  at_ : H' p = some o
  back : ∀ q, q ≠ p → H' q = H q
theorem New.of {H : Hp} {p : Addr} {o : HO} (h : H p = none) : New H (upd H p o) p o := ⟨same_new h o, h, upd_same, fun _ n => upd_ne n⟩
section
variable {X : Cx} {es : List Expr} {t : TA} {pos : Pos}
def tTupA (t : TA) : TE := fun σ H Q => t σ H fun xs H1 => xs.length ≤ sizeLine ∧ ∀ p H', New H1 H' p (.tup xs) → Q (.ref p) H'
def tLstA (t : TA) : TE := fun σ H Q => t σ H fun xs H1 => xs.length ≤ sizeLine ∧ ∀ p H', New H1 H' p (.lst xs) → Q (.ref p) H'
theorem pe_tupA {x1} (h : PA X es t) : PE X (.Tuple es x1 pos) (tTupA t) := by
  intro pins s σ H Q I hq
  refine wpAny_Tuple_spliced (thn (h pos pins s σ H _ I hq) fun us s1 ⟨xs, H1, I1, r, z, q⟩ => ⟨by rw [← r.length]; exact z, ?_⟩)
  have hf : H1 s1.heap.objs.size = none := I1.hok.fresh (Nat.le_refl _)
  refine ⟨.ref s1.heap.objs.size, upd H1 s1.heap.objs.size (.tup xs), I1.laid (t' := s1.toks) (fun b u e => Heap.get?_push_of_some _ e) (Nat.le_refl _) ?_, rfl, q _ _ (.of hf)⟩
  exact ⟨z, us, r, ⟨_, Heap.get?_push_size _ rfl, rfl, _, rfl⟩⟩
theorem pe_lstA (h : PA X es t) : PE X (.List es pos) (tLstA t) := by
  intro pins s σ H Q I hq
  refine wpAny_List_spliced (thn (h pos pins s σ H _ I hq) fun us s1 ⟨xs, H1, I1, r, z, q⟩ => ⟨by rw [← r.length]; exact z, ?_⟩)
  have hf : H1 s1.heap.objs.size = none := I1.hok.fresh (Nat.le_refl _)
  refine ⟨.ref s1.heap.objs.size, upd H1 s1.heap.objs.size (.lst xs), I1.laid (t' := s1.toks) (fun b u e => Heap.get?_push_of_some _ e) (Nat.le_refl _) ?_, rfl, q _ _ (.of hf)⟩
  exact ⟨z, us, 0, r, Heap.get?_push_size _ rfl⟩
end
end L2
namespace L2
open PySem PySem.Spec PyProof.Rows
def ExcAt (h base : Heap) (e : Addr) (cls : Value) (dd : Option Addr) (fl : Option Value) : Prop :=
  ∃ oe vs, h.get? e = some oe ∧ oe.cls = cls ∧ oe.dict = dd ∧ oe.data = .fields vs ∧ 1 < vs.size ∧
    match fl with
    | none => vs[1]? = some .none
    | some f => ∃ T oT ts, vs[1]? = some (.ref T) ∧ base.get? T = none ∧ T ≠ e ∧ h.get? T = some oT ∧ oT.data = .fields ts ∧ ts[3]? = some f
structure Go (base : Heap) (l : List Env) (h h' : Heap) : Prop where
  st : base.StaysIn h'
  fr : h'.FunFrames base l
  up : h.UpToSlots h'
section
variable {M : Model} {A : Around} {E : Value → Shared → Prop} {s : Shared} {base : Heap} {env : Env} {outer l : List Env} {L e : Addr} {cls : Value} {dd : Option Addr} {Q : Unit → Shared → Prop}
end
end L2
namespace L2
open PySem PySem.Spec PyProof.Rows
structure Fly (P : Program) (w : World) (outer : List Env) (H H' : Hp) (h h' : Heap) (e : Addr) (cls : Value) (dd : Option Addr) (B : Heap) : Prop where
  st : B.StaysIn h'
  en : B.get? e = none
  fr : h'.FunFrames B outer
  ex : ExcAt h' B e cls dd (some .none)
  hok : HOk P w H' B
  keep : ∀ b o, h.get? b = some o → H b = none → b ∉ frs outer → B.get? b = some o
  slot : ∀ b o, h.get? b = some o → H b = none → b ∈ frs outer → (∀ vs, o.data ≠ .fields vs) → ∃ sl, h'.get? b = some { o with slots := sl }
  free : ∀ b o, h.get? b = some o → H b = none → H' b = none
  there : ∀ b o, h.get? b = some o → b ∉ frs outer → ∃ o', B.get? b = some o'
  tups : ∀ b xs, H b = some (.tup xs) → H' b = some (.tup xs)
  frzs : ∀ b o u, H b = some (.frz o u) → H' b = some (.frz o u)
  tbls : ∀ b ps, H b = some (.tbl ps) → ∃ more, H' b = some (.tbl (ps ++ more))
def CX1 (P : Program) (w : World) : CXT := fun outer H s E ev s' => ∃ (e : Addr) (cls : Value) (dd : Option Addr) (B : Heap) (H' : Hp), ev = .ref e ∧ s'.os = s.os ∧ AllBare s'.gens ∧ Fly P w outer H H' s.heap s'.heap e cls dd B ∧ E cls dd H'
section
variable {X : Cx} {pins : List (Addr × Obj)} {σ : St} {H : Hp} {s : Shared}
def noFr (X : Cx) (h : Heap) : Heap := PySem.W.hideAll h (frs X.stack)
end
end L2
namespace L2
open PySem PySem.Spec PyProof.Rows
section
variable {X : Cx} {CX : CXT} {k : Nat} {f C : Addr} {fd : FuncData} {ps : List Str} {sp : Sp} {dvs : List V} {ds : List Value} {E : XK} {x c m : Str} {p np cpos pos apos : Pos} {e : Expr} {es : List Expr} {te : TE} {t : TA}
structure ClsFn (K : PySem.W.Frag) (C : Addr) (m : Str) (f : Addr) : Prop where
  ga : PySem.W.specialIn K (.ref C) "__getattribute__" = some (some (.builtin "type.__getattribute__"))
  rd : PySem.W.readsIn K C (.type "type") = true
  fn : PySem.W.findCls K (.ref C) (.type "type") m = some (.val (.ref f))
  kp : PySem.W.keepIn K (.ref f) = true
def XeIs (X : Cx) (E : XK) : Prop := X.xe = fun e s' => wpAny (model X.prog X.w) X.A (leaving X.env e) (fun _ s2 => CX1 X.prog X.w X.outer X.H₀ X.s₀ E e s2) (fun e' s2 => CX1 X.prog X.w X.outer X.H₀ X.s₀ E e' s2) s'
structure DefX (X : Cx) : Prop where
  st : X.stack = X.env :: X.outer
  fr : X.env.frame = some X.env.locals
  ex : X.ex = []
  calm : X.calm = true
def tRaise (C : Addr) (E : XK) (t : TA) : TS := fun _ σ H => t σ H fun vs H1 => vs.length ≤ 1000 ∧ E (.ref C) none H1
end
end L2
namespace L2
open PySem PySem.Spec PyProof.Rows
def excO (e : Addr) (cls : Value) (dd : Option Addr) : HO := .ext fun h => ∃ o vs, h.get? e = some o ∧ o.cls = cls ∧ o.dict = dd ∧ o.data = .fields vs
abbrev Cx.held (X : Cx) (e : Addr) : Cx := { X with A := X.A.mark (some (.ref e)), calm := false, xe := fun _ _ => False }
structure Catches (K : PySem.W.Frag) (C D : Addr) (b : Bool) : Prop where
  one : PySem.W.exmOne K (.ref C) (.ref D) = some b
end L2
namespace L2
open PySem PySem.Spec PySem.Calls PyProof.Rows
section
variable {prog : Program} {w : World} {A : Around} {E : Value → Shared → Prop} {s : Shared} {K : PySem.W.Frag} {x D : Addr} {ox : Obj} {odo : Option Obj} {name : Str}
end
end L2
namespace L2
open PySem PySem.Spec PyProof.Rows
structure ExcT (K : PySem.W.Frag) (C : Addr) : Prop where
  ga : PySem.W.findIn K (.ref C) "__getattribute__" = some (some (.builtin "BaseException.__getattribute__"))
  gt : PySem.W.findIn K (.ref C) "__getattr__" = some none
  be : PySem.W.mroIn K C (.type "BaseException") = some true
  hd : PySem.W.hasDictIn K C = true
  ha : PySem.W.findIn K (.ref C) "__class__" = some (some (.builtin "object.__class__"))
  hn : PySem.W.specialIn K (.builtin "object.__class__") "__get__" = some (some (.builtin "getset_descriptor.__get__"))
  tk : PySem.W.takesIn K (.builtin "object.__class__") = some true
  ob : PySem.W.mroIn K C (.type "object") = some true
section
variable {X : Cx}
def rIsE (K : PySem.W.Frag) (c : V) (cv : Value) : List V → Hp → VK → Prop := fun xs H Q => ∃ e C b, xs = [.ref e, c] ∧ H e = some (excO e (.ref C) none) ∧ ExcT K C ∧ PySem.W.kitOne K (.ref C) cv = some b ∧ Q (.bl b) H
end
end L2
namespace L2
open PySem PySem.Spec PyProof.Rows
def retOnly (D : Ends) : Ends := { nx := fun _ _ => False, rt := D.rt }
def CatchE (K : PySem.W.Frag) (D : Addr) (i : Nat) (th : TS) (Dn : Ends) (σ : St) : XK := fun cls dd H' => ∃ C, cls = .ref C ∧ Catches K C D true ∧ ∀ e, H' e = none → th (retOnly Dn) (σ.set i (some (.ref e))) (upd H' e (excO e cls dd))
section
variable {X : Cx} {pins : List (Addr × Obj)} {σ : St} {H : Hp} {s : Shared}
end
end L2
namespace L2
open PySem PySem.Spec PyProof.Rows
section
variable {X : Cx} {CX : CXT} {k : Nat} {f C D : Addr} {fd : FuncData} {ps : List Str} {sp : Sp} {x d n : Str} {i : Nat} {p np cpos epos hpos pos : Pos} {e : Expr} {es : List Expr} {t : TA} {b₀ : Stmt} {suite : List Stmt} {th : TS}
def tTryMake (K : PySem.W.Frag) (C D : Addr) (i : Nat) (sp : Sp) (t : TA) (th : TS) : TS := fun Dn σ H => t σ H fun vs H1 => ∀ a da, H1 a = none → H1 da = none → da ≠ a →
  sp (.ref a :: vs) (upd (upd H1 da (.own a)) a (.ins C da [])) (fun v H2 => v = .non ∧ Dn.nx σ H2) (CatchE K D i th Dn σ)
def tTryCall (K : PySem.W.Frag) (D : Addr) (i : Nat) (sp : Sp) (t : TA) (th : TS) : TS := fun Dn σ H => t σ H fun vs H1 => sp vs H1 (fun _ H2 => Dn.nx σ H2) (CatchE K D i th Dn σ)
end
end L2
namespace L2
open PySem PySem.Spec PyProof.Rows
def relK (env : Env) (n : Str) (k : NameKind) : NameKind := if (k == .free && env.scope.kind == .function && env.kindOf n == some .cell) then .cell else k
theorem look_rel (env : Env) (x : Str) : ∀ names : List (Str × NameKind),
    (names.map fun (n, k) => if (k == NameKind.free && env.scope.kind == .function && env.kindOf n == some .cell) then (n, NameKind.cell) else (n, k)).lookup x = (names.lookup x).map (relK env x)
  | [] => rfl
  | (n, k) :: r => by
    have ih := look_rel env x r
    rw [List.map_cons]
    have e : (if (k == NameKind.free && env.scope.kind == .function && env.kindOf n == some .cell) = true then (n, NameKind.cell) else (n, k)) = (n, relK env n k) := by
      unfold relK; split <;> rfl
    show List.lookup x ((if (k == NameKind.free && env.scope.kind == .function && env.kindOf n == some .cell) = true then (n, NameKind.cell) else (n, k)) :: _) = _
    rw [e, List.lookup_cons, List.lookup_cons]
    cases hx : x == n with
    | true => obtain rfl : x = n := eq_of_beq hx; rfl
    | false => exact ih
theorem rel_look {sc : Scope} {env : Env} {x : Str} {k : NameKind} (h : (relabel sc env).names.lookup x = some k) : ∃ k0, sc.names.lookup x = some k0 ∧ relK env x k0 = k := by
  have e : (relabel sc env).names.lookup x = (sc.names.lookup x).map (relK env x) := look_rel env x sc.names
  rw [e] at h
  cases q : sc.names.lookup x with
  | none => rw [q] at h; cases h
  | some k0 => rw [q] at h; exact ⟨k0, rfl, Option.some.inj h⟩
def closL (cells : List (Str × Addr)) : List (Str × NameKind) → List (Str × Addr) → List (Str × Addr)
  | [], acc => acc
  | (n, k) :: r, acc => if k == .free then closL cells r ((n, (cells.lookup n).getD 0) :: acc) else closL cells r acc
theorem clos_run {env : Env} (f : Str × NameKind → List (Str × Addr) → Sem (ForInStep (List (Str × Addr))))
    (hf : ∀ n k c, f (n, k) c = if k == .free then (do let a ← cellOf env n; pure (.yield ((n, a) :: c))) else pure (.yield c)) :
    ∀ (names : List (Str × NameKind)) (acc : List (Str × Addr)), (∀ y ∈ names, y.2 = .free → ∃ c, env.cells.lookup y.1 = some c) → forIn names acc f = pure (closL env.cells names acc)
  | [], _, _ => rfl
  | (n, k) :: r, acc, h => by
    have ih := fun a => clos_run f hf r a fun y hy => h y (List.mem_cons_of_mem _ hy)
    rw [List.forIn_cons, hf]
    unfold closL
    by_cases hk : (k == NameKind.free) = true
    · obtain ⟨c, e⟩ := h (n, k) List.mem_cons_self (eq_of_beq hk)
      have e' : env.cells.lookup n = some c := e
      have ec : cellOf env n = pure c := by unfold cellOf; rw [e']
      rw [if_pos hk, if_pos hk, ec, e']
      exact ih _
    · rw [if_neg hk, if_neg hk]
      exact ih _
theorem clos_is {sc : Scope} {env : Env} (h : ∀ y ∈ sc.names, y.2 = .free → ∃ c, env.cells.lookup y.1 = some c) : closureFor sc env = pure (closL env.cells sc.names []) := by
  have q := clos_run (env := env) (fun (y : Str × NameKind) c => if y.2 == .free then (do let a ← cellOf env y.1; pure (.yield ((y.1, a) :: c))) else pure (.yield c)) (fun _ _ _ => rfl) sc.names [] h
  have e : closureFor sc env = (forIn sc.names ([] : List (Str × Addr)) (fun (y : Str × NameKind) c => if y.2 == .free then (do let a ← cellOf env y.1; pure (.yield ((y.1, a) :: c))) else pure (.yield c)) >>= fun cs => pure cs) := rfl
  rw [e, q]
  rfl
theorem clos_look {cells : List (Str × Addr)} {x : Str} : ∀ (names : List (Str × NameKind)) (acc : List (Str × Addr)),
    (closL cells names acc).lookup x = some ((cells.lookup x).getD 0) ∨ ((closL cells names acc).lookup x = acc.lookup x ∧ (x, NameKind.free) ∉ names)
  | [], acc => .inr ⟨rfl, by simp⟩
  | (n, k) :: r, acc => by
    unfold closL
    split
    · rename_i hk
      rcases clos_look (cells := cells) (x := x) r ((n, (cells.lookup n).getD 0) :: acc) with q | ⟨q, q2⟩
      · exact .inl q
      · rw [List.lookup_cons] at q
        cases hx : x == n with
        | true => obtain rfl : x = n := eq_of_beq hx; rw [hx] at q; exact .inl q
        | false =>
          rw [hx] at q
          refine .inr ⟨q, fun z => ?_⟩
          rcases List.mem_cons.mp z with z | z
          · cases z; simp at hx
          · exact q2 z
    · rename_i hk
      rcases clos_look (cells := cells) (x := x) r acc with q | ⟨q, q2⟩
      · exact .inl q
      · refine .inr ⟨q, fun z => ?_⟩
        rcases List.mem_cons.mp z with z | z
        · cases z; simp at hk
        · exact q2 z
theorem cf_look {x : Str} : ∀ (names : List (Str × NameKind)) (n : Nat) (acc : List (Str × Addr)),
    (∃ c : Nat, n ≤ c ∧ c < n + names.length ∧ (cellsFrom n names acc).lookup x = some c ∧ (x, NameKind.cell) ∈ names) ∨ ((cellsFrom n names acc).lookup x = acc.lookup x ∧ (x, NameKind.cell) ∉ names)
  | [], n, acc => .inr ⟨rfl, by simp⟩
  | (m, k) :: r, n, acc => by
    unfold cellsFrom
    split
    · rename_i hk
      rcases cf_look (x := x) r (n + 1) ((m, n) :: acc) with ⟨c, h1, h2, h3, h4⟩ | ⟨q, q2⟩
      · exact .inl ⟨c, by omega, by rw [List.length_cons]; omega, h3, List.mem_cons_of_mem _ h4⟩
      · rw [List.lookup_cons] at q
        cases hx : x == m with
        | true =>
          obtain rfl : x = m := eq_of_beq hx
          rw [hx] at q
          exact .inl ⟨n, Nat.le_refl _, by rw [List.length_cons]; omega, q, by rw [eq_of_beq hk]; exact List.mem_cons_self⟩
        | false =>
          rw [hx] at q
          refine .inr ⟨q, fun z => ?_⟩
          rcases List.mem_cons.mp z with z | z
          · cases z; simp at hx
          · exact q2 z
    · rename_i hk
      rcases cf_look (x := x) r n acc with ⟨c, h1, h2, h3, h4⟩ | ⟨q, q2⟩
      · exact .inl ⟨c, h1, by rw [List.length_cons]; omega, h3, List.mem_cons_of_mem _ h4⟩
      · refine .inr ⟨q, fun z => ?_⟩
        rcases List.mem_cons.mp z with z | z
        · cases z; simp at hk
        · exact q2 z
theorem cf_inj : ∀ (names : List (Str × NameKind)) (n : Nat) (acc : List (Str × Addr)), (∀ (x : Str) (c : Nat), acc.lookup x = some c → c < n) → ∀ (x y : Str) (c : Nat), n ≤ c → (cellsFrom n names acc).lookup x = some c → (cellsFrom n names acc).lookup y = some c → x = y
  | [], n, acc, h, x, y, c, hc, e1, e2 => absurd (h x c e1) (by omega)
  | (m, k) :: r, n, acc, h, x, y, c, hc, e1, e2 => by
    unfold cellsFrom at e1 e2
    split at e1
    · rename_i hk
      rw [if_pos hk] at e2
      by_cases hcn : n + 1 ≤ c
      · refine cf_inj r (n + 1) ((m, n) :: acc) (fun z c' q => ?_) x y c hcn e1 e2
        rw [List.lookup_cons] at q
        cases hz : z == m with
        | true => rw [hz] at q; cases q; exact Nat.lt_succ_self _
        | false => rw [hz] at q; have := h z c' q; omega
      · have ecn : c = n := by omega
        subst ecn
        have one : ∀ z, (cellsFrom (c + 1) r ((m, c) :: acc)).lookup z = some c → z = m := fun z q => by
          rcases cf_look (x := z) r (c + 1) ((m, c) :: acc) with ⟨c', h1, _, h3, _⟩ | ⟨q', _⟩
          · rw [h3] at q; cases q; omega
          · rw [q', List.lookup_cons] at q
            cases hz : z == m with
            | true => exact eq_of_beq hz
            | false => rw [hz] at q; have := h z c q; omega
        rw [one x e1, one y e2]
    · rename_i hk
      rw [if_neg hk] at e2
      exact cf_inj r n acc h x y c hc e1 e2
theorem pc_cell : ∀ (names : List (Str × NameKind)) (h : Heap) (acc : List (Str × Addr)) (x : Str) (c : Nat), h.objs.size ≤ c → (∀ (y : Str) (c' : Nat), acc.lookup y = some c' → c' < h.objs.size) → (cellsFrom h.objs.size names acc).lookup x = some c → (pushCells h names).IsCell c none
  | [], h, acc, x, c, hc, ha, e => absurd (ha x c e) (by omega)
  | (m, k) :: r, h, acc, x, c, hc, ha, e => by
    unfold cellsFrom at e
    unfold pushCells
    split
    · rename_i hk
      rw [if_pos hk] at e
      have hsz : (h.push { cls := .type "cell", data := .cell none }).objs.size = h.objs.size + 1 := Heap.size_push ..
      rw [← hsz] at e
      by_cases hcn : h.objs.size + 1 ≤ c
      · refine pc_cell r _ _ x c (by rw [hsz]; exact hcn) (fun y c' q => ?_) e
        rw [List.lookup_cons] at q
        cases hy : y == m with
        | true => rw [hy] at q; cases q; rw [hsz]; exact Nat.lt_succ_self _
        | false => rw [hy] at q; have := ha y c' q; rw [hsz]; omega
      · have ecn : c = h.objs.size := by omega
        refine ⟨{ cls := .type "cell", data := .cell none }, ?_, rfl⟩
        rw [ecn]
        exact pushCells_keeps r _ _ _ (Heap.get?_push_size _ rfl)
    · rename_i hk
      rw [if_neg hk] at e
      exact pc_cell r h acc x c hc ha e
end L2
namespace L2
open PySem PySem.Spec PyProof.Rows
structure BP where
  cl : List (Str × Addr)
  C : Addr
  s : Shared
  H : Hp
  ex : List Addr
  xe : Value → Shared → Prop
def blkEnv (sc : Scope) (cl : List (Str × Addr)) (C : Addr) (env : Env) : Env :=
  { scope := relabel sc env, locals := C, globals := env.globals, cells := cellsFrom (C + 1) sc.names cl, qual := env.qual, func := none, code := env.code, frame := env.frame, builtins := env.builtins }
def blk (X : Cx) (sc : Scope) (b : BP) : Cx :=
  { X with s₀ := b.s, H₀ := b.H, env := blkEnv sc b.cl b.C X.env, outer := X.stack, ex := b.ex, fn := fun x => sc.names.lookup x == some .cell, pn := [], xe := b.xe }
structure BlkOk (N : List Str) (outer sc : Scope) (own : List Nat) : Prop where
  kind : sc.kind = .function
  nd : (sc.names.map (·.1)).Nodup
  free : ∀ y ∈ sc.names, y.2 = .free → outer.names.lookup y.1 = some .cell ∨ outer.names.lookup y.1 = some .free
  own : ∀ y ∈ sc.names, (y.2 = .local ∨ y.2 = .cell) → ∀ i, N[i]? = some y.1 → i ∈ own
theorem look_mem {l : List (Str × NameKind)} (nd : (l.map (·.1)).Nodup) {x : Str} {k : NameKind} (h : (x, k) ∈ l) : l.lookup x = some k := by
  induction l with
  | nil => cases h
  | cons y r ih =>
    obtain ⟨n, k'⟩ := y
    rw [List.map_cons, List.nodup_cons] at nd
    rw [List.lookup_cons]
    rcases List.mem_cons.mp h with e | h
    · cases e; simp
    · have : (x == n) = false := by
        rw [beq_eq_false_iff_ne]
        intro e
        exact nd.1 (List.mem_map.mpr ⟨_, h, e⟩)
      rw [this]
      exact ih nd.2 h
def wipe (own : List Nat) (σ : St) : St := own.foldl (fun σ i => σ.set i none) σ
theorem wipe_len (own : List Nat) : ∀ σ : St, (wipe own σ).length = σ.length := by
  induction own with
  | nil => intro σ; rfl
  | cons i r ih => intro σ; show (wipe r (σ.set i none)).length = _; rw [ih]; simp
theorem wipe_get (own : List Nat) : ∀ (σ : St) (i : Nat) (v : V), (wipe own σ)[i]? = some (some v) → σ[i]? = some (some v) ∧ i ∉ own := by
  induction own with
  | nil => intro σ i v h; exact ⟨h, by simp⟩
  | cons j r ih =>
    intro σ i v h
    obtain ⟨h1, h2⟩ := ih (σ.set j none) i v h
    by_cases hj : j = i
    · subst hj
      rw [List.getElem?_set] at h1
      split at h1
      · split at h1 <;> cases h1
      · rename_i z; exact absurd rfl z
    · rw [List.getElem?_set_ne hj] at h1
      exact ⟨h1, by simp [h2, Ne.symm hj]⟩
def Back (σ σ' : St) : Prop := σ'.length = σ.length ∧ ∀ (i : Nat) v, σ[i]? = some (some v) → σ'[i]? = some (some v)
section
variable {X : Cx} {pins : List (Addr × Obj)} {σ : St} {H : Hp} {s : Shared} {sc : Scope} {own : List Nat} {fp : List Addr} {xe : Value → Shared → Prop}
theorem relK_vis {env : Env} {x : Str} {k k0 : NameKind} (e : relK env x k0 = k) (hk : k = .local ∨ k = .cell ∨ k = .free) : k0 = k ∨ (k0 = .free ∧ k = .cell) := by
  unfold relK at e
  split at e
  · rename_i hc
    rw [Bool.and_eq_true, Bool.and_eq_true] at hc
    exact .inr ⟨eq_of_beq hc.1.1, e.symm⟩
  · exact .inl e
theorem blk_start (I : Inv X pins σ H s) (B : BlkOk X.N X.env.scope sc own) (hf : ∀ b ∈ fp, FpOk X pins H b) (hfo : ∀ b ∈ fp, b < s.heap.objs.size) :
    Inv (blk X sc ⟨closL X.env.cells sc.names [], s.heap.objs.size + 1, s, H, fp, xe⟩) [(s.heap.objs.size, { cls := .type "list", data := .seq ([] : List Value).toArray })] (wipe own σ) H
      { s with heap := pushCells ((s.heap.push { cls := .type "list", data := .seq ([] : List Value).toArray }).push { cls := .type "dict", data := .dict #[] }) sc.names } := by
  generalize hh2 : s.heap.push { cls := .type "list", data := .seq ([] : List Value).toArray } = h2
  have sz2 : h2.objs.size = s.heap.objs.size + 1 := by rw [← hh2, Heap.size_push]
  generalize hh3 : h2.push { cls := .type "dict", data := .dict #[] } = h3
  have sz3 : h3.objs.size = s.heap.objs.size + 2 := by rw [← hh3, Heap.size_push, sz2]
  have k3 : ∀ b o, h3.get? b = some o → (pushCells h3 sc.names).get? b = some o := pushCells_keeps sc.names h3
  have k2 : ∀ b o, h2.get? b = some o → (pushCells h3 sc.names).get? b = some o := fun b o e => k3 b o (by rw [← hh3]; exact Heap.get?_push_of_some _ e)
  have k1 : ∀ b o, s.heap.get? b = some o → (pushCells h3 sc.names).get? b = some o := fun b o e => k2 b o (by rw [← hh2]; exact Heap.get?_push_of_some _ e)
  have free_has : ∀ x, (x, NameKind.free) ∈ sc.names → ∃ c, X.env.cells.lookup x = some c := fun x hx => I.ok.has x (B.free (x, .free) hx rfl)
  have clL : ∀ x c, (closL X.env.cells sc.names []).lookup x = some c → (x, NameKind.free) ∈ sc.names → X.env.cells.lookup x = some c := fun x c e hx => by
    obtain ⟨c', e'⟩ := free_has x hx
    rcases clos_look (cells := X.env.cells) (x := x) sc.names [] with q | ⟨q, q2⟩
    · rw [q, e'] at e; rw [e']; exact e
    · exact absurd hx q2
  have clM : ∀ x c, (closL X.env.cells sc.names []).lookup x = some c → (x, NameKind.free) ∈ sc.names ∨ (closL X.env.cells sc.names []).lookup x = none := fun x c e => by
    by_cases hx : (x, NameKind.free) ∈ sc.names
    · exact .inl hx
    · refine .inr ?_
      have : ∀ (names : List (Str × NameKind)) (acc : List (Str × Addr)), (x, NameKind.free) ∉ names → (closL X.env.cells names acc).lookup x = acc.lookup x := by
        intro names
        induction names with
        | nil => intro acc _; rfl
        | cons y r ih =>
          obtain ⟨n, k⟩ := y
          intro acc hn
          unfold closL
          split
          · rename_i hk
            rw [ih _ fun z => hn (List.mem_cons_of_mem _ z), List.lookup_cons]
            have : (x == n) = false := by
              rw [beq_eq_false_iff_ne]
              rintro rfl
              exact hn (by rw [eq_of_beq hk]; exact List.mem_cons_self)
            rw [this]
          · exact ih _ fun z => hn (List.mem_cons_of_mem _ z)
      exact this sc.names [] hx
  have clX : ∀ x c, (closL X.env.cells sc.names []).lookup x = some c → X.env.cells.lookup x = some c ∧ (x, NameKind.free) ∈ sc.names := fun x c e => by
    rcases clM x c e with hx | hx
    · exact ⟨clL x c e hx, hx⟩
    · rw [hx] at e; cases e
  have clLt : ∀ (x : Str) (c : Nat), (closL X.env.cells sc.names []).lookup x = some c → c < s.heap.objs.size := fun x c e => by
    obtain ⟨v, q⟩ := I.cell x c (clX x c e).1
    exact q.lt
  have cells : ∀ (x : Str) (c : Nat), (cellsFrom (s.heap.objs.size + 1 + 1) sc.names (closL X.env.cells sc.names [])).lookup x = some c →
      (s.heap.objs.size + 2 ≤ c ∧ (x, NameKind.cell) ∈ sc.names ∧ (pushCells h3 sc.names).IsCell c none) ∨ (X.env.cells.lookup x = some c ∧ (x, NameKind.free) ∈ sc.names) := fun x c e => by
    rcases cf_look (x := x) sc.names (s.heap.objs.size + 1 + 1) (closL X.env.cells sc.names []) with ⟨c', h1, _, h3', h4⟩ | ⟨q, _⟩
    · rw [h3'] at e; cases e
      refine .inl ⟨h1, h4, ?_⟩
      refine pc_cell sc.names h3 (closL X.env.cells sc.names []) x c (by rw [sz3]; exact h1) (fun y d q => ?_) (by rw [sz3]; exact h3')
      have := clLt y d q
      rw [sz3]; omega
    · rw [q] at e
      exact .inr (clX x c e)
  have hfrs : ∀ b ∈ frs X.stack, b < s.heap.objs.size := fun b hb => by
    obtain ⟨_, o, ho, _⟩ := I.stack.mem hb
    exact Heap.lt_size ho
  have newNs : (pushCells h3 sc.names).Ns (s.heap.objs.size + 1) fun _ => none := by
    have := (Heap.Ns.new h2 (.type "dict")).keeps (h' := pushCells h3 sc.names) (by rw [hh3]; exact k3)
    rw [sz2] at this
    exact this
  refine ⟨⟨I.ok.mod, B.kind, I.ok.glob, I.ok.blt, Nat.le_succ _, fun x y c e1 e2 => ?_, fun x hx => ?_, fun x c hx e => ?_, I.ok.hd, I.ok.frames, .inl rfl, fun b hb => ⟨?_, fun x c e => ?_⟩, fun b o e => I.bs b o e, Nat.le_trans I.ok.bsz I.sz, fun b o e hb => ?_, fun b hb hb' => ?_, I.stack, I.stkFree⟩,
    rfl, I.bare, Un.kept k1, ⟨_, newNs, fun i x v h1 h2' h3' => ?_⟩, fun x c e => ?_, I.hok.fresh (Nat.le_succ _), fun x c e => ?_, fun p hp => ?_, I.hok.kept k1, ?_⟩
  · 
    rcases cells x c e1 with ⟨a1, a2, _⟩ | ⟨a1, _⟩ <;> rcases cells y c e2 with ⟨b1, b2, _⟩ | ⟨b1, _⟩
    · exact cf_inj sc.names _ _ (fun z d q => by have := clLt z d q; omega) x y c a1 e1 e2
    · obtain ⟨v, q⟩ := I.cell y c b1
      exact absurd q.lt (Nat.not_lt.mpr (Nat.le_trans (Nat.le_add_right _ 2) (by assumption)))
    · obtain ⟨v, q⟩ := I.cell x c a1
      exact absurd q.lt (Nat.not_lt.mpr (Nat.le_trans (Nat.le_add_right _ 2) (by assumption)))
    · exact I.ok.inj x y c a1 b1
  · 
    have hx : (relabel sc X.env).names.lookup x = some .cell ∨ (relabel sc X.env).names.lookup x = some .free := hx
    have : (x, NameKind.cell) ∈ sc.names ∨ (x, NameKind.free) ∈ sc.names := by
      rcases hx with hx | hx
      · obtain ⟨k0, q1, q2⟩ := rel_look hx
        rcases relK_vis q2 (.inr (.inl rfl)) with rfl | ⟨rfl, _⟩
        · exact .inl (PySem.mem_of_lookup q1)
        · exact .inr (PySem.mem_of_lookup q1)
      · obtain ⟨k0, q1, q2⟩ := rel_look hx
        rcases relK_vis q2 (.inr (.inr rfl)) with rfl | ⟨_, z⟩
        · exact .inr (PySem.mem_of_lookup q1)
        · cases z
    show ∃ c, (cellsFrom (s.heap.objs.size + 1 + 1) sc.names (closL X.env.cells sc.names [])).lookup x = some c
    rcases cf_look (x := x) sc.names (s.heap.objs.size + 1 + 1) (closL X.env.cells sc.names []) with ⟨c', _, _, h3', _⟩ | ⟨q, qn⟩
    · exact ⟨c', h3'⟩
    · rcases this with z | z
      · exact absurd z qn
      · rw [q]
        rcases clos_look (cells := X.env.cells) (x := x) sc.names [] with q' | ⟨_, q2⟩
        · exact ⟨_, q'⟩
        · exact absurd z q2
  · 
    rcases cells x c e with ⟨a1, _⟩ | ⟨_, a2⟩
    · show s.heap.objs.size ≤ c; omega
    · have hx' : sc.names.lookup x = some .cell := eq_of_beq hx
      rw [look_mem B.nd a2] at hx'
      cases hx'
  · exact Nat.ne_of_lt (Nat.lt_succ_of_lt (hfo b hb))
  · have := hfo b hb
    rcases cells x c e with ⟨a1, _⟩ | ⟨a1, _⟩
    · exact fun z => absurd this (Nat.not_lt.mpr (by rw [← z]; exact Nat.le_trans (Nat.le_add_right _ 2) a1))
    · exact (hf b hb).2.2.2.2.1 x c a1
  · 
    rcases (hf b hb).2.2.2.1 with z | z
    · exact I.ok.noex b o e z
    · exact absurd (Heap.lt_size e) (Nat.not_lt.mpr (Nat.le_trans I.ok.bsz z))
  · rcases List.mem_cons.mp (I.stkSub b hb') with z | z
    · exact (hf b hb).2.1 z
    · exact (hf b hb).2.2.1 z
  · 
    obtain ⟨h2a, h2b⟩ := wipe_get own σ i v h2'
    have h3c : (relabel sc X.env).names.lookup x = some .local ∨ (relabel sc X.env).names.lookup x = some .cell ∨ (relabel sc X.env).names.lookup x = some .free := h3'
    have notown : ∀ k, sc.names.lookup x = some k → k ≠ .local ∧ k ≠ .cell := fun k q => ⟨fun z => h2b (B.own (x, k) (PySem.mem_of_lookup q) (.inl z) i h1), fun z => h2b (B.own (x, k) (PySem.mem_of_lookup q) (.inr z) i h1)⟩
    have fr : (x, NameKind.free) ∈ sc.names := by
      rcases h3c with z | z | z
      · obtain ⟨k0, q1, q2⟩ := rel_look z
        rcases relK_vis q2 (.inl rfl) with rfl | ⟨_, z⟩
        · exact absurd rfl (notown _ q1).1
        · cases z
      · obtain ⟨k0, q1, q2⟩ := rel_look z
        rcases relK_vis q2 (.inr (.inl rfl)) with rfl | ⟨rfl, _⟩
        · exact absurd rfl (notown _ q1).2
        · exact PySem.mem_of_lookup q1
      · obtain ⟨k0, q1, q2⟩ := rel_look z
        rcases relK_vis q2 (.inr (.inr rfl)) with rfl | ⟨_, z⟩
        · exact PySem.mem_of_lookup q1
        · cases z
    obtain ⟨m, hn, hl⟩ := I.loc
    have hv : Vis X.env.scope x := by
      rcases B.free _ fr rfl with z | z
      · exact .inr (.inl z)
      · exact .inr (.inr z)
    obtain ⟨u, r, l⟩ := hl i x v h1 h2a hv
    refine ⟨u, r, ?_⟩
    have kk : (blkEnv sc (closL X.env.cells sc.names []) (s.heap.objs.size + 1) X.env).kindOf x = some .cell ∨ (blkEnv sc (closL X.env.cells sc.names []) (s.heap.objs.size + 1) X.env).kindOf x = some .free := by
      rcases h3c with z | z | z
      · obtain ⟨k0, q1, q2⟩ := rel_look z
        rw [look_mem B.nd fr] at q1
        cases q1
        rcases relK_vis q2 (.inl rfl) with z | ⟨_, z⟩ <;> cases z
      · exact .inl z
      · exact .inr z
    rcases l with ⟨l1, _⟩ | ⟨_, c, ec, z⟩
    · have l1 : X.env.scope.names.lookup x = some .local := l1
      rcases B.free _ fr rfl with z | z <;> (rw [l1] at z; cases z)
    · refine .inr ⟨kk, c, ?_, z.keeps k1⟩
      show (cellsFrom (s.heap.objs.size + 1 + 1) sc.names (closL X.env.cells sc.names [])).lookup x = some c
      rcases cf_look (x := x) sc.names (s.heap.objs.size + 1 + 1) (closL X.env.cells sc.names []) with ⟨c', _, _, _, h4⟩ | ⟨q, _⟩
      · have := look_mem B.nd h4
        rw [look_mem B.nd fr] at this
        cases this
      · rw [q]
        rcases clos_look (cells := X.env.cells) (x := x) sc.names [] with q' | ⟨_, q2⟩
        · rw [q', ec]; rfl
        · exact absurd fr q2
  · 
    rcases cells x c e with ⟨_, _, a3⟩ | ⟨a1, _⟩
    · exact ⟨_, a3⟩
    · obtain ⟨v, q⟩ := I.cell x c a1
      exact ⟨v, q.keeps k1⟩
  · 
    rcases cells x c e with ⟨a1, _⟩ | ⟨a1, _⟩
    · exact I.hok.fresh (by show s.heap.objs.size ≤ c; omega)
    · exact I.freeC x c a1
  · 
    have hp' : p ∈ ([(s.heap.objs.size, { cls := .type "list", data := .seq ([] : List Value).toArray })] : List (Addr × Obj)) := hp
    obtain rfl : p = (s.heap.objs.size, { cls := .type "list", data := .seq ([] : List Value).toArray }) := by simpa using hp'
    refine ⟨k2 _ _ (by rw [← hh2]; exact Heap.get?_push_size _ rfl), I.hok.fresh (Nat.le_refl _), Nat.ne_of_lt (Nat.lt_succ_self _), fun z => Nat.lt_irrefl _ (hfrs _ z), fun v z => ?_⟩
    have z' : Data.seq ([] : List Value).toArray 0 = Data.cell v := z
    cases z'
  · rw [wipe_len]; exact I.len
end
end L2
namespace L2
open PySem PySem.Spec PyProof.Rows
def testsOf (ifs : List Expr) (env : Env) : Sem Bool :=
  forIn ifs true fun c r => if r = true then (do let ok ← isTrue c env (eval c env); pure (ForInStep.yield ok)) else pure (ForInStep.yield r)
def PTs (X : Cx) (ifs : List Expr) (t : TT) : Prop :=
  ∀ (pins : List (Addr × Obj)) (s : Shared) (σ : St) (H : Hp) (Q : Bool → Hp → Prop), Inv X pins σ H s → t σ H Q → wpAny (model X.prog X.w) X.A (testsOf ifs X.env) (TP X pins σ Q) X.xe s
def tYes : TT := fun _ H Q => Q true H
theorem pts_nil {X : Cx} : PTs X [] tYes := fun _ _ _ H _ I h => wpAny_tests_nil ⟨H, I, h⟩
theorem pts_one {X : Cx} {c : Expr} {t : TT} (hc : PT X c t) : PTs X [c] t := fun pins s σ H Q I h => wpAny_tests_one (hc pins s σ H Q I h)
section
variable {prog : Program} {w : World} {A : Around} {E : Value → Shared → Prop} {R : Result → Shared → Prop} {s : Shared}
theorem newEnv_run {M : Model} {sc : Scope} {g : Addr} {cl : List (Str × Addr)} {qual : Str} {env : Env} {bl : Addr} {Q : Env → Shared → Prop}
    (h : Q { scope := sc, locals := s.heap.objs.size, globals := g, cells := cellsFrom (s.heap.objs.size + 1) sc.names cl, qual := qual, func := none, code := env.code, frame := env.frame, builtins := env.builtins }
      { s with heap := pushCells (s.heap.push { cls := .type "dict", data := .dict #[] }) sc.names }) : wpAny M A (newFunctionEnv sc g cl [] qual none .none (some env) bl) Q E s := by
  simp only [newFunctionEnv, Option.isSome_some, if_true]
  refine wpAny_bind (wpAny_alloc ?_)
  refine wpAny_bind (wpAny_layCells _ (fun name kind cells => by cases hkc : kind == NameKind.cell <;> simp [hkc]) _ _ _ _ ?_)
  rw [show ({ s with heap := s.heap.push { cls := .type "dict", data := .dict #[] } } : Shared).heap.objs.size = s.heap.objs.size + 1 from Heap.size_push ..]
  exact wpAny_bind (wpAny_pure (wpAny_pure h))
theorem comp_loop {elt tg iter : Expr} {ifs : List Expr} {sc : Scope} {pos : Pos} {it acc : Value} {env : Env} (J : Nat → Shared → Prop)
    (turn : ∀ n s, J n s → wpAny (model prog w) A (pyNext it) (fun r s1 => match r with
      | none => R (.ok .next) s1
      | some v => wpAny (model prog w) A (letOwnedTupleGo tg it v) (fun _ s2 => wpAny (model prog w) A (assign tg env v) (fun _ s3 => wpAny (model prog w) A (testsOf ifs env) (fun ok s4 =>
          if ok = true then wpAny (model prog w) A (eval elt env) (fun x s5 => wpAny (model prog w) A (call (.builtin "list.append") [acc, x]) (fun _ s6 => ∃ m, m < n ∧ J m s6) (notedBy (model prog w) A env fun e s' => R (.error e) s') s5) (notedBy (model prog w) A env fun e s' => R (.error e) s') s4
          else ∃ m, m < n ∧ J m s4) (notedBy (model prog w) A env fun e s' => R (.error e) s') s3) (notedBy (model prog w) A env fun e s' => R (.error e) s') s2) (notedBy (model prog w) A env fun e s' => R (.error e) s') s1) (notedBy (model prog w) A env fun e s' => R (.error e) s') s)
    (n : Nat) (h : J n s) : codeAny (model prog w) A (.compLoop (.ListComp elt [⟨tg, iter, ifs, 0⟩] sc pos) 0 it acc env) R s := by
  refine codeAny_loop rfl J (fun n s hJ => ?_) n h
  show wpAny _ A ((compTurn (.ListComp elt [⟨tg, iter, ifs, 0⟩] sc pos) 0 it acc env).onRaise fun x => (do noteFrame x env; theTreesLotGoes x)) _ _ s
  refine wpAny_noted ?_
  rw [compTurn_list]
  refine wpAny_bind (wpAny_standAt (wpAny_bind (thn (turn n s hJ) fun r s1 h1 => ?_)))
  cases r with
  | none => exact wpAny_pure h1
  | some v =>
    refine wpAny_bind (thn h1 fun _ s2 h2 => wpAny_bind (thn h2 fun _ s3 h3 => wpAny_bind (thn h3 fun ok s4 h4 => ?_)))
    cases ok with
    | false => exact wpAny_pure ⟨rfl, h4⟩
    | true => exact wpAny_bind (wpAny_bind (thn h4 fun x s5 h5 => wpAny_bind (thn h5 fun _ s6 h6 => wpAny_pure (wpAny_pure ⟨rfl, h6⟩))))
end
theorem HOk.track {P : Program} {w : World} {H : Hp} {h : Heap} {a : Addr} {o : HO} (x : HOk P w H h) (n : H a = none) (new : ObjOk P w (upd H a o) h a o) : HOk P w (upd H a o) h := fun b u e => by
  by_cases hb : b = a
  · subst hb; rw [upd_same] at e; cases e; exact new
  · rw [upd_ne hb] at e
    exact (x b u e).stay (fun c v _ q => q) (fun c q => by rw [upd_ne (ne_of_none q n)]; exact q) fun c xs q => by rw [upd_ne (ne_of_none q n)]; exact q
theorem Un.track {fs ex : List Addr} {H H' : Hp} {h h' : Heap} {a : Addr} {o : HO} (u : Un fs ex H H' h h') (n : H' a = none) (hz : h.objs.size ≤ a) : Un fs ex H (upd H' a o) h h' where
  keep := u.keep
  slot := u.slot
  free := fun b ob q m hx => by rw [upd_ne (Nat.ne_of_lt (Nat.lt_of_lt_of_le (Heap.lt_size q) hz))]; exact u.free b ob q m hx
  there := u.there
  tups := fun b xs q => by have := u.tups b xs q; rw [upd_ne (ne_of_none this n)]; exact this
  frzs := fun b ob w q => by have := u.frzs b ob w q; rw [upd_ne (ne_of_none this n)]; exact this
  tbls := fun b ps q => by obtain ⟨m, e⟩ := u.tbls b ps q; exact ⟨m, by rw [upd_ne (ne_of_none e n)]; exact e⟩
def CompW (J : It) (g : TG) (tt : TT) (te : TE) (σ0 : St) (R : List V → Hp → Prop) (H1 : Hp) : Prop :=
  ∃ W : Nat → Nat → List V → Hp → Prop, (∃ m, W 0 m [] H1) ∧ ∀ i m ys H, W i m ys H →
    (J.stop i H ∧ R ys H) ∨ (J.go i H ∧ i < sizeLine ∧ ∃ N : List V → Hp → Prop, (∀ ys' H', N ys' H' → ∃ m', m' < m ∧ W (i + 1) m' ys' H') ∧ ∀ x H', J.yld i H x H' → g x σ0 H' fun σ2 H2 => Back σ0 σ2 ∧ tt σ2 H2 fun b H3 =>
      if b = true then te σ2 H3 fun y H4 => N (ys ++ [y]) H4 else N ys H3)
section
variable {X : Cx} {sc : Scope} {own : List Nat} {tg iter elt : Expr} {ifs : List Expr} {wi : TI} {g : TG} {tt : TT} {te : TE}
theorem comp_run {pins : List (Addr × Obj)} {σ : St} {H : Hp} {s : Shared} {pos ppos : Pos} {use : Option (Value → Sem Unit)} {Qc : Value → Shared → Prop} {R : List V → Hp → Prop}
    (hc : X.calm = true) (B : BlkOk X.N X.env.scope sc own) (hi : PI X tg iter wi) (hg : ∀ b, PG (blk X sc b) tg g) (ht : ∀ b, PTs (blk X sc b) ifs tt) (he : ∀ b, PE (blk X sc b) elt te)
    (hs : ∀ x, foldedSetIterable iter X.env x = pure x) (I : Inv X pins σ H s) (h : wi σ H fun J H1 => CompW J g tt te (wipe own σ) R H1)
    (fin : ∀ D C H' ys s' m, Inv X pins σ (upd H' D (.lst ys)) s' → H' D = none → R ys H' → s'.heap.Ns C m → FpOk X pins (upd H' D (.lst ys)) C → compPost (model X.prog X.w) X.A X.xe use Qc (.ref D) C (.ok .next) s') :
    wpAny (model X.prog X.w) X.A (comprehension (.ListComp elt [⟨tg, iter, ifs, 0⟩] sc pos) sc X.env ppos (newList []) false (eval iter X.env) use) Qc X.xe s := by
  have hnames : ∀ x ∈ sc.names, x.2 = .local → sc.names.lookup x.1 = some .local := fun x hx e => look_mem B.nd (by rw [← e]; exact hx)
  refine wpAny_comprehension_free (cl := closL X.env.cells sc.names []) (use := use) rfl hs (clos_is fun y hy e => I.ok.has y.1 (B.free y hy e)) B.kind hnames ?_
  refine thn (hi pins s σ H _ I h) fun v s1 h1 => thn h1 fun itv s2 h2 => ?_
  obtain ⟨it, fp, tn, J, H2, e, I2, T, st2, f2, W, ⟨m0, w0⟩, turn⟩ := h2
  subst e
  refine wpAny_newObj_type (newEnv_run ?_)
  have fpo : ∀ b ∈ fp, b < s2.heap.objs.size := fun b hb => let ⟨o, ho, _⟩ := T.obj _ _ st2 b hb; Heap.lt_size ho
  obtain ⟨D, hD⟩ : ∃ D, D = s2.heap.objs.size := ⟨_, rfl⟩
  obtain ⟨C, hC⟩ : ∃ C, C = s2.heap.objs.size + 1 := ⟨_, rfl⟩
  have szp : (s2.heap.push { cls := .type "list", dict := none, data := .seq ([] : List Value).toArray }).objs.size = C := by rw [hC, Heap.size_push]
  have hDC : D ≠ C := by rw [hD, hC]; exact Nat.ne_of_lt (Nat.lt_succ_self _)
  have st := blk_start (xe := notedBy (model X.prog X.w) X.A (blkEnv sc (closL X.env.cells sc.names []) C X.env) fun e s' => compPost (model X.prog X.w) X.A X.xe use Qc (.ref D) C (.error e) s') I2 B f2 fpo
  dsimp only
  rw [szp, ← hD]
  rw [← hC, ← hD] at st
  generalize hX : blk X sc ⟨closL X.env.cells sc.names [], C, s2, H2, fp, notedBy (model X.prog X.w) X.A (blkEnv sc (closL X.env.cells sc.names []) C X.env) fun e s' => compPost (model X.prog X.w) X.A X.xe use Qc (.ref D) C (.error e) s'⟩ = Y at st
  have eY : Y.env = blkEnv sc (closL X.env.cells sc.names []) C X.env := by rw [← hX]; rfl
  have exY : Y.xe = notedBy (model X.prog X.w) X.A Y.env fun e s' => compPost (model X.prog X.w) X.A X.xe use Qc (.ref D) C (.error e) s' := by rw [eY, ← hX]; rfl
  have pY : Y.prog = X.prog := by rw [← hX]; rfl
  have wY : Y.w = X.w := by rw [← hX]; rfl
  have KY : Y.K = X.K := by rw [← hX]; rfl
  have AY : Y.A = X.A := by rw [← hX]; rfl
  have cY : Y.calm = true := by rw [← hX]; exact hc
  have gY := hg ⟨closL X.env.cells sc.names [], C, s2, H2, fp, notedBy (model X.prog X.w) X.A (blkEnv sc (closL X.env.cells sc.names []) C X.env) fun e s' => compPost (model X.prog X.w) X.A X.xe use Qc (.ref D) C (.error e) s'⟩
  have tY := ht ⟨closL X.env.cells sc.names [], C, s2, H2, fp, notedBy (model X.prog X.w) X.A (blkEnv sc (closL X.env.cells sc.names []) C X.env) fun e s' => compPost (model X.prog X.w) X.A X.xe use Qc (.ref D) C (.error e) s'⟩
  have lY := he ⟨closL X.env.cells sc.names [], C, s2, H2, fp, notedBy (model X.prog X.w) X.A (blkEnv sc (closL X.env.cells sc.names []) C X.env) fun e s' => compPost (model X.prog X.w) X.A X.xe use Qc (.ref D) C (.error e) s'⟩
  rw [hX] at gY tY lY
  have fsY : Y.fs = frs X.stack := by rw [← hX]; rfl
  have exfY : Y.ex = fp := by rw [← hX]; rfl
  have s0Y : Y.s₀ = s2 := by rw [← hX]; rfl
  have H0Y : Y.H₀ = H2 := by rw [← hX]; rfl
  have LY : Y.env.locals = C := by rw [eY]; rfl
  have pnY : Y.pn = [] := by rw [← hX]; rfl
  have eEnv : ({ scope := relabel sc X.env, locals := C, globals := X.env.globals, cells := cellsFrom (C + 1) sc.names (closL X.env.cells sc.names []), qual := X.env.qual, func := none, code := X.env.code, frame := X.env.frame, builtins := X.env.builtins } : Env) = Y.env := by rw [eY]; rfl
  rw [eEnv]
  have TY : Turn Y.prog Y.w Y.K tg J fp it tn := by rw [pY, wY, KY]; exact T
  have dfp : ∀ b ∈ fp, b ≠ D := fun b hb => by rw [hD]; exact Nat.ne_of_lt (fpo b hb)
  have stat : ∀ {pl : List (Addr × Obj)} {H' : Hp}, (∀ p ∈ pl, p.1 = D) → (∀ b ∈ fp, H' b = none) → ∀ b ∈ fp, FpOk Y pl H' b := fun {pl H'} hpl hn b hb => by
    have f := st.ok.exf b (by rw [exfY]; exact hb)
    refine ⟨hn b hb, f.1, st.ok.exfs b (by rw [exfY]; exact hb), .inl (by rw [exfY]; exact hb), f.2, fun p hp => ?_⟩
    rw [pnY, List.nil_append] at hp
    rw [hpl p hp]
    exact Ne.symm (dfp b hb)
  let Lp : Nat → Shared → Prop := fun n s' => ∃ i ys us k H', Inv Y [(D, { cls := .type "list", data := .seq (us : List Value).toArray k })] (wipe own σ) H' s' ∧ tn i s'.heap ∧ (∀ b ∈ fp, H' b = none) ∧ Vals ys us ∧ ys.length ≤ sizeLine ∧ ys.length ≤ i ∧ W i n ys H'
  have start : Lp m0 { s2 with heap := pushCells ((s2.heap.push { cls := .type "list", dict := none, data := .seq ([] : List Value).toArray }).push { cls := .type "dict", data := .dict #[] }) sc.names } := by
    refine ⟨0, [], [], 0, H2, st, T.keep _ _ _ st2 fun b hb o e => ?_, fun b hb => (f2 b hb).1, .nil, Nat.zero_le _, Nat.zero_le _, w0⟩
    exact pushCells_keeps sc.names _ _ _ (Heap.get?_push_of_some _ (Heap.get?_push_of_some _ e))
  have loop : ∀ s4, Lp m0 s4 → codeAny (model X.prog X.w) X.A (.compLoop (.ListComp elt [⟨tg, iter, ifs, 0⟩] sc pos) 0 (.ref it) (.ref D) Y.env) (compPost (model X.prog X.w) X.A X.xe use Qc (.ref D) C) s4 := by
    intro s4 h4
    refine comp_loop Lp ?_ m0 h4
    rintro n s5 ⟨i, ys, us, k, H5, I5, st5, fr5, vs5, le5, ll5, w5⟩
    rw [← exY, ← pY, ← wY, ← AY]
    have pinD : ∀ p ∈ ([(D, { cls := .type "list", data := .seq us.toArray k })] : List (Addr × Obj)), p.1 = D := fun p hp => by
      obtain rfl : p = (D, { cls := .type "list", data := .seq us.toArray k }) := by simpa using hp
      rfl
    rcases turn i n ys H5 w5 with ⟨stop, qn⟩ | ⟨go, lt, N, hN, step⟩
    · refine thn (TY.done Y rfl rfl rfl cY i _ s5 _ H5 Y.xe I5 (stat pinD fr5) st5 stop) fun r s6 ⟨hr, I6⟩ => ?_
      subst hr
      obtain ⟨p1, p2, p3, p4, _⟩ := I6.pin (D, { cls := .type "list", data := .seq us.toArray k }) (List.mem_append_right _ (by simp))
      have u6 : Un (frs X.stack) fp H2 (upd H5 D (.lst ys)) s2.heap s6.heap := by
        have u := I6.base
        rw [fsY, exfY, s0Y, H0Y] at u
        exact u.track p2 (by rw [hD]; exact Nat.le_refl _)
      have hok : HOk X.prog X.w (upd H5 D (.lst ys)) s6.heap := by
        have := I6.hok
        rw [pY, wY] at this
        exact this.track p2 ⟨le5, us, k, vs5, p1⟩
      have I7 : Inv X pins σ (upd H5 D (.lst ys)) s6 := I2.call' (ch := fp) (by rw [← s0Y]; exact I6.os) u6 hok I6.bare fun b hb => ⟨(f2 b hb).2.2.2.1, (f2 b hb).2.1, (f2 b hb).2.2.2.2.1, (f2 b hb).2.2.2.2.2⟩
      obtain ⟨m, hn, _⟩ := I6.loc
      rw [LY] at hn
      rw [pY, wY, AY]
      refine fin D C H5 ys s6 m I7 p2 qn hn (I2.fpOk (by rw [hC]; exact Nat.le_succ _) ?_)
      rw [upd_ne (Ne.symm hDC), ← LY]
      exact I6.free
    · refine thn (TY.item Y rfl rfl rfl cY i _ s5 _ H5 Y.xe I5 (stat pinD fr5) st5 go) fun r s6 ⟨u, hr, h6⟩ => ?_
      subst hr
      refine thn h6 fun _ s7 ⟨x, H7, I7, r7, y7, st7, fr7⟩ => ?_
      have I7' := I7.pinned (stat pinD fr7) (T.obj _ _ st7)
      refine thn (gY _ s7 _ H7 x u _ I7' r7 (step x H7 y7)) fun _ s8 ⟨σ8, H8, I8, bk, q8⟩ => ?_
      refine thn (tY _ s8 σ8 H8 _ I8 q8) fun ok s9 ⟨H9, I9, q9⟩ => ?_
      have fpk : ∀ {σ' : St} {H' : Hp} {s' : Shared}, Inv Y ([(D, { cls := .type "list", data := .seq us.toArray k })] ++ pinsAt fp s7.heap) σ' H' s' → tn (i + 1) s'.heap ∧ (∀ b ∈ fp, H' b = none) := fun {σ' H' s'} I' =>
        ⟨T.keep _ _ _ st7 fun b hb o e => (I'.pin (b, o) (List.mem_append_right _ (List.mem_append_right _ (mem_pinsAt hb e)))).1, fun b hb => by
          obtain ⟨o, e, d⟩ := T.obj _ _ st7 b hb
          exact (I'.pin (b, o) (List.mem_append_right _ (List.mem_append_right _ (mem_pinsAt hb e)))).2.1⟩
      cases ok with
      | false =>
        obtain ⟨m', hm, w'⟩ := hN _ _ q9
        obtain ⟨t9, fr9⟩ := fpk I9
        exact ⟨m', hm, i + 1, ys, us, k, H9, I9.unpinned.weak bk.1.symm bk.2, t9, fr9, vs5, le5, Nat.le_succ_of_le ll5, w'⟩
      | true =>
        refine thn (lY _ s9 σ8 H9 _ I9 q9) fun yv sa ⟨y, Ha, Ia, ra, qa⟩ => ?_
        obtain ⟨m', hm, w'⟩ := hN _ _ qa
        obtain ⟨ta, fra⟩ := fpk Ia
        obtain ⟨p1, p2, p3, p4, _⟩ := Ia.pin (D, { cls := .type "list", data := .seq us.toArray k }) (List.mem_append_right _ (List.mem_append_left _ (by simp)))
        have lus := vs5.length
        refine call_meets F.slot_list_append ⟨_, p1, rfl⟩ F.entry_list_append (F.args_list_append_2 _ _) (PySem.list_append D us.toArray k yv (by rw [List.size_toArray]; omega)) ⟨p1, ?_⟩
        have q := PySem.IsL.update p1 (fun z => z.push yv)
        have Ib : Inv Y [] (wipe own σ) Ha { sa with heap := sa.heap.update D (Obj.mapSeq fun z => z.push yv) } := by
          have I0 : Inv Y [] (wipe own σ) Ha sa := (Ia.pins_of (pins' := []) fun p hp => absurd hp (by simp)).weak bk.1.symm bk.2
          refine I0.turned (t' := sa.toks) (it := D) (fun b o hb e => (Heap.get?_update_other sa.heap _ (Ne.symm hb)).trans e) p2 (by rw [LY]; exact hDC) (.inr (by rw [s0Y, hD]; exact Nat.le_refl _)) (fun z c e => ?_) fun p hp => absurd (show p ∈ ([] : List (Addr × Obj)) by rw [← pnY]; simpa using hp) (by simp)
          obtain ⟨v, o, ho, hd⟩ := st.cell z c e
          rintro rfl
          obtain ⟨o1, _⟩ := st.pin (c, { cls := .type "list", data := .seq ([] : List Value).toArray }) (List.mem_append_right _ (by simp))
          rw [o1] at ho
          cases ho
          cases hd
        have q' : (sa.heap.update D (Obj.mapSeq fun z => z.push yv)).get? D = some { cls := .type "list", data := .seq (us ++ [yv]).toArray (if (us.toArray.push yv).size == us.toArray.size then k else k + 1) } := by
          have e1 : (us ++ [yv]).toArray = us.toArray.push yv := by simp
          rw [e1]; exact q
        refine ⟨m', hm, i + 1, ys ++ [y], us ++ [yv], (if (us.toArray.push yv).size == us.toArray.size then k else k + 1), Ha, Ib.pins_of fun p hp => ?_, T.keep _ _ _ ta fun b hb o e => (Heap.get?_update_other sa.heap _ (Ne.symm (dfp b hb))).trans e, fra, vs5.append (.cons ra .nil), by rw [List.length_append, List.length_singleton]; omega, by rw [List.length_append, List.length_singleton]; omega, w'⟩
        obtain rfl : p = (D, { cls := .type "list", data := .seq (us ++ [yv]).toArray (if (us.toArray.push yv).size == us.toArray.size then k else k + 1) }) := by simpa using hp
        exact ⟨q', p2, by rw [LY]; exact hDC, p4, fun v z => by
          have z' : Data.seq (us ++ [yv]).toArray (if (us.toArray.push yv).size == us.toArray.size then k else k + 1) = Data.cell v := z
          cases z'⟩
  refine codeAny_compStart_list (loop _ start) ?_
  refine T.self X.A 0 _ _ _ ?_ (loop _ start)
  exact T.keep _ _ _ st2 fun b hb o e => pushCells_keeps sc.names _ _ _ (Heap.get?_push_of_some _ (Heap.get?_push_of_some _ e))
end
end L2
namespace L2
open PySem PySem.Spec PyProof.Rows
def nodupS : List Str → Bool
  | [] => true
  | x :: r => !(r.contains x) && nodupS r
theorem nodupS_of : ∀ {l : List Str}, nodupS l = true → l.Nodup
  | [], _ => List.nodup_nil
  | x :: r, h => by
    unfold nodupS at h
    rw [Bool.and_eq_true] at h
    refine List.nodup_cons.mpr ⟨fun z => ?_, nodupS_of h.2⟩
    have : r.contains x = true := List.contains_iff_mem.mpr z
    rw [this] at h
    exact absurd h.1 (by decide)
def blkB (N : List Str) (outer sc : Scope) (own : List Nat) : Bool :=
  sc.kind == .function && nodupS (sc.names.map (·.1)) && sc.names.all (fun y => !(y.2 == .free) || (outer.names.lookup y.1 == some .cell || outer.names.lookup y.1 == some .free)) &&
    sc.names.all (fun y => !(y.2 == .local || y.2 == .cell) || (List.range N.length).all fun i => !(N[i]? == some y.1) || own.contains i)
theorem blk_of {N : List Str} {outer sc : Scope} {own : List Nat} (h : blkB N outer sc own = true) : BlkOk N outer sc own := by
  unfold blkB at h
  rw [Bool.and_eq_true, Bool.and_eq_true, Bool.and_eq_true] at h
  obtain ⟨⟨⟨h1, h2⟩, h3⟩, h4⟩ := h
  refine ⟨eq_of_beq h1, nodupS_of h2, fun y hy e => ?_, fun y hy e i hi => ?_⟩
  · have := List.all_eq_true.mp h3 y hy
    rw [e] at this
    rw [show (!(NameKind.free == NameKind.free)) = false from rfl, Bool.false_or, Bool.or_eq_true] at this
    exact this.imp eq_of_beq eq_of_beq
  · have := List.all_eq_true.mp h4 y hy
    have e' : (y.2 == NameKind.local || y.2 == NameKind.cell) = true := by
      rcases e with e | e <;> rw [e] <;> rfl
    rw [e', Bool.not_true, Bool.false_or] at this
    have hlt : i < N.length := (List.getElem?_eq_some_iff.mp hi).1
    have := List.all_eq_true.mp this i (List.mem_range.mpr hlt)
    rw [hi, beq_self_eq_true, Bool.not_true, Bool.false_or] at this
    exact List.contains_iff_mem.mp this
def tComp (wi : TI) (g : TG) (tt : TT) (te : TE) (own : List Nat) : TE := fun σ H Q => wi σ H fun J H1 => CompW J g tt te (wipe own σ) (fun ys H' => ∀ p H2, New H' H2 p (.lst ys) → Q (.ref p) H2) H1
section
variable {X : Cx} {sc : Scope} {tg iter elt : Expr} {ifs : List Expr} {wi : TI} {g : TG} {tt : TT} {te : TE} {pos : Pos}
theorem Heap.SameBut.keeps {a : Addr} {h h' : Heap} (x : Heap.SameBut a h h') : ∀ b o, b ≠ a → h.get? b = some o → h'.get? b = some o := fun b o hb e => (x.2 b hb).trans e
theorem FpOk.turned {pins : List (Addr × Obj)} {σ : St} {H : Hp} {s : Shared} {C : Addr} {h' : Heap} (I : Inv X pins σ H s) (f : FpOk X pins H C) (sb : Heap.SameBut C s.heap h') : Inv X pins σ H { s with heap := h' } :=
  I.turned (t' := s.toks) (Heap.SameBut.keeps sb) f.1 f.2.1 f.2.2.2.1 f.2.2.2.2.1 f.2.2.2.2.2
theorem pe_comp (own : List Nat) (hc : X.calm = true) (B : BlkOk X.N X.env.scope sc own) (hi : PI X tg iter wi) (hg : ∀ b, PG (blk X sc b) tg g) (ht : ∀ b, PTs (blk X sc b) ifs tt) (he : ∀ b, PE (blk X sc b) elt te)
    (hs : ∀ x, foldedSetIterable iter X.env x = pure x := by intro _; rfl) : PE X (.ListComp elt [⟨tg, iter, ifs, 0⟩] sc pos) (tComp wi g tt te own) := by
  intro pins s σ H Q I h
  rw [eval_ListComp]
  refine comp_run (use := none) hc B hi hg ht he hs I h fun D C H' ys s' m I' n r hn f => ⟨m, hn, fun h' sb => ?_⟩
  exact ⟨.ref D, _, f.turned I' sb, rfl, r D _ (.of n)⟩
theorem ps_setC {i : Nat} {y : Str} {py spos : Pos} (own : List Nat) (hc : X.calm = true) (B : BlkOk X.N X.env.scope sc own) (hi : PI X tg iter wi) (hg : ∀ b, PG (blk X sc b) tg g) (ht : ∀ b, PTs (blk X sc b) ifs tt) (he : ∀ b, PE (blk X sc b) elt te)
    (hN : X.N.Nodup) (hy : X.N[i]? = some y) (hl : X.env.scope.names.lookup y = some .local)
    (hsw : swapsWith (.ListComp elt [⟨tg, iter, ifs, 0⟩] sc pos) (some (.Name y py)) spos.line X.env = pure true := by rfl)
    (hs : ∀ x, foldedSetIterable iter X.env x = pure x := by intro _; rfl) : PS X (.Assign [.Name y py] (.ListComp elt [⟨tg, iter, ifs, 0⟩] sc pos) spos) (tAsg (tComp wi g tt te own) (gName i)) := by
  intro pins s σ H D I h
  rw [exec_Assign_Name_used _ _ _ _ hsw]
  refine wpAny_bind (wpAny_standAt (wpAny_bind ?_))
  show wpAny _ X.A (comprehension (.ListComp elt [⟨tg, iter, ifs, 0⟩] sc pos) sc X.env _ (newList []) false (eval iter X.env) (some (assign (.Name y py) X.env)) >>= fun _ => pure ()) _ _ s
  refine wpAny_bind (comp_run (use := some (assign (.Name y py) X.env)) (Qc := fun _ s' => wpAny (model X.prog X.w) X.A (pure ()) (fun _ s'' => wpAny (model X.prog X.w) X.A (pure Flow.next) (SP X pins D) X.xe s'') X.xe s') hc B hi hg ht he hs I h fun L C H' ys s' m I' n r hn f => ?_)
  refine wpAny_assign_Name (store_ok2 I' hN hy (.inl hl) (v := .ref L) rfl (fun s2 I2 hsb => ?_) (.inr hl))
  obtain ⟨a, sb, ha⟩ := hsb
  have hCa : C ≠ a := by
    rcases ha with z | z
    · rw [z]; exact f.2.1
    · exact Ne.symm (f.2.2.2.2.1 y a z)
  refine ⟨m, hn.sameBut sb hCa, fun h' sb2 => wpAny_pure (wpAny_pure ?_)⟩
  exact ⟨_, _, f.turned I2 sb2, r L _ (.of n)⟩
end
theorem back_set {σ : St} {j : Nat} {v : Option V} (h : ∀ x, σ[j]? ≠ some (some x)) : Back σ (σ.set j v) := by
  refine ⟨by simp, fun i x e => ?_⟩
  by_cases hij : j = i
  · subst hij; exact absurd e (h x)
  · rw [List.getElem?_set_ne hij]; exact e
theorem wipe_one {σ : St} {j : Nat} : ∀ x, (wipe [j] σ)[j]? ≠ some (some x) := fun x e => by
  have := (wipe_get [j] σ j x e).2
  simp at this
theorem wipe_set {σ : St} {j : Nat} {v : Option V} : (wipe [j] σ).set j v = σ.set j v := by
  show (σ.set j none).set j v = _
  simp
section
variable {K : PySem.W.Frag} {tt : TT} {te : TE} {σ : St} {j : Nat} {R : List V → Hp → Prop} {H1 : Hp}
theorem comp_list {a : Addr} {xs : List V} (Pv : Nat → List V → Hp → Prop) (hz : xs.length ≤ sizeLine) (h0 : Pv 0 [] H1) (hl : ∀ i ys H, i ≤ xs.length → Pv i ys H → SqL K H a xs)
    (hs : ∀ i x ys H, xs[i]? = some x → Pv i ys H → tt (σ.set j (some x)) H fun b H3 => if b = true then te (σ.set j (some x)) H3 fun y H4 => Pv (i + 1) (ys ++ [y]) H4 else Pv (i + 1) ys H3) (hd : ∀ ys H, Pv xs.length ys H → R ys H) :
    CompW (Itl K a) (gName j) tt te (wipe [j] σ) R H1 := by
  refine ⟨fun i m ys H => m = xs.length - i ∧ i ≤ xs.length ∧ Pv i ys H, ⟨xs.length, by simp, Nat.zero_le _, h0⟩, ?_⟩
  rintro i m ys H ⟨rfl, hi, p⟩
  have q := hl i ys H hi p
  by_cases hlt : i < xs.length
  · refine .inr ⟨⟨xs, xs[i], q, by simp [hlt]⟩, by omega, Pv (i + 1), fun ys' H' q' => ⟨xs.length - (i + 1), by omega, rfl, hlt, q'⟩, fun x H' y => ?_⟩
    obtain ⟨e, y⟩ := y
    subst e
    show Back _ _ ∧ _
    refine ⟨back_set wipe_one, ?_⟩
    rw [wipe_set]
    exact hs i x ys _ (y xs q) p
  · have e : i = xs.length := by omega
    subst e
    exact .inl ⟨⟨xs, q, Nat.le_refl _⟩, hd ys H p⟩
theorem comp_range {lo : Int} {n : Nat} (Pv : Nat → List V → Hp → Prop) (hz : n ≤ sizeLine) (h0 : Pv 0 [] H1)
    (hs : ∀ i ys H, i < n → Pv i ys H → tt (σ.set j (some (.int (lo + i)))) H fun b H3 => if b = true then te (σ.set j (some (.int (lo + i)))) H3 fun y H4 => Pv (i + 1) (ys ++ [y]) H4 else Pv (i + 1) ys H3) (hd : ∀ ys H, Pv n ys H → R ys H) :
    CompW (Itr lo n) (gName j) tt te (wipe [j] σ) R H1 := by
  refine ⟨fun i m ys H => m = n - i ∧ i ≤ n ∧ Pv i ys H, ⟨n, by simp, Nat.zero_le _, h0⟩, ?_⟩
  rintro i m ys H ⟨rfl, hi, p⟩
  by_cases hlt : i < n
  · refine .inr ⟨hlt, by omega, Pv (i + 1), fun ys' H' q' => ⟨n - (i + 1), by omega, rfl, hlt, q'⟩, fun x H' y => ?_⟩
    obtain ⟨e, y⟩ := y
    subst e y
    show Back _ _ ∧ _
    refine ⟨back_set wipe_one, ?_⟩
    rw [wipe_set]
    exact hs i ys _ hlt p
  · have e : i = n := by omega
    subst e
    exact .inl ⟨Nat.le_refl _, hd ys H p⟩
end
end L2
namespace L2
open PySem PySem.Spec PyProof.Rows
theorem ints_of : ∀ {ns : List Int} {us : List Value}, Vals (ns.map V.int) us → ∃ xs : Array (Int × Tok), us.toArray = intItems xs ∧ ns = xs.toList.map (·.1)
  | [], _, .nil => ⟨#[], by simp [intItems], rfl⟩
  | n :: ns, u :: us, .cons r t => by
    obtain ⟨tk, rfl⟩ := r
    obtain ⟨xs, e1, e2⟩ := ints_of t
    refine ⟨((n, tk) :: xs.toList).toArray, ?_, by simp [e2]⟩
    have e3 : us = (intItems xs).toList := by rw [← e1]
    rw [e3]
    simp [intItems]
theorem bools_of : ∀ {bs : List Bool} {us : List Value}, Vals (bs.map V.bl) us → us = bs.map Value.bool
  | [], _, .nil => rfl
  | b :: bs, u :: us, .cons r t => by
    have r' : u = Value.bool b := r
    rw [r', bools_of t]
    rfl
section
variable {X : Cx}
theorem call_sumL (hc : X.calm = true) : CallR X (.builtin "sum") (fun xs H Q => ∃ (p : Addr) (ns : List Int), xs = [.ref p] ∧ SqL X.K H p (ns.map V.int) ∧ Q (.int ns.sum) H) := by
  intro pins s σ H xs us Q I r h
  obtain ⟨p, ns, rfl, hq, q⟩ := h
  obtain ⟨u, rfl, rx⟩ := vals1 r
  cases rx
  obtain ⟨its, rv, pl, _⟩ := I.list hq
  obtain ⟨xs, e1, e2⟩ := ints_of rv
  have hl := pl.isList
  rw [e1] at hl
  refine sum_intListG (I.ok.hd hc) hl fun h' tk t' k => ⟨.int ns.sum, H, I.kept k, ⟨t', ?_⟩, q⟩
  rw [preSum_eq, List.take_of_length_le (by simp), e2]
theorem keptIt {h h' : Heap} {o : Obj} (hk : ∀ b x, b ∉ [h.objs.size] → (h.push o).get? b = some x → h'.get? b = some x) : ∀ b x, h.get? b = some x → h'.get? b = some x :=
  fun b x e => hk b x (fun hm => by rw [List.mem_singleton.mp hm] at e; exact Nat.lt_irrefl _ (Heap.lt_size e)) (Heap.get?_push_of_some _ e)
theorem call_allL (hc : X.calm = true) : CallR X (.builtin "all") (fun xs H Q => ∃ (p : Addr) (bs : List Bool), xs = [.ref p] ∧ SqL X.K H p (bs.map V.bl) ∧ Q (.bl (bs.all id)) H) := by
  intro pins s σ H xs us Q I r h
  obtain ⟨p, bs, rfl, hq, q⟩ := h
  obtain ⟨u, rfl, rx⟩ := vals1 r
  cases rx
  obtain ⟨its, rv, pl, _⟩ := I.list hq
  have eb := bools_of rv
  subst eb
  have hl := pl.isList
  have hlt : p < s.heap.objs.size := by obtain ⟨_, e, _⟩ := hl; exact Heap.lt_size e
  refine call_all_walk (wpAny_pyIter_list hl ?_)
  refine ⟨s.heap.objs.size, [s.heap.objs.size, p], [s.heap.objs.size], (bs.map Value.bool).toArray.size, _, _, fun i => (bs[i]?).getD true, rfl, Walks.list (A := X.A.in1) (I.ok.hd hc) _ p (Nat.ne_of_lt hlt) (bs.map Value.bool).toArray,
    ⟨⟨_, Heap.get?_push_size _ rfl, rfl, rfl⟩, hl.push _⟩, fun i v s' Q' E' hP hQ => ?_, fun h' tk hk => ?_⟩
  · have hP' : (bs.map Value.bool)[i]? = some v := by simpa using hP
    rw [List.getElem?_map] at hP'
    cases e : bs[i]? with
    | none => rw [e] at hP'; cases hP'
    | some b =>
      rw [e] at hP'
      cases hP'
      simp only [e, Option.getD_some] at hQ
      exact wpAny_truthy_bool hQ
  · have e : ((List.range (bs.map Value.bool).toArray.size).all fun i => (bs[i]?).getD true) = bs.all id := by
      rw [List.size_toArray, List.length_map]; exact LSm.range_all bs
    rw [e]
    exact ⟨.bl _, H, I.kept (keptIt hk), rfl, q⟩
end
section
variable {X : Cx}
theorem op_catN : OpR X (binaryOp .Add) (fun x y H Q => ∃ l b xs zs, x = .ref l ∧ y = .ref b ∧ H l = some (.lst xs) ∧ H b = some (.lst zs) ∧ xs.length + zs.length ≤ sizeLine ∧ ∀ p H', New H H' p (.lst (xs ++ zs)) → Q (.ref p) H') := by
  intro pins s σ H x y v u Q I rx ry h
  obtain ⟨l, b, xs, zs, e1, e2, h1, h2, h3, q⟩ := h
  exact op_cat pins s σ H x y v u Q I rx ry ⟨l, b, xs, zs, e1, e2, h1, h2, h3, fun p hp => q p _ (.of hp)⟩
end
end L2
namespace L2
open PySem PySem.Spec PyProof.Rows
section
variable {X : Cx}
theorem get_list : PGet X (rIxL X.K) := by
  intro pins s σ H x y v u Q I rx ry h
  obtain ⟨p, xs, i, z, rfl, rfl, hq, he, q⟩ := h
  cases rx
  obtain ⟨t, rfl⟩ := ry
  obtain ⟨its, r, pl, hz⟩ := I.list hq
  obtain ⟨j, h1, h2, h3, h4, h5⟩ := atI_get he
  obtain ⟨w, ew, rw'⟩ := r.get h2
  have hl := r.length
  have hn := line63
  have fin : EP X pins σ Q w s := ⟨z, H, I, rw', q⟩
  by_cases h0 : 0 ≤ i
  · have hj : i.toNat = j := by
      rw [seqIndex_of h0 h5] at h1
      exact Option.some.inj h1
    exact wpAny_getItem_list pl.isList h0 (by omega) (by rw [hj]; simpa using ew) fin
  · have hj : (i + (its.toArray.size : Int)).toNat = j := by
      rw [seqIndex_neg (by omega) h4] at h1
      rw [List.size_toArray, ← hl]
      exact Option.some.inj h1
    exact wpAny_getItem_list_neg pl.isList (by omega) (by rw [List.size_toArray] <;> omega) (by omega) (by rw [hj]; simpa using ew) fin
end
section
variable {K : PySem.W.Frag} {tt : TT} {te : TE} {σ : St} {j : Nat} {R : List V → Hp → Prop} {H1 : Hp}
theorem yes {σ : St} {H : Hp} {F G : Hp → Prop} (h : F H) : tYes σ H (fun b H3 => if b = true then F H3 else G H3) := by
  show if true = true then F H else G H
  exact iteT h
theorem take_map {α β : Type} (f : α → β) {xs : List α} {i : Nat} {x : α} (e : xs[i]? = some x) : (xs.take i).map f ++ [f x] = (xs.take (i + 1)).map f := by
  rw [List.take_add_one, e]; simp
theorem comp_mapL {a : Addr} {xs : List V} (f : V → V) (hl : SqL K H1 a xs) (hz : xs.length ≤ sizeLine) (hs : ∀ (i : Nat) x (Q : VK), xs[i]? = some x → Q (f x) H1 → te (σ.set j (some x)) H1 Q) (hd : R (xs.map f) H1) :
    CompW (Itl K a) (gName j) tYes te (wipe [j] σ) R H1 := by
  refine comp_list (fun i ys H => H = H1 ∧ ys = (xs.take i).map f) hz ⟨rfl, rfl⟩ (fun i ys H _ h => by rw [h.1]; exact hl) (fun i x ys H e h => ?_) (fun ys H h => ?_)
  · obtain ⟨rfl, rfl⟩ := h
    exact yes (hs i x _ e ⟨rfl, take_map f e⟩)
  · obtain ⟨rfl, rfl⟩ := h
    rw [List.take_length]
    exact hd
theorem comp_mapR {lo : Int} {n : Nat} (f : Nat → V) (hz : n ≤ sizeLine) (hs : ∀ (i : Nat) (Q : VK), i < n → Q (f i) H1 → te (σ.set j (some (.int (lo + i)))) H1 Q) (hd : R ((List.range n).map f) H1) :
    CompW (Itr lo n) (gName j) tYes te (wipe [j] σ) R H1 := by
  refine comp_range (fun i ys H => H = H1 ∧ ys = (List.range i).map f) hz ⟨rfl, rfl⟩ (fun i ys H e h => ?_) (fun ys H h => ?_)
  · obtain ⟨rfl, rfl⟩ := h
    refine yes (hs i _ e ⟨rfl, ?_⟩)
    rw [List.range_succ, List.map_append]; rfl
  · obtain ⟨rfl, rfl⟩ := h
    exact hd
theorem comp_filL {a : Addr} {xs : List V} (p : V → Bool) (f : V → V) (hl : SqL K H1 a xs) (hz : xs.length ≤ sizeLine) (ht : ∀ (i : Nat) x (Q : Bool → Hp → Prop), xs[i]? = some x → Q (p x) H1 → tt (σ.set j (some x)) H1 Q)
    (hs : ∀ (i : Nat) x (Q : VK), xs[i]? = some x → p x = true → Q (f x) H1 → te (σ.set j (some x)) H1 Q) (hd : R ((xs.filter p).map f) H1) : CompW (Itl K a) (gName j) tt te (wipe [j] σ) R H1 := by
  refine comp_list (fun i ys H => H = H1 ∧ ys = ((xs.take i).filter p).map f) hz ⟨rfl, rfl⟩ (fun i ys H _ h => by rw [h.1]; exact hl) (fun i x ys H e h => ?_) (fun ys H h => ?_)
  · obtain ⟨rfl, rfl⟩ := h
    refine ht i x _ e ?_
    cases hp : p x with
    | true =>
      refine iteT (hs i x _ e hp ⟨rfl, ?_⟩)
      rw [List.take_add_one, e, List.filter_append, Option.toList_some, List.filter_cons, List.filter_nil, hp]; simp
    | false =>
      refine iteF ⟨rfl, ?_⟩
      rw [List.take_add_one, e, List.filter_append, Option.toList_some, List.filter_cons, List.filter_nil, hp]; simp
  · obtain ⟨rfl, rfl⟩ := h
    rw [List.take_length]
    exact hd
end
theorem Same.upd {H0 H : Hp} {l : Addr} {o : HO} (S : Same H0 H) (n : H0 l = none) : Same H0 (upd H l o) := fun b u e => by
  rw [upd_ne (ne_of_none e n)]
  exact S b u e
end L2
namespace L2
open PySem PySem.Spec PyProof.Rows
def rLen (K : PySem.W.Frag) : List V → Hp → VK → Prop := fun xs H Q => ∃ (p : Addr) (ys : List V), xs = [.ref p] ∧ Sq K H p ys ∧ Q (.int ys.length) H
theorem call_lenQ {X : Cx} : CallR X (.builtin "len") (rLen X.K) := call_len_seq
def rSumL (K : PySem.W.Frag) : List V → Hp → VK → Prop := fun xs H Q => ∃ (p : Addr) (ns : List Int), xs = [.ref p] ∧ SqL K H p (ns.map V.int) ∧ Q (.int ns.sum) H
def rIsT (K : PySem.W.Frag) (c : V) (cv : Value) : List V → Hp → VK → Prop := fun xs H Q => ∃ x t b, xs = [x, c] ∧ TyOf K H x t ∧ PySem.W.kitOne K t cv = some b ∧ Q (.bl b) H
def rMaxL (K : PySem.W.Frag) : List V → Hp → VK → Prop := fun xs H Q => ∃ (p : Addr) (ns : List Int), xs = [.ref p] ∧ SqL K H p (ns.map V.int) ∧ 0 < ns.length ∧ ∀ M, M ∈ ns → (∀ a, a ∈ ns → a ≤ M) → Q (.int M) H
def rMinL (K : PySem.W.Frag) : List V → Hp → VK → Prop := fun xs H Q => ∃ (p : Addr) (ns : List Int), xs = [.ref p] ∧ SqL K H p (ns.map V.int) ∧ 0 < ns.length ∧ ∀ M, M ∈ ns → (∀ a, a ∈ ns → M ≤ a) → Q (.int M) H
def rAllL (K : PySem.W.Frag) : List V → Hp → VK → Prop := fun xs H Q => ∃ (p : Addr) (bs : List Bool), xs = [.ref p] ∧ SqL K H p (bs.map V.bl) ∧ Q (.bl (bs.all id)) H
def rAnyL (K : PySem.W.Frag) : List V → Hp → VK → Prop := fun xs H Q => ∃ (p : Addr) (bs : List Bool), xs = [.ref p] ∧ SqL K H p (bs.map V.bl) ∧ Q (.bl (bs.any id)) H
def rListN (K : PySem.W.Frag) : List V → Hp → VK → Prop := fun xs H Q => ∃ p ys, xs = [.ref p] ∧ Sq K H p ys ∧ ∀ l H', New H H' l (.lst ys) → Q (.ref l) H'
section
variable {X : Cx} (K : PySem.W.Frag)
theorem ix_Q (h : X.K = K := by rfl) : IxR X (rAt K) := by subst h; exact ix_any
theorem len_Q (h : X.K = K := by rfl) : CallR X (.builtin "len") (rLen K) := by subst h; exact call_lenQ
theorem sum_Q (hc : X.calm = true) (h : X.K = K := by rfl) : CallR X (.builtin "sum") (rSumL K) := by subst h; exact call_sumL hc
theorem all_Q (hc : X.calm = true) (h : X.K = K := by rfl) : CallR X (.builtin "all") (rAllL K) := by subst h; exact call_allL hc
theorem pi_listQ {tg l : Expr} {tl : TE} (hl : PE X l tl) (h : X.K = K := by rfl) : PI X tg l (iList K tl) := by subst h; exact pi_list hl
theorem in_Q (h : X.K = K := by rfl) : OpR X (compareOp .In) (rIn K false) := by subst h; exact op_in_seq
theorem getL_Q (h : X.K = K := by rfl) : PGet X (rIxL K) := by subst h; exact get_list
theorem pg_tupQ {es : List Expr} {k : Nat} {t : TGs} {n : Nat} {pos : Pos} (hc : X.calm = true) (ht : PGs X es t) (hn : (assignEach es X.env).length = n := by rfl) (hst : (assignEach es X.env).findIdx? (·.1) = none := by rfl) (h : X.K = K := by rfl) :
    PG X (.Tuple es k pos) (gTup K n t) := by subst h; exact pg_tup hc ht hn hst
theorem pe_isT {e : Expr} {te : TE} {T : Str} {n : String} {p p2 pos : Pos} (hg : Gl X "isinstance") (hm : X.mg "isinstance" = none) (hgT : Gl X T) (hmT : X.mg T = none) (hvT : bootBuiltins T = some (.type n)) (he : PE X e te)
    (hn : T ≠ "__name__" := by decide) (hd : (T == ("__debug__" : Str)) = false := by decide)
    (s1 : starEach [e, .Name T p2] X.env = (false, eval e X.env) :: starEach [.Name T p2] X.env := by rfl) (hpl : (backTo pos (starEach [.Name T p2] X.env)).any (·.1) = false := by rfl) (h : X.K = K := by rfl) :
    PE X (.Call (.Name "isinstance" p) [e, .Name T p2] [] pos) (tCB (rIsT K (.ty n) (.type n)) (tCons te (tCons (tC (.ty n)) tNil))) := by subst h; exact pe_isinstT hg hm hgT hmT hvT he hn hd s1 hpl
theorem pe_isC {e : Expr} {te : TE} {T : Str} {C : Addr} {p p2 pos : Pos} (hg : Gl X "isinstance") (hm : X.mg "isinstance" = none) (hgT : Gl X T) (hmT : X.mg T = some (.ref C)) (he : PE X e te)
    (hd : (T == ("__debug__" : Str)) = false := by decide)
    (s1 : starEach [e, .Name T p2] X.env = (false, eval e X.env) :: starEach [.Name T p2] X.env := by rfl) (hpl : (backTo pos (starEach [.Name T p2] X.env)).any (·.1) = false := by rfl) (h : X.K = K := by rfl) :
    PE X (.Call (.Name "isinstance" p) [e, .Name T p2] [] pos) (tCB (rIsT K (.ref C) (.ref C)) (tCons te (tCons (tC (.ref C)) tNil))) := by subst h; exact pe_isinst hg hm hgT hmT he hd s1 hpl
theorem op_eqI : OpR X (compareOp .Eq) (rI0 fun i j => .bl (decide (i = j))) := by
  intro pins s σ H x y v u Q I rx ry ⟨i, j, e1, e2, q⟩
  subst e1 e2
  refine op_eq pins s σ H _ _ v u Q I rx ry ⟨rfl, ?_⟩
  rw [dec_int, Bool.beq_eq_decide_eq]
  exact q
theorem op_neI : OpR X (compareOp .NotEq) (rI0 fun i j => .bl (!decide (i = j))) := by
  intro pins s σ H x y v u Q I rx ry ⟨i, j, e1, e2, q⟩
  subst e1 e2
  refine op_ne pins s σ H _ _ v u Q I rx ry ⟨rfl, ?_⟩
  rw [dec_int, Bool.beq_eq_decide_eq]
  exact q
end
theorem iteDT {c A B : Prop} [Decidable c] (hc : c) (h : A) : if decide c = true then A else B := by
  rw [decide_eq_true hc]
  exact iteT h
theorem iteDF {c A B : Prop} [Decidable c] (hc : ¬ c) (h : B) : if decide c = true then A else B := by
  rw [decide_eq_false hc]
  exact iteF h
theorem iteNT {c A B : Prop} [Decidable c] (hc : c) (h : B) : if (!decide c) = true then A else B := by
  rw [decide_eq_true hc]
  exact iteF h
theorem iteNF {c A B : Prop} [Decidable c] (hc : ¬ c) (h : A) : if (!decide c) = true then A else B := by
  rw [decide_eq_false hc]
  exact iteT h
theorem ite3 {c A B : Prop} [Decidable c] (h1 : c → A) (h2 : ¬ c → B) : if decide c = true then A else B := by
  by_cases h : c
  · exact iteDT h (h1 h)
  · exact iteDF h (h2 h)
end L2
namespace L2
open PySem PySem.Spec PyProof.Rows
section
variable {X : Cx}
def tRng1 (ta : TA) : TE := fun σ H Q => ta σ H fun vs H1 => ∃ j : Int, vs = [.int j] ∧ ∀ p H2, New H1 H2 p (.rng 0 j) → Q (.ref p) H2
def tRng2 (ta : TA) : TE := fun σ H Q => ta σ H fun vs H1 => ∃ i j : Int, vs = [.int i, .int j] ∧ ∀ p H2, New H1 H2 p (.rng i j) → Q (.ref p) H2
def upZ (lo : Int) (n : Nat) : List Int := (List.range n).map fun (k : Nat) => lo + (k : Int)
def rListR : List V → Hp → VK → Prop := fun xs H Q => ∃ (p : Addr) (lo hi : Int), xs = [.ref p] ∧ H p = some (.rng lo hi) ∧ -(2 ^ 62) ≤ lo ∧ lo < 2 ^ 62 ∧ -(2 ^ 62) ≤ hi ∧ hi < 2 ^ 62 ∧ (hi - lo).toNat ≤ 16777216 ∧ ∀ l H', New H H' l (.lst ((upZ lo (hi - lo).toNat).map V.int)) → Q (.ref l) H'
end
section
variable {prog : Program} {w : World} {A : Around} {R : Result → Shared → Prop} {I : Addr} {fp wr : List Addr} {n : Nat} {P : Nat → Value → Prop} {St : Nat → Heap → Prop} {d : Value}
end
section
variable {prog : Program} {w : World} {A : Around} {E : Value → Shared → Prop} {s : Shared}
end
def tMaxd (K : PySem.W.Frag) (ta : TA) (td : TE) : TE := fun σ H Q => ta σ H fun vs H1 => td σ H1 fun _ H2 => ∃ (p : Addr) (ns : List Int), vs = [.ref p] ∧ SqL K H2 p (ns.map V.int) ∧ 0 < ns.length ∧ ∀ M, M ∈ ns → (∀ a, a ∈ ns → a ≤ M) → Q (.int M) H2
section
variable {X : Cx}
def twoV (xs : List V) (lo : Option Int) : List V := (sliceRange (sliceBounds lo none (some 2) xs.length).1 (sliceBounds lo none (some 2) xs.length).2.1 2).filterMap (xs[·]?)
def tSl2 (K : PySem.W.Frag) (te : TE) (tl : TO) : TE := fun σ H Q => te σ H fun x H1 => tl σ H1 fun l H2 => ∃ (p : Addr) (xs : List V), x = .ref p ∧ SqL K H2 p xs ∧ ∀ q H', New H2 H' q (.lst (twoV xs l)) → Q (.ref q) H'
def rIndex (K : PySem.W.Frag) : V → List V → Hp → VK → Prop := fun x vs H Q => ∃ l xs y j, x = .ref l ∧ vs = [y] ∧ SqL K H l xs ∧ flatV y = true ∧ xs.all flatV = true ∧ (∃ z, xs[j]? = some z ∧ eqV z y = true) ∧ (∀ m z, m < j → xs[m]? = some z → eqV z y = false) ∧ Q (.int (j : Nat)) H
end
end L2
namespace L2
open PySem PySem.Spec PyProof.Rows
def rSlN (K : PySem.W.Frag) : V → Option Int → Option Int → Hp → VK → Prop := fun x lo hi H Q => ∃ a xs, x = .ref a ∧ SqL K H a xs ∧ ∀ p H', New H H' p (.lst (cutV xs lo hi)) → Q (.ref p) H'
theorem sl_Q {X : Cx} (K : PySem.W.Frag) (h : X.K = K := by rfl) : SlR X (rSlN K) := by
  subst h
  intro pins s σ H x v vl vu lo hi sl Q I rx hs pl pu ⟨a, xs, e, hx, q⟩
  exact sl_list pins s σ H x v vl vu lo hi sl Q I rx hs pl pu ⟨a, xs, e, hx, fun p hp => q p _ (.of hp)⟩
end L2
namespace L2
open PySem PySem.Spec PyProof.Rows
section
variable {X : Cx} {pins : List (Addr × Obj)} {σ : St} {H : Hp} {s : Shared} {a : Addr} {kvs : List (Key × V)} {o : Obj}
end
def Itd (a : Addr) (o : Obj) (kvs : List (Key × V)) : It :=
  ⟨fun i H => H a = some (.frz o (.dK kvs)) ∧ ∃ kv, kvs[i]? = some kv, fun i H x H' => H' = H ∧ ∀ kv, kvs[i]? = some kv → x = kV kv.1, fun i H => H a = some (.frz o (.dK kvs)) ∧ kvs.length ≤ i⟩
def iDict (td : TE) : TI := fun σ H R => td σ H fun x H1 => ∃ a kvs, x = .ref a ∧ H1 a = some (.dK kvs) ∧ ∀ o, R (Itd a o kvs) (upd H1 a (.frz o (.dK kvs)))
def tThaw (H0 : Hp) (t : TS) : TS := fun D σ H => t { D with nx := fun σ' H' => ∃ a o kvs, H' a = some (.frz o (.dK kvs)) ∧ (∀ o u, H0 a ≠ some (.frz o u)) ∧ D.nx σ' (upd H' a (.dK kvs)) } σ H
end L2
namespace L2
open PySem PySem.Spec PyProof.Rows
section
variable {X : Cx}
def rIns0 : V → List V → Hp → VK → Prop := fun x vs H Q => ∃ l xs y, x = .ref l ∧ vs = [.int 0, y] ∧ H l = some (.lst xs) ∧ xs.length < sizeLine ∧ Q .non (upd H l (.lst (y :: xs)))
end
end L2
namespace L2
open PySem PySem.Spec PyProof.Rows
def rFld (K : PySem.W.Frag) (f : Str) : V → Hp → VK → Prop := fun x H Q => ∃ a C dx fs v, x = .ref a ∧ H a = some (.ins C dx fs) ∧ Cls K C ∧ NoAttr K C f ∧ fs.lookup f = some v ∧ Q v H
def tU1 (r : V → Hp → VK → Prop) (ta : TE) : TE := fun σ H Q => ta σ H fun x H1 => r x H1 Q
section
variable {X : Cx} (K : PySem.W.Frag)
theorem pe_fldR {e : Expr} {ta : TE} {f : Str} {pos : Pos} (he : PE X e ta) (hb : attributeBase e f X.env (eval e X.env) = eval e X.env) (h : X.K = K := by rfl) : PE X (.Attribute e f pos) (tU1 (rFld K f) ta) := by subst h; exact pe_fld he hb
end
def rDGet : R2 := fun x y H Q => ∃ a v, x = .ref a ∧ DGet H a y (some v) ∧ Q v H
def tR2 (r : R2) (ta tb : TE) : TE := fun σ H Q => ta σ H fun x H1 => tb σ H1 fun y H2 => r x y H2 Q
def rDPut : V → V → V → Hp → (Hp → Prop) → Prop := fun x y v H Q => ∃ a kvs k, x = .ref a ∧ y = kV k ∧ H a = some (.dK kvs) ∧ kvs.length < sizeLine ∧ Q (upd H a (.dK (putK kvs k v)))
def sR3 (r : V → V → V → Hp → (Hp → Prop) → Prop) (td ty tv : TE) : TS := fun D σ H => tv σ H fun v H1 => td σ H1 fun x H2 => ty σ H2 fun y H3 => r x y v H3 fun H4 => D.nx σ H4
def tDPopN (td ty : TE) : TE := fun σ H Q => td σ H fun x H1 => ∃ a kvs, x = .ref a ∧ H1 a = some (.dK kvs) ∧ ty σ H1 fun y H2 => ∃ kvs k, H2 a = some (.dK kvs) ∧ y = kV k ∧
  (∀ v, valV kvs k = some v → Q v (upd H2 a (.dK (dropK kvs k)))) ∧ (valV kvs k = none → Q .non H2)
section
variable {X : Cx} {o i e value : Expr} {pos pos' apos cpos p : Pos} {td ty tv : TE}
end
def rIsN : R2 := fun x y H Q => y = .non ∧ Q (.bl (decide (x = .non))) H
def rNotN : R2 := fun x y H Q => y = .non ∧ Q (.bl (!decide (x = .non))) H
end L2
namespace L2
open PySem PySem.Spec PyProof.Rows
section
variable {P : Program} {w : World} {K : PySem.W.Frag} {mg : Str → Option Value} {base : Heap}
end
structure ClsTy (K : PySem.W.Frag) (C : Addr) : Prop where
  ha : PySem.W.findIn K (.ref C) "__class__" = some (some (.builtin "object.__class__"))
  hn : PySem.W.specialIn K (.builtin "object.__class__") "__get__" = some (some (.builtin "getset_descriptor.__get__"))
  tk : PySem.W.takesIn K (.builtin "object.__class__") = some true
  ob : PySem.W.mroIn K C (.type "object") = some true
theorem ClsTy.of {K : PySem.W.Frag} {C a dx : Addr} {H : Hp} {fs : List (Str × V)} (t : ClsTy K C) (c : Cls K C) (e : H a = some (.ins C dx fs)) : TyOf K H (.ref a) (.ref C) := .ins e c t.ha t.hn t.tk t.ob
theorem rep_ints {K : PySem.W.Frag} {H : Hp} : ∀ (ns : List Int), RepAll K H (ns.map PyData.int) (ns.map V.int)
  | [] => by simp only [List.map_nil, RepAll]
  | n :: ns => by
    rw [List.map_cons, List.map_cons, RepAll]
    exact ⟨_, _, rfl, by rw [Rep], rep_ints ns⟩
theorem rep_list {K : PySem.W.Frag} {H : Hp} {p : Addr} {ns : List Int} (h : SqL K H p (ns.map V.int)) : Rep K H (.list (ns.map PyData.int)) (.ref p) := by
  rw [Rep]
  exact ⟨p, _, rfl, h, rep_ints ns⟩
def But (p : Addr) (H H' : Hp) : Prop := ∀ b o, H b = some o → b ≠ p → H' b = some o
end L2
namespace SW
open PySem L2
structure Rat (H : Hp) (p : Addr) (x y : Int) : Prop where
  at_ : H p = some (.tup [.int x, .int y])
  x0 : 0 ≤ x
  y0 : 0 < y
  xl : x < 10 ^ 40
  yl : y < 10 ^ 40
def spDraw : Sp := fun vs H Q _ => ∃ c k m : Int, vs = [.int c, .int k, .int m] ∧ 0 ≤ k ∧ k < 1000 ∧ 0 < m ∧ ∀ (v : Int) (H' : Hp), 0 ≤ v → v < m → Same H H' → Q (.int v) H'
def spGreat : Sp := fun vs H Q _ => ∃ c k m : Int, vs = [.int c, .int k, .int m] ∧ 0 ≤ k ∧ k < 900 ∧ 0 < m ∧ ∀ (v : Int) (H' : Hp), 0 ≤ v → v < m → Same H H' → Q (.int v) H'
def spVote : Sp := fun vs H Q _ => ∃ c : Int, vs = [.int c] ∧ ∀ (v : Int) (H' : Hp), 0 ≤ v → v ≤ 1000000000 → Same H H' → Q (.int v) H'
def spCellAt (K : PySem.W.Frag) : Sp := fun vs H Q _ => ∃ (a : Addr) (ns : List Int) (k : Int), vs = [.ref a, .int k] ∧ SqL K H a (ns.map V.int) ∧ 0 ≤ k ∧ ∀ v : Int, Q (.int v) H
def plainV : V → Bool
  | .non => true | .bl _ => true | .int _ => true | .str _ => true | _ => false
def wholeV : V → Bool
  | .int _ => true | _ => false
structure RuleC (K : PySem.W.Frag) (C fm : Addr) (ff : Option Addr) : Prop where
  cl : Cls K C
  nw : NoAttr K C "whole"
  mr : Meth K C "mark" fm
  ft : ∀ f, ff = some f → Meth K C "fits" f
  ty : ClsTy K C
structure RuleAt (K : PySem.W.Frag) (fm : Addr) (ff : Option Addr) (H : Hp) (p : Addr) (a b : Int) : Prop where
  ob : ∃ C dx t, RuleC K C fm ff ∧ H p = some (.ins C dx [("whole", .ref t)]) ∧ H t = some (.tup [.int a, .int b])
  a0 : 0 < a
  ab : a ≤ b
  b1 : b ≤ 1000
section
variable {K : PySem.W.Frag} {fm : Addr} {ff : Option Addr}
def Made (C : Addr) (H H' : Hp) (p dx : Addr) (a b : Int) : Prop := ∃ t, H' p = some (.ins C dx [("whole", .ref t)]) ∧ H' t = some (.tup [.int a, .int b]) ∧ But p H H'
def goodPQ (u v : V) : Prop := ∃ p q : Int, u = .int p ∧ v = .int q ∧ 0 < p ∧ p ≤ q ∧ q ≤ 1000
def fitsB (u v a b n : Int) : Bool := !(decide (0 < n) && decide (u * b < v * (a + (n - 1) * b))) && decide (u * b ≤ v * (a + n * b))
def spLaw (K : PySem.W.Frag) : Sp := fun vs H Q _ => ∃ (a : Addr) (ns : List Int), vs = [.ref a] ∧ SqL K H a (ns.map V.int) ∧ ns.length ≤ 63 ∧ ∀ H', Q (.bl true) H'
def tRuleM (K : PySem.W.Frag) (fm : Addr) (ff : Option Addr) (sp : Sp) (ta : TE) (t : TA) : TE := fun σ H Q => ta σ H fun x H1 => ∃ a C dx t0, x = .ref a ∧ RuleC K C fm ff ∧ H1 a = some (.ins C dx [("whole", .ref t0)]) ∧ t σ H1 fun vs H2 => sp (x :: vs) H2 Q E0
section
variable {X : Cx} {o e : Expr} {es : List Expr} {ta : TE} {t : TA} {apos pos : Pos} {fd : FuncData} {k : Nat} {ps : List Str} {sp : Sp}
end
end
def primes : List V := [1000003, 1000033, 1000037, 1000039, 1000081, 1000099, 1000117, 1000121, 1000133, 1000151, 1000159, 1000171, 1000183, 1000187, 1000193, 1000199].map V.int
theorem prime_at (k : Int) (h0 : 0 ≤ k) (h1 : k < 16) : ∃ n : Int, 0 < n ∧ atI primes k = some (.int n) := by
  have hk : k.toNat < 16 := by omega
  have e : ∀ j : Nat, j < 16 → ∃ n : Int, 0 < n ∧ primes[j]? = some (.int n) := by
    intro j hj
    match j, hj with
    | (n + 16), h => exact absurd h (by omega)
    | 0, _ | 1, _ | 2, _ | 3, _ | 4, _ | 5, _ | 6, _ | 7, _ | 8, _ | 9, _ | 10, _ | 11, _ | 12, _ | 13, _ | 14, _ | 15, _ => exact ⟨_, by decide, rfl⟩
  obtain ⟨n, hn, e'⟩ := e k.toNat hk
  exact ⟨n, hn, atI_of h0 e'⟩
end SW
namespace L2
open PySem PySem.Spec PyProof.Rows
def dI (ns : List Int) : PyData := .list (ns.map .int)
def dM (rs : List (List Int)) : PyData := .list (rs.map dI)
def dP (a b : Int) : PyData := .tuple [.int a, .int b]
theorem lay_ints : ∀ ns : List Int, PyData.canLayAll0 (ns.map .int) = true
  | [] => by simp [PyData.canLayAll0]
  | n :: ns => by simp [PyData.canLayAll0, PyData.canLay0, lay_ints ns]
theorem lay_dI (ns : List Int) : (dI ns).canLay0 = true := by unfold dI; rw [PyData.canLay0]; exact lay_ints ns
theorem lay_rows : ∀ rs : List (List Int), PyData.canLayAll0 (rs.map dI) = true
  | [] => by simp [PyData.canLayAll0]
  | r :: rs => by rw [List.map_cons, PyData.canLayAll0, lay_dI, lay_rows rs]; rfl
theorem lay_dM (rs : List (List Int)) : (dM rs).canLay0 = true := by unfold dM; rw [PyData.canLay0]; exact lay_rows rs
theorem dep_ints : ∀ ns : List Int, PyData.depthAll (ns.map .int) = 0
  | [] => by simp [PyData.depthAll]
  | n :: ns => by simp [PyData.depthAll, PyData.depth, dep_ints ns]
theorem dep_dI (ns : List Int) : (dI ns).depth ≤ 64 := by unfold dI; rw [PyData.depth, dep_ints]; decide
theorem dep_rows : ∀ rs : List (List Int), PyData.depthAll (rs.map dI) ≤ 1
  | [] => by simp [PyData.depthAll]
  | r :: rs => by
    rw [List.map_cons, PyData.depthAll]
    have h1 := dep_rows rs
    have h2 : (dI r).depth = 1 := by unfold dI; rw [PyData.depth, dep_ints]
    omega
theorem eqv_ints : ∀ ns ms : List Int, PyData.eqvAll (ns.map .int) (ms.map .int) = decide (ns = ms)
  | [], [] => by simp [PyData.eqvAll]
  | [], _ :: _ => by simp [PyData.eqvAll]
  | _ :: _, [] => by simp [PyData.eqvAll]
  | n :: ns, m :: ms => by
    rw [List.map_cons, List.map_cons, PyData.eqvAll, PyData.eqv, eqv_ints ns ms]
    by_cases h : n = m
    · subst h; simp
    · simp [h]
theorem eqv_dI (ns ms : List Int) : PyData.eqv (dI ns) (dI ms) = decide (ns = ms) := by unfold dI; rw [PyData.eqv]; exact eqv_ints ns ms
theorem eqv_rows : ∀ rs ss : List (List Int), PyData.eqvAll (rs.map dI) (ss.map dI) = decide (rs = ss)
  | [], [] => by simp [PyData.eqvAll]
  | [], _ :: _ => by simp [PyData.eqvAll]
  | _ :: _, [] => by simp [PyData.eqvAll]
  | r :: rs, t :: ss => by
    rw [List.map_cons, List.map_cons, PyData.eqvAll, eqv_dI, eqv_rows rs ss]
    by_cases h : r = t
    · subst h; simp
    · simp [h]
theorem eqv_dM (rs ss : List (List Int)) : PyData.eqv (dM rs) (dM ss) = decide (rs = ss) := by unfold dM; rw [PyData.eqv]; exact eqv_rows rs ss
section
variable {K : PySem.W.Frag} {H : Hp}
theorem rep_dI {p : Addr} {ns : List Int} (h : SqL K H p (ns.map V.int)) : Rep K H (dI ns) (.ref p) := rep_list h
def Mat (K : PySem.W.Frag) (H : Hp) (p : Addr) (rs : List (List Int)) : Prop := ∃ as : List Addr, SqL K H p (as.map V.ref) ∧ as.length = rs.length ∧ ∀ (i : Nat) (a : Addr) (r : List Int), as[i]? = some a → rs[i]? = some r → SqL K H a (r.map V.int)
theorem rep_rows : ∀ (as : List Addr) (rs : List (List Int)), as.length = rs.length → (∀ (i : Nat) (a : Addr) (r : List Int), as[i]? = some a → rs[i]? = some r → SqL K H a (r.map V.int)) → RepAll K H (rs.map dI) (as.map V.ref)
  | [], [], _, _ => by simp only [List.map_nil, RepAll]
  | [], _ :: _, h, _ => by simp at h
  | _ :: _, [], h, _ => by simp at h
  | a :: as, r :: rs, h, hr => by
    rw [List.map_cons, List.map_cons, RepAll]
    exact ⟨_, _, rfl, rep_dI (hr 0 a r rfl rfl), rep_rows as rs (by simpa using h) fun i a' r' e1 e2 => hr (i + 1) a' r' (by simpa using e1) (by simpa using e2)⟩
theorem rep_dM {p : Addr} {rs : List (List Int)} (m : Mat K H p rs) : Rep K H (dM rs) (.ref p) := by
  obtain ⟨as, h1, h2, h3⟩ := m
  unfold dM
  rw [Rep]
  exact ⟨p, _, rfl, h1, rep_rows as rs h2 h3⟩
end
def rEqLI (K : PySem.W.Frag) (neg : Bool) : R2 := fun x y H Q => ∃ (p q : Addr) (ns ms : List Int), x = .ref p ∧ y = .ref q ∧ SqL K H p (ns.map V.int) ∧ SqL K H q (ms.map V.int) ∧ Q (.bl (if neg then !decide (ns = ms) else decide (ns = ms))) H
def rEqM (K : PySem.W.Frag) (neg : Bool) : R2 := fun x y H Q => ∃ (p q : Addr) (ns ms : List (List Int)), x = .ref p ∧ y = .ref q ∧ Mat K H p ns ∧ Mat K H q ms ∧ Q (.bl (if neg then !decide (ns = ms) else decide (ns = ms))) H
def rEqP (neg : Bool) : R2 := fun x y H Q => ∃ (p q : Addr) (a b c d : Int), x = .ref p ∧ y = .ref q ∧ H p = some (.tup [.int a, .int b]) ∧ H q = some (.tup [.int c, .int d]) ∧ Q (.bl (if neg then !decide (a = c ∧ b = d) else decide (a = c ∧ b = d))) H
section
variable {X : Cx}
theorem op_neLI (hu : X.A.units + 64 < cLine) : OpR X (compareOp .NotEq) (rEqLI X.K true) := by
  intro pins s σ H x y v u Q I rx ry ⟨p, q, ns, ms, e1, e2, h1, h2, k⟩
  subst e1 e2
  exact op_neD hu pins s σ H _ _ v u Q I rx ry ⟨_, _, rep_dI h1, rep_dI h2, lay_dI _, lay_dI _, dep_dI _, by rw [eqv_dI]; exact k⟩
end
section
variable {X : Cx} (K : PySem.W.Frag)
theorem neLI_Q (hu : X.A.units + 64 < cLine) (h : X.K = K := by rfl) : OpR X (compareOp .NotEq) (rEqLI K true) := by subst h; exact op_neLI hu
end
end L2
namespace SW
structure Pr (a b v n x y : Int) : Prop where
  x0 : 0 < x
  y0 : 0 < y
  one : gcdI x y = 1
  eq : x * (b * v) = y * (a + (n - 1) * b)
  xl : x ≤ a + (n - 1) * b
  yl : y ≤ b * v
structure Dl (a b : Int) (vs gs : List Int) (n N D : Int) : Prop where
  len : gs.length = vs.length
  sum : gs.sum = n
  nn : ∀ (k : Nat) (v g : Int), vs[k]? = some v → gs[k]? = some g → 0 ≤ g ∧ (v = 0 → g = 0)
  hi : ∀ (k : Nat) (v g : Int), vs[k]? = some v → gs[k]? = some g → 0 < v → N * (b * v) ≤ D * (a + g * b)
  lo : ∀ (k : Nat) (v g : Int), vs[k]? = some v → gs[k]? = some g → 0 < v → 0 < g → D * (a + (g - 1) * b) ≤ N * (b * v)
  giver : 0 < n → ∃ (k : Nat) (v g : Int), vs[k]? = some v ∧ gs[k]? = some g ∧ 0 < v ∧ 0 < g ∧ N * (b * v) = D * (a + (g - 1) * b)
  taker : n = 0 → (∃ v, v ∈ vs ∧ 0 < v) → ∃ (k : Nat) (v : Int), vs[k]? = some v ∧ gs[k]? = some 0 ∧ 0 < v ∧ N * (b * v) = D * a
  tie : ∀ (k j : Nat) (v g w h : Int), vs[k]? = some v → gs[k]? = some g → 0 < v → 0 < g → N * (b * v) = D * (a + (g - 1) * b) → vs[j]? = some w → gs[j]? = some h → 0 < w → N * (b * w) = D * (a + h * b) → k < j
  N0 : 0 < N
  D0 : 0 < D
  one : gcdI N D = 1
  none : (∀ v, v ∈ vs → v = 0) → N = 1 ∧ D = 1
end SW
namespace SW
def sumZ : Nat → (Nat → Int) → Int
  | 0, _ => 0
  | n + 1, f => sumZ n f + f n
theorem sumZ_zero : ∀ n, sumZ n (fun _ => 0) = 0
  | 0 => rfl
  | n + 1 => by unfold sumZ; rw [sumZ_zero n]; rfl
theorem sumZ_upd {f g : Nat → Int} {k : Nat} (h : ∀ i, i ≠ k → g i = f i) : ∀ n, sumZ n g = sumZ n f + (if k < n then g k - f k else 0)
  | 0 => by simp [sumZ]
  | n + 1 => by
    unfold sumZ
    rw [sumZ_upd h n]
    by_cases hk : k < n
    · rw [if_pos hk, if_pos (by omega), h n (by omega)]; omega
    · by_cases hn : k = n
      · subst hn; rw [if_neg (by omega), if_pos (by omega)]; omega
      · rw [if_neg hk, if_neg (by omega), h n (by omega)]; omega
theorem sumZ_le {f g : Nat → Int} : ∀ {n : Nat}, (∀ i, i < n → f i ≤ g i) → sumZ n f ≤ sumZ n g
  | 0, _ => Int.le_refl _
  | n + 1, h => by
    unfold sumZ
    have h1 := sumZ_le (n := n) fun i hi => h i (by omega)
    have h2 := h n (by omega)
    omega
def upd2 (P : Nat → Nat → Int) (i j : Nat) (v : Int) : Nat → Nat → Int := fun a b => if a = i ∧ b = j then v else P a b
def ls (h m : Nat) (P : Nat → Nat → Int) (x : Nat) : Int := if x < h then sumZ m (P x) else sumZ h fun i => P i (x - h)
def cr (h x y : Nat) : Nat := if x < h then x else y
def cc (h x y : Nat) : Nat := if x < h then y - h else x - h
def cv (h : Nat) (P : Nat → Nat → Int) (x y : Nat) : Int := P (cr h x y) (cc h x y)
def opp (h m x y : Nat) : Prop := (x < h ∧ h ≤ y ∧ y < h + m) ∨ (h ≤ x ∧ x < h + m ∧ y < h)
def fr (w v : Int) : Prop := 0 < v ∧ v < w
structure Ring (h m : Nat) (w : Int) (P : Nat → Nat → Int) (r : Nat → Nat) (L : Nat) : Prop where
  big : 3 ≤ L
  back : r L = r 0
  way : ∀ k, k < L → opp h m (r k) (r (k + 1))
  frac : ∀ k, k < L → fr w (cv h P (r k) (r (k + 1)))
  apart : ∀ i j, i < j → j < L → r i ≠ r j
def rr (h : Nat) (r : Nat → Nat) (k : Nat) : Nat := cr h (r k) (r (k + 1))
def rc (h : Nat) (r : Nat → Nat) (k : Nat) : Nat := cc h (r k) (r (k + 1))
def dlt (st : Int) (k : Nat) : Int := if k % 2 = 0 then st else -st
def moved (h : Nat) (r : Nat → Nat) (st : Int) (P : Nat → Nat → Int) : Nat → Nat → Nat → Int
  | 0 => P
  | k + 1 => upd2 (moved h r st P k) (rr h r k) (rc h r k) (P (rr h r k) (rc h r k) + dlt st k)
section
variable {h m : Nat} {w : Int} {P : Nat → Nat → Int} {r : Nat → Nat} {L : Nat} {st : Int}
end
def cnt (h m : Nat) (w : Int) (P : Nat → Nat → Int) : Int := sumZ h fun i => sumZ m fun j => if 0 < P i j ∧ P i j < w then 1 else 0
end SW
namespace SW
abbrev Q2 := Int × Int
def qpos (p : Q2) : Prop := 0 < p.1 ∧ 0 < p.2
def qle (p q : Q2) : Prop := p.1 * q.2 ≤ q.1 * p.2
def qlt (p q : Q2) : Prop := p.1 * q.2 < q.1 * p.2
def qmul (p q : Q2) : Q2 := (p.1 * q.1, p.2 * q.2)
def rho (d p : Q2) : Q2 := (d.1 * p.2, d.2 * p.1)
def fset {α : Type} (f : Nat → α) (v : Nat) (x : α) : Nat → α := fun z => if z = v then x else f z
theorem fset_same {α : Type} (f : Nat → α) (v : Nat) (x : α) : fset f v x v = x := by unfold fset; rw [if_pos rfl]
theorem fset_ne {α : Type} {f : Nat → α} {v z : Nat} {x : α} (h : z ≠ v) : fset f v x z = f z := by unfold fset; rw [if_neg h]
inductive Up (ah : Nat → Option Nat) : Nat → Nat → Prop where
  | root {v : Nat} (h : ah v = none) : Up ah v 0
  | step {v u k : Nat} (h : ah v = some u) (r : Up ah u k) : Up ah v (k + 1)
inductive On (ah : Nat → Option Nat) : Nat → Nat → Prop where
  | here (v : Nat) : On ah v v
  | up {v u x : Nat} (h : ah v = some u) (r : On ah u x) : On ah v x
structure Gr (n : Nat) (E : Nat → Nat → Option Q2) (pi : Nat → Q2) : Prop where
  lt : ∀ u v w, E u v = some w → u < n ∧ v < n ∧ u ≠ v
  pos : ∀ u v w, E u v = some w → qpos w ∧ w.1 < 2 ^ 80 ∧ w.2 < 2 ^ 80
  ppos : ∀ v, qpos (pi v)
  pot : ∀ u v w, E u v = some w → qle (pi v) (qmul (pi u) w)
structure Lab (n : Nat) (E : Nat → Nat → Option Q2) (pi : Nat → Q2) (st : Nat → Prop) (D : Nat → Option Q2) (ah : Nat → Option Nat) (wt : Nat → Prop) : Prop where
  dom : ∀ v d, D v = some d → v < n ∧ qpos d
  sta : ∀ v, st v → ∃ d, D v = some d
  root : ∀ v d, D v = some d → ah v = none → st v ∧ d = (1, 1)
  par : ∀ v u, ah v = some u → ∃ du dv w, D u = some du ∧ D v = some dv ∧ E u v = some w ∧ qle (qmul du w) dv
  up : ∀ v d, D v = some d → ∃ k, Up ah v k
  sz : ∀ v d, D v = some d → ∃ l : List Nat, l.Nodup ∧ (∀ z, z ∈ l → ∃ dz, D z = some dz ∧ qle (rho dz (pi z)) (rho d (pi v))) ∧ d.1 < 2 ^ (80 * l.length + 1) ∧ d.2 < 2 ^ (80 * l.length + 1)
  opt : ∀ u d v w, D u = some d → ¬ wt u → E u v = some w → ∃ dv, D v = some dv ∧ qle dv (qmul d w)
section
variable {n : Nat} {E : Nat → Nat → Option Q2} {pi : Nat → Q2} {st : Nat → Prop} {D : Nat → Option Q2} {ah : Nat → Option Nat} {wt wt' : Nat → Prop}
end
end SW
namespace SW
def mu (B : Int) : Option Q2 → Int
  | none => B * B * B + 1
  | some d => d.1 * (B * B) / d.2
def mus (n : Nat) (D : Nat → Option Q2) : Int := sumZ n fun v => mu (2 ^ (80 * n + 1)) (D v)
section
variable {n : Nat} {E : Nat → Nat → Option Q2} {pi : Nat → Q2} {st : Nat → Prop} {D : Nat → Option Q2} {ah : Nat → Option Nat} {wt : Nat → Prop}
def npot (D : Nat → Option Q2) (M : Q2) (pi : Nat → Q2) (v : Nat) : Q2 := match D v with | some d => d | none => qmul M (pi v)
end
def CellOk (a b v s : Int) (p q : Q2) : Prop := q.1 * p.2 * (b * v) ≤ p.1 * q.2 * (a + s * b) ∧ (0 < s → p.1 * q.2 * (a + (s - 1) * b) ≤ q.1 * p.2 * (b * v))
section
variable {a b v s x y : Int} {p q : Q2}
end
end SW
namespace SW
structure NetE (a b : Int) (V S : Nat → Nat → Int) (r c : Nat) (E : Nat → Nat → Option Q2) : Prop where
  up : ∀ i j, i < r → j < c → 0 < V i j → ∃ x y, E i (r + j) = some (x, y) ∧ Pr a b (V i j) (S i j + 1) x y
  dn : ∀ i j, i < r → j < c → 0 < S i j → ∃ x y, E (r + j) i = some (y, x) ∧ Pr a b (V i j) (S i j) x y
  out : ∀ u v w, E u v = some w → (∃ i j, i < r ∧ j < c ∧ u = i ∧ v = r + j ∧ 0 < V i j) ∨ (∃ i j, i < r ∧ j < c ∧ u = r + j ∧ v = i ∧ 0 < S i j)
structure TabOk (a b : Int) (V S : Nat → Nat → Int) (r c : Nat) : Prop where
  a0 : 0 < a
  ab : a ≤ b
  b1 : b ≤ 1000
  v0 : ∀ i j, i < r → j < c → 0 ≤ V i j ∧ V i j ≤ 10 ^ 15
  s0 : ∀ i j, i < r → j < c → 0 ≤ S i j ∧ S i j ≤ 800
  z : ∀ i j, i < r → j < c → 0 < S i j → 0 < V i j
def Cells (a b : Int) (V S : Nat → Nat → Int) (r c : Nat) (pi : Nat → Q2) : Prop := ∀ i j, i < r → j < c → 0 < V i j → CellOk a b (V i j) (S i j) (pi i) (pi (r + j))
section
variable {a b : Int} {V S : Nat → Nat → Int} {r c : Nat} {E : Nat → Nat → Option Q2} {pi : Nat → Q2} {st : Nat → Prop} {D : Nat → Option Q2} {ah : Nat → Option Nat}
structure Way (r c : Nat) (E : Nat → Nat → Option Q2) (D : Nat → Option Q2) (p : Nat → Nat) (k : Nat) : Prop where
  opp : ∀ j, j < k → opp r c (p j) (p (j + 1))
  tight : ∀ j, j < k → ∃ du dv w, D (p j) = some du ∧ D (p (j + 1)) = some dv ∧ E (p j) (p (j + 1)) = some w ∧ qle (qmul du w) dv ∧ qle dv (qmul du w)
  apart : ∀ i j, i < j → j ≤ k → p i ≠ p j
end
end SW
namespace L2
open PySem SW
def row (c : Nat) (f : Nat → Int) : List Int := (List.range c).map f
def mkT (T : Nat → Nat → Int) (r c : Nat) : List (List Int) := (List.range r).map fun i => row c (T i)
theorem row_len (c : Nat) (f : Nat → Int) : (row c f).length = c := by unfold row; simp
theorem row_get {c j : Nat} {f : Nat → Int} (h : j < c) : (row c f)[j]? = some (f j) := by unfold row; rw [List.getElem?_map, List.getElem?_range h]; rfl
theorem row_sum (f : Nat → Int) : ∀ c, (row c f).sum = sumZ c f
  | 0 => rfl
  | c + 1 => by
    have : row (c + 1) f = row c f ++ [f c] := by unfold row; rw [List.range_succ, List.map_append]; rfl
    rw [this, List.sum_append, row_sum f c]
    show _ = sumZ c f + f c
    simp
theorem row_succ (c : Nat) (f : Nat → Int) : row (c + 1) f = row c f ++ [f c] := by unfold row; rw [List.range_succ, List.map_append]; rfl
theorem row_congr {c : Nat} {f g : Nat → Int} (h : ∀ j, j < c → f j = g j) : row c f = row c g := by
  unfold row
  exact List.map_congr_left fun j hj => h j (List.mem_range.mp hj)
theorem row_set {c j : Nat} {f : Nat → Int} {v : Int} (h : j < c) : (row c f).set j v = row c (fun b => if b = j then v else f b) := by
  apply List.ext_getElem?
  intro i
  by_cases e : j = i
  · subst e
    rw [List.getElem?_set_self (by rw [row_len]; exact h), row_get h, if_pos rfl]
  · rw [List.getElem?_set_ne e]
    by_cases hi : i < c
    · rw [row_get hi, row_get hi, if_neg (fun z => e z.symm)]
    · rw [List.getElem?_eq_none (by rw [row_len]; omega), List.getElem?_eq_none (by rw [row_len]; omega)]
theorem mk_len (T : Nat → Nat → Int) (r c : Nat) : (mkT T r c).length = r := by unfold mkT; simp
theorem mk_get {T : Nat → Nat → Int} {r c i : Nat} (h : i < r) : (mkT T r c)[i]? = some (row c (T i)) := by unfold mkT; rw [List.getElem?_map, List.getElem?_range h]; rfl
section
variable {K : PySem.W.Frag} {H H' : Hp} {p : Addr} {as : List Addr} {rs : List (List Int)}
theorem at_ref {as : List Addr} {k : Nat} {a : Addr} (e : as[k]? = some a) : atI (as.map V.ref) (k : Int) = some (.ref a) := atI_of (by omega) (by rw [List.getElem?_map, Int.toNat_natCast, e]; rfl)
theorem at_row {c j : Nat} {f : Nat → Int} (h : j < c) : atI ((row c f).map V.int) (j : Int) = some (.int (f j)) := atI_of (by omega) (by rw [List.getElem?_map, Int.toNat_natCast, row_get h]; rfl)
structure MatM (H : Hp) (p : Addr) (as : List Addr) (rs : List (List Int)) : Prop where
  top : H p = some (.lst (as.map V.ref))
  nd : as.Nodup
  len : as.length = rs.length
  rows : ∀ (i : Nat) (a : Addr) (r : List Int), as[i]? = some a → rs[i]? = some r → H a = some (.lst (r.map V.int))
theorem MatM.mat (m : MatM H p as rs) : Mat K H p rs := ⟨as, SqL.of m.top, m.len, fun i a r e1 e2 => SqL.of (m.rows i a r e1 e2)⟩
theorem MatM.same (m : MatM H p as rs) (S : Same H H') : MatM H' p as rs := ⟨S _ _ m.top, m.nd, m.len, fun i a r e1 e2 => S _ _ (m.rows i a r e1 e2)⟩
theorem mat_row {T : Nat → Nat → Int} {r c i : Nat} (h2 : as.length = (mkT T r c).length) (hi : i < r) : ∃ a, as[i]? = some a ∧ atI (as.map V.ref) (i : Int) = some (.ref a) := by
  rw [mk_len] at h2
  exact ⟨as[i]'(by omega), by simp, at_ref (by simp)⟩
theorem Mat.get {T : Nat → Nat → Int} {r c i : Nat} (m : Mat K H p (mkT T r c)) (hi : i < r) : ∃ (as : List Addr) (a : Addr), Sq K H p (as.map V.ref) ∧ atI (as.map V.ref) (i : Int) = some (.ref a) ∧ Sq K H a ((row c (T i)).map V.int) ∧ SqL K H a ((row c (T i)).map V.int) := by
  obtain ⟨as, h1, h2, h3⟩ := m
  obtain ⟨a, e1, e2⟩ := mat_row h2 hi
  exact ⟨as, a, .inl h1, e2, .inl (h3 i a _ e1 (mk_get hi)), h3 i a _ e1 (mk_get hi)⟩
end
end L2
namespace L2
open PySem SW
end L2
namespace SW
open PySem L2
structure WaysH (H : Hp) (wl : Addr) (ds : List Addr) (kv : Nat → List (Key × V)) (n : Nat) (E : Nat → Nat → Option Q2) : Prop where
  top : H wl = some (.lst (ds.map V.ref))
  len : ds.length = n
  dnd : ds.Nodup
  dict : ∀ (u : Nat) (d : Addr), ds[u]? = some d → H d = some (.dK (kv u))
  val : ∀ (u v : Nat) (w : Q2), u < n → E u v = some w → ∃ t, valV (kv u) (.inl (v : Int)) = some (.ref t) ∧ H t = some (.tup [.int w.1, .int w.2])
  key : ∀ (u : Nat) (kx : Key × V), u < n → kx ∈ kv u → ∃ (v : Nat) (w : Q2), kx.1 = .inl (v : Int) ∧ v < n ∧ E u v = some w
  nd : ∀ u, u < n → ((kv u).map (·.1)).Nodup
def CostAt (H : Hp) (x : V) : Option Q2 → Prop
  | none => x = .non
  | some d => ∃ t, x = .ref t ∧ H t = some (.tup [.int d.1, .int d.2])
def vAh : Option Nat → V
  | none => .non
  | some u => .int (u : Int)
def rchF (cl al : Addr) : List (Str × V) := [("costs", .ref cl), ("ahead", .ref al)]
structure RchH (cR : Addr) (H : Hp) (p dx cl al : Addr) (n : Nat) (D : Nat → Option Q2) (ah : Nat → Option Nat) : Prop where
  ob : H p = some (.ins cR dx (rchF cl al))
  co : ∃ xs, H cl = some (.lst xs) ∧ xs.length = n ∧ ∀ (v : Nat) (x : V), xs[v]? = some x → CostAt H x (D v)
  ah : H al = some (.lst ((List.range n).map fun v => vAh (ah v)))
  ne : cl ≠ al
end SW
namespace SW
open PySem PySem.Spec PyProof.Rows L2
def tMeth2 (C1 C2 : Addr) (m : Str) (sp : Bool → Sp) (ta : TE) (t : TA) : TE := fun σ H Q => ta σ H fun x H1 => ∃ (a : Addr) (b : Bool) (dx : Addr) (fs : List (Str × V)), x = .ref a ∧ H1 a = some (.ins (cond b C1 C2) dx fs) ∧ fs.lookup m = none ∧
  t σ H1 fun vs H2 => sp b (.ref a :: vs) H2 Q E0
section
variable {X : Cx} {o e : Expr} {es : List Expr} {ta : TE} {t : TA} {apos pos : Pos} {fd1 fd2 : FuncData} {k1 k2 : Nat} {ps1 ps2 : List Str} {sp : Bool → Sp} {C1 C2 f1 f2 : Addr} {m : Str}
end
def d3 (rs : List (List Int)) (ns ms : List Int) : PyData := .list [dM rs, dI ns, dI ms]
def Trip (K : PySem.W.Frag) (H : Hp) (p : Addr) (rs : List (List Int)) (ns ms : List Int) : Prop := ∃ a b c, SqL K H p [.ref a, .ref b, .ref c] ∧ Mat K H a rs ∧ SqL K H b (ns.map V.int) ∧ SqL K H c (ms.map V.int)
def rSame3 (K : PySem.W.Frag) (neg : Bool) : R2 := fun x y H Q => ∃ (p q : Addr) (rs : List (List Int)) (ns ms : List Int), x = .ref p ∧ y = .ref q ∧ Trip K H p rs ns ms ∧ Trip K H q rs ns ms ∧ Q (.bl (!neg)) H
section
variable {X : Cx} (K : PySem.W.Frag)
end
end SW
namespace SW
structure Wk (r c : Nat) (st : Int) (p : Nat → Nat) (k : Nat) : Prop where
  opp : ∀ j, j < k → opp r c (p j) (p (j + 1))
  cells : ∀ i j, i < j → j < k → ¬ (rr r p i = rr r p j ∧ rc r p i = rc r p j)
  sg : ∀ t, t < k → dlt st t = if p t < r then 1 else -1
section
variable {r c : Nat} {st : Int} {p : Nat → Nat} {k : Nat} {S : Nat → Nat → Int}
end
def La (W : Nat → List Nat) : Nat → Nat → Bool
  | 0, _ => true
  | t + 1, v => (W v).any fun o => La W t o
def cntL (W : Nat → List Nat) (n t : Nat) : Int := sumZ n fun v => if La W t v = true then 1 else 0
structure Cyc (W : Nat → List Nat) (n : Nat) (p : Nat → Nat) (k : Nat) : Prop where
  pos : 0 < k
  back : p k = p 0
  lt : ∀ t, t ≤ k → p t < n
  nx : ∀ t, t < k → p (t + 1) ∈ W (p t)
  apart : ∀ i j, i < j → j < k → p i ≠ p j
end SW
namespace SW
def lam (r c : Nat) (R C : Nat → Q2) (v : Nat) : Q2 := if v < r then ((R v).2, (R v).1) else if v < r + c then C (v - r) else (1, 1)
def just (p w q : Q2) : Prop := p.1 * w.1 * q.2 = q.1 * p.2 * w.2
def UpT (a b v s : Int) (p q : Q2) : Prop := 0 < v ∧ q.1 * p.2 * (b * v) = p.1 * q.2 * (a + s * b)
def DnT (a b v s : Int) (p q : Q2) : Prop := 0 < s ∧ p.1 * q.2 * (a + (s - 1) * b) = q.1 * p.2 * (b * v)
def FreeE (a b : Int) (V S : Nat → Nat → Int) (r c : Nat) (pi : Nat → Q2) (u v : Nat) : Prop :=
  (∃ i j, i < r ∧ j < c ∧ u = i ∧ v = r + j ∧ UpT a b (V i j) (S i j) (pi i) (pi (r + j))) ∨ (∃ i j, i < r ∧ j < c ∧ u = r + j ∧ v = i ∧ DnT a b (V i j) (S i j) (pi i) (pi (r + j)))
section
variable {a b : Int} {V S : Nat → Nat → Int} {r c : Nat} {E : Nat → Nat → Option Q2} {pi : Nat → Q2}
structure Tw (a b : Int) (V S S' : Nat → Nat → Int) (r c : Nat) (pi : Nat → Q2) : Prop where
  rows : ∀ i, i < r → sumZ c (S' i) = sumZ c (S i)
  cols : ∀ j, j < c → sumZ r (fun i => S' i j) = sumZ r (fun i => S i j)
  s0 : ∀ i j, i < r → j < c → 0 ≤ S' i j ∧ S' i j ≤ S i j + 1 ∧ (0 < S' i j → 0 < V i j)
  cells : Cells a b V S' r c pi
  ne : ∃ i j, i < r ∧ j < c ∧ S' i j ≠ S i j
structure FRing (a b : Int) (V S : Nat → Nat → Int) (r c : Nat) (pi : Nat → Q2) (p : Nat → Nat) (k : Nat) : Prop where
  pos : 0 < k
  back : p k = p 0
  fr : ∀ t, t < k → FreeE a b V S r c pi (p t) (p (t + 1))
  apart : ∀ i j, i < j → j < k → p i ≠ p j
def stOf (r : Nat) (p : Nat → Nat) : Int := if p 0 < r then 1 else -1
end
def Go (a b : Int) (V S : Nat → Nat → Int) (r c : Nat) (pi : Nat → Q2) : Nat → Nat → Prop
  | 0, _ => True
  | t + 1, v => ∃ o, FreeE a b V S r c pi v o ∧ Go a b V S r c pi t o
end SW
namespace L2
open PySem PySem.Spec PyProof.Rows
def rSorted (K : PySem.W.Frag) : List V → Hp → VK → Prop := fun xs H Q => ∃ (p : Addr) (ns : List Int), xs = [.ref p] ∧ SqL K H p (ns.map V.int) ∧ ns.length < 64 ∧ ∀ (l : Addr) (H' : Hp) (ns' : List Int), New H H' l (.lst (ns'.map V.int)) → ns'.Perm ns → ns'.Pairwise (· ≤ ·) → Q (.ref l) H'
section
variable {X : Cx}
end
section
variable {X : Cx} (K : PySem.W.Frag)
end
end L2
namespace SW
open PySem PySem.Spec PyProof.Rows L2
def dTu (ns : List Int) : PyData := .tuple (ns.map .int)
def dTs (rs : List (List Int)) : PyData := .list (rs.map dTu)
section
variable {K : PySem.W.Frag} {H : Hp}
def Tups (K : PySem.W.Frag) (H : Hp) (p : Addr) (rs : List (List Int)) : Prop := ∃ ts : List Addr, SqL K H p (ts.map V.ref) ∧ ts.length = rs.length ∧ ∀ (i : Nat) (t : Addr) (ns : List Int), ts[i]? = some t → rs[i]? = some ns → H t = some (.tup (ns.map V.int))
end
def rEqT (K : PySem.W.Frag) (neg : Bool) : R2 := fun x y H Q => ∃ (p q : Addr) (ns ms : List (List Int)), x = .ref p ∧ y = .ref q ∧ Tups K H p ns ∧ Tups K H q ms ∧ Q (.bl (if neg then !decide (ns = ms) else decide (ns = ms))) H
section
variable {X : Cx} (K : PySem.W.Frag)
end
end SW
namespace L2
open PySem PySem.Spec PyProof.Rows
def tPar3 (i j k : Nat) (ta : TA) : TS := fun D σ H => ta σ H fun vs H1 => ∃ v w z, vs = [v, w, z] ∧ D.nx (((σ.set i (some v)).set j (some w)).set k (some z)) H1
section
variable {X : Cx} {pos : Pos}
end
end L2
namespace L2
open PySem PySem.Spec PyProof.Rows
def tThawE (H0 : Hp) (t : TE) : TE := fun σ H Q => t σ H fun x H' => ∃ a o kvs, H' a = some (.frz o (.dK kvs)) ∧ (∀ o u, H0 a ≠ some (.frz o u)) ∧ Q x (upd H' a (.dK kvs))
section
variable {tt : TT} {te : TE} {σ : St} {j : Nat} {R : List V → Hp → Prop} {H1 : Hp}
end
end L2
namespace L2
open PySem PySem.Spec PyProof.Rows PySem.Builtin PySem.Builtin.Str
section
variable {X : Cx}
theorem vals_strs : ∀ l : List (Str × Tok), Vals ((l.map (·.1)).map V.str) (strValues l)
  | [] => .nil
  | p :: r => .cons ⟨p.2, rfl⟩ (vals_strs r)
theorem strs_end {pins : List (Addr × Obj)} {σ : St} {H : Hp} {s : Shared} {Q : VK} {ys : List Str} (I : Inv X pins σ H s) (hz : ys.length ≤ sizeLine) (q : ∀ l H', New H H' l (.lst (ys.map V.str)) → Q (.ref l) H') {l : List (Str × Tok)} {k : Nat} (e : l.map (·.1) = ys) :
    EP X pins σ Q (.ref s.heap.objs.size) { s with heap := s.heap.push { cls := .type "list", data := .seq (strValues l).toArray }, toks := k } := by
  subst e
  exact ⟨.ref _, _, I.lnew (vals_strs l) (by rw [List.length_map]; exact hz), rfl, q _ _ (.of I.fresh)⟩
def rSplit : V → List V → Hp → VK → Prop := fun x vs H Q => ∃ a b : Str, x = .str a ∧ vs = [.str b] ∧ (b.length == 0) = false ∧ a.length + 2 ≤ sizeLine ∧ ∀ l H', New H H' l (.lst ((Txt.split a b).map V.str)) → Q (.ref l) H'
theorem split_len (x y : Str) (h : x.length + 2 ≤ sizeLine) : (Txt.split x y).length ≤ sizeLine := by
  unfold Txt.split
  split
  · exact Nat.le_trans (show 1 ≤ 2 by decide) (Nat.le_trans (Nat.le_add_left 2 _) h)
  · split
    · exact Nat.le_trans (show 1 ≤ 2 by decide) (Nat.le_trans (Nat.le_add_left 2 _) h)
    · have e1 := StrLaws.occ_length_le x y 0 x.length (x.length + 1)
      rw [length_partsBetween]; omega
theorem mt_split : MtR X "str.split" rSplit := by
  intro pins s σ H x vs v us Q I rx rv h
  obtain ⟨a, b, rfl, rfl, hy, hsz, q⟩ := h
  obtain ⟨t, rfl⟩ := rx
  obtain ⟨u', rfl, u, rfl⟩ := rv.one
  have hz := split_len a b hsz
  have hn : (partsBetween a (occurrences a b 0 a.length (a.length + 1)) b.length).length ≤ sizeLine := by
    have e1 := StrLaws.occ_length_le a b 0 a.length (a.length + 1)
    rw [length_partsBetween]; omega
  cases h1 : (decide (a.length < b.length) || decide (strKind a < strKind b))
  · cases hf : (occurrences a b 0 a.length (a.length + 1)).isEmpty
    · refine call_meets F.slot_str_split (typeIs_str _ _ _) F.entry_str_split (F.args_str_split_2 _ _) (meets_str_split_sep a b t u h1 hy hf (by omega) hn) ?_
      show wants (EP X pins σ Q) X.xe _ { s with toks := _, heap := s.heap.push { cls := .type "list", data := .seq (strsFrom s.toks (partsBetween a (occurrences a b 0 a.length (a.length + 1)) b.length)).toArray } }
      rw [strsFrom_eq]
      exact strs_end I hz q ((numbered_texts _ _).trans ((if_neg (ne_true_of_eq_false h1)).trans (if_neg (ne_true_of_eq_false hf))).symm)
    · exact call_meets F.slot_str_split (typeIs_str _ _ _) F.entry_str_split (F.args_str_split_2 _ _) (meets_str_split_not_found a b t u h1 hy hf)
        (strs_end (l := [(a, t)]) (k := s.toks) I hz q ((if_neg (ne_true_of_eq_false h1)).trans (if_pos hf)).symm)
  · exact call_meets F.slot_str_split (typeIs_str _ _ _) F.entry_str_split (F.args_str_split_2 _ _) (meets_str_split_cannot_occur a b t u h1)
      (strs_end (l := [(a, t)]) (k := s.toks) I hz q (if_pos h1).symm)
def rPartition : V → List V → Hp → VK → Prop := fun x vs H Q => ∃ a b : Str, x = .str a ∧ vs = [.str b] ∧ (b.length == 0) = false ∧ a.length ≤ sizeLine ∧ ∀ l H', New H H' l (.tup [.str (Txt.partition a b).1, .str (Txt.partition a b).2.1, .str (Txt.partition a b).2.2]) → Q (.ref l) H'
theorem tup3_end {pins : List (Addr × Obj)} {σ : St} {H : Hp} {s : Shared} {Q : VK} {a b c : Str} {ta tb tc : Tok} {k : Nat} (I : Inv X pins σ H s) (q : ∀ l H', New H H' l (.tup [.str a, .str b, .str c]) → Q (.ref l) H') :
    EP X pins σ Q (.ref s.heap.objs.size) { s with heap := s.heap.push { cls := .type "tuple", data := .seq [.str a ta, .str b tb, .str c tc].toArray }, toks := k } := by
  refine ⟨.ref s.heap.objs.size, _, I.laid (t' := k) (o := .tup [.str a, .str b, .str c]) (fun b u e => Heap.get?_push_of_some _ e) (Nat.le_refl _) ?_, rfl, q _ _ (.of (I.hok.fresh (Nat.le_refl _)))⟩
  exact ⟨by show 3 ≤ sizeLine; decide, [.str a ta, .str b tb, .str c tc], .cons ⟨_, rfl⟩ (.cons ⟨_, rfl⟩ (.cons ⟨_, rfl⟩ .nil)), ⟨_, Heap.get?_push_size _ rfl, rfl, _, rfl⟩⟩
theorem mt_partition : MtR X "str.partition" rPartition := by
  intro pins s σ H x vs v us Q I rx rv h
  obtain ⟨a, b, rfl, rfl, hy, hsz, q⟩ := h
  obtain ⟨t, rfl⟩ := rx
  obtain ⟨u', rfl, u, rfl⟩ := rv.one
  refine call_meets F.slot_str_partition (typeIs_str _ _ _) F.entry_str_partition (F.args_str_partition_2 _ _) (meets_str_partition a b t u hy hsz) ?_
  unfold Txt.partition at q
  revert q
  cases occurrences a b 0 a.length 1 with
  | nil => intro q; exact tup3_end I q
  | cons i r => intro q; exact tup3_end I q
def rEndswith : V → List V → Hp → VK → Prop := fun x vs H Q => ∃ a b : Str, x = .str a ∧ vs = [.str b] ∧ Q (.bl (0 + b.length ≤ a.length && subAt a b (a.length - b.length))) H
theorem mt_endswith : MtR X "str.endswith" rEndswith := by
  intro pins s σ H x vs v us Q I rx rv h
  obtain ⟨a, b, rfl, rfl, q⟩ := h
  obtain ⟨t, rfl⟩ := rx
  obtain ⟨u', rfl, u, rfl⟩ := rv.one
  exact call_gives F.slot_str_endswith (typeIs_str _ _ _) F.entry_str_endswith (F.args_str_endswith_2 _ _) (gives_str_endswith a b t u) ⟨.bl _, H, I, rfl, q⟩
def rJoin (K : PySem.W.Frag) : V → List V → Hp → VK → Prop := fun x vs H Q => ∃ (a : Str) (p : Addr) (ys : List Str), x = .str a ∧ vs = [.ref p] ∧ SqL K H p (ys.map V.str) ∧ (ys.map (·.length)).sum + ys.length * a.length ≤ 16777216 ∧ Q (.str (Txt.join a ys)) H
theorem strsAre_vals : ∀ {ys : List Str} {its : List Value}, Vals (ys.map V.str) its → StrsAre its ys
  | [], _, .nil => .nil
  | y :: ys, _, .cons ⟨t, e⟩ h => by subst e; exact .cons _ _ (strsAre_vals h)
theorem mt_join : MtR X "str.join" (rJoin X.K) := by
  intro pins s σ H x vs v us Q I rx rv h
  obtain ⟨a, p, ys, rfl, rfl, hq, hsz, q⟩ := h
  obtain ⟨t, rfl⟩ := rx
  obtain ⟨u', rfl, ru⟩ := rv.one
  cases ru
  obtain ⟨its, hv, pl, _⟩ := I.list hq
  exact join_list pl.isList (strsAre_vals hv) hsz fun t' k => ⟨.str _, H, I.tok _, ⟨_, rfl⟩, q⟩
def rAddS : R2 := fun x y H Q => ∃ a b : Str, x = .str a ∧ y = .str b ∧ a.length + b.length ≤ sizeLine ∧ Q (.str (a ++ b)) H
def rInS : R2 := fun x y H Q => ∃ a b : Str, x = .str a ∧ y = .str b ∧ Q (.bl (Txt.contains b a)) H
end
end L2
namespace L2
open PySem PySem.Spec PyProof.Rows PySem.Builtin PySem.Builtin.Str
section
variable {X : Cx}
def rMulS : R2 := fun x y H Q => ∃ (a : Str) (n : Int), x = .str a ∧ y = .int n ∧ MulOk a n ∧ Q (.str (Txt.mul a n)) H
theorem op_mulS : OpR X (binaryOp .Mult) rMulS := by
  intro pins s σ H x y v u Q I rx ry h
  obtain ⟨a, n, rfl, rfl, hz, q⟩ := h
  obtain ⟨t, rfl⟩ := rx
  obtain ⟨t', rfl⟩ := ry
  exact SB.mul hz fun t' k => ⟨.str _, H, I.tok _, ⟨_, rfl⟩, q⟩
def rIntS : List V → Hp → VK → Prop := fun xs H Q => ∃ (a : Str) (n : Int), xs = [.str a] ∧ intText? a = some n ∧ a.length ≤ 640 ∧ Q (.int n) H
theorem call_intS : CallR X (.type "int") rIntS := by
  intro pins s σ H xs us Q I r h
  obtain ⟨a, n, rfl, hn, hl, q⟩ := h
  obtain ⟨u, rfl, t, rfl⟩ := r.one
  exact PySem.W.KIN.call_text hn hl ⟨.int n, H, I.tok _, ⟨_, rfl⟩, q⟩
def rSlS : V → Option Int → Option Int → Hp → VK → Prop := fun x lo hi H Q => ∃ a : Str, x = .str a ∧ a.length ≤ sizeLine ∧ Q (.str (Txt.slice a lo hi)) H
theorem sl_str : SlR X rSlS := by
  intro pins s σ H x v vl vu lo hi sl Q I rx hs pl pu h
  obtain ⟨a, rfl, hz, q⟩ := h
  obtain ⟨t, rfl⟩ := rx
  refine ⟨"str", _, F.slot_str_getitem.lookup, typeIs_str _ _ _, ?_⟩
  have fin : ∀ (t' : Tok) (k : Nat), EP X pins σ Q (.str (Txt.slice a lo hi) t') { s with toks := k } := fun t' k => ⟨.str _, H, I.tok _, ⟨_, rfl⟩, q⟩
  cases pl with
  | none =>
    cases pu with
    | none => exact wpAny_getItem_str_slice (l := none) (u := none) (st := none) hs rfl (post_val_or_str ⟨Nat.le_trans (Txt.slice_le a _ _) hz, fin⟩)
    | int j tj => exact wpAny_getItem_str_slice (l := none) (u := some (j, tj)) (st := none) hs rfl (post_val_or_str ⟨Nat.le_trans (Txt.slice_le a _ _) hz, fin⟩)
  | int i ti =>
    cases pu with
    | none => exact wpAny_getItem_str_slice (l := some (i, ti)) (u := none) (st := none) hs rfl (post_val_or_str ⟨Nat.le_trans (Txt.slice_le a _ _) hz, fin⟩)
    | int j tj => exact wpAny_getItem_str_slice (l := some (i, ti)) (u := some (j, tj)) (st := none) hs rfl (post_val_or_str ⟨Nat.le_trans (Txt.slice_le a _ _) hz, fin⟩)
end
end L2
namespace L2
open PySem PySem.Spec PyProof.Rows PySem.Builtin PySem.Builtin.Str
def Itz (x : Str) : It := ⟨fun i _ => i < x.length, fun i H v H' => H' = H ∧ ∃ c, x.cps[i]? = some c ∧ v = .str ⟨#[c]⟩, fun i _ => x.length ≤ i⟩
theorem turn_str {P : Program} {w : World} {K : PySem.W.Frag} {tg : Expr} (x : Str) (t : Tok) (it : Addr) : Turn P w K tg (Itz x) [it] it (fun i h => h.IsStrIter it "str_ascii_iterator" x t i) where
  mem := by simp
  obj := fun i h st b hb => by
    have e : b = it := by simpa using hb
    subst e
    obtain ⟨o, e, c, d⟩ := st
    exact ⟨o, e, fun v z => by rw [d] at z; cases z⟩
  keep := fun i h h' st k => by
    obtain ⟨o, e, c, d⟩ := st
    exact ⟨o, k it (by simp) o e, c, d⟩
  item := by
    intro X hP hw hK hc i pins s σ H E I hf st hg
    subst hP hw hK
    have hlt : i < x.cps.size := hg
    obtain ⟨f0, f1, f2, f3, f4, f5⟩ := hf it (by simp)
    refine wpAny_pyNext_ascii_item st (Array.getElem?_eq_getElem hlt) fun h' st' sb => ?_
    have I1 : Inv X pins σ H { s with heap := h', toks := s.toks + 1 } := I.turned (t' := s.toks + 1) (fun b o hb e => (sb.2 b hb).trans e) f0 f1 f3 f4 f5
    obtain ⟨o, e, c, d⟩ := id st'
    exact ⟨_, rfl, go_of (s := { s with heap := h', toks := s.toks + 1 }) e c d (by decide) ⟨.str _, H, I1, ⟨_, rfl⟩, ⟨rfl, _, Array.getElem?_eq_getElem hlt, rfl⟩, st', fun b hb => (hf b hb).1⟩⟩
  done := by
    intro X hP hw hK hc i pins s σ H E I hf st hg
    subst hP hw hK
    obtain ⟨f0, f1, f2, f3, f4, f5⟩ := hf it (by simp)
    exact wpAny_pyNext_ascii_end (I.ok.hd hc) st (Array.getElem?_eq_none hg) fun h' eb => ⟨rfl, I.turned (t' := s.toks) (fun b o hb e => eb b o hb e) f0 f1 f3 f4 f5⟩
  self := fun _ _ _ _ _ st h => wpAny_pyIter_striter_ascii st h
section
variable {X : Cx}
def iStr (tl : TE) : TI := fun σ H R => tl σ H fun x H1 => ∃ a : Str, x = .str a ∧ a.cps.all (· < 128) = true ∧ R (Itz a) H1
theorem pi_str {tg l : Expr} {tl : TE} (hl : PE X l tl) : PI X tg l (iStr tl) := by
  intro pins s σ H R I h
  refine thn (hl pins s σ H _ I h) fun v s1 ⟨x, H1, I1, r1, q1⟩ => ?_
  obtain ⟨a, e, ha, q⟩ := q1
  subst e
  obtain ⟨t, rfl⟩ := r1
  refine wpAny_pyIter_ascii ha ?_
  refine ⟨s1.heap.objs.size, [s1.heap.objs.size], _, _, H1, rfl, I1.kept (t' := s1.toks) fun b o e => Heap.get?_push_of_some _ e, turn_str a t _, ⟨_, Heap.get?_push_size _ rfl, rfl, rfl⟩, fun b hb => ?_, q⟩
  have e : b = s1.heap.objs.size := by simpa using hb
  subst e
  exact I1.fpOk (Nat.le_refl _) (I1.hok.fresh (Nat.le_refl _))
variable {tt : TT} {te : TE} {σ : St} {j : Nat} {R : List V → Hp → Prop} {H1 : Hp}
theorem comp_signs {a : Str} (f : Nat → V) (hz : a.length ≤ sizeLine) (hs : ∀ (i c : Nat) (Q : VK), a.cps[i]? = some c → Q (f c) H1 → te (σ.set j (some (.str ⟨#[c]⟩))) H1 Q) (hd : R (a.cps.toList.map f) H1) :
    CompW (Itz a) (gName j) tYes te (wipe [j] σ) R H1 := by
  refine ⟨fun i m ys H => m = a.length - i ∧ i ≤ a.length ∧ H = H1 ∧ ys = (a.cps.toList.take i).map f, ⟨a.length, by simp, Nat.zero_le _, rfl, rfl⟩, ?_⟩
  rintro i m ys H ⟨rfl, hi, rfl, rfl⟩
  by_cases hlt : i < a.length
  · refine .inr ⟨hlt, by omega, fun ys' H' => H' = H ∧ ys' = (a.cps.toList.take (i + 1)).map f, fun ys' H' q' => ⟨a.length - (i + 1), by omega, rfl, hlt, q'⟩, fun x H' y => ?_⟩
    obtain ⟨e, c, hc, rfl⟩ := y
    subst e
    show Back _ _ ∧ _
    refine ⟨back_set wipe_one, ?_⟩
    rw [wipe_set]
    exact yes (hs i c _ hc ⟨rfl, take_map f (by simpa using hc)⟩)
  · have e : i = a.length := by omega
    subst e
    refine .inl ⟨Nat.le_refl _, ?_⟩
    have : a.cps.toList.take a.length = a.cps.toList := List.take_of_length_le (by show a.cps.toList.length ≤ a.cps.size; simp)
    rw [this]
    exact hd
end
end L2
namespace L2
open PySem PySem.Spec PyProof.Rows PySem.Builtin PySem.Builtin.Str
section
variable {X : Cx}
def tFmt (te : TE) : TE := fun σ H Q => te σ H fun v H1 => (∃ a : Str, v = .str a ∧ a.length ≤ sizeLine ∧ Q (.str a) H1) ∨ ∃ i : Int, v = .int i ∧ i.natAbs.log2 < 1920 ∧ Q (.str (toString i)) H1
theorem pe_fmtA {e : Expr} {te : TE} {pos : Pos} (h : PE X e te) : PE X (.FormattedValue e (-1) none pos) (tFmt te) := by
  intro pins s σ H Q I hq
  refine FormattedValue_plain (thn (h pins s σ H _ I hq) fun v s1 ⟨x, H1, I1, r1, q1⟩ => ?_)
  rcases q1 with ⟨a, rfl, hz, q⟩ | ⟨i, rfl, hi, q⟩
  · obtain ⟨t, rfl⟩ := r1
    exact formatField_str (fun t' k => ⟨.str _, H1, I1.tok _, ⟨_, rfl⟩, q⟩) hz
  · obtain ⟨t, rfl⟩ := r1
    exact formatField_int_small hi ⟨.str _, H1, I1.tok _, ⟨_, rfl⟩, q⟩
def tParts : Str → List TE → TE
  | out, [] => fun _ H Q => out.length ≤ sizeLine ∧ Q (.str out) H
  | out, t :: ts => fun σ H Q => t σ H fun v H1 => ∃ a : Str, v = .str a ∧ (out ++ a).length ≤ sizeLine ∧ tParts (out ++ a) ts σ H1 Q
inductive PEs (X : Cx) : List Expr → List TE → Prop where
  | nil : PEs X [] []
  | cons {e : Expr} {es : List Expr} {t : TE} {ts : List TE} (h : PE X e t) (hs : PEs X es ts) : PEs X (e :: es) (t :: ts)
theorem parts_run {es : List Expr} {ts : List TE} (h : PEs X es ts) : ∀ (out : Str) (pins : List (Addr × Obj)) (s : Shared) (σ : St) (H : Hp) (Q : VK), Inv X pins σ H s → tParts out ts σ H Q →
    wpAny (model X.prog X.w) X.A (joinParts out (evalEach es X.env)) (EP X pins σ Q) X.xe s := by
  induction h with
  | nil =>
    intro out pins s σ H Q I ⟨hz, q⟩
    exact joinParts_nil ⟨.str _, H, I.tok _, ⟨_, rfl⟩, q⟩ hz
  | cons h hs ih =>
    intro out pins s σ H Q I hq
    refine joinParts_consE (joinParts_cons (thn (h pins s σ H _ I hq) fun v s1 ⟨x, H1, I1, r1, q1⟩ => ?_))
    obtain ⟨a, rfl, hz, q⟩ := q1
    obtain ⟨t, rfl⟩ := r1
    exact ⟨hz, ih _ pins s1 σ H1 Q I1 q⟩
def tJoined (ts : List TE) : TE := tParts Str.empty ts
theorem pe_joined {e1 e2 : Expr} {es : List Expr} {ts : List TE} {pos : Pos} (h : PEs X (e1 :: e2 :: es) ts) : PE X (.JoinedStr (e1 :: e2 :: es) pos) (tJoined ts) := by
  intro pins s σ H Q I hq
  exact JoinedStr_many (parts_run h Str.empty pins s σ H Q I hq)
end
end L2
namespace L2
open PySem PySem.Spec PyProof.Rows PySem.Builtin
section
variable {X : Cx} {pins : List (Addr × Obj)} {σ : St} {H : Hp} {s : Shared} {h' : Heap}
theorem Inv.turnedL {t' : Nat} {ch : List Addr} (I : Inv X pins σ H s) (k : ∀ b o, b ∉ ch → s.heap.get? b = some o → h'.get? b = some o) (hf : ∀ b ∈ ch, FpOk X pins H b) : Inv X pins σ H { s with heap := h', toks := t' } := by
  have nit : ∀ b u, H b = some u → b ∉ ch := fun b u e z => by rw [(hf b z).1] at e; cases e
  refine I.step (g' := s.gens) (d' := s.drawn) (ch := ch) (fun b hb => ?_) (fun b o _ _ hc e _ => k b o hc e) (fun b o _ _ hc e _ => ⟨o.slots, k b o hc e⟩) (fun _ _ _ _ n => n)
    (fun b o hc e => ⟨o, k b o hc e⟩) (fun _ _ e => e) (fun _ _ _ e => e) (fun b ps e => ⟨#[], by rw [e]; simp⟩) (fun m hm => ?_) (fun b u e => ?_) I.bare
  · obtain ⟨f0, f1, f2, f3, f4, f5⟩ := hf b hb
    exact ⟨f3, f1, f4, f5⟩
  · obtain ⟨o, es, ep, ho, r⟩ := hm
    exact ⟨o, es, ep, k _ o (fun z => (hf _ z).2.1 rfl) ho, r⟩
  · refine (I.hok b u e).stay (fun c v hc q => k c v ?_ q) (fun _ q => q) fun _ _ q => q
    rcases hc with z | z
    · rw [z]; exact nit b u e
    · exact nit c _ z
end
def Itn (K : PySem.W.Frag) (a : Addr) : It :=
  ⟨fun i H => ∃ xs x, SqL K H a xs ∧ xs[i]? = some x, fun i H v H' => ∃ p, v = .ref p ∧ ∀ xs, SqL K H a xs → ∃ x, xs[i]? = some x ∧ New H H' p (.tup [.int i, x]), fun i H => ∃ xs, SqL K H a xs ∧ xs.length ≤ i⟩
theorem turn_enum {P : Program} {w : World} {K : PySem.W.Frag} {es : List Expr} {kx : Nat} {pos : Pos} (a e it : Addr) (hei : e ≠ it) : Turn P w K (.Tuple es kx pos) (Itn K a) [e, it] e (fun i h => (∃ old, IsEnum h e it i old) ∧ h.IsListIter it a i) where
  mem := by simp
  obj := fun i h st b hb => by
    obtain ⟨⟨old, he⟩, o, e2, c, d⟩ := st
    rcases List.mem_cons.mp hb with rfl | hb
    · exact ⟨_, he, fun v z => by cases z⟩
    · have : b = it := by simpa using hb
      subst this
      exact ⟨o, e2, fun v z => by rw [d] at z; cases z⟩
  keep := fun i h h' st k => by
    obtain ⟨⟨old, he⟩, hit⟩ := st
    exact ⟨⟨old, k e (by simp) _ he⟩, hit.at fun o q => k it (by simp) o q⟩
  item := by
    intro X hP hw hK hc i pins s σ H E I hf st hg
    subst hP hw hK
    obtain ⟨⟨old, he⟩, hit⟩ := st
    obtain ⟨xs, x, hq, hx⟩ := hg
    obtain ⟨its, rv, p, hz⟩ := I.list hq
    obtain ⟨u, hu, ru⟩ := rv.get hx
    refine wpAny_pyNext_enum_item he hit p.isList (x := u) (by simpa using hu) hei fun h' ho hit' hT hsz hk => ?_
    refine ⟨_, rfl, ?_⟩
    have helt : e < s.heap.objs.size := Heap.lt_size he
    have hilt : it < s.heap.objs.size := by obtain ⟨_, q, _⟩ := hit; exact Heap.lt_size q
    refine wpAny_letOwnedTupleGo_enum ho fun h2 he2 hs2 => ?_
    have hf0 : H s.heap.objs.size = none := I.hok.fresh (Nat.le_refl _)
    have I1 : Inv X pins σ (upd H s.heap.objs.size (.tup [.int i, x])) { s with heap := s.heap.push { cls := .type "tuple", data := .seq #[.int i s.toks, u] }, toks := s.toks + 1 } := by
      refine I.laid (t' := s.toks + 1) (fun b v q => Heap.get?_push_of_some _ q) (Nat.le_refl _) ?_
      exact ⟨(by show 2 ≤ sizeLine; decide), [.int i s.toks, u], .cons ⟨_, rfl⟩ (.cons ru .nil), ⟨_, Heap.get?_push_size _ rfl, rfl, _, rfl⟩⟩
    have lt : ∀ b ∈ [e, it], b ≠ s.heap.objs.size := fun b hb => by
      rcases List.mem_cons.mp hb with rfl | hb
      · exact Nat.ne_of_lt helt
      · have : b = it := by simpa using hb
        rw [this]
        exact Nat.ne_of_lt hilt
    have keep : ∀ b o, b ∉ [e, it] → (s.heap.push { cls := .type "tuple", data := .seq #[.int i s.toks, u] }).get? b = some o → h2.get? b = some o := fun b o hb q => by
      have hbe : b ≠ e := fun z => hb (by simp [z])
      have hbi : b ≠ it := fun z => hb (by simp [z])
      rcases Heap.get?_push_cases q with ⟨rfl, rfl⟩ | q
      · exact (hs2.2 _ hbe).trans hT
      · exact (hs2.2 _ hbe).trans (hk b o hbe hbi q)
    have I2 := I1.turnedL (t' := s.toks + 1) (h' := h2) (ch := [e, it]) keep fun b hb => by
      obtain ⟨f0, f1, f2, f3, f4, f5⟩ := hf b hb
      exact ⟨by rw [upd_ne (lt b hb)]; exact f0, f1, f2, f3, f4, f5⟩
    refine ⟨.ref s.heap.objs.size, _, I2, rfl, ⟨_, rfl, fun ys hy => ⟨x, by rw [I.list_inj hy hq]; exact hx, .of hf0⟩⟩, ⟨⟨_, by simpa using he2⟩, hit'.at fun o q => (hs2.2 it hei.symm).trans q⟩, fun b hb => by rw [upd_ne (lt b hb)]; exact (hf b hb).1⟩
  done := by
    intro X hP hw hK hc i pins s σ H E I hf st hg
    subst hP hw hK
    obtain ⟨⟨old, he⟩, hit⟩ := st
    obtain ⟨xs, hq, hx⟩ := hg
    obtain ⟨its, rv, p, hz⟩ := I.list hq
    have hl := rv.length
    obtain ⟨f0, f1, f2, f3, f4, f5⟩ := hf it (by simp)
    exact wpAny_pyNext_enum_end (I.ok.hd hc) he hit p.isList (by simp; omega) fun h' eb => ⟨rfl, I.turned (t' := s.toks) (fun b o hb q => eb b o hb q) f0 f1 f3 f4 f5⟩
  self := fun _ _ _ _ _ st h => wpAny_pyIter_enum st.1.choose_spec h
section
variable {X : Cx}
def iEnum (K : PySem.W.Frag) (ta : TA) : TI := fun σ H R => ta σ H fun vs H1 => ∃ a, vs = [.ref a] ∧ (∃ xs, SqL K H1 a xs) ∧ R (Itn K a) H1
theorem pi_enum {es : List Expr} {kx : Nat} {tpos : Pos} {a : Expr} {ta : TA} {p pos : Pos} (hg : Gl X "enumerate") (hm : X.mg "enumerate" = none) (ha : PA X [a] ta) (hs : starEach [a] X.env = [(false, eval a X.env)] := by rfl) : PI X (.Tuple es kx tpos) (.Call (.Name "enumerate" p) [a] [] pos) (iEnum X.K ta) := by
  intro pins s σ H R I h
  refine Call_ (ld_blt I hg hm boot_enumerate (PyProof.Rows.callWith_type1 (thn (ha pos pins s σ H _ I h) fun us s1 ⟨vs, H1, I1, r1, q1⟩ => ?_) hs rfl))
  obtain ⟨l, e, ⟨xs, hq⟩, q⟩ := q1
  subst e
  cases r1 with
  | cons r rr =>
    cases rr
    cases r
    obtain ⟨its, rv, pl, hz⟩ := I1.list hq
    refine call_enumerate_list pl.isList fun h' he hit hsz hk => ?_
    refine wpAny_pyIter_enum he ?_
    refine ⟨s1.heap.objs.size + 1, [s1.heap.objs.size + 1, s1.heap.objs.size], _, _, H1, rfl, I1.kept (t' := s1.toks) hk, turn_enum l _ _ (Nat.succ_ne_self _), ⟨⟨_, he⟩, hit⟩, fun b hb => ?_, q⟩
    have hb' : s1.heap.objs.size ≤ b := by
      rcases List.mem_cons.mp hb with rfl | hb
      · exact Nat.le_succ _
      · have : b = s1.heap.objs.size := by simpa using hb
        exact Nat.le_of_eq this.symm
    exact I1.fpOk hb' (I1.hok.fresh hb')
end
end L2
namespace L2
open PySem PySem.Spec PyProof.Rows PySem.Builtin
section
variable {X : Cx} (K : PySem.W.Frag)
theorem join_Q (h : X.K = K := by rfl) : MtR X "str.join" (rJoin K) := by subst h; exact mt_join
theorem pi_enumQ {es : List Expr} {kx : Nat} {tpos : Pos} {a : Expr} {ta : TA} {p pos : Pos} (hg : Gl X "enumerate") (hm : X.mg "enumerate" = none) (ha : PA X [a] ta) (hs : starEach [a] X.env = [(false, eval a X.env)] := by rfl) (h : X.K = K := by rfl) : PI X (.Tuple es kx tpos) (.Call (.Name "enumerate" p) [a] [] pos) (iEnum K ta) := by subst h; exact pi_enum hg hm ha hs
theorem ps_no {st : Stmt} : PS X st (fun _ _ _ => False) := by
  intro pins s σ H D I h
  exact h.elim
end
end L2
namespace SW
open PySem PySem.Builtin PySem.Builtin.Str
def cd (a : Str) : List Nat := a.cps.toList
theorem cd_inj {a b : Str} (h : cd a = cd b) : a = b := PyProof.Rows.ext_toList h
theorem cd_app (a b : Str) : cd (a ++ b) = cd a ++ cd b := PySem.W.KT.app_list a b
theorem cd_len (a : Str) : (cd a).length = a.length := Array.length_toList
def J (c : Nat) : List (List Nat) → List Nat
  | [] => []
  | [x] => x
  | x :: y :: r => x ++ c :: J c (y :: r)
theorem tw_free {c : Nat} : ∀ {x : List Nat}, c ∉ x → ∀ r : List Nat, (x ++ c :: r).takeWhile (fun z => z != c) = x
  | [], _, r => by simp
  | a :: x, h, r => by
    have h1 : a ≠ c := fun z => h (by simp [z])
    have h2 : c ∉ x := fun z => h (by simp [z])
    rw [List.cons_append, List.takeWhile_cons]
    simp only [bne_iff_ne, ne_eq, h1, not_false_eq_true, if_true]
    rw [tw_free h2 r]
theorem J_inj {c : Nat} : ∀ {L M : List (List Nat)}, L ≠ [] → M ≠ [] → (∀ x, x ∈ L → c ∉ x) → (∀ x, x ∈ M → c ∉ x) → J c L = J c M → L = M
  | [], _, h, _, _, _, _ => absurd rfl h
  | _, [], _, h, _, _, _ => absurd rfl h
  | [x], [y], _, _, _, _, e => by rw [show x = y from e]
  | [x], y :: z :: r, _, _, hl, _, e => by
    exfalso
    have e : x = y ++ c :: J c (z :: r) := e
    exact hl x (by simp) (by rw [e]; simp)
  | x :: w :: s, [y], _, _, _, hm, e => by
    exfalso
    have e : x ++ c :: J c (w :: s) = y := e
    exact hm y (by simp) (by rw [← e]; simp)
  | x :: w :: s, y :: z :: r, _, _, hl, hm, e => by
    have e : x ++ c :: J c (w :: s) = y ++ c :: J c (z :: r) := e
    have e1 := tw_free (hl x (by simp)) (J c (w :: s))
    rw [e, tw_free (hm y (by simp))] at e1
    subst e1
    have e2 := List.cons.inj (List.append_cancel_left e)
    rw [J_inj (by simp) (by simp) (fun a ha => hl a (by simp [ha])) (fun a ha => hm a (by simp [ha])) e2.2]
theorem cd_join (c : Nat) : ∀ L : List Str, cd (Str.join ⟨#[c]⟩ L) = J c (L.map cd)
  | [] => rfl
  | [x] => rfl
  | x :: y :: r => by
    show cd (x ++ ⟨#[c]⟩ ++ Str.join ⟨#[c]⟩ (y :: r)) = cd x ++ c :: J c ((y :: r).map cd)
    rw [cd_app, cd_app, cd_join c (y :: r)]
    simp [cd]
theorem split_ne (x y : Str) : Txt.split x y ≠ [] := by
  unfold Txt.split
  split
  · simp
  · split
    · simp
    · rw [StrLaws.partsBetween_eq]
      obtain ⟨p, q, e⟩ := StrLaws.partsFrom_ne x y.length 0 (occurrences x y 0 x.length (x.length + 1))
      rw [e]; simp
theorem cd_map {L M : List Str} (h : L.map cd = M.map cd) : L = M := by
  induction L generalizing M with
  | nil => cases M with
    | nil => rfl
    | cons => simp at h
  | cons x L ih => cases M with
    | nil => simp at h
    | cons y M =>
      rw [List.map_cons, List.map_cons] at h
      have h := List.cons.inj h
      rw [cd_inj h.1, ih h.2]
theorem split_of {c : Nat} {x : Str} {L : List Str} (hL : L ≠ []) (hf : ∀ a, a ∈ L → c ∉ cd a) (e : cd x = J c (L.map cd)) : Txt.split x ⟨#[c]⟩ = L := by
  refine cd_map (J_inj (c := c) (by simp [split_ne]) (by simp [hL]) (fun a ha => ?_) (fun a ha => ?_) ?_)
  · obtain ⟨p, hp, rfl⟩ := List.mem_map.mp ha
    exact StrLaws.split_free x c p hp
  · obtain ⟨p, hp, rfl⟩ := List.mem_map.mp ha
    exact hf p hp
  · rw [← cd_join, StrLaws.join_split, e]
end SW
namespace SW
open PySem PySem.Builtin PySem.Builtin.Str
def mkS (l : List Nat) : Str := ⟨l.toArray⟩
theorem cd_mk (l : List Nat) : cd (mkS l) = l := by simp [cd, mkS]
theorem mk_cd (a : Str) : mkS (cd a) = a := cd_inj (cd_mk _)
theorem partition_of {x : Str} {n r : List Nat} {c : Nat} (hf : c ∉ n) (e : cd x = n ++ c :: r) : Txt.partition x ⟨#[c]⟩ = (mkS n, ⟨#[c]⟩, mkS r) := by
  have at_ : ∀ i, StrLaws.At x ⟨#[c]⟩ x.length i ↔ (n ++ c :: r)[i]? = some c := fun i => by
    rw [← e]
    exact StrLaws.subAt_one x c i
  have hmid : (n ++ c :: r)[n.length]? = some c := by simp
  rcases PyProof.Rows.partition_whole x ⟨#[c]⟩ with ⟨_, hn⟩ | ⟨i, hp, hi, hn⟩
  · exact absurd ((at_ n.length).mpr hmid) (hn _)
  · have ei : i = n.length := by
      rcases Nat.lt_trichotomy i n.length with h | h | h
      · have := (at_ i).mp hi
        rw [List.getElem?_append_left h] at this
        exact absurd (List.mem_of_getElem? this) hf
      · exact h
      · exact absurd ((at_ n.length).mpr hmid) (hn _ h)
    subst ei
    have hl : x.length = n.length + 1 + r.length := by
      rw [← cd_len, e]
      simp
      omega
    rw [hp]
    have e1 : strSub x 0 n.length = mkS n := cd_inj (by
      show (strSub x 0 n.length).cps.toList = _
      rw [StrLaws.strSub_toList]
      show ((cd x).drop 0).take (n.length - 0) = _
      rw [e, cd_mk]
      simp)
    have e2 : strSub x (n.length + (⟨#[c]⟩ : Str).length) x.length = mkS r := cd_inj (by
      show (strSub x (n.length + 1) x.length).cps.toList = _
      rw [StrLaws.strSub_toList]
      show ((cd x).drop (n.length + 1)).take (x.length - (n.length + 1)) = _
      rw [e, cd_mk, hl, show n ++ c :: r = (n ++ [c]) ++ r by simp, List.drop_left' (by simp)]
      exact List.take_of_length_le (by omega))
    rw [e1, e2]
def dg (m : Nat) : List Nat := (Nat.toDigits 10 m).map Char.toNat
theorem cd_num (m : Nat) : cd (Str.ofString (toString ((m : Nat) : Int))) = dg m := PySem.W.KIN.signs_num m
theorem dg_low {m : Nat} (h : m < 10) : dg m = [48 + m] := by
  unfold dg
  rw [Nat.toDigits_of_lt_base h]
  have : ∀ d : Nat, d < 10 → (Nat.digitChar d).toNat = 48 + d := by decide
  simp [this m h]
theorem dg_step {m : Nat} (h : 10 ≤ m) : dg m = dg (m / 10) ++ [48 + m % 10] := by
  have hm : m % 10 < 10 := Nat.mod_lt m (by decide)
  have t : Nat.toDigits 10 (m / 10) ++ Nat.toDigits 10 (m % 10) = Nat.toDigits 10 (10 * (m / 10) + m % 10) := Nat.toDigits_append_toDigits (by decide) (by omega) hm
  rw [Nat.div_add_mod] at t
  have e := dg_low hm
  unfold dg at e ⊢
  rw [← t, List.map_append, e]
theorem dg_all (m : Nat) : ∀ c, c ∈ dg m → 48 ≤ c ∧ c ≤ 57 := by
  induction m using Nat.strongRecOn with
  | _ m ih =>
    by_cases h : m < 10
    · rw [dg_low h]
      intro c hc
      have : c = 48 + m := by simpa using hc
      omega
    · rw [dg_step (by omega)]
      intro c hc
      rcases List.mem_append.mp hc with hc | hc
      · exact ih (m / 10) (by omega) c hc
      · have : c = 48 + m % 10 := by simpa using hc
        omega
theorem dg_head {m : Nat} (h : 0 < m) : ∃ c r, dg m = c :: r ∧ 49 ≤ c := by
  induction m using Nat.strongRecOn with
  | _ m ih =>
    by_cases h1 : m < 10
    · exact ⟨48 + m, [], dg_low h1, by omega⟩
    · obtain ⟨c, r, e, hc⟩ := ih (m / 10) (by omega) (by omega)
      exact ⟨c, r ++ [48 + m % 10], by rw [dg_step (by omega), e]; rfl, hc⟩
theorem dg_mono {a b : Nat} (h : a ≤ b) : (dg a).length ≤ (dg b).length := by
  induction b using Nat.strongRecOn generalizing a with
  | _ b ih =>
    by_cases h1 : a < 10
    · rw [dg_low h1]
      by_cases h2 : b < 10
      · rw [dg_low h2]; simp
      · rw [dg_step (by omega)]; simp
    · rw [dg_step (m := a) (by omega), dg_step (m := b) (by omega), List.length_append, List.length_append]
      have := ih (b / 10) (by omega) (a := a / 10) (by omega)
      simpa using this
theorem dg_ne (m : Nat) : dg m ≠ [] := by
  by_cases h : 0 < m
  · obtain ⟨c, r, e, _⟩ := dg_head h
    rw [e]; simp
  · rw [show m = 0 by omega, dg_low (by decide)]; simp
end SW
namespace SW
open PySem PySem.Builtin PySem.Builtin.Str
theorem slice_to {x : Str} {j : Nat} (h : j ≤ x.length) : Txt.slice x none (some (j : Int)) = mkS ((cd x).take j) := by
  have := beq_iff_eq.mp (PyProof.Rows.slice_closes_toL (x := x) (j := (j : Int)) (by omega) (by omega))
  rw [this]
  show mkS (((cd x).drop 0).take ((j : Int) - 0).toNat) = _
  rw [List.drop_zero, Int.sub_zero, Int.toNat_natCast]
theorem slice_from {x : Str} {i : Nat} (h : i ≤ x.length) : Txt.slice x (some (i : Int)) none = mkS ((cd x).drop i) := by
  rw [PyProof.Rows.slice_from_eq (x := x) (i := (i : Int)) (b := (x.length : Int)) (by omega) (by omega) rfl]
  show mkS (((cd x).drop (i : Int).toNat).take ((x.length : Int) - (i : Int)).toNat) = _
  rw [Int.toNat_natCast]
  congr 1
  exact List.take_of_length_le (by rw [List.length_drop, cd_len]; omega)
theorem slice_init {x : Str} {l : List Nat} {c : Nat} (e : cd x = l ++ [c]) : Txt.slice x none (some (-1)) = mkS l := by
  have hl : x.length = l.length + 1 := by rw [← cd_len, e]; simp
  rw [PyProof.Rows.slice_to_neg (by decide)]
  have : max 0 ((x.length : Int) + -1) = ((l.length : Nat) : Int) := by omega
  rw [this, slice_to (by omega), e]
  simp
theorem ends_of {x : Str} {l : List Nat} {c : Nat} (e : cd x = l ++ [c]) : (decide (0 + (⟨#[c]⟩ : Str).length ≤ x.length) && subAt x ⟨#[c]⟩ (x.length - (⟨#[c]⟩ : Str).length)) = true := by
  have hl : x.length = l.length + 1 := by rw [← cd_len, e]; simp
  have h := (StrLaws.subAt_one x c l.length).mpr (by show (cd x)[l.length]? = some c; rw [e]; simp)
  have h1 : (⟨#[c]⟩ : Str).length = 1 := rfl
  rw [h1] at h ⊢
  rw [hl, show l.length + 1 - 1 = l.length by omega, h.2, decide_eq_true (by omega)]
  rfl
end SW
namespace K4
open PySem L2 SW
def top (i : Nat) : Stmt := PySem.Challenge.pw_seatweave_k04_read.main.body.getD i (.Pass ⟨0, 0, 0, 0⟩)
abbrev s_words_of : Stmt := top 12
abbrev s_is_of : Stmt := top 13
abbrev s_number_of : Stmt := top 14
abbrev s_take_name : Stmt := top 15
abbrev s_take_place : Stmt := top 16
abbrev s_take_line : Stmt := top 17
abbrev s_read : Stmt := top 18
abbrev s_labelled : Stmt := top 19
abbrev s_written : Stmt := top 20
abbrev s_lcell_at : Stmt := top 22
abbrev s_ldraw : Stmt := top 23
abbrev s_lgreat : Stmt := top 24
abbrev s_lvote : Stmt := top 25
abbrev s_lsize : Stmt := top 26
abbrev s_ltable : Stmt := top 27
abbrev s_lname : Stmt := top 28
abbrev s_ltext : Stmt := top 29
abbrev s_lspread : Stmt := top 30
abbrev s_lright : Stmt := top 31
abbrev s_law : Stmt := top 32
abbrev s_Table_init : Stmt := inClass (top 11) 0
theorem sc_words_of : FnScope ["line", "word"] ["line"] (defScope s_words_of) := ⟨rfl, rfl, rfl, by decide +kernel, rfl, by decide +kernel, by decide +kernel⟩
theorem sc_is_of : FnScope ["word", "signs", "sign"] ["word", "signs"] (defScope s_is_of) := ⟨rfl, rfl, rfl, by decide +kernel, rfl, by decide +kernel, by decide +kernel⟩
theorem sc_number_of : FnScope ["word", "most", "at"] ["word", "most", "at"] (defScope s_number_of) := ⟨rfl, rfl, rfl, by decide +kernel, rfl, by decide +kernel, by decide +kernel⟩
theorem sc_take_name : FnScope ["word", "names", "seats", "at", "parts", "name"] ["word", "names", "seats", "at"] (defScope s_take_name) := ⟨rfl, rfl, rfl, by decide +kernel, rfl, by decide +kernel, by decide +kernel⟩
theorem sc_take_place : FnScope ["words", "table", "at", "word"] ["words", "table", "at"] (defScope s_take_place) := ⟨rfl, rfl, rfl, by decide +kernel, rfl, by decide +kernel, by decide +kernel⟩
theorem sc_take_line : FnScope ["words", "table", "at", "word"] ["words", "table", "at"] (defScope s_take_line) := ⟨rfl, rfl, rfl, by decide +kernel, rfl, by decide +kernel, by decide +kernel⟩
theorem sc_read : FnScope ["text", "table", "lines", "at", "words"] ["text"] (defScope s_read) := ⟨rfl, rfl, rfl, by decide +kernel, rfl, by decide +kernel, by decide +kernel⟩
theorem sc_labelled : FnScope ["name", "seats"] ["name", "seats"] (defScope s_labelled) := ⟨rfl, rfl, rfl, by decide +kernel, rfl, by decide +kernel, by decide +kernel⟩
theorem sc_written : FnScope ["table", "lines", "i", "j", "words", "number"] ["table"] (defScope s_written) := ⟨rfl, rfl, rfl, by decide +kernel, rfl, by decide +kernel, by decide +kernel⟩
theorem sc_lcell_at : FnScope ["_law_script", "_law_k"] ["_law_script", "_law_k"] (defScope s_lcell_at) := ⟨rfl, rfl, rfl, by decide +kernel, rfl, by decide +kernel, by decide +kernel⟩
theorem sc_ldraw : FnScope ["_law_cell", "_law_k", "_law_many", "_law_primes"] ["_law_cell", "_law_k", "_law_many"] (defScope s_ldraw) := ⟨rfl, rfl, rfl, by decide +kernel, rfl, by decide +kernel, by decide +kernel⟩
theorem sc_lgreat : FnScope ["_law_cell", "_law_k", "_law_most"] ["_law_cell", "_law_k", "_law_most"] (defScope s_lgreat) := ⟨rfl, rfl, rfl, by decide +kernel, rfl, by decide +kernel, by decide +kernel⟩
theorem sc_lvote : FnScope ["_law_cell", "_law_kind"] ["_law_cell"] (defScope s_lvote) := ⟨rfl, rfl, rfl, by decide +kernel, rfl, by decide +kernel, by decide +kernel⟩
theorem sc_lsize : FnScope ["_law_cell", "_law_k"] ["_law_cell", "_law_k"] (defScope s_lsize) := ⟨rfl, rfl, rfl, by decide +kernel, rfl, by decide +kernel, by decide +kernel⟩
theorem sc_ltable : FnScope ["_law_script", "_law_cell", "_law_rows", "_law_columns", "_law_votes", "_law_i", "_law_row", "_law_j", "_law_at", "_law_many", "_law_places", "_law_parties", "_law_skew", "_law_k", "_law_seat", "_law_vote_here"] ["_law_script"] (defScope s_ltable) := ⟨rfl, rfl, rfl, by decide +kernel, rfl, by decide +kernel, by decide +kernel⟩
theorem sc_lname : FnScope ["_law_k", "_law_cell", "_law_letters", "_law_number", "_law_fill", "_law_place", "_law_name_here"] ["_law_k", "_law_cell"] (defScope s_lname) := ⟨rfl, rfl, rfl, by decide +kernel, rfl, by decide +kernel, by decide +kernel⟩
theorem sc_ltext : FnScope ["_law_names", "_law_columns", "_law_places", "_law_rows", "_law_votes", "_law_lines", "_law_i", "_law_k", "_law_vote_here"] ["_law_names", "_law_columns", "_law_places", "_law_rows", "_law_votes"] (defScope s_ltext) := ⟨rfl, rfl, rfl, by decide +kernel, rfl, by decide +kernel, by decide +kernel⟩
theorem sc_lspread : FnScope ["_law_text_here", "_law_cell", "_law_lines", "_law_parts", "_law_k", "_law_one", "_law_n", "_law_made", "_law_word"] ["_law_text_here", "_law_cell"] (defScope s_lspread) := ⟨rfl, rfl, rfl, by decide +kernel, rfl, by decide +kernel, by decide +kernel⟩
theorem sc_lright : FnScope ["_law_table_here", "_law_names", "_law_columns", "_law_places", "_law_rows", "_law_votes", "_law_told", "_law_row", "_law_wrong", "_law_one"] ["_law_table_here", "_law_names", "_law_columns", "_law_places", "_law_rows", "_law_votes"] (defScope s_lright) := ⟨rfl, rfl, rfl, by decide +kernel, rfl, by decide +kernel, by decide +kernel⟩
theorem sc_law : FnScope ["_law_script", "_law_votes", "_law_rows", "_law_columns", "_law_cell", "_law_names", "_law_places", "_law_text_here", "_law_table_here", "_law_other", "_law_again", "_law_k"] ["_law_script"] (defScope s_law) := ⟨rfl, rfl, rfl, by decide +kernel, rfl, by decide +kernel, by decide +kernel⟩
theorem sc_Table_init : FnScope ["self", "places", "parties", "rows", "columns", "votes"] ["self", "places", "parties", "rows", "columns", "votes"] (defScope s_Table_init) := ⟨rfl, rfl, rfl, by decide +kernel, rfl, by decide +kernel, by decide +kernel⟩
set_option genInjectivity false in
structure Txt (K : PySem.W.Frag) (mg : Str → Option Value) where
  a_words_of : Addr
  fd_words_of : FuncData
  F_words_of : Fun K "words_of" "words_of" s_words_of a_words_of fd_words_of
  b_words_of : Binds K fd_words_of ["line"] []
  m_words_of : mg "words_of" = some (.ref a_words_of)
  a_is_of : Addr
  fd_is_of : FuncData
  F_is_of : Fun K "is_of" "is_of" s_is_of a_is_of fd_is_of
  b_is_of : Binds K fd_is_of ["word", "signs"] []
  m_is_of : mg "is_of" = some (.ref a_is_of)
  a_number_of : Addr
  fd_number_of : FuncData
  F_number_of : Fun K "number_of" "number_of" s_number_of a_number_of fd_number_of
  b_number_of : Binds K fd_number_of ["word", "most", "at"] []
  m_number_of : mg "number_of" = some (.ref a_number_of)
  a_take_name : Addr
  fd_take_name : FuncData
  F_take_name : Fun K "take_name" "take_name" s_take_name a_take_name fd_take_name
  b_take_name : Binds K fd_take_name ["word", "names", "seats", "at"] []
  m_take_name : mg "take_name" = some (.ref a_take_name)
  a_take_place : Addr
  fd_take_place : FuncData
  F_take_place : Fun K "take_place" "take_place" s_take_place a_take_place fd_take_place
  b_take_place : Binds K fd_take_place ["words", "table", "at"] []
  m_take_place : mg "take_place" = some (.ref a_take_place)
  a_take_line : Addr
  fd_take_line : FuncData
  F_take_line : Fun K "take_line" "take_line" s_take_line a_take_line fd_take_line
  b_take_line : Binds K fd_take_line ["words", "table", "at"] []
  m_take_line : mg "take_line" = some (.ref a_take_line)
  a_read : Addr
  fd_read : FuncData
  F_read : Fun K "read" "read" s_read a_read fd_read
  b_read : Binds K fd_read ["text"] []
  m_read : mg "read" = some (.ref a_read)
  a_labelled : Addr
  fd_labelled : FuncData
  F_labelled : Fun K "labelled" "labelled" s_labelled a_labelled fd_labelled
  b_labelled : Binds K fd_labelled ["name", "seats"] []
  m_labelled : mg "labelled" = some (.ref a_labelled)
  a_written : Addr
  fd_written : FuncData
  F_written : Fun K "written" "written" s_written a_written fd_written
  b_written : Binds K fd_written ["table"] []
  m_written : mg "written" = some (.ref a_written)
  a_lcell_at : Addr
  fd_lcell_at : FuncData
  F_lcell_at : Fun K "_law_cell_at" "_law_cell_at" s_lcell_at a_lcell_at fd_lcell_at
  b_lcell_at : Binds K fd_lcell_at ["_law_script", "_law_k"] []
  m_lcell_at : mg "_law_cell_at" = some (.ref a_lcell_at)
  a_ldraw : Addr
  fd_ldraw : FuncData
  F_ldraw : Fun K "_law_draw" "_law_draw" s_ldraw a_ldraw fd_ldraw
  b_ldraw : Binds K fd_ldraw ["_law_cell", "_law_k", "_law_many"] []
  m_ldraw : mg "_law_draw" = some (.ref a_ldraw)
  a_lgreat : Addr
  fd_lgreat : FuncData
  F_lgreat : Fun K "_law_great" "_law_great" s_lgreat a_lgreat fd_lgreat
  b_lgreat : Binds K fd_lgreat ["_law_cell", "_law_k", "_law_most"] []
  m_lgreat : mg "_law_great" = some (.ref a_lgreat)
  a_lvote : Addr
  fd_lvote : FuncData
  F_lvote : Fun K "_law_vote" "_law_vote" s_lvote a_lvote fd_lvote
  b_lvote : Binds K fd_lvote ["_law_cell"] []
  m_lvote : mg "_law_vote" = some (.ref a_lvote)
  a_lsize : Addr
  fd_lsize : FuncData
  F_lsize : Fun K "_law_size" "_law_size" s_lsize a_lsize fd_lsize
  b_lsize : Binds K fd_lsize ["_law_cell", "_law_k"] []
  m_lsize : mg "_law_size" = some (.ref a_lsize)
  a_ltable : Addr
  fd_ltable : FuncData
  F_ltable : Fun K "_law_table" "_law_table" s_ltable a_ltable fd_ltable
  b_ltable : Binds K fd_ltable ["_law_script"] []
  m_ltable : mg "_law_table" = some (.ref a_ltable)
  a_lname : Addr
  fd_lname : FuncData
  F_lname : Fun K "_law_name" "_law_name" s_lname a_lname fd_lname
  b_lname : Binds K fd_lname ["_law_k", "_law_cell"] []
  m_lname : mg "_law_name" = some (.ref a_lname)
  a_ltext : Addr
  fd_ltext : FuncData
  F_ltext : Fun K "_law_text" "_law_text" s_ltext a_ltext fd_ltext
  b_ltext : Binds K fd_ltext ["_law_names", "_law_columns", "_law_places", "_law_rows", "_law_votes"] []
  m_ltext : mg "_law_text" = some (.ref a_ltext)
  a_lspread : Addr
  fd_lspread : FuncData
  F_lspread : Fun K "_law_spread" "_law_spread" s_lspread a_lspread fd_lspread
  b_lspread : Binds K fd_lspread ["_law_text_here", "_law_cell"] []
  m_lspread : mg "_law_spread" = some (.ref a_lspread)
  a_lright : Addr
  fd_lright : FuncData
  F_lright : Fun K "_law_right" "_law_right" s_lright a_lright fd_lright
  b_lright : Binds K fd_lright ["_law_table_here", "_law_names", "_law_columns", "_law_places", "_law_rows", "_law_votes"] []
  m_lright : mg "_law_right" = some (.ref a_lright)
  a_law : Addr
  fd_law : FuncData
  F_law : Fun K "law" "law" s_law a_law fd_law
  a_Table_init : Addr
  fd_Table_init : FuncData
  F_Table_init : Fun K "__init__" "Table.__init__" s_Table_init a_Table_init fd_Table_init
  b_Table_init : Binds K fd_Table_init ["self", "places", "parties", "rows", "columns", "votes"] []
  c_Table : Addr
  m_Table : mg "Table" = some (.ref c_Table)
  c_DealError : Addr
  m_DealError : mg "DealError" = some (.ref c_DealError)
  c_BadLine : Addr
  m_BadLine : mg "BadLine" = some (.ref c_BadLine)
  c_NoTable : Addr
  m_NoTable : mg "NoTable" = some (.ref c_NoTable)
  tk_LETTERS : Tok
  m_LETTERS : mg "LETTERS" = some (.str "abcdefghijklmnopqrstuvwxyz" tk_LETTERS)
  tk_FIGURES : Tok
  m_FIGURES : mg "FIGURES" = some (.str "0123456789" tk_FIGURES)
  tk_LONGEST_NAME : Tok
  m_LONGEST_NAME : mg "LONGEST_NAME" = some (.int 8 tk_LONGEST_NAME)
  tk_MOST_NAMES : Tok
  m_MOST_NAMES : mg "MOST_NAMES" = some (.int 12 tk_MOST_NAMES)
  tk_MOST_SEATS : Tok
  m_MOST_SEATS : mg "MOST_SEATS" = some (.int 300 tk_MOST_SEATS)
  tk_MOST_VOTES : Tok
  m_MOST_VOTES : mg "MOST_VOTES" = some (.int 1000000000 tk_MOST_VOTES)
  cl_Table : Cls K c_Table
  M_Table : Mk K c_Table a_Table_init
  na_Table_places : NoAttr K c_Table "places"
  na_Table_parties : NoAttr K c_Table "parties"
  na_Table_rows : NoAttr K c_Table "rows"
  na_Table_columns : NoAttr K c_Table "columns"
  na_Table_votes : NoAttr K c_Table "votes"
  ty_Table : ClsTy K c_Table
  k_Table_Table : PySem.W.kitOne K (.ref c_Table) (.ref c_Table) = some true
  n_isinstance : mg "isinstance" = none
  n_int : mg "int" = none
  n_bool : mg "bool" = none
  n_list : mg "list" = none
  n_str : mg "str" = none
  n_len : mg "len" = none
  n_min : mg "min" = none
  n_range : mg "range" = none
  n_sum : mg "sum" = none
  n_all : mg "all" = none
  n_enumerate : mg "enumerate" = none
end K4
namespace K4
open PySem L2 SW
section
variable {P : Program} {w : World} {K : PySem.W.Frag} {mg : Str → Option Value} {base : Heap}
theorem ok_ldraw (T : Txt K mg) : FnOk P w K mg base CX0 1 T.a_ldraw T.fd_ldraw ["_law_cell", "_law_k", "_law_many"] spDraw := by
  refine T.F_ldraw.ok sc_ldraw (fun vs H Q E h => ?_) (fun cdv A outer s H vs Q E hr h => ?_)
  · obtain ⟨c, k, m, rfl, _⟩ := h
    rfl
  obtain ⟨c, k, m, rfl, k0, k1, m0, q⟩ := h
  refine ⟨_, (@pss_cons _ _ _ _ _ (@ps_setInts _ 3 _ _ _ _ _ _ _ sc_ldraw.nd rfl (Or.inl rfl) (.cons (.cons (.cons (.cons (.cons (.cons (.cons (.cons (.cons (.cons (.cons (.cons (.cons (.cons (.cons (.cons (.nil))))))))))))))))) (.inl rfl))
      (pss_one (ps_ret (pe_op op_mod (pe_op op_mod (pe_op op_add (pe_op op_mulF (pv 0) pe_int) (pe_op op_mulF (pv 1) pe_int)) (pe_ix ix_any (pv 3) (pe_op op_mod (pv 1) pe_int) (fun _ _ => rfl))) (pv 2))))), ?_⟩
  refine ⟨(by show 16 ≤ sizeLine; decide), fun p hp => ?_⟩
  obtain ⟨n, n0, en⟩ := prime_at (k % 16) (Int.emod_nonneg _ (by decide)) (Int.emod_lt_of_pos _ (by decide))
  refine ⟨_, rfl, _, _, rfl, rfl, .inl (.inr ⟨by decide, by decide⟩), _, rfl, _, _, rfl, rfl, .inl (.inr ⟨by decide, by decide⟩), _, _, rfl, rfl, ?_⟩
  refine ⟨_, rfl, _, rfl, _, _, rfl, rfl, (by show (0 : Int) < 16; decide), p, primes, _, _, rfl, rfl, .inr (SqT.of upd_same), en, ?_⟩
  refine ⟨_, _, rfl, rfl, n0, _, rfl, _, _, rfl, rfl, m0, ?_⟩
  exact q _ _ (Int.emod_nonneg _ (by omega)) (Int.emod_lt_of_pos _ m0) (same_new hp _)
theorem ok_lgreat (T : Txt K mg) : FnOk P w K mg base CX0 2 T.a_lgreat T.fd_lgreat ["_law_cell", "_law_k", "_law_most"] spGreat := by
  refine T.F_lgreat.ok sc_lgreat (fun vs H Q E h => ?_) (fun cdv A outer s H vs Q E hr h => ?_)
  · obtain ⟨c, k, m, rfl, _⟩ := h
    rfl
  obtain ⟨c, k, m, rfl, k0, k1, m0, q⟩ := h
  refine ⟨_, (pss_one (ps_ret (pe_op op_mod (pe_op op_add (pe_op op_mulF (pe_call (ok_ldraw T) (hr.mono (by decide)) rfl T.m_ldraw T.F_ldraw.kp T.b_ldraw .nil pass0 (pa_cons (pv 0) (pa_cons (pv 1) (pa_cons pe_int pa_nil)))) pe_int) (pe_call (ok_ldraw T) (hr.mono (by decide)) rfl T.m_ldraw T.F_ldraw.kp T.b_ldraw .nil pass0 (pa_cons (pv 0) (pa_cons (pe_op op_add (pv 1) pe_int) (pa_cons pe_int pa_nil))))) (pv 2)))), ?_⟩
  refine ⟨_, rfl, _, rfl, ?_⟩
  refine ⟨_, _, _, rfl, k0, by omega, by decide, fun d1 H1 a0 a1 s1 => ?_⟩
  refine ⟨_, _, rfl, rfl, .inl (.inr ⟨by decide, by decide⟩), ?_⟩
  refine ⟨_, rfl, _, rfl, _, _, rfl, rfl, ?_⟩
  refine ⟨_, _, _, rfl, by omega, by omega, by decide, fun d2 H2 b0 b1 s2 => ?_⟩
  refine ⟨_, _, rfl, rfl, _, rfl, ?_⟩
  refine ⟨_, _, rfl, rfl, m0, ?_⟩
  exact q _ _ (Int.emod_nonneg _ (by omega)) (Int.emod_lt_of_pos _ m0) (s1.trans s2)
theorem ok_lcell_at (T : Txt K mg) : FnOk P w K mg base CX0 1 T.a_lcell_at T.fd_lcell_at ["_law_script", "_law_k"] (spCellAt K) := by
  refine T.F_lcell_at.ok sc_lcell_at (fun vs H Q E h => ?_) (fun cdv A outer s H vs Q E hr h => ?_)
  · obtain ⟨a, ns, k, rfl, _⟩ := h
    rfl
  obtain ⟨a, ns, k, rfl, hS, k0, q⟩ := h
  refine ⟨_, (pss_cons (ps_if (pt_cmpR op_lt (pv 1) (pe_callB call_lenQ (by rfl) T.n_len PySem.boot_len (pa_cons (pv 0) pa_nil)) (nomark _))
      (pss_one (ps_ret (pe_ix ix_any (pv 0) (pv 1) (fun _ _ => rfl))))
      pss_nil)
      (pss_one (ps_ret pe_int))), ?_⟩
  refine ⟨_, rfl, _, rfl, ?_⟩
  refine ⟨a, _, rfl, .inl hS, ?_⟩
  refine ⟨_, _, rfl, rfl, _, rfl, ?_⟩
  refine ite2 (fun c => ?_) (fun c => ?_)
  · have c' : k < ((ns.map V.int).length : Int) := of_decide_eq_true c
    rw [List.length_map] at c'
    have hk : k.toNat < ns.length := by omega
    refine ⟨_, rfl, _, rfl, ?_⟩
    exact ⟨a, _, _, _, rfl, rfl, .inl hS, atI_of k0 (by rw [List.getElem?_map, List.getElem?_eq_getElem hk]; rfl), q _⟩
  · skip
    exact q 0
end
end K4
namespace K4
open PySem L2 SW
section
variable {P : Program} {w : World} {K : PySem.W.Frag} {mg : Str → Option Value} {base : Heap}
theorem ok_lvote (T : Txt K mg) : FnOk P w K mg base CX0 3 T.a_lvote T.fd_lvote ["_law_cell"] spVote := by
  refine T.F_lvote.ok sc_lvote (fun vs H Q E h => ?_) (fun cdv A outer s H vs Q E hr h => ?_)
  · obtain ⟨c, rfl, _⟩ := h
    rfl
  obtain ⟨c, rfl, q⟩ := h
  refine ⟨_, (pss_cons (ps_set (i := 1) sc_lvote.nd rfl (Or.inl rfl) (pe_call (ok_ldraw T) (hr.mono (by decide)) rfl T.m_ldraw T.F_ldraw.kp T.b_ldraw .nil pass0 (pa_cons (pv 0) (pa_cons pe_int (pa_cons pe_int pa_nil)))))
      (pss_cons (ps_if (pt_cmpR op_lt (pv 1) pe_int (nomark _))
      (pss_one (ps_ret pe_int))
      pss_nil)
      (pss_cons (ps_if (pt_cmpR op_eq (pv 1) pe_int (nomark _))
      (pss_one (ps_ret pe_int))
      pss_nil)
      (pss_cons (ps_if (pt_cmpR op_lt (pv 1) pe_int (nomark _))
      (pss_one (ps_ret (pe_op op_add pe_int (pe_call (ok_ldraw T) (hr.mono (by decide)) rfl T.m_ldraw T.F_ldraw.kp T.b_ldraw .nil pass0 (pa_cons (pv 0) (pa_cons pe_int (pa_cons pe_int pa_nil)))))))
      pss_nil)
      (pss_one (ps_ret (pe_call (ok_lgreat T) (hr.mono (by decide)) rfl T.m_lgreat T.F_lgreat.kp T.b_lgreat .nil pass0 (pa_cons (pv 0) (pa_cons pe_int (pa_cons pe_int pa_nil)))))))))), ?_⟩
  refine ⟨_, rfl, ?_⟩
  refine ⟨_, _, _, rfl, by decide, by decide, by decide, fun kd H1 _ _ s1 => ?_⟩
  refine ⟨_, rfl, _, _, rfl, rfl, _, rfl, ?_⟩
  refine ite2 (fun _ => q 0 H1 (by decide) (by decide) s1) (fun _ => ?_)
  refine ⟨_, rfl, rfl, _, rfl, ?_⟩
  refine ite2 (fun _ => q 6 H1 (by decide) (by decide) s1) (fun _ => ?_)
  refine ⟨_, rfl, _, _, rfl, rfl, _, rfl, ?_⟩
  refine ite2 (fun _ => ?_) (fun _ => ?_)
  · refine ⟨_, rfl, ?_⟩
    refine ⟨_, _, _, rfl, by decide, by decide, by decide, fun d H2 d0 d1 s2 => ?_⟩
    refine ⟨_, _, rfl, rfl, ?_⟩
    exact q _ H2 (by omega) (by omega) (s1.trans s2)
  · refine ⟨_, rfl, ?_⟩
    exact ⟨_, _, _, rfl, by decide, by decide, by decide, fun d H2 d0 d1 s2 => q _ H2 d0 (by omega) (s1.trans s2)⟩
end
end K4
namespace SW
open PySem L2
theorem ixN_nat {n v : Nat} (h : v < n) : ixN n (v : Int) = some v := by
  unfold ixN
  rw [if_pos (by omega), if_pos (by omega), Int.toNat_natCast]
theorem row_fset {n z : Nat} {f : Nat → Int} {v : Int} (h : z < n) : ((row n f).map V.int).set z (.int v) = (row n (fset f z v)).map V.int := by
  rw [← List.map_set, row_set h]
  rfl
structure Due (r c : Nat) (pe qe : Nat → Int) : Prop where
  p0 : ∀ i, i < r → 0 ≤ pe i ∧ pe i ≤ 300
  q0 : ∀ j, j < c → 0 ≤ qe j ∧ qe j ≤ 300
  eq : sumZ r pe = sumZ c qe
  s300 : sumZ r pe ≤ 300
end SW
namespace K4
open PySem L2 SW
section
variable {P : Program} {w : World} {K : PySem.W.Frag} {mg : Str → Option Value} {base : Heap}
def spSize : Sp := fun vs H Q _ => ∃ c k : Int, vs = [.int c, .int k] ∧ 0 ≤ k ∧ k < 900 ∧ ∀ (n : Nat) (H' : Hp), 0 < n → n ≤ 12 → Same H H' → Q (.int n) H'
theorem ok_lsize (T : Txt K mg) : FnOk P w K mg base CX0 2 T.a_lsize T.fd_lsize ["_law_cell", "_law_k"] spSize := by
  refine T.F_lsize.ok sc_lsize (fun vs H Q E h => ?_) (fun cdv A outer s H vs Q E hr h => ?_)
  · obtain ⟨c, k, rfl, _⟩ := h
    rfl
  obtain ⟨c, k, rfl, k0, k1, q⟩ := h
  refine ⟨_, (pss_one (ps_ret (pe_op op_add (pe_op op_add pe_int (pe_call (ok_ldraw T) (hr.mono (by decide)) rfl T.m_ldraw T.F_ldraw.kp T.b_ldraw .nil pass0 (pa_cons (pv 0) (pa_cons (pv 1) (pa_cons pe_int pa_nil))))) (pe_op op_mulF pe_int (pe_op op_fdivF (pe_call (ok_ldraw T) (hr.mono (by decide)) rfl T.m_ldraw T.F_ldraw.kp T.b_ldraw .nil pass0 (pa_cons (pv 0) (pa_cons (pe_op op_add (pv 1) pe_int) (pa_cons pe_int pa_nil)))) pe_int))))), ?_⟩
  refine ⟨_, rfl, _, rfl, ?_⟩
  refine ⟨_, _, _, rfl, k0, by omega, by decide, fun d H1 d0 d1 S1 => ?_⟩
  refine ⟨_, _, rfl, rfl, _, rfl, _, rfl, _, _, rfl, rfl, ?_⟩
  refine ⟨_, _, _, rfl, by omega, by omega, by decide, fun e H2 e0 e1 S2 => ?_⟩
  refine ⟨_, _, rfl, rfl, ⟨by omega, fits_of (by omega) (by omega)⟩, _, _, rfl, rfl, .inr ⟨fits_of (by omega) (by omega), fits_of (by omega) (by omega)⟩, _, _, rfl, rfl, ?_⟩
  have e2 : 0 ≤ e / 15 := Int.ediv_nonneg e0 (by decide)
  have e3 : e / 15 ≤ 1 := by omega
  show Q (.int (1 + d + 7 * (e / 15))) H2
  rw [show 1 + d + 7 * (e / 15) = (((1 + d + 7 * (e / 15)).toNat : Nat) : Int) by omega]
  exact q _ H2 (by omega) (by omega) (S1.trans S2)
def spTable (K : PySem.W.Frag) : Sp := fun vs H Q _ => ∃ (a : Addr) (ns : List Int), vs = [.ref a] ∧ SqL K H a (ns.map V.int) ∧
  ∀ (t vt pl pt : Addr) (as : List Addr) (U : Nat → Nat → Int) (r c : Nat) (pe qe : Nat → Int) (H' : Hp), Same H H' → H' t = some (.tup [.ref vt, .ref pl, .ref pt]) → MatM H' vt as (mkT U r c) → H' pl = some (.lst ((row r pe).map V.int)) → H' pt = some (.lst ((row c qe).map V.int)) → 0 < r → r ≤ 12 → 0 < c → c ≤ 12 → (∀ i j, i < r → j < c → 0 ≤ U i j ∧ U i j ≤ 10 ^ 9) → Due r c pe qe → pl ≠ pt → Q (.ref t) H'
theorem ok_ltable (T : Txt K mg) : FnOk P w K mg base CX0 5 T.a_ltable T.fd_ltable ["_law_script"] (spTable K) := by
  refine T.F_ltable.ok sc_ltable (fun vs H Q E h => ?_) (fun cdv A outer s H vs Q E hr h => ?_)
  · obtain ⟨a, ns, rfl, _⟩ := h
    rfl
  obtain ⟨a, ns, rfl, hS, q⟩ := h
  refine ⟨_, (pss_cons (ps_set (i := 1) sc_ltable.nd rfl (Or.inl rfl) (pe_call (ok_lcell_at T) (hr.mono (by decide)) rfl T.m_lcell_at T.F_lcell_at.kp T.b_lcell_at .nil pass0 (pa_cons (pv 0) (pa_cons pe_int pa_nil))))
      (pss_cons (ps_par (i := 2) (j := 3) rfl sc_ltable.nd rfl rfl (by decide) rfl rfl (pa_cons (pe_call (ok_lsize T) (hr.mono (by decide)) rfl T.m_lsize T.F_lsize.kp T.b_lsize .nil pass0 (pa_cons (pv 1) (pa_cons pe_int pa_nil))) (pa_cons (pe_call (ok_lsize T) (hr.mono (by decide)) rfl T.m_lsize T.F_lsize.kp T.b_lsize .nil pass0 (pa_cons (pv 1) (pa_cons pe_int pa_nil))) pa_nil)) rfl)
      (pss_cons (ps_set (i := 4) sc_ltable.nd rfl (Or.inl rfl) (pe_lstA pa_nil))
      (pss_cons (ps_for PassesOwn.never rfl (pi_range1 rfl T.n_range (pa_cons (pv 2) pa_nil)) (pg_name (i := 5) sc_ltable.nd rfl (Or.inl rfl))
      (pss_cons (ps_set (i := 6) sc_ltable.nd rfl (Or.inl rfl) (pe_lstA pa_nil))
      (pss_cons (ps_for PassesOwn.never rfl (pi_range1 rfl T.n_range (pa_cons (pv 3) pa_nil)) (pg_name (i := 7) sc_ltable.nd rfl (Or.inl rfl))
      (pss_cons (ps_set (i := 8) sc_ltable.nd rfl (Or.inl rfl) (pe_op op_add (pe_op op_mulF (pv 5) (pv 3)) (pv 7)))
      (pss_one (ps_expr (pe_bm PySem.F.plainAttrs_list PySem.F.slot_list_append PySem.F.type_list_append mt_append (pv 6) (pa_cons (pe_call (ok_lvote T) (hr.mono (by decide)) rfl T.m_lvote T.F_lvote.kp T.b_lvote .nil pass0 (pa_cons (pe_op op_add (pe_call (ok_lcell_at T) (hr.mono (by decide)) rfl T.m_lcell_at T.F_lcell_at.kp T.b_lcell_at .nil pass0 (pa_cons (pv 0) (pa_cons (pe_op op_add pe_int (pe_op op_mod (pv 8) pe_int)) pa_nil))) (pe_op op_mulF pe_int (pv 8))) pa_nil)) pa_nil))))))
      (pss_one (ps_expr (pe_bm PySem.F.plainAttrs_list PySem.F.slot_list_append PySem.F.type_list_append mt_append (pv 4) (pa_cons (pv 6) pa_nil)))))))
      (pss_cons (ps_set (i := 9) sc_ltable.nd rfl (Or.inl rfl) (pe_call (ok_ldraw T) (hr.mono (by decide)) rfl T.m_ldraw T.F_ldraw.kp T.b_ldraw .nil pass0 (pa_cons (pv 1) (pa_cons pe_int (pa_cons pe_int pa_nil)))))
      (pss_cons (ps_meet (ps_if (PW.pt (pw_and (pt_cmpR op_lt (pe_op op_mulF (pv 2) (pv 3)) pe_int (nomark _)) (pw_and1 (pt_cmpR op_eqI (pe_call (ok_ldraw T) (hr.mono (by decide)) rfl T.m_ldraw T.F_ldraw.kp T.b_ldraw .nil pass0 (pa_cons (pv 1) (pa_cons pe_int (pa_cons pe_int pa_nil)))) pe_int (nomark _)))))
      (pss_one (ps_set (i := 9) sc_ltable.nd rfl (Or.inl rfl) (pe_op op_mulF (pv 9) pe_int)))
      pss_nil))
      (pss_cons (ps_par (i := 10) (j := 11) rfl sc_ltable.nd rfl rfl (by decide) rfl rfl (pa_cons (pe_comp [6] rfl (blk_of rfl) (pi_listQ K (pv 4)) (fun _ => (pg_name (i := 6) sc_ltable.nd rfl (Or.inl rfl))) (fun _ => pts_nil) (fun _ => pe_int)) (pa_cons (pe_comp [15] rfl (blk_of rfl) (pi_listQ K (pe_ix (ix_Q K) (pv 4) pe_int (fun _ _ => rfl))) (fun _ => (pg_name (i := 15) sc_ltable.nd rfl (Or.inl rfl))) (fun _ => pts_nil) (fun _ => pe_int)) pa_nil)) rfl)
      (pss_cons (ps_set (i := 12) sc_ltable.nd rfl (Or.inl rfl) (pe_call (ok_ldraw T) (hr.mono (by decide)) rfl T.m_ldraw T.F_ldraw.kp T.b_ldraw .nil pass0 (pa_cons (pv 1) (pa_cons pe_int (pa_cons pe_int pa_nil)))))
      (pss_cons (ps_for PassesOwn.never rfl (pi_range1 rfl T.n_range (pa_cons (pv 9) pa_nil)) (pg_name (i := 13) sc_ltable.nd rfl (Or.inl rfl))
      (pss_cons (ps_set (i := 14) sc_ltable.nd rfl (Or.inl rfl) (pe_op op_add (pe_op op_mulF (pe_op op_add (pe_call (ok_lcell_at T) (hr.mono (by decide)) rfl T.m_lcell_at T.F_lcell_at.kp T.b_lcell_at .nil pass0 (pa_cons (pv 0) (pa_cons pe_int pa_nil))) (pe_op op_mulF pe_int (pv 13))) (pe_op op_add (pv 13) pe_int)) (pe_call (ok_lcell_at T) (hr.mono (by decide)) rfl T.m_lcell_at T.F_lcell_at.kp T.b_lcell_at .nil pass0 (pa_cons (pv 0) (pa_cons (pe_op op_add pe_int (pe_op op_mod (pv 13) pe_int)) pa_nil)))))
      (pss_cons (ps_par (i := 5) (j := 7) rfl sc_ltable.nd rfl rfl (by decide) rfl rfl (pa_cons (pe_call (ok_ldraw T) (hr.mono (by decide)) rfl T.m_ldraw T.F_ldraw.kp T.b_ldraw .nil pass0 (pa_cons (pv 14) (pa_cons pe_int (pa_cons (pv 2) pa_nil)))) (pa_cons (pe_call (ok_ldraw T) (hr.mono (by decide)) rfl T.m_ldraw T.F_ldraw.kp T.b_ldraw .nil pass0 (pa_cons (pv 14) (pa_cons pe_int (pa_cons (pv 3) pa_nil)))) pa_nil)) rfl)
      (pss_cons (ps_meet (ps_augS (pv 10) (pe_ifExp (pt_cmpR op_eqI (pv 12) pe_int (nomark _)) (pe_callB (call_min2 rfl) (by rfl) T.n_min PyProof.Rows.boot_min (pa_cons (pv 5) (pa_cons (pe_call (ok_ldraw T) (hr.mono (by decide)) rfl T.m_ldraw T.F_ldraw.kp T.b_ldraw .nil pass0 (pa_cons (pv 14) (pa_cons pe_int (pa_cons (pv 2) pa_nil)))) pa_nil))) (pv 5)) (getL_Q K) pe_int ip_add set_list))
      (pss_one (ps_augS (pv 11) (pe_ifExp (pt_cmpR op_gt (pv 12) pe_int (nomark _)) (pe_callB (call_min2 rfl) (by rfl) T.n_min PyProof.Rows.boot_min (pa_cons (pv 7) (pa_cons (pe_call (ok_ldraw T) (hr.mono (by decide)) rfl T.m_ldraw T.F_ldraw.kp T.b_ldraw .nil pass0 (pa_cons (pv 14) (pa_cons pe_int (pa_cons (pv 3) pa_nil)))) pa_nil))) (pv 7)) (getL_Q K) pe_int ip_add set_list))))))
      (pss_one (ps_ret (pe_tupA (pa_cons (pv 4) (pa_cons (pv 10) (pa_cons (pv 11) pa_nil))))))))))))))), ?_⟩
  refine ⟨_, rfl, ?_⟩
  refine ⟨a, ns, _, rfl, hS, by decide, fun cell => ?_⟩
  unfold tPar
  refine ⟨_, rfl, ?_⟩
  refine ⟨_, _, rfl, by decide, by decide, fun r H1 r0 r1 S1 => ?_⟩
  refine ⟨_, rfl, ?_⟩
  refine ⟨_, _, rfl, by decide, by decide, fun c H2 c0 c1 S2 => ?_⟩
  refine ⟨_, _, rfl, ?_⟩
  refine ⟨Nat.zero_le _, fun l H3 N3 => ?_⟩
  have S03 : Same H H3 := S1.trans (S2.trans N3.same)
  have nl : H l = none := S1.free (S2.free N3.gone)
  have hl3 := N3.at_
  refine ⟨_, rfl, ?_⟩
  refine ⟨_, rfl, by omega, by omega, ?_⟩
  rw [Int.toNat_natCast]
  refine for_range (fun i σ H' => ∃ (as : List Addr) (f : Nat → Nat → Int) (v6 v7 v8 v9 : Option V), σ = [some (.ref a), some (.int cell), some (.int r), some (.int c), some (.ref l), v6, v7, v8, v9, none, none, none, none, none, none, none] ∧ Same H H' ∧ H' l = some (.lst (as.map V.ref)) ∧ as.length = i ∧ as.Nodup ∧ l ∉ as ∧
    (∀ (k : Nat) (b : Addr), as[k]? = some b → H' b = some (.lst ((row c (f k)).map V.int))) ∧ ∀ i' j, i' < i → j < c → 0 ≤ f i' j ∧ f i' j ≤ 10 ^ 9) ⟨[], fun _ _ => 0, _, _, _, _, rfl, S03, hl3, rfl, List.nodup_nil, by simp, fun k b e => (by simp at e), fun i' j h => (by omega)⟩ ?_ ?_
  · rintro i σ H' hi ⟨as, f, v6, v7, v8, v9, rfl, S', hl, la, nd, las, rows, bd⟩
    refine ⟨Nat.zero_le _, fun b H4 N4 => ?_⟩
    have hb4 := N4.at_
    refine ⟨_, rfl, ?_⟩
    refine ⟨_, rfl, by omega, by omega, ?_⟩
    rw [Int.toNat_natCast]
    refine for_range (fun j σ H5 => ∃ (g : Nat → Int) (v8 v9 : Option V), σ = [some (.ref a), some (.int cell), some (.int r), some (.int c), some (.ref l), some (.int (0 + (i : Int))), some (.ref b), v8, v9, none, none, none, none, none, none, none] ∧ Same H' H5 ∧ H5 b = some (.lst ((row j g).map V.int)) ∧ ∀ j', j' < j → 0 ≤ g j' ∧ g j' ≤ 10 ^ 9) ⟨fun _ => 0, _, _, rfl, N4.same, hb4, fun j' h => (by omega)⟩ ?_ ?_
    · rintro j σ H5 hj ⟨g, v8, v9, rfl, S5, hb, gb⟩
      have hS5 := (S'.trans S5).seq hS
      have m0 : 0 ≤ (0 + (i : Int)) * (c : Int) := Int.mul_nonneg (by omega) (by omega)
      refine ⟨_, rfl, _, rfl, _, _, rfl, rfl, .inr ⟨fits_of (by omega) (by omega), fits_of (by omega) (by omega)⟩, _, rfl, _, _, rfl, rfl, _, rfl, ?_⟩
      refine ⟨.inl ⟨rfl, _, SqL.of hb⟩, ?_⟩
      refine ⟨_, rfl, _, rfl, _, _, rfl, rfl, by omega, _, _, rfl, rfl, ?_⟩
      refine ⟨a, ns, _, rfl, hS5, ?_, fun cv => ?_⟩
      · have := Int.emod_nonneg ((0 + (i : Int)) * (c : Int) + (0 + (j : Int))) (by decide : (40 : Int) ≠ 0)
        show (0 : Int) ≤ 3 + ((0 + (i : Int)) * (c : Int) + (0 + (j : Int))) % 40
        omega
      refine ⟨_, rfl, _, _, rfl, rfl, .inl (.inl ⟨by decide, by decide⟩), _, _, rfl, rfl, ?_⟩
      refine ⟨_, rfl, fun v H6 v0 v1 S6 => ?_⟩
      have hb6 := S6 _ _ hb
      refine ⟨b, _, _, rfl, rfl, hb6, ?_, ?_⟩
      · rw [List.length_map, row_len]
        exact Nat.lt_of_le_of_lt (show j ≤ 12 by omega) (by decide)
      have e : (row j g).map V.int ++ [V.int v] = (row (j + 1) (fun x => if x = j then v else g x)).map V.int := by
        rw [row_succ, List.map_append, if_pos rfl]
        rw [row_congr (g := g) fun x hx => if_neg (by omega)]
        rfl
      rw [e]
      refine ⟨fun x => if x = j then v else g x, _, _, rfl, (S5.trans S6).upd N4.gone, upd_same, fun j' hj' => ?_⟩
      show 0 ≤ (if j' = j then v else g j') ∧ (if j' = j then v else g j') ≤ 10 ^ 9
      split
      · exact ⟨v0, v1⟩
      · exact gb j' (by omega)
    · rintro σ H5 ⟨g, v8, v9, rfl, S5, hb, gb⟩
      have hl5 := S5 _ _ hl
      refine ⟨_, rfl, ?_⟩
      refine ⟨.inl ⟨rfl, _, SqL.of hl5⟩, ?_⟩
      refine ⟨_, rfl, ?_⟩
      refine ⟨l, _, _, rfl, rfl, hl5, ?_, ?_⟩
      · rw [List.length_map, la]
        exact Nat.lt_of_le_of_lt (show i ≤ 12 by omega) (by decide)
      have lb : l ≠ b := fun z => by rw [z, N4.gone] at hl; cases hl
      have bas : b ∉ as := fun h => by
        obtain ⟨n, hn, en⟩ := List.getElem_of_mem h
        have := rows n b (by rw [List.getElem?_eq_getElem hn, en])
        rw [N4.gone] at this
        cases this
      refine ⟨as ++ [b], fun x y => if x = i then g y else f x y, _, _, _, _, rfl, (S'.trans S5).upd nl, ?_, by simp [la], ?_, ?_, fun n d e => ?_, fun i' j hi' hj => ?_⟩
      · rw [upd_same, List.map_append]; rfl
      · refine List.nodup_append.mpr ⟨nd, by simp, fun x hx y hy => ?_⟩
        have : y = b := by simpa using hy
        subst this
        rintro rfl
        exact bas hx
      · intro h
        rcases List.mem_append.mp h with h | h
        · exact las h
        · exact lb (by simpa using h)
      · have dl : d ≠ l := fun z => by
          subst z
          have := List.mem_of_getElem? e
          rcases List.mem_append.mp this with h | h
          · exact las h
          · exact lb (by simpa using h)
        rw [upd_ne dl]
        by_cases hn : n < as.length
        · rw [List.getElem?_append_left hn] at e
          have : row c (fun y => if n = i then g y else f n y) = row c (f n) := row_congr fun y _ => if_neg (by omega)
          rw [this]
          exact S5 _ _ (rows n d e)
        · rw [List.getElem?_append_right (by omega)] at e
          have hz : n - as.length = 0 := by have := (List.getElem?_eq_some_iff.mp e).1; simp at this; omega
          rw [hz] at e
          have ed : d = b := by simpa using e.symm
          have en : n = i := by omega
          subst ed en
          have : row c (fun y => if n = n then g y else f n y) = row c g := row_congr fun y _ => if_pos rfl
          rw [this]
          exact hb
      · show 0 ≤ (if i' = i then g j else f i' j) ∧ (if i' = i then g j else f i' j) ≤ 10 ^ 9
        split
        · exact gb j hj
        · exact bd i' j (by omega) hj
  rintro σ H4 ⟨as, f, v6, v7, v8, v9, rfl, S4, hl, la, nd, las, rows, bd⟩
  have mm : MatM H4 l as (mkT f r c) := ⟨hl, nd, by rw [mk_len]; exact la, fun i b x e1 e2 => by
    have hi : i < r := by have := (List.getElem?_eq_some_iff.mp e1).1; omega
    rw [mk_get hi] at e2
    rw [← Option.some.inj e2]
    exact rows i b e1⟩
  refine ⟨_, rfl, ?_⟩
  refine ⟨_, _, _, rfl, by decide, by decide, by decide, fun d H5 d0 d1 S5 => ?_⟩
  have rc : 0 ≤ (r : Int) * (c : Int) ∧ (r : Int) * (c : Int) ≤ 12 * 12 := mul_bd (by omega) (by omega) (by omega) (by omega)
  refine ⟨fun σ H6 => Same H4 H6 ∧ ∃ m : Nat, m ≤ 300 ∧ σ = [some (.ref a), some (.int cell), some (.int r), some (.int c), some (.ref l), v6, v7, v8, v9, some (.int (m : Int)), none, none, none, none, none, none], ?_, ?_⟩
  · refine ⟨_, rfl, _, rfl, _, _, rfl, rfl, .inr ⟨fits_of (by omega) (by omega), fits_of (by omega) (by omega)⟩, _, _, rfl, rfl, _, rfl, ?_⟩
    refine ite3 (fun _ => ?_) (fun _ => iteF ?_)
    · refine ⟨_, rfl, ?_⟩
      refine ⟨_, _, _, rfl, by decide, by decide, by decide, fun d2 H6 _ _ S6 => ?_⟩
      refine ⟨_, _, rfl, rfl, _, rfl, ?_⟩
      refine ite3 (fun _ => ?_) (fun _ => ?_)
      · refine ⟨_, rfl, _, _, rfl, rfl, .inr ⟨fits_of (by omega) (by omega), fits_of (by omega) (by omega)⟩, ?_⟩
        refine ⟨S5.trans S6, (d * 20).toNat, by omega, ?_⟩
        rw [show (((d * 20).toNat : Nat) : Int) = d * 20 by omega]
        rfl
      · refine ⟨S5.trans S6, d.toNat, by omega, ?_⟩
        rw [show ((d.toNat : Nat) : Int) = d by omega]
        rfl
    · refine ⟨S5, d.toNat, by omega, ?_⟩
      rw [show ((d.toNat : Nat) : Int) = d by omega]
      rfl
  rintro σ H6 ⟨S46, m, m1, rfl⟩
  have mm6 := mm.same S46
  have ml6 := mm6.top
  obtain ⟨as0, b0, sq0, at0, sr0, sl0⟩ := (mm6.mat (K := K)).get r0
  have at0' : atI (as0.map V.ref) 0 = some (.ref b0) := at0
  refine ⟨_, rfl, ?_⟩
  refine ⟨l, rfl, ⟨_, SqL.of ml6⟩, comp_mapL (fun _ => .int 0) (SqL.of ml6) (by rw [List.length_map, la]; exact Nat.le_trans r1 (by decide)) (fun i x Q _ h => h) fun pl H7 N7 => ?_⟩
  have hpl7 := N7.at_
  have e7 : (as.map V.ref).map (fun _ => V.int 0) = (row r fun _ => 0).map V.int := by
    unfold row
    apply List.ext_getElem
    · simp [la]
    · intro i h1 h2; simp
  rw [e7] at hpl7
  have sq7 := N7.same.sq sq0
  have sl7 := N7.same.seq sl0
  refine ⟨_, rfl, _, _, _, _, rfl, rfl, by assumption, by assumption, ?_⟩
  refine ⟨b0, rfl, ⟨_, sl7⟩, comp_mapL (fun _ => .int 0) sl7 (by rw [List.length_map, row_len]; exact Nat.le_trans c1 (by decide)) (fun i x Q _ h => h) fun pt H8 N8 => ?_⟩
  have hpt8 := N8.at_
  have e8 : ((row c (f 0)).map V.int).map (fun _ => V.int 0) = (row c fun _ => 0).map V.int := by unfold row; rw [List.map_map, List.map_map, List.map_map]; rfl
  rw [e8] at hpt8
  have hpl8 := N8.same _ _ hpl7
  have npl : H6 pl = none := N7.gone
  have npt : H6 pt = none := N7.same.free N8.gone
  have plt : pl ≠ pt := fun z => by have := N8.gone; rw [← z, hpl7] at this; cases this
  have S68 := N7.same.trans N8.same
  refine ⟨_, _, rfl, ?_⟩
  refine ⟨_, rfl, ?_⟩
  refine ⟨_, _, _, rfl, by decide, by decide, by decide, fun sk H9 _ _ S9 => ?_⟩
  refine ⟨_, rfl, ?_⟩
  refine ⟨_, rfl, by omega, by omega, ?_⟩
  rw [Int.toNat_natCast]
  refine for_range (fun k σ H' => Same H6 H' ∧ ∃ (pe qe : Nat → Int) (v5 v7 v13 v14 v15 : Option V), σ = [some (.ref a), some (.int cell), some (.int r), some (.int c), some (.ref l), v5, v7, v13, v9, some (.int (m : Int)), some (.ref pl), some (.ref pt), some (.int sk), v14, v15, none] ∧ H' pl = some (.lst ((row r pe).map V.int)) ∧ H' pt = some (.lst ((row c qe).map V.int)) ∧ (∀ i, i < r → 0 ≤ pe i) ∧ (∀ j, j < c → 0 ≤ qe j) ∧ sumZ r pe = k ∧ sumZ c qe = k) ⟨S68.trans S9, fun _ => 0, fun _ => 0, _, _, _, _, _, rfl, S9 _ _ hpl8, S9 _ _ hpt8, fun _ _ => Int.le_refl _, fun _ _ => Int.le_refl _, sumZ_zero r, sumZ_zero c⟩ ?_ ?_
  · rintro k σ H' hk ⟨S', pe, qe, v5, v7, v13, v14, v15, rfl, hpl, hpt, p0, q0, sp, sq⟩
    have hS' := ((S4.trans S46).trans S').seq hS
    refine ⟨_, rfl, ?_⟩
    refine ⟨a, ns, _, rfl, hS', by decide, fun c1' => ?_⟩
    have mk : CMulF (c1' + 7 * (0 + (k : Int))) (0 + (k : Int) + 3) := .inl (.inr ⟨by omega, by omega⟩)
    refine ⟨_, rfl, _, _, rfl, rfl, .inr ⟨fits_of (by omega) (by omega), fits_of (by omega) (by omega)⟩, _, _, rfl, rfl, _, rfl, _, _, rfl, rfl, _, _, rfl, rfl, by omega, _, rfl, _, rfl, _, _, rfl, rfl, by omega, _, _, rfl, rfl, ?_⟩
    refine ⟨a, ns, _, rfl, hS', ?_, fun c2' => ?_⟩
    · have := Int.emod_nonneg (0 + (k : Int)) (by decide : (20 : Int) ≠ 0)
      show (0 : Int) ≤ 3 + (0 + (k : Int)) % 20
      omega
    refine ⟨_, _, rfl, rfl, _, rfl, _, rfl, ?_⟩
    refine ⟨_, _, _, rfl, by decide, by decide, by omega, fun di Ha i0 i1 Sa => ?_⟩
    refine ⟨_, rfl, _, rfl, ?_⟩
    refine ⟨_, _, _, rfl, by decide, by decide, by omega, fun dj Hb j0 j1 Sb => ?_⟩
    refine ⟨_, _, rfl, ?_⟩
    have Sab := Sa.trans Sb
    have hplb := Sab _ _ hpl
    have hptb := Sab _ _ hpt
    have inc : ∀ {n : Nat} {f : Nat → Int} {x : Nat}, x < n → (∀ i, i < n → 0 ≤ f i) → (∀ i, i < n → 0 ≤ fset f x (f x + 1) i) ∧ sumZ n (fset f x (f x + 1)) = sumZ n f + 1 := fun {n f x} hx f0 => by
      refine ⟨fun i hi => ?_, ?_⟩
      · by_cases e : i = x
        · rw [e, fset_same]; have := f0 x hx; omega
        · rw [fset_ne e]; exact f0 i hi
      · have := sumZ_upd (f := f) (g := fset f x (f x + 1)) (k := x) (fun z hz => fset_ne hz) n
        rw [if_pos hx, fset_same] at this
        omega
    refine ⟨fun σ Hc => Same H6 Hc ∧ ∃ (pe' : Nat → Int), σ = [some (.ref a), some (.int cell), some (.int r), some (.int c), some (.ref l), some (.int di), v7, some (.int dj), v9, some (.int (m : Int)), some (.ref pl), some (.ref pt), some (.int sk), some (.int (0 + (k : Int))), some (.int ((c1' + 7 * (0 + (k : Int))) * (0 + (k : Int) + 3) + c2')), none] ∧ Hc pl = some (.lst ((row r pe').map V.int)) ∧ Hc pt = some (.lst ((row c qe).map V.int)) ∧ (∀ i, i < r → 0 ≤ pe' i) ∧ sumZ r pe' = k + 1, ?_, ?_⟩
    · refine ⟨_, rfl, _, rfl, _, _, rfl, rfl, _, rfl, ?_⟩
      refine ite3 (fun _ => ?_) (fun _ => ?_)
      case' refine_1 =>
        refine ⟨_, rfl, _, rfl, _, rfl, ?_⟩
        refine ⟨_, _, _, rfl, by decide, by decide, by omega, fun d9 Hc a0' a1' Sc => ?_⟩
        refine ⟨_, _, rfl, ?_⟩
        obtain ⟨x, ex, x0, x1⟩ : ∃ x : Int, (if d9 < di then d9 else di) = x ∧ 0 ≤ x ∧ x < r := ⟨_, rfl, by split <;> omega, by split <;> omega⟩
        rw [ex]
      case' refine_2 =>
        refine ⟨_, rfl, ?_⟩
        obtain ⟨Hc, eH, Sc⟩ : ∃ Hc, Hb = Hc ∧ Same Hb Hc := ⟨Hb, rfl, Same.refl _⟩
        obtain ⟨x, ex, x0, x1⟩ : ∃ x : Int, di = x ∧ 0 ≤ x ∧ x < r := ⟨_, rfl, by omega, by omega⟩
        rw [eH]
        have hd : V.int di = V.int x := by rw [ex]
        rw [hd]
      all_goals
        have hplc := Sc _ _ hplb
        have hptc := Sc _ _ hptb
        have xn : x.toNat < r := by omega
        have exn : ((x.toNat : Nat) : Int) = x := by omega
        have atx : atI ((row r pe).map V.int) x = some (.int (pe x.toNat)) := by rw [← exn]; exact at_row xn
        have ixx : ixN ((row r pe).map V.int).length x = some x.toNat := by
          have := ixN_nat (n := ((row r pe).map V.int).length) (v := x.toNat) (by rw [List.length_map, row_len]; exact xn)
          rw [exn] at this
          exact this
        obtain ⟨g1, g2⟩ := inc xn p0
        refine ⟨_, _, _, _, rfl, rfl, SqL.of (by assumption), by assumption, _, _, rfl, rfl, ?_⟩
        refine ⟨pl, _, _, x.toNat, rfl, rfl, hplc, ixx, ?_⟩
        rw [row_fset xn]
        refine ⟨(S'.trans (Sab.trans Sc)).upd npl, fset pe x.toNat (pe x.toNat + 1), rfl, upd_same, by rw [upd_ne plt.symm]; exact hptc, g1, by rw [g2, sp]⟩
    rintro σ Hc ⟨Sc', pe', rfl, hplc, hptc, p0', sp'⟩
    refine ⟨_, rfl, _, rfl, _, _, rfl, rfl, _, rfl, ?_⟩
    refine ite3 (fun _ => ?_) (fun _ => ?_)
    case' refine_1 =>
      refine ⟨_, rfl, _, rfl, _, rfl, ?_⟩
      refine ⟨_, _, _, rfl, by decide, by decide, by omega, fun d9 Hd a0' a1' Sd => ?_⟩
      refine ⟨_, _, rfl, ?_⟩
      obtain ⟨x, ex, x0, x1⟩ : ∃ x : Int, (if d9 < dj then d9 else dj) = x ∧ 0 ≤ x ∧ x < c := ⟨_, rfl, by split <;> omega, by split <;> omega⟩
      rw [ex]
    case' refine_2 =>
      refine ⟨_, rfl, ?_⟩
      obtain ⟨Hd, eH, Sd⟩ : ∃ Hd, Hc = Hd ∧ Same Hc Hd := ⟨Hc, rfl, Same.refl _⟩
      obtain ⟨x, ex, x0, x1⟩ : ∃ x : Int, dj = x ∧ 0 ≤ x ∧ x < c := ⟨_, rfl, by omega, by omega⟩
      rw [eH]
      have hd : V.int dj = V.int x := by rw [ex]
      rw [hd]
    all_goals
      have hpld := Sd _ _ hplc
      have hptd := Sd _ _ hptc
      have xn : x.toNat < c := by omega
      have exn : ((x.toNat : Nat) : Int) = x := by omega
      have atx : atI ((row c qe).map V.int) x = some (.int (qe x.toNat)) := by rw [← exn]; exact at_row xn
      have ixx : ixN ((row c qe).map V.int).length x = some x.toNat := by
        have := ixN_nat (n := ((row c qe).map V.int).length) (v := x.toNat) (by rw [List.length_map, row_len]; exact xn)
        rw [exn] at this
        exact this
      obtain ⟨g1, g2⟩ := inc xn q0
      refine ⟨_, _, _, _, rfl, rfl, SqL.of (by assumption), by assumption, _, _, rfl, rfl, ?_⟩
      refine ⟨pt, _, _, x.toNat, rfl, rfl, hptd, ixx, ?_⟩
      rw [row_fset xn]
      refine ⟨(Sc'.trans Sd).upd npt, pe', fset qe x.toNat (qe x.toNat + 1), _, _, _, _, _, rfl, by rw [upd_ne plt]; exact hpld, upd_same, p0', g1, by rw [sp']; omega, by rw [g2, sq]; omega⟩
  · rintro σ H' ⟨S', pe, qe, v5, v7, v13, v14, v15, rfl, hpl, hpt, p0, q0, sp, sq⟩
    refine ⟨_, rfl, _, rfl, _, rfl, ?_⟩
    refine ⟨(by show 3 ≤ sizeLine; decide), fun t Ht Nt => ?_⟩
    have le : ∀ {n : Nat} {f : Nat → Int}, (∀ i, i < n → 0 ≤ f i) → sumZ n f = m → ∀ i, i < n → 0 ≤ f i ∧ f i ≤ 300 := fun {n f} f0 fs i hi => by
      have h4 := sumZ_le (n := n) (f := fun y => if y = i then f i else 0) (g := f) fun y hy => by
        by_cases e : y = i
        · rw [if_pos e, e]; exact Int.le_refl _
        · rw [if_neg e]; exact f0 y hy
      have h5 := sumZ_upd (f := fun _ => 0) (g := fun y => if y = i then f i else 0) (k := i) (fun y hy => if_neg hy) n
      rw [sumZ_zero, if_pos hi, if_pos rfl] at h5
      exact ⟨f0 i hi, by omega⟩
    exact q t l pl pt as f r c pe qe Ht ((S4.trans S46).trans (S'.trans Nt.same)) Nt.at_ (mm6.same (S'.trans Nt.same)) (Nt.same _ _ hpl) (Nt.same _ _ hpt) r0 r1 c0 c1 bd ⟨le p0 sp, le q0 sq, by rw [sp, sq], by rw [sp]; omega⟩ plt
end
end K4
namespace K4
open PySem L2 SW
section
variable {P : Program} {w : World} {K : PySem.W.Frag} {mg : Str → Option Value} {base : Heap}
def noE (L : List Str) : List Str := L.filter fun z => decide (z ≠ Str.ofString "")
def spWords : Sp := fun vs H Q _ => ∃ (a : Str) (L : List Str), vs = [.str a] ∧ a.length + 2 ≤ sizeLine ∧ L ≠ [] ∧ (∀ x, x ∈ L → 32 ∉ cd x) ∧ cd a = J 32 (L.map cd) ∧ L.length ≤ sizeLine ∧ ∀ l H', Same H H' → H l = none → H' l = some (.lst ((noE L).map V.str)) → Q (.ref l) H'
theorem fil_str (L : List Str) : (L.map V.str).filter (fun v => decide (v ≠ V.str (Str.ofString ""))) = (noE L).map V.str := by
  rw [List.filter_map]
  unfold noE
  congr 1
  refine List.filter_congr fun z _ => ?_
  show decide (V.str z ≠ V.str (Str.ofString "")) = decide (z ≠ Str.ofString "")
  exact decide_eq_decide.mpr ⟨fun h e => h (by rw [e]), fun h e => h (V.str.inj e)⟩
theorem ok_words_of (T : Txt K mg) : FnOk P w K mg base CX0 1 T.a_words_of T.fd_words_of ["line"] spWords := by
  refine T.F_words_of.ok sc_words_of (fun vs H Q E h => ?_) (fun cdv A outer s H vs Q E hr h => ?_)
  · obtain ⟨a, L, rfl, _⟩ := h
    rfl
  obtain ⟨a, L, rfl, hz, hL, hf, e, lz, k⟩ := h
  refine ⟨_, (pss_one (ps_ret (pe_comp [1] rfl (blk_of rfl) (pi_listQ K (pe_bm PySem.F.plainAttrs_str PySem.F.slot_str_split PySem.F.type_str_split mt_split (pv 0) (pa_cons pe_str pa_nil))) (fun _ => (pg_name (i := 1) sc_words_of.nd rfl (Or.inl rfl))) (fun _ => pts_one (pt_cmpR op_ne (pv 1) pe_str (nomark _))) (fun _ => (pv 1))))), ?_⟩
  refine ⟨_, rfl, rfl, ?_⟩
  refine ⟨a, _, rfl, rfl, by decide, hz, fun l H1 N1 => ?_⟩
  have es : Txt.split a (Str.ofString " ") = L := split_of (c := 32) hL hf e
  rw [es] at N1
  refine ⟨l, rfl, ⟨_, SqL.of N1.at_⟩, ?_⟩
  refine comp_filL (fun v => decide (v ≠ V.str (Str.ofString ""))) (fun v => v) (SqL.of N1.at_) (by rw [List.length_map]; exact lz) (fun i x Q' hx hQ => ?_) (fun i x Q' hx _ hQ => ?_) fun l2 H2 N2 => ?_
  · obtain ⟨z, rfl⟩ : ∃ z, x = V.str z := by
      rw [List.getElem?_map] at hx
      cases e : L[i]? with
      | none => rw [e] at hx; cases hx
      | some z => rw [e] at hx; exact ⟨z, (Option.some.inj hx).symm⟩
    refine ⟨_, rfl, rfl, _, rfl, ?_⟩
    rw [decide_not] at hQ
    exact hQ
  · refine ⟨_, rfl, ?_⟩
    exact hQ
  · rw [List.map_id', fil_str] at N2
    exact k l2 H2 (N1.same.trans N2.same) (N1.same.free N2.gone) N2.at_
theorem occ_mem {b : Str} {c : Nat} (h : c ∈ cd b) : (!(Builtin.Str.occurrences b ⟨#[c]⟩ 0 b.length 1).isEmpty) = true := by
  rcases StrLaws.occ_head b ⟨#[c]⟩ 1 (Nat.le_refl 1) with ⟨_, hn⟩ | ⟨i, r, h0, _, _⟩
  · obtain ⟨i, hi⟩ := (PyProof.Rows.mem_iff_at b c).mp h
    exact absurd hi (hn i)
  · rw [h0]; rfl
def spIsOf : Sp := fun vs H Q _ => ∃ a b : Str, vs = [.str a, .str b] ∧ a ≠ Str.ofString "" ∧ a.cps.all (· < 128) = true ∧ a.length ≤ sizeLine ∧ (∀ c, c ∈ cd a → c ∈ cd b) ∧ ∀ H', Same H H' → Q (.bl true) H'
theorem ok_is_of (T : Txt K mg) : FnOk P w K mg base CX0 1 T.a_is_of T.fd_is_of ["word", "signs"] spIsOf := by
  refine T.F_is_of.ok sc_is_of (fun vs H Q E h => ?_) (fun cdv A outer s H vs Q E hr h => ?_)
  · obtain ⟨a, b, rfl, _⟩ := h
    rfl
  obtain ⟨a, b, rfl, ne, asc, hz, sub, k⟩ := h
  refine ⟨_, (pss_one (ps_ret (pe_and (pe_cmpR op_ne (pv 0) pe_str (nomark _)) (pe_one (pe_callB (all_Q K rfl) (by rfl) T.n_all PyProof.Rows.boot_all (pa_cons (pe_comp [2] rfl (blk_of rfl) (pi_str (pv 0)) (fun _ => (pg_name (i := 2) sc_is_of.nd rfl (Or.inl rfl))) (fun _ => pts_nil) (fun _ => (pe_cmpR op_in_str (pv 2) (pv 1) (by with_unfolding_all rfl)))) pa_nil)))))), ?_⟩
  refine ⟨_, rfl, rfl, _, rfl, ?_⟩
  rw [decide_eq_false (fun z => ne (V.str.inj z))]
  refine iteT ?_
  refine ⟨_, rfl, ?_⟩
  refine ⟨a, rfl, asc, ?_⟩
  refine comp_signs (fun c => .bl true) hz (fun i c Q' hc hQ => ?_) fun l H1 N1 => ?_
  · refine ⟨_, rfl, _, rfl, ?_⟩
    refine ⟨_, _, rfl, rfl, ?_⟩
    rw [occ_mem (sub c (List.mem_of_getElem? (i := i) (by show a.cps.toList[i]? = some c; rw [Array.getElem?_toList]; exact hc)))]
    exact hQ
  · have hl := N1.at_
    refine ⟨l, (cd a).map (fun _ => true), rfl, ?_, ?_⟩
    · rw [List.map_map]
      exact SqL.of hl
    · have : ((cd a).map fun _ => true).all id = true := by simp
      rw [this]
      exact k H1 N1.same
theorem lg {m : Nat} (h : m ≤ 10 ^ 9) : ((m : Nat) : Int).natAbs.log2 < 1920 := by
  show m.log2 < 1920
  by_cases h0 : m = 0
  · subst h0; decide
  · exact (Nat.log2_lt h0).mpr (Nat.lt_of_le_of_lt h (Nat.lt_of_lt_of_le (show 10 ^ 9 < 2 ^ 30 by decide) (Nat.pow_le_pow_right (by decide) (by decide))))
def spNum : Sp := fun vs H Q _ => ∃ (m mo : Nat) (at_ : Int), vs = [.str (Str.ofString (toString (m : Int))), .int (mo : Int), .int at_] ∧ m ≤ mo ∧ mo ≤ 10 ^ 9 ∧ ∀ H', Same H H' → Q (.int (m : Int)) H'
theorem ok_number_of (T : Txt K mg) : FnOk P w K mg base CX0 2 T.a_number_of T.fd_number_of ["word", "most", "at"] spNum := by
  refine T.F_number_of.ok sc_number_of (fun vs H Q E h => ?_) (fun cdv A outer s H vs Q E hr h => ?_)
  · obtain ⟨m, mo, at_, rfl, _⟩ := h
    rfl
  obtain ⟨m, mo, at_, rfl, hm, hmo, k⟩ := h
  refine ⟨_, (pss_cons (ps_meet (ps_if (PW.pt (pw_or (pt_not (pt_val (pe_call (ok_is_of T) (hr.mono (by decide)) rfl T.m_is_of T.F_is_of.kp T.b_is_of .nil pass0 (pa_cons (pv 0) (pa_cons (pe_glob (v := .str "0123456789") rfl T.m_FIGURES ⟨T.tk_FIGURES, rfl⟩) pa_nil))))) (pw_or1 (PW.pt (pw_and (pt_cmpR op_eq (pe_ix ix_str (pv 0) pe_int (fun _ _ => rfl)) pe_str (nomark _)) (pw_and1 (pt_cmpR op_ne (pv 0) pe_str (nomark _))))))))
      (pss_one ps_no)
      pss_nil))
      (pss_cons (ps_if (PW.pt (pw_or (pt_cmpR op_gt (pe_callB call_len_str (by rfl) T.n_len PySem.boot_len (pa_cons (pv 0) pa_nil)) (pe_callB call_len_str (by rfl) T.n_len PySem.boot_len (pa_cons (pe_callTy call_str_int (by rfl) T.n_str PyProof.Rows.boot_str (pa_cons (pv 1) pa_nil)) pa_nil)) (nomark _)) (pw_or1 (pt_cmpR op_gt (pe_callTy call_intS (by rfl) T.n_int PyProof.Rows.boot_int (pa_cons (pv 0) pa_nil)) (pv 1) (nomark _)))))
      (pss_one ps_no)
      pss_nil)
      (pss_one (ps_ret (pe_callTy call_intS (by rfl) T.n_int PyProof.Rows.boot_int (pa_cons (pv 0) pa_nil)))))), ?_⟩
  have c0 := cd_num m
  have wl1 : (Str.ofString (toString (m : Int))).length ≤ 10 := PySem.W.KT.len_num (by omega) (by omega)
  have rd : intText? (Str.ofString (toString (m : Int))) = some (m : Int) := PySem.W.KIN.num_reads (by omega) (by omega)
  have mo1 : (Str.ofString (toString (mo : Int))).length ≤ 10 := PySem.W.KT.len_num (by omega) (by omega)
  have le : (Str.ofString (toString (m : Int))).length ≤ (Str.ofString (toString (mo : Int))).length := by
    rw [← cd_len, ← cd_len, cd_num, cd_num]
    exact dg_mono hm
  generalize ew : Str.ofString (toString (m : Int)) = wd at *
  have wz : wd.length ≤ sizeLine := Nat.le_trans wl1 (by decide)
  have wne : wd ≠ Str.ofString "" := fun z => dg_ne m (by rw [← c0, z]; rfl)
  have wasc : wd.cps.all (· < 128) = true := by
    rw [← Array.all_toList]
    exact List.all_eq_true.mpr fun c hc => decide_eq_true (by have := dg_all m c (by rw [← c0]; exact hc); omega)
  have wfig : ∀ c, c ∈ cd wd → c ∈ cd (Str.ofString "0123456789") := fun c hc => by
    rw [c0] at hc
    obtain ⟨h1, h2⟩ := dg_all m c hc
    have : cd (Str.ofString "0123456789") = [48, 49, 50, 51, 52, 53, 54, 55, 56, 57] := by decide +kernel
    rw [this]
    have : c = 48 ∨ c = 49 ∨ c = 50 ∨ c = 51 ∨ c = 52 ∨ c = 53 ∨ c = 54 ∨ c = 55 ∨ c = 56 ∨ c = 57 := by omega
    rcases this with rfl | rfl | rfl | rfl | rfl | rfl | rfl | rfl | rfl | rfl <;> simp
  refine ⟨fun σ H' => Same H H' ∧ σ = [some (.str wd), some (.int (mo : Int)), some (.int at_)], ?_, ?_⟩
  · refine ⟨_, rfl, ?_⟩
    refine ⟨wd, _, rfl, wne, wasc, wz, wfig, fun H1 S1 => ?_⟩
    refine ⟨_, rfl, ?_⟩
    refine iteF ?_
    refine ⟨_, rfl, ?_⟩
    obtain ⟨c, r, ec⟩ : ∃ c r, dg m = c :: r := by
      cases e : dg m with
      | nil => exact absurd e (dg_ne m)
      | cons c r => exact ⟨c, r, rfl⟩
    refine ⟨wd, 0, c, rfl, rfl, wz, ?_, ?_⟩
    · show atI (cd wd) 0 = some c
      rw [c0, ec]
      exact atI_of (Int.le_refl 0) rfl
    refine ⟨rfl, _, rfl, ?_⟩
    by_cases hm0 : m = 0
    · have ed : wd = Str.ofString "0" := cd_inj (by rw [c0, hm0, dg_low (by decide)]; decide +kernel)
      have ec0 : c = 48 := by rw [hm0, dg_low (by decide)] at ec; exact (List.cons.inj ec).1.symm
      subst ec0
      refine iteDT (by decide +kernel) ?_
      refine ⟨_, rfl, rfl, _, rfl, ?_⟩
      rw [ed, decide_eq_true rfl]
      refine iteF ?_
      exact ⟨S1, rfl⟩
    · obtain ⟨c', r', e', h49⟩ := dg_head (show 0 < m by omega)
      rw [ec] at e'
      have ecc := (List.cons.inj e').1
      have : (⟨#[c]⟩ : Str) ≠ Str.ofString "0" := fun z => by
        have z := congrArg cd z
        have z1 : cd (⟨#[c]⟩ : Str) = [c] := rfl
        have z2 : cd (Str.ofString "0") = [48] := by decide +kernel
        rw [z1, z2] at z
        have := (List.cons.inj z).1
        omega
      refine iteDF (fun z => this (V.str.inj z)) (iteF ?_)
      exact ⟨S1, rfl⟩
  rintro σ H1 ⟨S1, rfl⟩
  refine ⟨_, rfl, ?_⟩
  refine ⟨wd, rfl, wz, ?_⟩
  refine ⟨_, rfl, ?_⟩
  refine ⟨_, rfl, lg hmo, ?_⟩
  refine ⟨_, rfl, Nat.le_trans mo1 (by decide), ?_⟩
  refine ⟨_, _, rfl, rfl, _, rfl, ?_⟩
  refine iteDF (by omega) ?_
  refine ⟨_, rfl, ?_⟩
  refine ⟨wd, _, rfl, rd, by omega, ?_⟩
  refine ⟨_, rfl, _, _, rfl, rfl, _, rfl, ?_⟩
  refine iteDF (by omega) ?_
  refine ⟨_, rfl, ?_⟩
  exact ⟨wd, _, rfl, rd, by omega, k H1 S1⟩
end
end K4
namespace SW
open PySem L2
structure NameOk (a : Str) : Prop where
  ne : cd a ≠ []
  let' : ∀ c, c ∈ cd a → 97 ≤ c ∧ c ≤ 122
  le : a.length ≤ 8
theorem str_flat (ns : List Str) : (ns.map V.str).all flatV = true := by
  induction ns with
  | nil => rfl
  | cons a l ih => rw [List.map_cons, List.all_cons, ih]; rfl
theorem str_in {ns : List Str} {v : Str} : inV (.str v) (ns.map V.str) = decide (v ∈ ns) := by
  unfold inV
  rw [List.any_map]
  rw [Bool.eq_iff_iff, List.any_eq_true, decide_eq_true_iff]
  constructor
  · rintro ⟨x, hx, e⟩
    have e : (x == v) = true := e
    rw [← beq_iff_eq.mp e]
    exact hx
  · intro h
    exact ⟨v, h, by show (v == v) = true; simp⟩
end SW
namespace K4
open PySem L2 SW
section
variable {P : Program} {w : World} {K : PySem.W.Frag} {mg : Str → Option Value} {base : Heap}
inductive TnOk (H : Hp) : List V → Addr → Addr → List Str → List Int → Str → Nat → Prop where
  | mk {word nm : Str} {m : Nat} {nl sl : Addr} {ns : List Str} {ss : List Int} {at_ : Int} (e : cd word = cd nm ++ 40 :: (dg m ++ [41])) (ok : NameOk nm) (new : nm ∉ ns) (few : ns.length < 12) (fs : ss.length < 12) (hm : m ≤ 300) (hn : H nl = some (.lst (ns.map V.str))) (hs : H sl = some (.lst (ss.map V.int))) (ne : nl ≠ sl) : TnOk H [.str word, .ref nl, .ref sl, .int at_] nl sl ns ss nm m
def spTakeN : Sp := fun vs H Q _ => ∃ nl sl ns ss nm m, TnOk H vs nl sl ns ss nm m ∧ ∀ H', H' nl = some (.lst ((ns ++ [nm]).map V.str)) → H' sl = some (.lst ((ss ++ [(m : Int)]).map V.int)) → (∀ x o, H x = some o → x ≠ nl → x ≠ sl → H' x = some o) → Q .non H'
theorem ok_take_name (T : Txt K mg) : FnOk P w K mg base CX0 3 T.a_take_name T.fd_take_name ["word", "names", "seats", "at"] spTakeN := by
  refine T.F_take_name.ok sc_take_name (fun vs H Q E h => ?_) (fun cdv A outer s H vs Q E hr h => ?_)
  · obtain ⟨_, _, _, _, _, _, ⟨_⟩, _⟩ := h
    rfl
  obtain ⟨nl, sl, ns, ss, nm, m, @⟨word, _, _, _, _, _, _, at_, e, ok, new, few, fs, hm, hn, hs, ne⟩, k⟩ := h
  refine ⟨_, (pss_cons (ps_set (i := 4) sc_take_name.nd rfl (Or.inl rfl) (pe_bm PySem.F.plainAttrs_str PySem.F.slot_str_partition PySem.F.type_str_partition mt_partition (pv 0) (pa_cons pe_str pa_nil)))
      (pss_cons (ps_set (i := 5) sc_take_name.nd rfl (Or.inl rfl) (pe_ix (ix_Q K) (pv 4) pe_int (fun _ _ => rfl)))
      (pss_cons (ps_if (PW.pt (pw_or (pt_not (pt_val (pe_call (ok_is_of T) (hr.mono (by decide)) rfl T.m_is_of T.F_is_of.kp T.b_is_of .nil pass0 (pa_cons (pv 5) (pa_cons (pe_glob (v := .str "abcdefghijklmnopqrstuvwxyz") rfl T.m_LETTERS ⟨T.tk_LETTERS, rfl⟩) pa_nil))))) (pw_or (pt_cmpR op_gt (pe_callB call_len_str (by rfl) T.n_len PySem.boot_len (pa_cons (pv 5) pa_nil)) (pe_glob (v := .int 8) rfl T.m_LONGEST_NAME ⟨T.tk_LONGEST_NAME, rfl⟩) (nomark _)) (pw_or1 (pt_not (pt_val (pe_bm PySem.F.plainAttrs_str PySem.F.slot_str_endswith PySem.F.type_str_endswith mt_endswith (pe_ix (ix_Q K) (pv 4) pe_int (fun _ _ => rfl)) (pa_cons pe_str pa_nil))))))))
      (pss_one ps_no)
      pss_nil)
      (pss_cons (ps_if (PW.pt (pw_or (pt_cmpR (in_Q K) (pv 5) (pv 1) (by with_unfolding_all rfl)) (pw_or1 (pt_cmpR op_eqI (pe_callB (len_Q K) (by rfl) T.n_len PySem.boot_len (pa_cons (pv 1) pa_nil)) (pe_glob (v := .int 12) rfl T.m_MOST_NAMES ⟨T.tk_MOST_NAMES, rfl⟩) (nomark _)))))
      (pss_one ps_no)
      pss_nil)
      (pss_cons (ps_expr (pe_bm PySem.F.plainAttrs_list PySem.F.slot_list_append PySem.F.type_list_append mt_append (pv 1) (pa_cons (pv 5) pa_nil)))
      (pss_one (ps_expr (pe_bm PySem.F.plainAttrs_list PySem.F.slot_list_append PySem.F.type_list_append mt_append (pv 2) (pa_cons (pe_call (ok_number_of T) (hr.mono (by decide)) rfl T.m_number_of T.F_number_of.kp T.b_number_of .nil pass0 (pa_cons (pe_slice sl_str (pe_ix (ix_Q K) (pv 4) pe_int (fun _ _ => rfl)) po_none (po_some (pe_un un_neg pe_int))) (pa_cons (pe_glob (v := .int 300) rfl T.m_MOST_SEATS ⟨T.tk_MOST_SEATS, rfl⟩) (pa_cons (pv 3) pa_nil)))) pa_nil))))))))), ?_⟩
  have wl : word.length = nm.length + 1 + ((dg m).length + 1) := by
    rw [← cd_len, e, ← cd_len]
    simp
    omega
  have dl : (dg m).length ≤ 10 := by
    rw [← cd_num, cd_len]
    exact PySem.W.KT.len_num (by omega) (by omega)
  have ok8 := ok.le
  have no40 : 40 ∉ cd nm := fun z => by have := ok.let' 40 z; omega
  have ep := partition_of no40 e
  rw [mk_cd] at ep
  refine ⟨_, rfl, rfl, ?_⟩
  refine ⟨word, _, rfl, rfl, by decide, Nat.le_trans (show word.length ≤ 30 by omega) (by decide), fun t H1 N1 => ?_⟩
  have ep' : Txt.partition word (Str.ofString "(") = (nm, ⟨#[40]⟩, mkS (dg m ++ [41])) := ep
  rw [ep'] at N1
  have ht := N1.at_
  dsimp only at ht
  have nz : nm.length ≤ sizeLine := Nat.le_trans ok8 (by decide)
  have nne : nm ≠ Str.ofString "" := fun z => ok.ne (by rw [z]; rfl)
  have nasc : nm.cps.all (· < 128) = true := by
    rw [← Array.all_toList]
    exact List.all_eq_true.mpr fun c hc => decide_eq_true (by have := ok.let' c hc; omega)
  have nlet : ∀ c, c ∈ cd nm → c ∈ cd (Str.ofString "abcdefghijklmnopqrstuvwxyz") := fun c hc => by
    obtain ⟨h1, h2⟩ := ok.let' c hc
    have : cd (Str.ofString "abcdefghijklmnopqrstuvwxyz") = (List.range 26).map (97 + ·) := by decide +kernel
    rw [this]
    exact List.mem_map.mpr ⟨c - 97, List.mem_range.mpr (by omega), by omega⟩
  refine ⟨_, rfl, _, _, _, _, rfl, rfl, Or.inr (SqT.of (by assumption)), rfl, _, rfl, ?_⟩
  refine ⟨nm, _, rfl, nne, nasc, nz, nlet, fun H2 S2 => ?_⟩
  have ht2 := S2 _ _ ht
  have hn2 := (N1.same.trans S2) _ _ hn
  have hs2 := (N1.same.trans S2) _ _ hs
  refine ⟨_, rfl, ?_⟩
  refine iteF ?_
  refine ⟨_, rfl, ?_⟩
  refine ⟨_, rfl, nz, ?_⟩
  refine ⟨_, _, rfl, rfl, _, rfl, ?_⟩
  refine iteDF (by omega) ?_
  refine ⟨_, rfl, _, _, _, _, rfl, rfl, Or.inr (SqT.of (by assumption)), rfl, ?_⟩
  refine ⟨rfl, ?_⟩
  refine ⟨_, _, rfl, rfl, ?_⟩
  have ee : cd (mkS (dg m ++ [41])) = dg m ++ [41] := cd_mk _
  have e41 : (decide (0 + (Str.ofString ")").length ≤ (mkS (dg m ++ [41])).length) && Builtin.Str.subAt (mkS (dg m ++ [41])) (Str.ofString ")") ((mkS (dg m ++ [41])).length - (Str.ofString ")").length)) = true := ends_of (c := 41) ee
  rw [e41]
  refine ⟨_, rfl, ?_⟩
  refine iteF ?_
  refine ⟨_, rfl, _, rfl, ?_⟩
  refine ⟨nl, _, rfl, .inl (SqL.of hn2), rfl, str_flat _, ?_⟩
  rw [if_neg Bool.false_ne_true, str_in, decide_eq_false new]
  refine ⟨_, rfl, ?_⟩
  refine iteF ?_
  refine ⟨_, rfl, _, _, rfl, Or.inl (SqL.of (by assumption)), _, _, rfl, rfl, _, rfl, ?_⟩
  rw [List.length_map]
  refine iteDF (by omega) ?_
  refine ⟨_, rfl, ?_⟩
  refine ⟨.inl ⟨rfl, _, SqL.of hn2⟩, ?_⟩
  refine ⟨_, rfl, ?_⟩
  refine ⟨nl, _, _, rfl, rfl, hn2, ?_, ?_⟩
  · rw [List.length_map]
    exact Nat.lt_of_lt_of_le few (by decide)
  have hs3 : upd H2 nl (.lst (ns.map V.str ++ [.str nm])) sl = _ := (upd_ne ne.symm).trans hs2
  have ht3 : upd H2 nl (.lst (ns.map V.str ++ [.str nm])) t = _ := (upd_ne (ne_of ht2 hn2 (by intro z; cases z))).trans ht2
  have hn3 : upd H2 nl (.lst (ns.map V.str ++ [.str nm])) nl = _ := upd_same
  have fr3 : ∀ x o, H x = some o → x ≠ nl → upd H2 nl (.lst (ns.map V.str ++ [.str nm])) x = some o := fun x o hx hxn => (upd_ne hxn).trans ((N1.same.trans S2) _ _ hx)
  generalize upd H2 nl (.lst (ns.map V.str ++ [.str nm])) = H3 at *
  refine ⟨_, rfl, ?_⟩
  refine ⟨.inl ⟨rfl, _, SqL.of hs3⟩, ?_⟩
  refine ⟨_, rfl, _, _, _, _, rfl, rfl, Or.inr (SqT.of (by assumption)), rfl, _, rfl, _, rfl, ?_⟩
  refine ⟨_, rfl, ?_, ?_⟩
  · rw [← cd_len, ee, List.length_append]
    exact Nat.le_trans (show (dg m).length + 1 ≤ 20 by omega) (by decide)
  have esl : Txt.slice (mkS (dg m ++ [41])) none (some (-1)) = Str.ofString (toString (m : Int)) := by
    rw [slice_init ee]
    exact cd_inj (by rw [cd_mk, cd_num])
  rw [esl]
  refine ⟨_, rfl, ?_⟩
  refine ⟨m, 300, at_, rfl, hm, by decide, fun H4 S4 => ?_⟩
  have hs4 := S4 _ _ hs3
  refine ⟨sl, _, _, rfl, rfl, hs4, ?_, ?_⟩
  · rw [List.length_map]
    exact Nat.lt_of_lt_of_le fs (by decide)
  refine k _ ?_ ?_ fun x o hx h1 h2 => ?_
  · rw [upd_ne ne, S4 _ _ hn3, List.map_append]
    rfl
  · rw [upd_same, List.map_append]
    rfl
  · rw [upd_ne h2]
    exact S4 _ _ (fr3 x o hx h1)
end
end K4
namespace SW
open PySem L2
def tabF (a1 a2 a3 a4 a5 : Addr) : List (Str × V) := [("places", .ref a1), ("parties", .ref a2), ("rows", .ref a3), ("columns", .ref a4), ("votes", .ref a5)]
end SW
namespace K4
open PySem L2 SW
section
variable {P : Program} {w : World} {K : PySem.W.Frag} {mg : Str → Option Value} {base : Heap}
def spTabInit (cT : Addr) : Sp := fun vs H Q _ => ∃ (p dx a1 a2 a3 a4 a5 : Addr), vs = [.ref p, .ref a1, .ref a2, .ref a3, .ref a4, .ref a5] ∧ H p = some (.ins cT dx []) ∧
  ∀ H' : Hp, (∀ x o, H x = some o → x ≠ p → H' x = some o) → H' p = some (.ins cT dx (tabF a1 a2 a3 a4 a5)) → (∀ x, H x = none → H' x = none) → Q .non H'
theorem ok_Table_init (T : Txt K mg) : FnOk P w K mg base CX0 1 T.a_Table_init T.fd_Table_init ["self", "places", "parties", "rows", "columns", "votes"] (spTabInit T.c_Table) := by
  refine T.F_Table_init.ok sc_Table_init (fun vs H Q E h => ?_) (fun cdv A outer s H vs Q E hr h => ?_)
  · obtain ⟨p, dx, a1, a2, a3, a4, a5, rfl, _⟩ := h
    rfl
  obtain ⟨p, dx, a1, a2, a3, a4, a5, rfl, hp, q⟩ := h
  refine ⟨_, (pss_cons (ps_fld (pv 0) (pv 1) rfl)
      (pss_cons (ps_fld (pv 0) (pv 2) rfl)
      (pss_cons (ps_fld (pv 0) (pv 3) rfl)
      (pss_cons (ps_fld (pv 0) (pv 4) rfl)
      (pss_one (ps_fld (pv 0) (pv 5) rfl)))))), ?_⟩
  refine ⟨_, rfl, _, rfl, ?_⟩
  refine ⟨p, T.c_Table, dx, _, rfl, hp, T.cl_Table, T.na_Table_places, (by decide), ?_⟩
  refine ⟨_, rfl, _, rfl, ?_⟩
  refine ⟨p, T.c_Table, dx, _, rfl, upd_same, T.cl_Table, T.na_Table_parties, (by show 1 < 1000; decide), ?_⟩
  refine ⟨_, rfl, _, rfl, ?_⟩
  refine ⟨p, T.c_Table, dx, _, rfl, upd_same, T.cl_Table, T.na_Table_rows, (by show 2 < 1000; decide), ?_⟩
  refine ⟨_, rfl, _, rfl, ?_⟩
  refine ⟨p, T.c_Table, dx, _, rfl, upd_same, T.cl_Table, T.na_Table_columns, (by show 3 < 1000; decide), ?_⟩
  refine ⟨_, rfl, _, rfl, ?_⟩
  refine ⟨p, T.c_Table, dx, _, rfl, upd_same, T.cl_Table, T.na_Table_votes, (by show 4 < 1000; decide), ?_⟩
  have ne : ∀ x, H x = none → x ≠ p := fun x e z => by rw [z, hp] at e; cases e
  refine q _ (fun x o e hx => ?_) upd_same fun x e => ?_
  · rw [upd_ne hx, upd_ne hx, upd_ne hx, upd_ne hx, upd_ne hx]
    exact e
  · have hx := ne x e
    rw [upd_ne hx, upd_ne hx, upd_ne hx, upd_ne hx, upd_ne hx]
    exact e
end
end K4
namespace SW
open PySem L2
theorem cut_from {xs : List V} {k : Nat} (h : k ≤ xs.length) : cutV xs (some (k : Int)) none = xs.drop k := by
  unfold cutV
  have e1 : HT.sIx xs.length 0 (some (k : Int)) = k := by
    simp only [HT.sIx]
    split <;> omega
  have e2 : HT.sIx xs.length xs.length none = xs.length := rfl
  rw [e1, e2, List.take_of_length_le (by rw [List.length_drop]; omega)]
theorem comp_mapS {K : PySem.W.Frag} {te : TE} {σ : St} {j : Nat} {R : List V → Hp → Prop} {H1 : Hp} {a : Addr} {xs : List V} (f : V → V) (hl : SqL K H1 a xs) (hz : xs.length ≤ sizeLine)
    (hs : ∀ (i : Nat) (x : V) (H : Hp) (Q : VK), xs[i]? = some x → Same H1 H → (∀ H', Same H H' → Q (f x) H') → te (σ.set j (some x)) H Q) (hd : ∀ H, Same H1 H → R (xs.map f) H) : ∃ a', V.ref a = .ref a' ∧ (∃ xs, SqL K H1 a' xs) ∧ CompW (Itl K a') (gName j) tYes te (wipe [j] σ) R H1 := by
  refine ⟨a, rfl, ⟨_, hl⟩, ?_⟩
  refine comp_list (fun i ys H => Same H1 H ∧ ys = (xs.take i).map f) hz ⟨Same.refl _, rfl⟩ (fun i ys H _ h => h.1.seq hl) (fun i x ys H e h => ?_) (fun ys H h => ?_)
  · obtain ⟨S2, rfl⟩ := h
    exact yes (hs i x H _ e S2 fun H' S' => ⟨S2.trans S', take_map f e⟩)
  · obtain ⟨S2, rfl⟩ := h
    rw [List.take_length]
    exact hd H S2
structure TabH (cT : Addr) (H : Hp) (p dx a1 a2 a3 a4 a5 : Addr) (bs : List Addr) (Pn Nn : List Str) (Rs Cs : List Int) (Vs : List (List Int)) : Prop where
  ob : H p = some (.ins cT dx (tabF a1 a2 a3 a4 a5))
  pl : H a1 = some (.lst (Pn.map V.str))
  pa : H a2 = some (.lst (Nn.map V.str))
  ro : H a3 = some (.lst (Rs.map V.int))
  co : H a4 = some (.lst (Cs.map V.int))
  vo : H a5 = some (.lst (bs.map V.ref))
  lb : bs.length = Vs.length
  vr : ∀ (i : Nat) (b : Addr) (v : List Int), bs[i]? = some b → Vs[i]? = some v → H b = some (.lst (v.map V.int))
  nd : [a1, a2, a3, a4, a5].Nodup
  nb : ∀ b, b ∈ bs → b ∉ [a1, a2, a3, a4, a5]
theorem TabH.same {cT : Addr} {H H' : Hp} {p dx a1 a2 a3 a4 a5 : Addr} {bs : List Addr} {Pn Nn : List Str} {Rs Cs : List Int} {Vs : List (List Int)} (t : TabH cT H p dx a1 a2 a3 a4 a5 bs Pn Nn Rs Cs Vs) (S : Same H H') : TabH cT H' p dx a1 a2 a3 a4 a5 bs Pn Nn Rs Cs Vs :=
  ⟨S _ _ t.ob, S _ _ t.pl, S _ _ t.pa, S _ _ t.ro, S _ _ t.co, S _ _ t.vo, t.lb, fun i b v e1 e2 => S _ _ (t.vr i b v e1 e2), t.nd, t.nb⟩
theorem ne_ins {H : Hp} {p q c dx : Addr} {fs : List (Str × V)} {xs : List V} (h1 : H p = some (.ins c dx fs)) (h2 : H q = some (.lst xs)) : p ≠ q := ne_of h1 h2 (by intro z; cases z)
theorem TabH.grow {cT : Addr} {H H' : Hp} {p dx a1 a2 a3 a4 a5 : Addr} {bs : List Addr} {Pn Pn' Nn : List Str} {Rs Rs' Cs : List Int} {Vs : List (List Int)} (t : TabH cT H p dx a1 a2 a3 a4 a5 bs Pn Nn Rs Cs Vs) (h1 : H' a1 = some (.lst (Pn'.map V.str))) (h3 : H' a3 = some (.lst (Rs'.map V.int))) (fr : ∀ x o, H x = some o → x ≠ a1 → x ≠ a3 → H' x = some o) : TabH cT H' p dx a1 a2 a3 a4 a5 bs Pn' Nn Rs' Cs Vs := by
  have nd := t.nd
  simp only [List.nodup_cons, List.mem_cons, List.not_mem_nil, or_false, not_or, not_false_eq_true, List.nodup_nil, and_true] at nd
  obtain ⟨⟨n12, n13, n14, n15⟩, ⟨n23, n24, n25⟩, ⟨n34, n35⟩, n45⟩ := nd
  refine ⟨fr _ _ t.ob (ne_ins t.ob t.pl) (ne_ins t.ob t.ro), h1, fr _ _ t.pa (Ne.symm n12) n23, h3, fr _ _ t.co (Ne.symm n14) (Ne.symm n34), fr _ _ t.vo (Ne.symm n15) (Ne.symm n35), t.lb, fun i b v e1 e2 => ?_, t.nd, t.nb⟩
  have hb := t.nb b (List.mem_of_getElem? e1)
  exact fr _ _ (t.vr i b v e1 e2) (fun z => hb (by simp [z])) (fun z => hb (by simp [z]))
theorem TabH.head {cT : Addr} {H H' : Hp} {p dx a1 a2 a3 a4 a5 : Addr} {bs : List Addr} {Pn Nn Nn' : List Str} {Rs Cs Cs' : List Int} {Vs : List (List Int)} (t : TabH cT H p dx a1 a2 a3 a4 a5 bs Pn Nn Rs Cs Vs) (h1 : H' a2 = some (.lst (Nn'.map V.str))) (h3 : H' a4 = some (.lst (Cs'.map V.int))) (fr : ∀ x o, H x = some o → x ≠ a2 → x ≠ a4 → H' x = some o) : TabH cT H' p dx a1 a2 a3 a4 a5 bs Pn Nn' Rs Cs' Vs := by
  have nd := t.nd
  simp only [List.nodup_cons, List.mem_cons, List.not_mem_nil, or_false, not_or, not_false_eq_true, List.nodup_nil, and_true] at nd
  obtain ⟨⟨n12, n13, n14, n15⟩, ⟨n23, n24, n25⟩, ⟨n34, n35⟩, n45⟩ := nd
  refine ⟨fr _ _ t.ob (ne_ins t.ob t.pa) (ne_ins t.ob t.co), fr _ _ t.pl n12 n14, h1, fr _ _ t.ro (Ne.symm n23) n34, h3, fr _ _ t.vo (Ne.symm n25) (Ne.symm n45), t.lb, fun i b v e1 e2 => ?_, t.nd, t.nb⟩
  have hb := t.nb b (List.mem_of_getElem? e1)
  exact fr _ _ (t.vr i b v e1 e2) (fun z => hb (by simp [z])) (fun z => hb (by simp [z]))
theorem TabH.row {cT : Addr} {H : Hp} {p dx a1 a2 a3 a4 a5 b : Addr} {bs : List Addr} {Pn Nn : List Str} {Rs Cs : List Int} {Vs : List (List Int)} {v : List Int} (t : TabH cT H p dx a1 a2 a3 a4 a5 bs Pn Nn Rs Cs Vs) (hb : H b = some (.lst (v.map V.int))) (nb : b ∉ [a1, a2, a3, a4, a5]) : TabH cT (upd H a5 (.lst (bs.map V.ref ++ [.ref b]))) p dx a1 a2 a3 a4 a5 (bs ++ [b]) Pn Nn Rs Cs (Vs ++ [v]) := by
  have nd := t.nd
  simp only [List.nodup_cons, List.mem_cons, List.not_mem_nil, or_false, not_or, not_false_eq_true, List.nodup_nil, and_true] at nd
  obtain ⟨⟨n12, n13, n14, n15⟩, ⟨n23, n24, n25⟩, ⟨n34, n35⟩, n45⟩ := nd
  refine ⟨(upd_ne (ne_ins t.ob t.vo)).trans t.ob, (upd_ne n15).trans t.pl, (upd_ne n25).trans t.pa, (upd_ne n35).trans t.ro, (upd_ne n45).trans t.co, by rw [upd_same, List.map_append]; rfl, by simp [t.lb], fun i c u e1 e2 => ?_, t.nd, fun c hc => ?_⟩
  · by_cases hi : i < bs.length
    · rw [List.getElem?_append_left hi] at e1
      rw [List.getElem?_append_left (by rw [← t.lb]; exact hi)] at e2
      have hb := t.nb c (List.mem_of_getElem? e1)
      exact (upd_ne (fun z => hb (by simp [z]))).trans (t.vr i c u e1 e2)
    · rw [List.getElem?_append_right (by omega)] at e1
      rw [List.getElem?_append_right (by rw [← t.lb]; omega), ← t.lb] at e2
      have hz : i - bs.length = 0 := by have := (List.getElem?_eq_some_iff.mp e1).1; simp at this; omega
      rw [hz] at e1 e2
      have e1 : b = c := by simpa using e1
      have e2 : v = u := by simpa using e2
      subst e1 e2
      exact (upd_ne (fun z => nb (by simp [z]))).trans hb
  · rcases List.mem_append.mp hc with h | h
    · exact t.nb c h
    · have : c = b := by simpa using h
      rw [this]
      exact nb
end SW
namespace K4
open PySem L2 SW
section
variable {P : Program} {w : World} {K : PySem.W.Frag} {mg : Str → Option Value} {base : Heap}
def numS (z : Nat) : Str := Str.ofString (toString (z : Int))
def nI (l : List Nat) : List Int := l.map fun (z : Nat) => (z : Int)
def numV : V → V
  | .str z => .int ((intText? z).getD 0)
  | v => v
theorem numV_num {z : Nat} (h : z ≤ 10 ^ 9) : numV (.str (numS z)) = .int (z : Int) := by
  show V.int ((intText? (numS z)).getD 0) = _
  unfold numS
  rw [PySem.W.KIN.num_reads (by omega) (by omega)]
  rfl
theorem numV_all : ∀ {ms : List Nat}, (∀ z, z ∈ ms → z ≤ 10 ^ 9) → ((ms.map numS).map V.str).map numV = (nI ms).map V.int
  | [], _ => rfl
  | z :: ms, h => by
    unfold nI
    rw [List.map_cons, List.map_cons, List.map_cons, List.map_cons, List.map_cons, numV_num (h z (by simp)), numV_all fun y hy => h y (by simp [hy])]
    rfl
structure TpOk (T : Txt K mg) (H : Hp) (wl p dx a1 a2 a3 a4 a5 : Addr) (bs : List Addr) (Pn Nn : List Str) (Rs Cs : List Int) (Vs : List (List Int)) (word nm : Str) (m : Nat) (ms : List Nat) : Prop where
  hw : H wl = some (.lst ((word :: ms.map numS).map V.str))
  t : TabH T.c_Table H p dx a1 a2 a3 a4 a5 bs Pn Nn Rs Cs Vs
  nw : wl ∉ [a1, a2, a3, a4, a5]
  e : cd word = cd nm ++ 40 :: (dg m ++ [41])
  ok : NameOk nm
  new : nm ∉ Pn
  few : Pn.length < 12
  fs : Rs.length < 12
  hm : m ≤ 300
  lm : ms.length = Nn.length
  ln : Nn.length ≤ 12
  hv : ∀ z, z ∈ ms → z ≤ 10 ^ 9
  lb : bs.length < 12
def spTakeP (T : Txt K mg) : Sp := fun vs H Q _ => ∃ (wl p dx a1 a2 a3 a4 a5 : Addr) (bs : List Addr) (Pn Nn : List Str) (Rs Cs : List Int) (Vs : List (List Int)) (word nm : Str) (m : Nat) (ms : List Nat) (at_ : Int), vs = [.ref wl, .ref p, .int at_] ∧ TpOk T H wl p dx a1 a2 a3 a4 a5 bs Pn Nn Rs Cs Vs word nm m ms ∧
  ∀ (H' : Hp) (b : Addr), TabH T.c_Table H' p dx a1 a2 a3 a4 a5 (bs ++ [b]) (Pn ++ [nm]) Nn (Rs ++ [(m : Int)]) Cs (Vs ++ [nI ms]) → H b = none → (∀ x o, H x = some o → x ≠ a1 → x ≠ a3 → x ≠ a5 → H' x = some o) → Q .non H'
theorem ok_take_place (T : Txt K mg) : FnOk P w K mg base CX0 4 T.a_take_place T.fd_take_place ["words", "table", "at"] (spTakeP T) := by
  refine T.F_take_place.ok sc_take_place (fun vs H Q E h => ?_) (fun cdv A outer s H vs Q E hr h => ?_)
  · obtain ⟨wl, p, dx, a1, a2, a3, a4, a5, bs, Pn, Nn, Rs, Cs, Vs, word, nm, m, ms, at_, rfl, _⟩ := h
    rfl
  obtain ⟨wl, p, dx, a1, a2, a3, a4, a5, bs, Pn, Nn, Rs, Cs, Vs, word, nm, m, ms, at_, rfl, o, k⟩ := h
  refine ⟨_, (pss_cons (ps_expr (pe_call (ok_take_name T) (hr.mono (by decide)) rfl T.m_take_name T.F_take_name.kp T.b_take_name .nil pass0 (pa_cons (pe_ix (ix_Q K) (pv 0) pe_int (fun _ _ => rfl)) (pa_cons (pe_fldR K (pv 1) rfl) (pa_cons (pe_fldR K (pv 1) rfl) (pa_cons (pv 2) pa_nil))))))
      (pss_cons (ps_if (pt_cmpR op_neI (pe_op op_sub (pe_callB (len_Q K) (by rfl) T.n_len PySem.boot_len (pa_cons (pv 0) pa_nil)) pe_int) (pe_callB (len_Q K) (by rfl) T.n_len PySem.boot_len (pa_cons (pe_fldR K (pv 1) rfl) pa_nil)) (nomark _))
      (pss_one ps_no)
      pss_nil)
      (pss_one (ps_expr (pe_bm PySem.F.plainAttrs_list PySem.F.slot_list_append PySem.F.type_list_append mt_append (pe_fldR K (pv 1) rfl) (pa_cons (pe_comp [3] rfl (blk_of rfl) (pi_listQ K (pe_slice (sl_Q K) (pv 0) (po_some pe_int) po_none)) (fun _ => (pg_name (i := 3) sc_take_place.nd rfl (Or.inl rfl))) (fun _ => pts_nil) (fun _ => (pe_call (ok_number_of T) (hr.mono (by decide)) rfl T.m_number_of T.F_number_of.kp T.b_number_of .nil pass0 (pa_cons (pv 3) (pa_cons (pe_glob (v := .int 1000000000) rfl T.m_MOST_VOTES ⟨T.tk_MOST_VOTES, rfl⟩) (pa_cons (pv 2) pa_nil)))))) pa_nil)))))), ?_⟩
  have hw := o.hw
  have t := o.t
  have ob := t.ob
  have at0 : atI ((word :: ms.map numS).map V.str) 0 = some (.str word) := atI_of (Int.le_refl 0) rfl
  have nd := t.nd
  have nw := o.nw
  simp only [List.nodup_cons, List.mem_cons, List.not_mem_nil, or_false, not_or, not_false_eq_true, List.nodup_nil, and_true] at nd nw
  obtain ⟨⟨n12, n13, n14, n15⟩, ⟨n23, n24, n25⟩, ⟨n34, n35⟩, n45⟩ := nd
  obtain ⟨w1, w2, w3, w4, w5⟩ := nw
  refine ⟨_, rfl, _, _, _, _, rfl, rfl, Or.inl (SqL.of (by assumption)), by assumption, _, rfl, _, _, _, _, _, rfl, by assumption, T.cl_Table, T.na_Table_places, by rfl, _, rfl, _, _, _, _, _, rfl, by assumption, T.cl_Table, T.na_Table_rows, by rfl, _, rfl, ?_⟩
  refine ⟨a1, a3, Pn, Rs, nm, m, .mk o.e o.ok o.new o.few o.fs o.hm t.pl t.ro n13, fun H1 h1 h3 fr1 => ?_⟩
  have t1 := t.grow h1 h3 fr1
  have ob1 := t1.ob
  have pa1 := t1.pa
  have hw1 := fr1 _ _ hw w1 w3
  refine ⟨_, rfl, _, _, rfl, Or.inl (SqL.of (by assumption)), _, _, rfl, rfl, _, rfl, _, _, _, _, _, rfl, by assumption, T.cl_Table, T.na_Table_parties, by rfl, _, _, rfl, Or.inl (SqL.of (by assumption)), _, _, rfl, rfl, _, rfl, ?_⟩
  rw [List.length_map, List.length_map, List.length_cons, List.length_map, o.lm]
  refine iteNT (by omega) ?_
  have vo1 := t1.vo
  refine ⟨_, rfl, _, _, _, _, _, rfl, by assumption, T.cl_Table, T.na_Table_votes, by rfl, ?_⟩
  refine ⟨.inl ⟨rfl, _, SqL.of vo1⟩, ?_⟩
  refine ⟨_, rfl, _, rfl, ?_⟩
  refine ⟨wl, _, rfl, SqL.of hw1, fun l2 H2 N2 => ?_⟩
  rw [show (1 : Int) = ((1 : Nat) : Int) from rfl, cut_from (by simp)] at N2
  have hl2 : H2 l2 = some (.lst ((ms.map numS).map V.str)) := N2.at_
  refine comp_mapS numV (SqL.of hl2) (by rw [List.length_map, List.length_map, o.lm]; exact Nat.le_trans o.ln (by decide)) (fun i x H3 Q' hx S3 hQ => ?_) fun H3 S3 => ?_
  · obtain ⟨z, rfl, hz⟩ : ∃ z, x = V.str (numS z) ∧ z ∈ ms := by
      rw [List.getElem?_map, List.getElem?_map] at hx
      cases e : ms[i]? with
      | none => rw [e] at hx; cases hx
      | some z => rw [e] at hx; exact ⟨z, (Option.some.inj hx).symm, List.mem_of_getElem? e⟩
    have hz9 := o.hv z hz
    rw [numV_num hz9] at hQ
    refine ⟨_, rfl, _, rfl, ?_⟩
    exact ⟨z, 10 ^ 9, at_, rfl, hz9, Nat.le_refl _, fun H' S' => hQ H' S'⟩
  intro b H4 N4
  rw [numV_all o.hv] at N4
  have S14 := N2.same.trans (S3.trans N4.same)
  have t4 := t1.same S14
  have vo4 := t4.vo
  have t3 := t1.same (N2.same.trans S3)
  have fresh : ∀ {x : Addr} {o : HO}, H3 x = some o → b ≠ x := fun {x o} hx z => by
    have := N4.gone
    rw [z, hx] at this
    cases this
  have nb : b ∉ [a1, a2, a3, a4, a5] := by
    simp only [List.mem_cons, List.not_mem_nil, or_false, not_or]
    exact ⟨fresh t3.pl, fresh t3.pa, fresh t3.ro, fresh t3.co, fresh t3.vo⟩
  refine ⟨a5, _, _, rfl, rfl, vo4, ?_, ?_⟩
  · rw [List.length_map]
    exact Nat.lt_of_lt_of_le o.lb (by decide)
  refine k _ b (t4.row N4.at_ nb) ?_ fun x ob hx h1 h3 h5 => ?_
  · cases e : H b with
    | none => rfl
    | some y =>
      have := (N2.same.trans S3) _ _ (fr1 _ _ e (fresh t3.pl) (fresh t3.ro))
      rw [N4.gone] at this
      cases this
  · rw [upd_ne h5]
    exact S14 _ _ (fr1 _ _ hx h1 h3)
end
end K4
namespace K4
open PySem L2 SW
section
variable {P : Program} {w : World} {K : PySem.W.Frag} {mg : Str → Option Value} {base : Heap}
def lab (h : Str × Nat) : Str := mkS (cd h.1 ++ 40 :: (dg h.2 ++ [41]))
theorem cd_lab (h : Str × Nat) : cd (lab h) = cd h.1 ++ 40 :: (dg h.2 ++ [41]) := cd_mk _
structure ThOk (T : Txt K mg) (H : Hp) (wl p dx a1 a2 a3 a4 a5 : Addr) (hd : List (Str × Nat)) : Prop where
  hw : H wl = some (.lst ((hd.map lab).map V.str))
  t : TabH T.c_Table H p dx a1 a2 a3 a4 a5 [] [] [] [] [] []
  nw : wl ∉ [a1, a2, a3, a4, a5]
  ok : ∀ h, h ∈ hd → NameOk h.1 ∧ h.2 ≤ 300
  nd : (hd.map (·.1)).Nodup
  few : hd.length ≤ 12
def spLine (T : Txt K mg) : Sp := fun vs H Q E => (∃ (wl p dx a1 a2 a3 a4 a5 : Addr) (hd : List (Str × Nat)) (at_ : Int), vs = [.ref wl, .ref p, .int at_] ∧ ThOk T H wl p dx a1 a2 a3 a4 a5 hd ∧
  ∀ H' : Hp, TabH T.c_Table H' p dx a1 a2 a3 a4 a5 [] [] (hd.map (·.1)) [] (nI (hd.map (·.2))) [] → (∀ x o, H x = some o → x ≠ a2 → x ≠ a4 → H' x = some o) → Q .non H') ∨
  ∃ (wl p dx a1 a2 a3 a4 a5 : Addr) (bs : List Addr) (Pn Nn : List Str) (Rs Cs : List Int) (Vs : List (List Int)) (word nm : Str) (m : Nat) (ms : List Nat) (at_ : Int), vs = [.ref wl, .ref p, .int at_] ∧ TpOk T H wl p dx a1 a2 a3 a4 a5 bs Pn Nn Rs Cs Vs word nm m ms ∧ 0 < Nn.length ∧
  ∀ (H' : Hp) (b : Addr), TabH T.c_Table H' p dx a1 a2 a3 a4 a5 (bs ++ [b]) (Pn ++ [nm]) Nn (Rs ++ [(m : Int)]) Cs (Vs ++ [nI ms]) → H b = none → (∀ x o, H x = some o → x ≠ a1 → x ≠ a3 → x ≠ a5 → H' x = some o) → Q .non H'
theorem ok_take_line (T : Txt K mg) : FnOk P w K mg base CX0 5 T.a_take_line T.fd_take_line ["words", "table", "at"] (spLine T) := by
  refine T.F_take_line.ok sc_take_line (fun vs H Q E h => ?_) (fun cdv A outer s H vs Q E hr h => ?_)
  · rcases h with ⟨_, _, _, _, _, _, _, _, _, _, rfl, _⟩ | ⟨_, _, _, _, _, _, _, _, _, _, _, _, _, _, _, _, _, _, _, rfl, _⟩ <;> rfl
  rcases h with ⟨wl, p, dx, a1, a2, a3, a4, a5, hd, at_, rfl, o, k⟩ | ⟨wl, p, dx, a1, a2, a3, a4, a5, bs, Pn, Nn, Rs, Cs, Vs, word, nm, m, ms, at_, rfl, o, n0, k⟩
  · have ob := o.t.ob
    refine ⟨_, (pss_one (ps_if (pt_cmpR op_gt (pe_callB (len_Q K) (by rfl) T.n_len PySem.boot_len (pa_cons (pe_fldR K (pv 1) rfl) pa_nil)) pe_int (nomark _))
      (pss_one (ps_expr (pe_call (ok_take_place T) (hr.mono (by decide)) rfl T.m_take_place T.F_take_place.kp T.b_take_place .nil pass0 (pa_cons (pv 0) (pa_cons (pv 1) (pa_cons (pv 2) pa_nil))))))
      (pss_one (ps_for PassesOwn.never rfl (pi_listQ K (pv 0)) (pg_name (i := 3) sc_take_line.nd rfl (Or.inl rfl))
      (pss_one (ps_expr (pe_call (ok_take_name T) (hr.mono (by decide)) rfl T.m_take_name T.F_take_name.kp T.b_take_name .nil pass0 (pa_cons (pv 3) (pa_cons (pe_fldR K (pv 1) rfl) (pa_cons (pe_fldR K (pv 1) rfl) (pa_cons (pv 2) pa_nil))))))))))), ?_⟩
    have pa := o.t.pa
    have hw := o.hw
    have nd := o.t.nd
    have nw := o.nw
    simp only [List.nodup_cons, List.mem_cons, List.not_mem_nil, or_false, not_or, not_false_eq_true, List.nodup_nil, and_true] at nd nw
    obtain ⟨⟨n12, n13, n14, n15⟩, ⟨n23, n24, n25⟩, ⟨n34, n35⟩, n45⟩ := nd
    obtain ⟨w1, w2, w3, w4, w5⟩ := nw
    refine ⟨_, rfl, _, _, _, _, _, rfl, by assumption, T.cl_Table, T.na_Table_parties, by rfl, _, _, rfl, Or.inl (SqL.of (by assumption)), _, _, rfl, rfl, _, rfl, ?_⟩
    refine iteDF (by decide) ?_
    refine ⟨_, rfl, ?_⟩
    refine ⟨wl, rfl, ⟨_, SqL.of hw⟩, ?_⟩
    refine for_list (K := K) (xs := (hd.map lab).map V.str) (fun i σ H' => TabH T.c_Table H' p dx a1 a2 a3 a4 a5 [] [] ((hd.take i).map (·.1)) [] (nI ((hd.take i).map (·.2))) [] ∧ (∀ x o, H x = some o → x ≠ a2 → x ≠ a4 → H' x = some o) ∧ ∃ v3, σ = [some (.ref wl), some (.ref p), some (.int at_), v3]) ⟨o.t, fun x o e _ _ => e, _, rfl⟩ (fun i σ H' _ h => SqL.of (h.2.1 _ _ hw w2 w4)) ?_ ?_
    · rintro i x σ H2 hx ⟨t2, fr2, v3, rfl⟩
      obtain ⟨h, rfl, eh, hh⟩ : ∃ h, x = V.str (lab h) ∧ hd[i]? = some h ∧ h ∈ hd := by
        rw [List.getElem?_map, List.getElem?_map] at hx
        cases e : hd[i]? with
        | none => rw [e] at hx; cases hx
        | some h => rw [e] at hx; exact ⟨h, (Option.some.inj hx).symm, rfl, List.mem_of_getElem? e⟩
      obtain ⟨okn, okm⟩ := o.ok h hh
      have hi : i < hd.length := (List.getElem?_eq_some_iff.mp eh).1
      have few := o.few
      have ob2 := t2.ob
      have new : h.1 ∉ (hd.take i).map (·.1) := fun z => by
        have nd := o.nd
        have e1 : hd.map (·.1) = (hd.take i).map (·.1) ++ (hd.drop i).map (·.1) := by rw [← List.map_append, List.take_append_drop]
        rw [e1] at nd
        have e2 : h.1 ∈ (hd.drop i).map (·.1) := by
          refine List.mem_map.mpr ⟨h, ?_, rfl⟩
          exact List.mem_of_getElem? (i := 0) (by rw [List.getElem?_drop, Nat.add_zero]; exact eh)
        exact (List.nodup_append.mp nd).2.2 _ z _ e2 rfl
      refine ⟨_, rfl, _, rfl, _, _, _, _, _, rfl, by assumption, T.cl_Table, T.na_Table_parties, by rfl, _, rfl, _, _, _, _, _, rfl, by assumption, T.cl_Table, T.na_Table_columns, by rfl, _, rfl, ?_⟩
      refine ⟨a2, a4, _, _, h.1, h.2, .mk (cd_lab h) okn new (by rw [List.length_map, List.length_take]; omega) (by unfold nI; rw [List.length_map, List.length_map, List.length_take]; omega) okm t2.pa t2.co n24, fun H3 h2 h4 fr3 => ?_⟩
      have s1 : (hd.take (i + 1)).map (·.1) = (hd.take i).map (·.1) ++ [h.1] := by rw [List.take_add_one, eh, List.map_append]; rfl
      have s2 : nI ((hd.take (i + 1)).map (·.2)) = nI ((hd.take i).map (·.2)) ++ [(h.2 : Int)] := by unfold nI; rw [List.take_add_one, eh, List.map_append, List.map_append]; rfl
      refine ⟨?_, fun x o hx e1 e2 => fr3 _ _ (fr2 x o hx e1 e2) e1 e2, _, rfl⟩
      rw [s1, s2]
      exact t2.head h2 h4 fr3
    · rintro σ H2 ⟨t2, fr2, v3, rfl⟩
      rw [List.length_map, List.length_map, List.take_length] at t2
      exact k H2 t2 fr2
  · have ob := o.t.ob
    refine ⟨_, (pss_one (ps_if (pt_cmpR op_gt (pe_callB (len_Q K) (by rfl) T.n_len PySem.boot_len (pa_cons (pe_fldR K (pv 1) rfl) pa_nil)) pe_int (nomark _))
      (pss_one (ps_expr (pe_call (ok_take_place T) (hr.mono (by decide)) rfl T.m_take_place T.F_take_place.kp T.b_take_place .nil pass0 (pa_cons (pv 0) (pa_cons (pv 1) (pa_cons (pv 2) pa_nil))))))
      (pss_one (ps_for PassesOwn.never rfl (pi_listQ K (pv 0)) (pg_name (i := 3) sc_take_line.nd rfl (Or.inl rfl))
      (pss_one (ps_expr (pe_call (ok_take_name T) (hr.mono (by decide)) rfl T.m_take_name T.F_take_name.kp T.b_take_name .nil pass0 (pa_cons (pv 3) (pa_cons (pe_fldR K (pv 1) rfl) (pa_cons (pe_fldR K (pv 1) rfl) (pa_cons (pv 2) pa_nil))))))))))), ?_⟩
    have pa := o.t.pa
    refine ⟨_, rfl, _, _, _, _, _, rfl, by assumption, T.cl_Table, T.na_Table_parties, by rfl, _, _, rfl, Or.inl (SqL.of (by assumption)), _, _, rfl, rfl, _, rfl, ?_⟩
    rw [List.length_map]
    refine iteDT (by omega) ?_
    refine ⟨_, rfl, _, rfl, _, rfl, ?_⟩
    exact ⟨wl, p, dx, a1, a2, a3, a4, a5, bs, Pn, Nn, Rs, Cs, Vs, word, nm, m, ms, at_, rfl, o, k⟩
end
end K4
namespace SW
theorem fil_at {α : Type} {p : α → Bool} : ∀ {xs : List α} {i : Nat} {x : α}, xs[i]? = some x → p x = true → (xs.filter p)[((xs.take i).filter p).length]? = some x
  | [], _, _, h, _ => by simp at h
  | y :: ys, 0, x, h, hp => by
    have e : y = x := by simpa using h
    subst e
    rw [List.filter_cons, if_pos hp]
    simp
  | y :: ys, i + 1, x, h, hp => by
    have h' : ys[i]? = some x := by simpa using h
    have ih := fil_at h' hp
    rw [List.take_succ_cons, List.filter_cons, List.filter_cons]
    by_cases hy : p y = true
    · rw [if_pos hy, if_pos hy]
      simpa using ih
    · rw [if_neg hy, if_neg hy]
      exact ih
theorem fil_step {α : Type} {p : α → Bool} {xs : List α} {i : Nat} {x : α} (h : xs[i]? = some x) : (xs.take (i + 1)).filter p = (xs.take i).filter p ++ if p x = true then [x] else [] := by
  rw [List.take_add_one, h, List.filter_append]
  congr 1
  rw [Option.toList_some, List.filter_cons, List.filter_nil]
end SW
namespace K4
open PySem L2 SW
section
variable {P : Program} {w : World} {K : PySem.W.Frag} {mg : Str → Option Value} {base : Heap}
abbrev Row := (Str × Nat) × List Nat
def rowW (r : Row) : List Str := lab r.1 :: r.2.map numS
def lin (L : List Str) : Str := mkS (J 32 (L.map cd))
def someW : List Str → Bool := fun l => decide (l ≠ [])
structure RdOk (a : Str) (Ls : List (List Str)) (hd : List (Str × Nat)) (rs : List Row) : Prop where
  e : cd a = J 10 ((Ls.map lin).map cd)
  ne : Ls ≠ []
  nl : ∀ L, L ∈ Ls → L ≠ []
  f32 : ∀ L, L ∈ Ls → ∀ z, z ∈ L → 32 ∉ cd z
  f10 : ∀ L, L ∈ Ls → 10 ∉ cd (lin L)
  sz : a.length + 2 ≤ 1000000
  sl : ∀ L, L ∈ Ls → (lin L).length + 2 ≤ 1000000 ∧ L.length ≤ 1000000
  sn : Ls.length ≤ 1000000
  ws : (Ls.map noE).filter someW = hd.map lab :: rs.map rowW
  hk : ∀ h, h ∈ hd → NameOk h.1 ∧ h.2 ≤ 300
  hn : (hd.map (·.1)).Nodup
  h1 : 0 < hd.length
  h12 : hd.length ≤ 12
  rk : ∀ r, r ∈ rs → NameOk r.1.1 ∧ r.1.2 ≤ 300 ∧ r.2.length = hd.length ∧ ∀ z, z ∈ r.2 → z ≤ 10 ^ 9
  rn : (rs.map (·.1.1)).Nodup
  r1 : 0 < rs.length
  r12 : rs.length ≤ 12
  sum : (nI (rs.map (·.1.2))).sum = (nI (hd.map (·.2))).sum
  s300 : (nI (rs.map (·.1.2))).sum ≤ 300
def TabN (cT : Addr) (H0 H : Hp) (p dx a1 a2 a3 a4 a5 : Addr) (hd : List (Str × Nat)) (rs : List Row) (n : Nat) : Prop :=
  (n = 0 ∧ TabH cT H p dx a1 a2 a3 a4 a5 [] [] [] [] [] []) ∨ ∃ k bs, n = k + 1 ∧ (∀ b, b ∈ bs → H0 b = none) ∧ TabH cT H p dx a1 a2 a3 a4 a5 bs ((rs.take k).map (·.1.1)) (hd.map (·.1)) (nI ((rs.take k).map (·.1.2))) (nI (hd.map (·.2))) ((rs.take k).map fun r => nI r.2)
theorem TabN.same {cT : Addr} {H0 H H' : Hp} {p dx a1 a2 a3 a4 a5 : Addr} {hd : List (Str × Nat)} {rs : List Row} {n : Nat} (t : TabN cT H0 H p dx a1 a2 a3 a4 a5 hd rs n) (S : Same H H') : TabN cT H0 H' p dx a1 a2 a3 a4 a5 hd rs n := by
  rcases t with ⟨h, t⟩ | ⟨k, bs, h, f, t⟩
  · exact .inl ⟨h, t.same S⟩
  · exact .inr ⟨k, bs, h, f, t.same S⟩
theorem TabN.far {cT : Addr} {H0 H : Hp} {p dx a1 a2 a3 a4 a5 x : Addr} {hd : List (Str × Nat)} {rs : List Row} {n : Nat} (t : TabN cT H0 H p dx a1 a2 a3 a4 a5 hd rs n) (h : H x = none) : x ∉ [a1, a2, a3, a4, a5] := by
  simp only [List.mem_cons, List.not_mem_nil, or_false, not_or]
  rcases t with ⟨_, t⟩ | ⟨_, _, _, _, t⟩
  · exact ⟨(fun z => by rw [z, t.pl] at h; cases h), (fun z => by rw [z, t.pa] at h; cases h), (fun z => by rw [z, t.ro] at h; cases h), (fun z => by rw [z, t.co] at h; cases h), (fun z => by rw [z, t.vo] at h; cases h)⟩
  · exact ⟨(fun z => by rw [z, t.pl] at h; cases h), (fun z => by rw [z, t.pa] at h; cases h), (fun z => by rw [z, t.ro] at h; cases h), (fun z => by rw [z, t.co] at h; cases h), (fun z => by rw [z, t.vo] at h; cases h)⟩
def spRead (T : Txt K mg) : Sp := fun vs H Q _ => ∃ (a : Str) (Ls : List (List Str)) (hd : List (Str × Nat)) (rs : List Row), vs = [.str a] ∧ RdOk a Ls hd rs ∧
  ∀ (H' : Hp) (p dx a1 a2 a3 a4 a5 : Addr) (bs : List Addr), Same H H' → TabH T.c_Table H' p dx a1 a2 a3 a4 a5 bs (rs.map (·.1.1)) (hd.map (·.1)) (nI (rs.map (·.1.2))) (nI (hd.map (·.2))) (rs.map fun r => nI r.2) → H p = none → H a1 = none → H a2 = none → H a3 = none → H a4 = none → H a5 = none → (∀ b, b ∈ bs → H b = none) → Q (.ref p) H'
theorem ok_read (T : Txt K mg) : FnOk P w K mg base CX0 6 T.a_read T.fd_read ["text"] (spRead T) := by
  refine T.F_read.ok sc_read (fun vs H Q E h => ?_) (fun cdv A outer s H vs Q E hr h => ?_)
  · obtain ⟨a, Ls, hd, rs, rfl, _⟩ := h
    rfl
  obtain ⟨a, Ls, hd, rs, rfl, o, k⟩ := h
  refine ⟨_, (pss_cons (ps_set (i := 1) sc_read.nd rfl (Or.inl rfl) (pe_make T.M_Table (ok_Table_init T) (hr.mono (by decide)) rfl T.m_Table T.b_Table_init .nil pass0 (pa_cons (pe_lstA pa_nil) (pa_cons (pe_lstA pa_nil) (pa_cons (pe_lstA pa_nil) (pa_cons (pe_lstA pa_nil) (pa_cons (pe_lstA pa_nil) pa_nil)))))))
      (pss_cons (ps_set (i := 2) sc_read.nd rfl (Or.inl rfl) (pe_bm PySem.F.plainAttrs_str PySem.F.slot_str_split PySem.F.type_str_split mt_split (pv 0) (pa_cons pe_str pa_nil)))
      (pss_cons (ps_for PassesOwn.never rfl (pi_range1 rfl T.n_range (pa_cons (pe_callB (len_Q K) (by rfl) T.n_len PySem.boot_len (pa_cons (pv 2) pa_nil)) pa_nil)) (pg_name (i := 3) sc_read.nd rfl (Or.inl rfl))
      (pss_cons (ps_set (i := 4) sc_read.nd rfl (Or.inl rfl) (pe_call (ok_words_of T) (hr.mono (by decide)) rfl T.m_words_of T.F_words_of.kp T.b_words_of .nil pass0 (pa_cons (pe_ix (ix_Q K) (pv 2) (pv 3) (fun _ _ => rfl)) pa_nil)))
      (pss_one (ps_if (pt_cmpR op_gt (pe_callB (len_Q K) (by rfl) T.n_len PySem.boot_len (pa_cons (pv 4) pa_nil)) pe_int (nomark _))
      (pss_one (ps_expr (pe_call (ok_take_line T) (hr.mono (by decide)) rfl T.m_take_line T.F_take_line.kp T.b_take_line .nil pass0 (pa_cons (pv 4) (pa_cons (pv 1) (pa_cons (pv 3) pa_nil))))))
      pss_nil))))
      (pss_cons (ps_if (pt_cmpR op_eqI (pe_callB (len_Q K) (by rfl) T.n_len PySem.boot_len (pa_cons (pe_fldR K (pv 1) rfl) pa_nil)) pe_int (nomark _))
      (pss_one ps_no)
      pss_nil)
      (pss_cons (ps_if (PW.pt (pw_or (pt_cmpR op_neI (pe_callB (sum_Q K rfl) (by rfl) T.n_sum PyProof.Rows.boot_sum (pa_cons (pe_fldR K (pv 1) rfl) pa_nil)) (pe_callB (sum_Q K rfl) (by rfl) T.n_sum PyProof.Rows.boot_sum (pa_cons (pe_fldR K (pv 1) rfl) pa_nil)) (nomark _)) (pw_or1 (pt_cmpR op_gt (pe_callB (sum_Q K rfl) (by rfl) T.n_sum PyProof.Rows.boot_sum (pa_cons (pe_fldR K (pv 1) rfl) pa_nil)) (pe_glob (v := .int 300) rfl T.m_MOST_SEATS ⟨T.tk_MOST_SEATS, rfl⟩) (nomark _)))))
      (pss_one ps_no)
      pss_nil)
      (pss_one (ps_ret (pv 1)))))))), ?_⟩
  have big : (1000000 : Nat) ≤ sizeLine := by decide
  refine ⟨Nat.zero_le _, fun a1 H1 N1 => ?_⟩
  refine ⟨Nat.zero_le _, fun a2 H2 N2 => ?_⟩
  refine ⟨Nat.zero_le _, fun a3 H3 N3 => ?_⟩
  refine ⟨Nat.zero_le _, fun a4 H4 N4 => ?_⟩
  refine ⟨Nat.zero_le _, fun a5 H5 N5 => ?_⟩
  intro p dx np ndx nepd
  have up : ∀ x o, H5 x = some o → upd (upd H5 dx (.own p)) p (.ins T.c_Table dx []) x = some o := fun x o e => by rw [upd_ne (ne_of_none e np), upd_ne (ne_of_none e ndx)]; exact e
  refine ⟨p, dx, a1, a2, a3, a4, a5, rfl, upd_same, fun H6 fr6 ob6 no6 => ⟨rfl, ?_⟩⟩
  have S56 : Same H5 H6 := fun x o e => fr6 x o (up x o e) (ne_of_none e np)
  have S06 := N1.same.trans (N2.same.trans (N3.same.trans (N4.same.trans (N5.same.trans S56))))
  have na1 : H a1 = none := N1.gone
  have na2 : H a2 = none := N1.same.free N2.gone
  have na3 : H a3 = none := (N1.same.trans N2.same).free N3.gone
  have na4 : H a4 = none := (N1.same.trans (N2.same.trans N3.same)).free N4.gone
  have na5 : H a5 = none := (N1.same.trans (N2.same.trans (N3.same.trans N4.same))).free N5.gone
  have npp : H p = none := (N1.same.trans (N2.same.trans (N3.same.trans (N4.same.trans N5.same)))).free np
  have e12 : a1 ≠ a2 := ne_of_none N1.at_ N2.gone
  have e13 : a1 ≠ a3 := ne_of_none (N2.same _ _ N1.at_) N3.gone
  have e14 : a1 ≠ a4 := ne_of_none ((N2.same.trans N3.same) _ _ N1.at_) N4.gone
  have e15 : a1 ≠ a5 := ne_of_none ((N2.same.trans (N3.same.trans N4.same)) _ _ N1.at_) N5.gone
  have e23 : a2 ≠ a3 := ne_of_none N2.at_ N3.gone
  have e24 : a2 ≠ a4 := ne_of_none (N3.same _ _ N2.at_) N4.gone
  have e25 : a2 ≠ a5 := ne_of_none ((N3.same.trans N4.same) _ _ N2.at_) N5.gone
  have e34 : a3 ≠ a4 := ne_of_none N3.at_ N4.gone
  have e35 : a3 ≠ a5 := ne_of_none (N4.same _ _ N3.at_) N5.gone
  have e45 : a4 ≠ a5 := ne_of_none N4.at_ N5.gone
  have t6 : TabH T.c_Table H6 p dx a1 a2 a3 a4 a5 [] [] [] [] [] [] := ⟨ob6, (N2.same.trans (N3.same.trans (N4.same.trans (N5.same.trans S56)))) _ _ N1.at_, (N3.same.trans (N4.same.trans (N5.same.trans S56))) _ _ N2.at_, (N4.same.trans (N5.same.trans S56)) _ _ N3.at_, (N5.same.trans S56) _ _ N4.at_, S56 _ _ N5.at_, rfl, fun i b v e _ => by simp at e, by simp [e12, e13, e14, e15, e23, e24, e25, e34, e35, e45], fun b hb => by cases hb⟩
  refine ⟨_, rfl, rfl, ?_⟩
  refine ⟨a, _, rfl, rfl, by decide, Nat.le_trans o.sz big, fun ll H7 N7 => ?_⟩
  have es : Txt.split a (Str.ofString "\n") = Ls.map lin := split_of (c := 10) (by simp [o.ne]) (fun z hz => by
    obtain ⟨L, hL, rfl⟩ := List.mem_map.mp hz
    exact o.f10 L hL) o.e
  rw [es] at N7
  have hll := N7.at_
  refine ⟨_, rfl, _, _, rfl, Or.inl (SqL.of (by assumption)), ?_⟩
  rw [List.length_map, List.length_map]
  have sn := o.sn
  refine ⟨_, rfl, by omega, by omega, ?_⟩
  rw [Int.toNat_natCast]
  refine for_range (fun i σ H' => Same H H' ∧ H' ll = some (.lst ((Ls.map lin).map V.str)) ∧ TabN T.c_Table H H' p dx a1 a2 a3 a4 a5 hd rs (((Ls.map noE).take i).filter someW).length ∧ ∃ v3 v4, σ = [some (.str a), some (.ref p), some (.ref ll), v3, v4]) ⟨S06.trans N7.same, hll, .inl ⟨rfl, t6.same N7.same⟩, _, _, rfl⟩ ?_ ?_
  · rintro i σ H8 hi ⟨S8, hll8, tn8, v3, v4, rfl⟩
    rw [show (0 : Int) + (i : Int) = (i : Int) by omega]
    obtain ⟨L, eL, hL⟩ : ∃ L, Ls[i]? = some L ∧ L ∈ Ls := ⟨Ls[i], List.getElem?_eq_getElem hi, List.getElem_mem hi⟩
    have atL : atI ((Ls.map lin).map V.str) (i : Int) = some (.str (lin L)) := atI_of (by omega) (by rw [Int.toNat_natCast, List.getElem?_map, List.getElem?_map, eL]; rfl)
    have eN : (Ls.map noE)[i]? = some (noE L) := by rw [List.getElem?_map, eL]; rfl
    obtain ⟨s1, s2⟩ := o.sl L hL
    refine ⟨_, rfl, _, rfl, _, _, _, _, rfl, rfl, Or.inl (SqL.of (by assumption)), by assumption, ?_⟩
    refine ⟨lin L, L, rfl, Nat.le_trans s1 big, o.nl L hL, o.f32 L hL, cd_mk _, Nat.le_trans s2 big, fun wl H9 S9 nwl hwl => ?_⟩
    have tn9 := tn8.same S9
    have nw := tn8.far nwl
    have nll : ll ∉ [a1, a2, a3, a4, a5] := fun z => by
      have : ∀ y, y ∈ [a1, a2, a3, a4, a5] → H6 y ≠ none := fun y hy => by
        simp only [List.mem_cons, List.not_mem_nil, or_false] at hy
        rcases hy with rfl | rfl | rfl | rfl | rfl
        · rw [t6.pl]; intro q; cases q
        · rw [t6.pa]; intro q; cases q
        · rw [t6.ro]; intro q; cases q
        · rw [t6.co]; intro q; cases q
        · rw [t6.vo]; intro q; cases q
      exact this ll z N7.gone
    simp only [List.mem_cons, List.not_mem_nil, or_false, not_or] at nll
    obtain ⟨l1, l2, l3, l4, l5⟩ := nll
    have hll9 := S9 _ _ hll8
    have S09 := S8.trans S9
    refine ⟨_, rfl, _, _, rfl, Or.inl (SqL.of (by assumption)), _, _, rfl, rfl, _, rfl, ?_⟩
    rw [List.length_map]
    by_cases hw : noE L = []
    · refine iteDF (by rw [hw]; decide) ?_
      refine ⟨S09, hll9, ?_, _, _, rfl⟩
      rw [fil_step eN, if_neg (by unfold someW; simp [hw]), List.append_nil]
      exact tn9
    have hs : someW (noE L) = true := decide_eq_true hw
    have len1 : (((Ls.map noE).take (i + 1)).filter someW).length = (((Ls.map noE).take i).filter someW).length + 1 := by
      rw [fil_step eN, if_pos hs, List.length_append]; rfl
    have at_ := fil_at eN hs
    rw [o.ws] at at_
    rw [len1]
    have pos : 0 < (noE L).length := List.length_pos_iff.mpr hw
    refine iteDT (by omega) ?_
    refine ⟨_, rfl, _, rfl, _, rfl, ?_⟩
    generalize (((Ls.map noE).take i).filter someW).length = n at *
    rcases tn9 with ⟨rfl, t9⟩ | ⟨k', bs, rfl, fb, t9⟩
    · have eh : hd.map lab = noE L := by simpa using at_
      rw [← eh] at hwl
      refine .inl ⟨wl, p, dx, a1, a2, a3, a4, a5, hd, i, rfl, ⟨hwl, t9, nw, o.hk, o.hn, o.h12⟩, fun H10 t10 fr10 => ?_⟩
      refine ⟨fun x ob hx => fr10 _ _ (S09 _ _ hx) (fun z => by rw [z, na2] at hx; cases hx) (fun z => by rw [z, na4] at hx; cases hx), fr10 _ _ hll9 l2 l4, .inr ⟨0, [], rfl, fun b hb => (by cases hb), t10⟩, _, _, rfl⟩
    · obtain ⟨r, er, eh⟩ : ∃ r, rs[k']? = some r ∧ rowW r = noE L := by
        rw [List.getElem?_cons_succ, List.getElem?_map] at at_
        cases e : rs[k']? with
        | none => rw [e] at at_; cases at_
        | some r => rw [e] at at_; exact ⟨r, rfl, Option.some.inj at_⟩
      have hr' := List.mem_of_getElem? er
      have hk' : k' < rs.length := (List.getElem?_eq_some_iff.mp er).1
      obtain ⟨k1, k2, k3, k4⟩ := o.rk r hr'
      have r12 := o.r12
      have new : r.1.1 ∉ (rs.take k').map (·.1.1) := fun z => by
        have nd := o.rn
        have e1 : rs.map (·.1.1) = (rs.take k').map (·.1.1) ++ (rs.drop k').map (·.1.1) := by rw [← List.map_append, List.take_append_drop]
        rw [e1] at nd
        have e2 : r.1.1 ∈ (rs.drop k').map (·.1.1) := by
          refine List.mem_map.mpr ⟨r, ?_, rfl⟩
          exact List.mem_of_getElem? (i := 0) (by rw [List.getElem?_drop, Nat.add_zero]; exact er)
        exact (List.nodup_append.mp nd).2.2 _ z _ e2 rfl
      rw [← eh] at hwl
      have lt : (rs.take k').length = k' := by rw [List.length_take]; omega
      refine .inr ⟨wl, p, dx, a1, a2, a3, a4, a5, bs, _, _, _, _, _, lab r.1, r.1.1, r.1.2, r.2, i, rfl, ⟨hwl, t9, nw, cd_lab r.1, k1, new, by rw [List.length_map]; omega, by unfold nI; rw [List.length_map, List.length_map]; omega, k2, by rw [List.length_map]; exact k3, by rw [List.length_map]; exact o.h12, k4, by rw [t9.lb, List.length_map]; omega⟩, by rw [List.length_map]; exact o.h1, fun H10 b t10 nb fr10 => ?_⟩
      have st : rs.take (k' + 1) = rs.take k' ++ [r] := by rw [List.take_add_one, er]; rfl
      refine ⟨fun x ob hx => fr10 _ _ (S09 _ _ hx) (fun z => by rw [z, na1] at hx; cases hx) (fun z => by rw [z, na3] at hx; cases hx) (fun z => by rw [z, na5] at hx; cases hx), fr10 _ _ hll9 l1 l3 l5, .inr ⟨k' + 1, bs ++ [b], rfl, fun c hc => ?_, ?_⟩, _, _, rfl⟩
      · rcases List.mem_append.mp hc with h | h
        · exact fb c h
        · have : c = b := by simpa using h
          rw [this]
          exact S09.free nb
      · rw [st]
        unfold nI at t10 ⊢
        rw [List.map_append, List.map_append, List.map_append, List.map_append]
        exact t10
  rintro σ H8 ⟨S8, hll8, tn8, v3, v4, rfl⟩
  have hall : (((Ls.map noE).take Ls.length).filter someW).length = rs.length + 1 := by
    rw [show (Ls.map noE).take Ls.length = Ls.map noE from List.take_of_length_le (by simp), o.ws]
    simp
  rw [hall] at tn8
  rcases tn8 with ⟨z, _⟩ | ⟨k', bs, z, fb, t8⟩
  · cases z
  have ek : k' = rs.length := by omega
  subst ek
  rw [List.take_length] at t8
  have ob8 := t8.ob
  have pl8 := t8.pl
  have ro8 := t8.ro
  have co8 := t8.co
  have r1 := o.r1
  refine ⟨_, rfl, _, _, _, _, _, rfl, by assumption, T.cl_Table, T.na_Table_places, by rfl, _, _, rfl, Or.inl (SqL.of (by assumption)), _, _, rfl, rfl, _, rfl, ?_⟩
  rw [List.length_map, List.length_map]
  refine iteDF (by omega) ?_
  refine ⟨_, rfl, _, _, _, _, _, rfl, by assumption, T.cl_Table, T.na_Table_rows, by rfl, _, _, rfl, SqL.of (by assumption), _, rfl, _, _, _, _, _, rfl, by assumption, T.cl_Table, T.na_Table_columns, by rfl, _, _, rfl, SqL.of (by assumption), _, _, rfl, rfl, _, rfl, ?_⟩
  refine iteNT o.sum ?_
  refine ⟨_, rfl, _, _, _, _, _, rfl, by assumption, T.cl_Table, T.na_Table_rows, by rfl, _, _, rfl, SqL.of (by assumption), _, _, rfl, rfl, _, rfl, ?_⟩
  refine iteDF (Int.not_lt.mpr o.s300) ?_
  refine ⟨_, rfl, ?_⟩
  exact k H8 p dx a1 a2 a3 a4 a5 bs S8 t8 npp na1 na2 na3 na4 na5 fb
end
end K4
namespace K4
open PySem L2 SW
section
variable {P : Program} {w : World} {K : PySem.W.Frag} {mg : Str → Option Value} {base : Heap}
def spLab : Sp := fun vs H Q _ => ∃ (h : Str × Nat), vs = [.str h.1, .int (h.2 : Int)] ∧ h.1.length ≤ 1000 ∧ h.2 ≤ 10 ^ 9 ∧ Q (.str (lab h)) H
theorem lab_len {h : Str × Nat} (h2 : h.2 ≤ 10 ^ 9) : (lab h).length ≤ h.1.length + 12 := by
  rw [← cd_len, cd_lab, List.length_append, List.length_cons, List.length_append, cd_len]
  have : (dg h.2).length ≤ 10 := by
    rw [← cd_num, cd_len]
    exact PySem.W.KT.len_num (by omega) (by omega)
  simp
  omega
theorem ok_labelled (T : Txt K mg) : FnOk P w K mg base CX0 1 T.a_labelled T.fd_labelled ["name", "seats"] spLab := by
  refine T.F_labelled.ok sc_labelled (fun vs H Q E h => ?_) (fun cdv A outer s H vs Q E hr h => ?_)
  · obtain ⟨h, rfl, _⟩ := h
    rfl
  obtain ⟨⟨nm, m⟩, rfl, hn, hm, k⟩ := h
  refine ⟨_, (pss_one (ps_ret (pe_joined (PEs.cons (pe_fmtA (pv 0)) (PEs.cons pe_str (PEs.cons (pe_fmtA (pv 1)) (PEs.cons pe_str PEs.nil))))))), ?_⟩
  have dl : (numS m).length ≤ 10 := PySem.W.KT.len_num (by omega) (by omega)
  have big : (2000 : Nat) ≤ sizeLine := by decide
  have l0 : Str.empty.length = 0 := rfl
  have l1 : (Str.ofString "(").length = 1 := by decide +kernel
  have l2 : (Str.ofString ")").length = 1 := by decide +kernel
  have len : ∀ a b : Str, (a ++ b).length = a.length + b.length := fun a b => by rw [← cd_len, ← cd_len, ← cd_len, cd_app, List.length_append]
  have el : Str.empty ++ nm ++ Str.ofString "(" ++ numS m ++ Str.ofString ")" = lab (nm, m) := cd_inj (by
    rw [cd_lab, cd_app, cd_app, cd_app, cd_app]
    have e0 : cd Str.empty = [] := rfl
    have e1 : cd (Str.ofString "(") = [40] := by decide +kernel
    have e2 : cd (Str.ofString ")") = [41] := by decide +kernel
    have e3 : cd (numS m) = dg m := cd_num m
    rw [e0, e1, e2, e3]
    simp)
  unfold tJoined tParts
  refine ⟨_, rfl, ?_⟩
  have hn : nm.length ≤ 1000 := hn
  refine .inl ⟨nm, rfl, Nat.le_trans (show nm.length ≤ 2000 by omega) big, nm, rfl, Nat.le_trans (show (Str.empty ++ nm).length ≤ 2000 by rw [len, l0]; omega) big, ?_⟩
  refine ⟨_, rfl, Nat.le_trans (show (Str.empty ++ nm ++ Str.ofString "(").length ≤ 2000 by rw [len, len, l0, l1]; omega) big, ?_⟩
  refine ⟨_, rfl, Or.inr ⟨_, rfl, lg hm, numS m, rfl, Nat.le_trans (show (Str.empty ++ nm ++ Str.ofString "(" ++ numS m).length ≤ 2000 by rw [len, len, len, l0, l1]; omega) big, ?_⟩⟩
  refine ⟨_, rfl, Nat.le_trans (show (Str.empty ++ nm ++ Str.ofString "(" ++ numS m ++ Str.ofString ")").length ≤ 2000 by rw [len, len, len, len, l0, l1, l2]; omega) big, ?_⟩
  refine ⟨Nat.le_trans (show (Str.empty ++ nm ++ Str.ofString "(" ++ numS m ++ Str.ofString ")").length ≤ 2000 by rw [len, len, len, len, l0, l1, l2]; omega) big, ?_⟩
  rw [el]
  exact k
end
end K4
namespace L2
open PySem PySem.Spec PyProof.Rows PySem.Builtin
section
variable {X : Cx} (K : PySem.W.Frag) {o e : Expr} {es : List Expr} {to : TE} {t : TA} {name : Str} {apos cpos : Pos} {T id : String} {r : V → List V → Hp → VK → Prop}
theorem pe_bmQ (pa : PlainAttrs T) (slot : Slot T name id) (hty : typeOf (.builtin id) = pure (.type "method_descriptor")) (hm : MtR X id r) (ho : PE X o to) (ha : PA X (e :: es) t)
    (hbase : attributeBase o name X.env (eval o X.env) = eval o X.env := by rfl)
    (hfew : ((backTo cpos (starEach (e :: es) X.env)).all (fun x => !x.1) && (backToKw cpos (keywordEach [] X.env)).all (fun x => x.1.isSome)
      && decide ((e :: es).length + ([] : List Keyword).length + (if ([] : List Keyword).isEmpty then 0 else 1) < 30)) = true := by rfl)
    (hline : (apos.endLine == cpos.line) = true := by rfl) (hs : starEach (e :: es) X.env = (false, eval e X.env) :: starEach es X.env := by rfl) (hplain : (backTo cpos (starEach es X.env)).any (·.1) = false := by rfl) (h : X.K = K := by rfl) :
    PE X (.Call (.Attribute o name apos) (e :: es) [] cpos) (tBM K T r to t) := by
  subst h
  exact pe_bm pa slot hty hm ho ha hbase hfew hline hs hplain
end
end L2
namespace K4
open PySem L2 SW
section
variable {P : Program} {w : World} {K : PySem.W.Frag} {mg : Str → Option Value} {base : Heap}
def wsOf (hd : List (Str × Nat)) (rs : List Row) : List (List Str) := hd.map lab :: rs.map rowW
def tex (hd : List (Str × Nat)) (rs : List Row) : Str := mkS (J 10 (((wsOf hd rs).map lin).map cd))
theorem join_cd (c : Nat) (ys : List Str) : Txt.join ⟨#[c]⟩ ys = mkS (J c (ys.map cd)) := cd_inj (by
  rw [cd_mk, ← cd_join]
  show cd (Builtin.Str.glued ⟨#[c]⟩ ys) = _
  rw [StrLaws.glued_eq_join])
structure WrOk (T : Txt K mg) (H : Hp) (p dx a1 a2 a3 a4 a5 : Addr) (bs : List Addr) (hd : List (Str × Nat)) (rs : List Row) : Prop where
  t : TabH T.c_Table H p dx a1 a2 a3 a4 a5 bs (rs.map (·.1.1)) (hd.map (·.1)) (nI (rs.map (·.1.2))) (nI (hd.map (·.2))) (rs.map fun r => nI r.2)
  hk : ∀ h, h ∈ hd → NameOk h.1 ∧ h.2 ≤ 300
  h12 : hd.length ≤ 12
  rk : ∀ r, r ∈ rs → NameOk r.1.1 ∧ r.1.2 ≤ 300 ∧ r.2.length = hd.length ∧ ∀ z, z ∈ r.2 → z ≤ 10 ^ 9
  r12 : rs.length ≤ 12
def spWritten (T : Txt K mg) : Sp := fun vs H Q _ => ∃ (p dx a1 a2 a3 a4 a5 : Addr) (bs : List Addr) (hd : List (Str × Nat)) (rs : List Row), vs = [.ref p] ∧ WrOk T H p dx a1 a2 a3 a4 a5 bs hd rs ∧ ∀ H', Same H H' → Q (.str (tex hd rs)) H'
theorem range_at {α : Type} (l : List α) (d : α) (f : α → V) : (List.range l.length).map (fun j => f (l.getD j d)) = l.map f := by
  apply List.ext_getElem?
  intro i
  rw [List.getElem?_map, List.getElem?_map]
  by_cases h : i < l.length
  · rw [List.getElem?_range h, List.getElem?_eq_getElem h]
    simp [List.getD, List.getElem?_eq_getElem h]
  · rw [List.getElem?_eq_none (by simp; omega), List.getElem?_eq_none (by omega)]
    rfl
def strV : V → V
  | .int y => .str (Str.ofString (toString y))
  | v => v
theorem strV_all (l : List Nat) : ((nI l).map V.int).map strV = (l.map numS).map V.str := by
  unfold nI
  rw [List.map_map, List.map_map, List.map_map]
  rfl
theorem comp_mapI {te : TE} {σ : St} {j : Nat} {R : List V → Hp → Prop} {H1 : Hp} {a : Addr} {xs : List V} (f : Nat → V) (hl : SqL K H1 a xs) (hz : xs.length ≤ sizeLine) (hs : ∀ (i : Nat) (x : V) (Q : VK), xs[i]? = some x → Q (f i) H1 → te (σ.set j (some x)) H1 Q) (hd : R ((List.range xs.length).map f) H1) : CompW (Itl K a) (gName j) tYes te (wipe [j] σ) R H1 := by
  refine comp_list (fun i ys H => H = H1 ∧ ys = (List.range i).map f) hz ⟨rfl, rfl⟩ (fun i ys H _ h => by rw [h.1]; exact hl) (fun i x ys H e h => ?_) (fun ys H h => ?_)
  · obtain ⟨rfl, rfl⟩ := h
    refine yes (hs i x _ e ⟨rfl, ?_⟩)
    rw [List.range_succ, List.map_append]; rfl
  · obtain ⟨rfl, rfl⟩ := h
    exact hd
theorem sum_len {k : Nat} : ∀ {ys : List Str}, (∀ y, y ∈ ys → y.length ≤ k) → (ys.map (·.length)).sum ≤ ys.length * k
  | [], _ => by simp
  | y :: ys, h => by
    have h1 := h y (by simp)
    have h2 := sum_len (ys := ys) fun z hz => h z (by simp [hz])
    rw [List.map_cons, List.sum_cons, List.length_cons, Nat.succ_mul]
    omega
theorem J_len {c k : Nat} : ∀ {L : List (List Nat)}, (∀ x, x ∈ L → x.length ≤ k) → (J c L).length ≤ L.length * (k + 1)
  | [], _ => by simp [J]
  | [x], h => by
    have := h x (by simp)
    show x.length ≤ 1 * (k + 1)
    omega
  | x :: y :: r, h => by
    have h1 := h x (by simp)
    have h2 := J_len (c := c) (L := y :: r) fun z hz => h z (by simp at hz ⊢; right; exact hz)
    show (x ++ c :: J c (y :: r)).length ≤ _
    rw [List.length_append, List.length_cons, List.length_cons (a := x), Nat.succ_mul]
    omega
theorem ok_written (T : Txt K mg) : FnOk P w K mg base CX0 2 T.a_written T.fd_written ["table"] (spWritten T) := by
  refine T.F_written.ok sc_written (fun vs H Q E h => ?_) (fun cdv A outer s H vs Q E hr h => ?_)
  · obtain ⟨p, dx, a1, a2, a3, a4, a5, bs, hd, rs, rfl, _⟩ := h
    rfl
  obtain ⟨p, dx, a1, a2, a3, a4, a5, bs, hd, rs, rfl, o, k⟩ := h
  refine ⟨_, (pss_cons (ps_set (i := 1) sc_written.nd rfl (Or.inl rfl) (pe_lstA (pa_cons (pe_comp [3] rfl (blk_of rfl) (pi_range1 rfl T.n_range (pa_cons (pe_callB (len_Q K) (by rfl) T.n_len PySem.boot_len (pa_cons (pe_fldR K (pv 0) rfl) pa_nil)) pa_nil)) (fun _ => (pg_name (i := 3) sc_written.nd rfl (Or.inl rfl))) (fun _ => pts_nil) (fun _ => (pe_call (ok_labelled T) (hr.mono (by decide)) rfl T.m_labelled T.F_labelled.kp T.b_labelled .nil pass0 (pa_cons (pe_ix (ix_Q K) (pe_fldR K (pv 0) rfl) (pv 3) (fun _ _ => rfl)) (pa_cons (pe_ix (ix_Q K) (pe_fldR K (pv 0) rfl) (pv 3) (fun _ _ => rfl)) pa_nil))))) pa_nil)))
      (pss_cons (ps_for PassesOwn.never rfl (pi_range1 rfl T.n_range (pa_cons (pe_callB (len_Q K) (by rfl) T.n_len PySem.boot_len (pa_cons (pe_fldR K (pv 0) rfl) pa_nil)) pa_nil)) (pg_name (i := 2) sc_written.nd rfl (Or.inl rfl))
      (pss_one (ps_expr (pe_bm PySem.F.plainAttrs_list PySem.F.slot_list_append PySem.F.type_list_append mt_append (pv 1) (pa_cons (pe_op op_catN (pe_lstA (pa_cons (pe_call (ok_labelled T) (hr.mono (by decide)) rfl T.m_labelled T.F_labelled.kp T.b_labelled .nil pass0 (pa_cons (pe_ix (ix_Q K) (pe_fldR K (pv 0) rfl) (pv 2) (fun _ _ => rfl)) (pa_cons (pe_ix (ix_Q K) (pe_fldR K (pv 0) rfl) (pv 2) (fun _ _ => rfl)) pa_nil))) pa_nil)) (pe_comp [5] rfl (blk_of rfl) (pi_listQ K (pe_ix (ix_Q K) (pe_fldR K (pv 0) rfl) (pv 2) (fun _ _ => rfl))) (fun _ => (pg_name (i := 5) sc_written.nd rfl (Or.inl rfl))) (fun _ => pts_nil) (fun _ => (pe_callTy call_str_int (by rfl) T.n_str PyProof.Rows.boot_str (pa_cons (pv 5) pa_nil))))) pa_nil)))))
      (pss_one (ps_ret (pe_bm PySem.F.plainAttrs_str PySem.F.slot_str_join PySem.F.type_str_join (join_Q K) pe_str (pa_cons (pe_comp [4] rfl (blk_of rfl) (pi_listQ K (pv 1)) (fun _ => (pg_name (i := 4) sc_written.nd rfl (Or.inl rfl))) (fun _ => pts_nil) (fun _ => (pe_bmQ K PySem.F.plainAttrs_str PySem.F.slot_str_join PySem.F.type_str_join (join_Q K) pe_str (pa_cons (pv 4) pa_nil)))) pa_nil)))))), ?_⟩
  have t := o.t
  have ob := t.ob
  have pa := t.pa
  have co := t.co
  refine ⟨_, rfl, _, _, _, _, _, rfl, by assumption, T.cl_Table, T.na_Table_parties, by rfl, _, _, rfl, Or.inl (SqL.of (by assumption)), ?_⟩
  rw [List.length_map, List.length_map]
  have h12 := o.h12
  refine ⟨_, rfl, by omega, by omega, ?_⟩
  rw [Int.toNat_natCast]
  refine comp_mapR (fun j => V.str (lab (hd.getD j (Str.empty, 0)))) (Nat.le_trans h12 (by decide)) (fun j Q' hj hQ => ?_) fun w0 H1 N1 => ?_
  · rw [show (0 : Int) + (j : Int) = (j : Int) by omega]
    have e : hd[j]? = some hd[j] := List.getElem?_eq_getElem hj
    have eg : hd.getD j (Str.empty, 0) = hd[j] := by simp [List.getD, e]
    rw [eg] at hQ
    obtain ⟨k1, k2⟩ := o.hk hd[j] (List.getElem_mem hj)
    have at1 : atI ((hd.map (·.1)).map V.str) (j : Int) = some (.str hd[j].1) := atI_of (by omega) (by rw [Int.toNat_natCast, List.getElem?_map, List.getElem?_map, e]; rfl)
    have at2 : atI ((nI (hd.map (·.2))).map V.int) (j : Int) = some (.int (hd[j].2 : Int)) := atI_of (by omega) (by unfold nI; rw [Int.toNat_natCast, List.getElem?_map, List.getElem?_map, List.getElem?_map, e]; rfl)
    refine ⟨_, rfl, _, _, _, _, _, rfl, by assumption, T.cl_Table, T.na_Table_parties, by rfl, _, rfl, _, _, _, _, rfl, rfl, Or.inl (SqL.of (by assumption)), by assumption, _, rfl, _, _, _, _, _, rfl, by assumption, T.cl_Table, T.na_Table_columns, by rfl, _, rfl, _, _, _, _, rfl, rfl, Or.inl (SqL.of (by assumption)), by assumption, ?_⟩
    exact ⟨hd[j], rfl, Nat.le_trans k1.le (by decide), Nat.le_trans k2 (by decide), hQ⟩
  rw [range_at hd (Str.empty, 0) (fun h => V.str (lab h))] at N1
  refine ⟨(by show 1 ≤ sizeLine; decide), fun ll H2 N2 => ?_⟩
  have S2 := N1.same.trans N2.same
  have hll := N2.at_
  have t2 := t.same S2
  have ob2 := t2.ob
  have pl2 := t2.pl
  refine ⟨_, rfl, _, _, _, _, _, rfl, by assumption, T.cl_Table, T.na_Table_places, by rfl, _, _, rfl, Or.inl (SqL.of (by assumption)), ?_⟩
  rw [List.length_map, List.length_map]
  have r12 := o.r12
  refine ⟨_, rfl, by omega, by omega, ?_⟩
  rw [Int.toNat_natCast]
  refine for_range (fun i σ H' => Same H H' ∧ (∃ cs : List Addr, H' ll = some (.lst (cs.map V.ref)) ∧ cs.length = i + 1 ∧ ll ∉ cs ∧ ∀ (j : Nat) (b : Addr) (ws : List Str), cs[j]? = some b → (wsOf hd rs)[j]? = some ws → H' b = some (.lst (ws.map V.str))) ∧ ∃ v2, σ = [some (.ref p), some (.ref ll), v2, none, none, none]) ⟨S2, ⟨[w0], hll, rfl, ?_, ?_⟩, _, rfl⟩ ?_ ?_
  · intro z
    have : ll = w0 := by simpa using z
    rw [← this] at N1
    have := N2.gone
    rw [N1.at_] at this
    cases this
  · intro j b ws e1 e2
    cases j with
    | succ j => simp at e1
    | zero =>
      have e1 : w0 = b := by simpa using e1
      have e2 : hd.map lab = ws := by simpa [wsOf] using e2
      subst e1 e2
      rw [List.map_map]
      exact N2.same _ _ N1.at_
  · rintro i σ H3 hi ⟨S3, ⟨cs, hl3, lc, nl, hc⟩, v2, rfl⟩
    rw [show (0 : Int) + (i : Int) = (i : Int) by omega]
    have er : rs[i]? = some rs[i] := List.getElem?_eq_getElem hi
    obtain ⟨k1, k2, k3, k4⟩ := o.rk rs[i] (List.getElem_mem hi)
    have t3 := t.same S3
    have ob3 := t3.ob
    have pl3 := t3.pl
    have ro3 := t3.ro
    have at1 : atI ((rs.map (·.1.1)).map V.str) (i : Int) = some (.str rs[i].1.1) := atI_of (by omega) (by rw [Int.toNat_natCast, List.getElem?_map, List.getElem?_map, er]; rfl)
    have at2 : atI ((nI (rs.map (·.1.2))).map V.int) (i : Int) = some (.int (rs[i].1.2 : Int)) := atI_of (by omega) (by unfold nI; rw [Int.toNat_natCast, List.getElem?_map, List.getElem?_map, List.getElem?_map, er]; rfl)
    refine ⟨_, rfl, ?_⟩
    refine ⟨.inl ⟨rfl, _, SqL.of hl3⟩, ?_⟩
    refine ⟨_, rfl, _, _, _, _, _, rfl, by assumption, T.cl_Table, T.na_Table_places, by rfl, _, rfl, _, _, _, _, rfl, rfl, Or.inl (SqL.of (by assumption)), by assumption, _, rfl, _, _, _, _, _, rfl, by assumption, T.cl_Table, T.na_Table_rows, by rfl, _, rfl, _, _, _, _, rfl, rfl, Or.inl (SqL.of (by assumption)), by assumption, ?_⟩
    refine ⟨rs[i].1, rfl, Nat.le_trans k1.le (by decide), Nat.le_trans k2 (by decide), ?_⟩
    refine ⟨(by show 1 ≤ sizeLine; decide), fun w1 H4 N4 => ?_⟩
    have t4 := t3.same N4.same
    have ob4 := t4.ob
    have vo4 := t4.vo
    have lb4 := t4.lb
    rw [List.length_map] at lb4
    have hib : i < bs.length := by omega
    have ebi : bs[i]? = some bs[i] := List.getElem?_eq_getElem hib
    have hbi := t4.vr i bs[i] (nI rs[i].2) ebi (by rw [List.getElem?_map, er]; rfl)
    have atb : atI (bs.map V.ref) (i : Int) = some (.ref bs[i]) := at_ref ebi
    have lr : ((nI rs[i].2).map V.int).length ≤ 12 := by unfold nI; rw [List.length_map, List.length_map, k3]; exact h12
    refine ⟨_, rfl, _, _, _, _, _, rfl, by assumption, T.cl_Table, T.na_Table_votes, by rfl, _, rfl, _, _, _, _, rfl, rfl, Or.inl (SqL.of (by assumption)), by assumption, ?_⟩
    refine ⟨bs[i], rfl, ⟨_, SqL.of hbi⟩, ?_⟩
    refine comp_mapL strV (SqL.of hbi) (Nat.le_trans lr (by decide)) (fun j x Q' hx hQ => ?_) fun w2 H5 N5 => ?_
    · obtain ⟨z, rfl, hz⟩ : ∃ z : Nat, x = .int (z : Int) ∧ z ∈ rs[i].2 := by
        unfold nI at hx
        rw [List.getElem?_map, List.getElem?_map] at hx
        cases e : rs[i].2[j]? with
        | none => rw [e] at hx; cases hx
        | some z => rw [e] at hx; exact ⟨z, (Option.some.inj hx).symm, List.mem_of_getElem? e⟩
      refine ⟨_, rfl, ?_⟩
      exact ⟨_, rfl, lg (k4 z hz), hQ⟩
    rw [strV_all] at N5
    have l2 : ((rs[i].2.map numS).map V.str).length ≤ 12 := by rw [List.length_map, List.length_map, k3]; exact h12
    refine ⟨w1, w2, _, _, rfl, rfl, N5.same _ _ N4.at_, N5.at_, Nat.le_trans (show 1 + _ ≤ 13 by omega) (by decide), fun w3 H6 N6 => ?_⟩
    have S36 := N4.same.trans (N5.same.trans N6.same)
    have hl6 := S36 _ _ hl3
    refine ⟨ll, _, _, rfl, rfl, hl6, ?_, ?_⟩
    · rw [List.length_map, lc]
      exact Nat.lt_of_lt_of_le (show i + 1 < 100 by omega) (by decide)
    have nll : H ll = none := N1.same.free N2.gone
    have w3l : w3 ≠ ll := fun z => by
      have := N6.gone
      rw [z, (N4.same.trans N5.same) _ _ hl3] at this
      cases this
    refine ⟨(S3.trans S36).upd nll, ⟨cs ++ [w3], by rw [upd_same, List.map_append]; rfl, by simp [lc], fun z => ?_, fun j b ws e1 e2 => ?_⟩, _, rfl⟩
    · rcases List.mem_append.mp z with h | h
      · exact nl h
      · exact w3l (by simpa using h : ll = w3).symm
    · by_cases hj : j < cs.length
      · rw [List.getElem?_append_left hj] at e1
        rw [upd_ne (fun z => nl (by rw [← z]; exact List.mem_of_getElem? e1))]
        exact S36 _ _ (hc j b ws e1 e2)
      · rw [List.getElem?_append_right (by omega)] at e1
        have hz : j - cs.length = 0 := by have := (List.getElem?_eq_some_iff.mp e1).1; simp at this; omega
        rw [hz] at e1
        have e1 : w3 = b := by simpa using e1
        have ej : j = i + 1 := by omega
        subst e1 ej
        have e2 : rowW rs[i] = ws := by
          unfold wsOf at e2
          rw [List.getElem?_cons_succ, List.getElem?_map, er] at e2
          exact Option.some.inj e2
        subst e2
        rw [upd_ne w3l]
        exact N6.at_
  · rintro σ H3 ⟨S3, ⟨cs, hl3, lc, nl, hc⟩, v2, rfl⟩
    have wb : ∀ ws, ws ∈ wsOf hd rs → ws.length ≤ 13 ∧ ∀ y, y ∈ ws → y.length ≤ 20 := fun ws hws => by
      unfold wsOf at hws
      rcases List.mem_cons.mp hws with rfl | hws
      · refine ⟨by rw [List.length_map]; omega, fun y hy => ?_⟩
        obtain ⟨h, hh, rfl⟩ := List.mem_map.mp hy
        obtain ⟨q1, q2⟩ := o.hk h hh
        have := lab_len (h := h) (by omega)
        have := q1.le
        omega
      · obtain ⟨r, hr', rfl⟩ := List.mem_map.mp hws
        obtain ⟨q1, q2, q3, q4⟩ := o.rk r hr'
        refine ⟨by unfold rowW; rw [List.length_cons, List.length_map]; omega, fun y hy => ?_⟩
        unfold rowW at hy
        rcases List.mem_cons.mp hy with rfl | hy
        · have := lab_len (h := r.1) (by omega)
          have := q1.le
          omega
        · obtain ⟨z, hz, rfl⟩ := List.mem_map.mp hy
          have hz9 := q4 z hz
          have : (numS z).length ≤ 10 := PySem.W.KT.len_num (by omega) (by omega)
          omega
    have lw : (wsOf hd rs).length = rs.length + 1 := by unfold wsOf; simp
    refine ⟨rfl, _, rfl, ?_⟩
    refine ⟨ll, rfl, ⟨_, SqL.of hl3⟩, ?_⟩
    refine comp_mapI (fun i => V.str (lin ((wsOf hd rs).getD i []))) (SqL.of hl3) (by rw [List.length_map, lc]; exact Nat.le_trans (show rs.length + 1 ≤ 100 by omega) (by decide)) (fun i x Q' hx hQ => ?_) fun l5 H5 N5 => ?_
    · rw [List.getElem?_map] at hx
      obtain ⟨b, eb⟩ : ∃ b, cs[i]? = some b := by
        cases e : cs[i]? with
        | none => rw [e] at hx; cases hx
        | some b => exact ⟨b, rfl⟩
      rw [eb] at hx
      obtain rfl := Option.some.inj hx
      have hi : i < (wsOf hd rs).length := by have := (List.getElem?_eq_some_iff.mp eb).1; omega
      have ew : (wsOf hd rs)[i]? = some (wsOf hd rs)[i] := List.getElem?_eq_getElem hi
      have eg : (wsOf hd rs).getD i [] = (wsOf hd rs)[i] := by simp [List.getD, ew]
      rw [eg] at hQ
      have hb := hc i b _ eb ew
      obtain ⟨b1, b2⟩ := wb _ (List.getElem_mem hi)
      have hsum := sum_len b2
      have l1 : (Str.ofString " ").length = 1 := by decide +kernel
      refine ⟨rfl, _, rfl, ?_⟩
      refine ⟨_, b, _, rfl, rfl, SqL.of hb, ?_, ?_⟩
      · rw [l1]
        have : (wsOf hd rs)[i].length * 20 ≤ 13 * 20 := Nat.mul_le_mul_right _ b1
        omega
      · have ej : Txt.join (Str.ofString " ") (wsOf hd rs)[i] = lin (wsOf hd rs)[i] := join_cd 32 _
        rw [ej]
        exact hQ
    rw [List.length_map, lc, ← lw, range_at (wsOf hd rs) [] (fun ws => V.str (lin ws))] at N5
    have hl5 : H5 l5 = some (.lst (((wsOf hd rs).map lin).map V.str)) := by rw [List.map_map]; exact N5.at_
    have lb : ∀ y, y ∈ (wsOf hd rs).map lin → y.length ≤ 273 := fun y hy => by
      obtain ⟨ws, hws, rfl⟩ := List.mem_map.mp hy
      obtain ⟨b1, b2⟩ := wb ws hws
      unfold lin
      rw [← cd_len, cd_mk]
      have := J_len (c := 32) (k := 20) (L := ws.map cd) fun x hx => by
        obtain ⟨y, hy, rfl⟩ := List.mem_map.mp hx
        rw [cd_len]
        exact b2 y hy
      rw [List.length_map] at this
      have : ws.length * 21 ≤ 13 * 21 := Nat.mul_le_mul_right _ b1
      omega
    have hsum := sum_len lb
    have l1 : (Str.ofString "\n").length = 1 := by decide +kernel
    refine ⟨_, l5, _, rfl, rfl, SqL.of hl5, ?_, ?_⟩
    · rw [l1]
      rw [List.length_map, lw] at hsum ⊢
      omega
    · have ej : Txt.join (Str.ofString "\n") ((wsOf hd rs).map lin) = tex hd rs := join_cd 10 _
      rw [ej]
      exact k H5 (S3.trans N5.same)
end
end K4
namespace SW
open PySem L2
def letters : List Nat := (List.range 26).map (97 + ·)
def numL (k : Nat) (cell : Int) : Nat := (((k : Int) * 7 + cell / 5) % 12).toNat
def filL (cell : Int) : List Nat := ((letters ++ letters).drop (cell % 26).toNat).take (cell / 26 % 8).toNat
def plcL (cell : Int) : Nat := (cell / 208 % ((filL cell).length + 1)).toNat
def midL (cell : Int) (n : Nat) : List Nat := (filL cell).take (plcL cell) ++ (97 + n) :: (filL cell).drop (plcL cell)
def namL (cell : Int) (n : Nat) : List Nat :=
  if cell / 1664 % 4 = 0 then List.replicate (1 + n % 6) (97 + (n / 6 + (cell / 7 % 20).toNat))
  else (if n % 2 = 1 ∧ cell / 11 % 2 = 0 then (midL cell n).take (plcL cell + 1) else midL cell n) ++ (if filL cell = [] then [113] else [])
theorem letters_mem {c : Nat} (h : c ∈ letters) : 97 ≤ c ∧ c ≤ 122 := by
  unfold letters at h
  obtain ⟨x, hx, rfl⟩ := List.mem_map.mp h
  have := List.mem_range.mp hx
  omega
theorem filL_len (cell : Int) : (filL cell).length = (cell / 26 % 8).toNat := by
  unfold filL
  rw [List.length_take, List.length_drop]
  have : (letters ++ letters).length = 52 := by decide
  omega
theorem filL_mem {cell : Int} {c : Nat} (h : c ∈ filL cell) : 97 ≤ c ∧ c ≤ 122 := by
  unfold filL at h
  have := List.mem_of_mem_drop (List.mem_of_mem_take h)
  rcases List.mem_append.mp this with h | h <;> exact letters_mem h
theorem plcL_le (cell : Int) : plcL cell ≤ (filL cell).length := by
  unfold plcL
  have h1 := Int.emod_nonneg (cell / 208) (show ((filL cell).length : Int) + 1 ≠ 0 by omega)
  have h2 := Int.emod_lt_of_pos (cell / 208) (show (0 : Int) < ((filL cell).length : Int) + 1 by omega)
  omega
theorem midL_mem {cell : Int} {n c : Nat} (hn : n < 12) (h : c ∈ midL cell n) : 97 ≤ c ∧ c ≤ 122 := by
  unfold midL at h
  rcases List.mem_append.mp h with h | h
  · exact filL_mem (List.mem_of_mem_take h)
  · rcases List.mem_cons.mp h with rfl | h
    · omega
    · exact filL_mem (List.mem_of_mem_drop h)
theorem midL_len (cell : Int) (n : Nat) : (midL cell n).length = (filL cell).length + 1 := by
  unfold midL
  have := plcL_le cell
  rw [List.length_append, List.length_cons, List.length_take, List.length_drop]
  omega
theorem midL_at (cell : Int) (n : Nat) (r : List Nat) : (midL cell n ++ r)[plcL cell]? = some (97 + n) := by
  unfold midL
  have := plcL_le cell
  rw [List.append_assoc, List.getElem?_append_right (by rw [List.length_take]; omega), List.length_take, show plcL cell - min (plcL cell) (filL cell).length = 0 by omega]
  rfl
theorem midT_at (cell : Int) (n : Nat) (r : List Nat) : ((midL cell n).take (plcL cell + 1) ++ r)[plcL cell]? = some (97 + n) := by
  have h := plcL_le cell
  have e := midL_at cell n []
  rw [List.append_nil] at e
  rw [List.getElem?_append_left (by rw [List.length_take, midL_len]; omega), List.getElem?_take_of_lt (by omega)]
  exact e
theorem namL_ok (cell : Int) {n : Nat} (hn : n < 12) : namL cell n ≠ [] ∧ (∀ c, c ∈ namL cell n → 97 ≤ c ∧ c ≤ 122) ∧ (namL cell n).length ≤ 8 := by
  unfold namL
  split
  · refine ⟨fun z => ?_, fun c hc => ?_, ?_⟩
    · have := congrArg List.length z
      rw [List.length_replicate] at this
      simp at this
    · have := (List.mem_replicate.mp hc).2
      omega
    · rw [List.length_replicate]; omega
  · have hl := filL_len cell
    have hm := midL_len cell n
    have hp := plcL_le cell
    have q : ∀ l : List Nat, (∀ c, c ∈ l → c ∈ midL cell n) → l ≠ [] → l.length ≤ (filL cell).length + 1 → (l ++ (if filL cell = [] then [113] else [])) ≠ [] ∧ (∀ c, c ∈ l ++ (if filL cell = [] then [113] else []) → 97 ≤ c ∧ c ≤ 122) ∧ (l ++ (if filL cell = [] then [113] else [])).length ≤ 8 := fun l h1 h2 h3 => by
      refine ⟨by simp [h2], fun c hc => ?_, ?_⟩
      · rcases List.mem_append.mp hc with h | h
        · exact midL_mem hn (h1 c h)
        · split at h
          · have : c = 113 := by simpa using h
            omega
          · cases h
      · rw [List.length_append]
        split
        · rename_i hz
          rw [hz] at h3
          simp at h3 ⊢
          omega
        · simp
          omega
    split
    · refine q _ (fun c hc => List.mem_of_mem_take hc) (fun z => ?_) (by rw [List.length_take]; omega)
      have := congrArg List.length z
      rw [List.length_take, hm] at this
      simp at this
    · refine q _ (fun c hc => hc) (fun z => ?_) (by omega)
      have := congrArg List.length z
      rw [hm] at this
      simp at this
theorem namL_inj {cell : Int} {n m : Nat} (hn : n < 12) (hm : m < 12) (h : namL cell n = namL cell m) : n = m := by
  unfold namL at h
  split at h
  · have h1 := congrArg List.length h
    rw [List.length_replicate, List.length_replicate] at h1
    have h2 := congrArg (fun l => l[0]?) h
    rw [List.getElem?_replicate, List.getElem?_replicate, if_pos (by omega), if_pos (by omega)] at h2
    have := Option.some.inj h2
    omega
  · have a1 : ∀ n r, ((if n % 2 = 1 ∧ cell / 11 % 2 = 0 then (midL cell n).take (plcL cell + 1) else midL cell n) ++ r)[plcL cell]? = some (97 + n) := fun n r => by
      split
      · exact midT_at cell n r
      · exact midL_at cell n r
    have h1 := a1 n (if filL cell = [] then [113] else [])
    rw [h, a1 m] at h1
    have := Option.some.inj h1
    omega
theorem numL_lt (k : Nat) (cell : Int) : numL k cell < 12 := by
  unfold numL
  omega
theorem numL_inj {k l : Nat} {cell : Int} (hk : k < 12) (hl : l < 12) (h : numL k cell = numL l cell) : k = l := by
  unfold numL at h
  omega
theorem name_ok (k : Nat) (cell : Int) : NameOk (mkS (namL cell (numL k cell))) := by
  obtain ⟨h1, h2, h3⟩ := namL_ok cell (numL_lt k cell)
  exact ⟨by rw [cd_mk]; exact h1, by rw [cd_mk]; exact h2, by rw [← cd_len, cd_mk]; exact h3⟩
theorem name_inj {k l : Nat} {cell : Int} (hk : k < 12) (hl : l < 12) (h : mkS (namL cell (numL k cell)) = mkS (namL cell (numL l cell))) : k = l := by
  have := congrArg cd h
  rw [cd_mk, cd_mk] at this
  exact numL_inj hk hl (namL_inj (numL_lt _ _) (numL_lt _ _) this)
theorem mul_cd (c : Nat) (n : Int) : cd (Txt.mul ⟨#[c]⟩ n) = List.replicate n.toNat c := PyProof.Rows.mul_one_list c n
theorem mul_ok (c : Nat) {n : Int} (h0 : 0 ≤ n) (h1 : n ≤ 1000) : MulOk ⟨#[c]⟩ n := by
  have l1 : (⟨#[c]⟩ : Str).length = 1 := rfl
  have big : (1000 : Nat) ≤ sizeLine := by decide
  refine ⟨?_, fun h _ => ?_, fun h _ => ?_⟩
  · rw [decide_eq_false (by omega), decide_eq_false (by omega)]
    rfl
  · rw [l1]
    have : 1 ≤ (2 ^ 63 - 1) / n := (Int.le_ediv_iff_mul_le (by omega)).mpr (by omega)
    omega
  · rw [l1]
    exact decide_eq_false (by omega)
end SW
namespace K4
open PySem L2 SW
section
variable {P : Program} {w : World} {K : PySem.W.Frag} {mg : Str → Option Value} {base : Heap}
def spName : Sp := fun vs H Q _ => ∃ (k : Nat) (cell : Int), vs = [.int (k : Int), .int cell] ∧ Q (.str (mkS (namL cell (numL k cell)))) H
theorem ok_lname (T : Txt K mg) : FnOk P w K mg base CX0 1 T.a_lname T.fd_lname ["_law_k", "_law_cell"] spName := by
  refine T.F_lname.ok sc_lname (fun vs H Q E h => ?_) (fun cdv A outer s H vs Q E hr h => ?_)
  · obtain ⟨k, cell, rfl, _⟩ := h
    rfl
  obtain ⟨k, cell, rfl, q⟩ := h
  refine ⟨_, (pss_cons (ps_par (i := 2) (j := 3) rfl sc_lname.nd rfl rfl (by decide) rfl rfl (pa_cons pe_str (pa_cons (pe_op op_mod (pe_op op_add (pe_op op_mulF (pv 0) pe_int) (pe_op op_fdivF (pv 1) pe_int)) pe_int) pa_nil)) rfl)
      (pss_cons (ps_if (pt_cmpR op_eqI (pe_op op_mod (pe_op op_fdivF (pv 1) pe_int) pe_int) pe_int (nomark _))
      (pss_one (ps_ret (pe_op op_mulS (pe_ix ix_str (pv 2) (pe_op op_add (pe_op op_fdivF (pv 3) pe_int) (pe_op op_mod (pe_op op_fdivF (pv 1) pe_int) pe_int)) (fun _ _ => rfl)) (pe_op op_add pe_int (pe_op op_mod (pv 3) pe_int)))))
      pss_nil)
      (pss_cons (ps_set (i := 4) sc_lname.nd rfl (Or.inl rfl) (pe_slice sl_str (pe_op op_add_str (pv 2) (pv 2)) (po_some (pe_op op_mod (pv 1) pe_int)) (po_some (pe_op op_add (pe_op op_mod (pv 1) pe_int) (pe_op op_mod (pe_op op_fdivF (pv 1) pe_int) pe_int)))))
      (pss_cons (ps_set (i := 5) sc_lname.nd rfl (Or.inl rfl) (pe_op op_mod (pe_op op_fdivF (pv 1) pe_int) (pe_op op_add (pe_callB call_len_str (by rfl) T.n_len PySem.boot_len (pa_cons (pv 4) pa_nil)) pe_int)))
      (pss_cons (ps_set (i := 6) sc_lname.nd rfl (Or.inl rfl) (pe_op op_add_str (pe_op op_add_str (pe_slice sl_str (pv 4) po_none (po_some (pv 5))) (pe_ix ix_str (pv 2) (pv 3) (fun _ _ => rfl))) (pe_slice sl_str (pv 4) (po_some (pv 5)) po_none)))
      (pss_cons (ps_meet (ps_if (PW.pt (pw_and (pt_cmpR op_eqI (pe_op op_mod (pv 3) pe_int) pe_int (nomark _)) (pw_and1 (pt_cmpR op_eqI (pe_op op_mod (pe_op op_fdivF (pv 1) pe_int) pe_int) pe_int (nomark _)))))
      (pss_one (ps_set (i := 6) sc_lname.nd rfl (Or.inl rfl) (pe_slice sl_str (pv 6) po_none (po_some (pe_op op_add (pv 5) pe_int)))))
      pss_nil))
      (pss_one (ps_ret (pe_ifExp (pt_cmpR op_ne (pv 4) pe_str (nomark _)) (pv 6) (pe_op op_add_str (pv 6) pe_str)))))))))), ?_⟩
  have el : cd (Str.ofString "abcdefghijklmnopqrstuvwxyz") = letters := by decide +kernel
  have ll : (Str.ofString "abcdefghijklmnopqrstuvwxyz").length = 26 := by rw [← cd_len, el]; decide
  have big : (1000 : Nat) ≤ sizeLine := by decide
  have hn := numL_lt k cell
  have en : ((k : Int) * 7 + cell / 5) % 12 = ((numL k cell : Nat) : Int) := by unfold numL; omega
  unfold tPar
  refine ⟨_, rfl, _, _, rfl, rfl, .inl (.inr ⟨by decide, by decide⟩), _, rfl, _, _, rfl, rfl, ⟨by omega, fits_of (by omega) (by omega)⟩, _, _, rfl, rfl, _, _, rfl, rfl, by omega, ?_⟩
  refine ⟨_, .int ((numL k cell : Nat) : Int), congrArg (fun z => [_, V.int z]) en, ?_⟩
  generalize numL k cell = n at *
  generalize Str.ofString "abcdefghijklmnopqrstuvwxyz" = al at *
  have atl : ∀ j : Nat, j < 26 → atI al.cps.toList (j : Int) = some (97 + j) := fun j hj => by
    show atI (cd al) (j : Int) = _
    rw [el]
    refine atI_of (by omega) ?_
    rw [Int.toNat_natCast]
    unfold letters
    rw [List.getElem?_map, List.getElem?_range hj]
    rfl
  refine ⟨_, rfl, _, _, rfl, rfl, ⟨by omega, fits_of (by omega) (by omega)⟩, _, _, rfl, rfl, by omega, _, _, rfl, rfl, _, rfl, ?_⟩
  refine ite3 (fun c => ?_) (fun c => ?_)
  · have e1 : (n : Int) / 6 + cell / 7 % 20 = ((n / 6 + (cell / 7 % 20).toNat : Nat) : Int) := by omega
    have e2 : (1 : Int) + (n : Int) % 6 = ((1 + n % 6 : Nat) : Int) := by omega
    refine ⟨_, rfl, _, rfl, _, _, rfl, rfl, ⟨by omega, fits_of (by omega) (by omega)⟩, _, rfl, _, _, rfl, rfl, ⟨by omega, fits_of (by omega) (by omega)⟩, _, _, rfl, rfl, by omega, _, _, rfl, rfl, ?_⟩
    refine ⟨al, _, _, rfl, rfl, by rw [ll]; omega, by rw [e1]; exact atl _ (by omega), ?_⟩
    refine ⟨_, rfl, _, _, rfl, rfl, by omega, _, _, rfl, rfl, ?_⟩
    refine ⟨_, _, rfl, rfl, mul_ok _ (by omega) (by omega), ?_⟩
    have e3 : Txt.mul ⟨#[97 + (n / 6 + (cell / 7 % 20).toNat)]⟩ (1 + (n : Int) % 6) = mkS (namL cell n) := cd_inj (by
      rw [mul_cd, cd_mk, e2, Int.toNat_natCast]
      unfold namL
      rw [if_pos c])
    rw [e3]
    exact q
  have lf := filL_len cell
  have lf8 : (filL cell).length ≤ 7 := by omega
  have lfS : (mkS (filL cell)).length = (filL cell).length := by rw [← cd_len, cd_mk]
  have hp := plcL_le cell
  have len : ∀ a b : Str, (a ++ b).length = a.length + b.length := fun a b => by rw [← cd_len, ← cd_len, ← cd_len, cd_app, List.length_append]
  have e1 : Txt.slice (al ++ al) (some (cell % 26)) (some (cell % 26 + cell / 26 % 8)) = mkS (filL cell) := by
    rw [beq_iff_eq.mp (PyProof.Rows.slice_closesL (x := al ++ al) (by omega) (by omega) (by rw [len, ll]; omega))]
    show mkS (((cd (al ++ al)).drop _).take _) = _
    rw [cd_app, el]
    unfold filL
    rw [show (cell % 26 + cell / 26 % 8 - cell % 26).toNat = (cell / 26 % 8).toNat by omega]
  have e2 : cell / 208 % (((mkS (filL cell)).length : Int) + 1) = ((plcL cell : Nat) : Int) := by
    rw [lfS]
    unfold plcL
    have := Int.emod_nonneg (cell / 208) (show ((filL cell).length : Int) + 1 ≠ 0 by omega)
    omega
  have e3 : Txt.slice (mkS (filL cell)) none (some (cell / 208 % (((mkS (filL cell)).length : Int) + 1))) = mkS ((filL cell).take (plcL cell)) := by rw [e2, slice_to (by rw [lfS]; exact hp), cd_mk]
  have e4 : Txt.slice (mkS (filL cell)) (some (cell / 208 % (((mkS (filL cell)).length : Int) + 1))) none = mkS ((filL cell).drop (plcL cell)) := by rw [e2, slice_from (by rw [lfS]; exact hp), cd_mk]
  have e5 : mkS ((filL cell).take (plcL cell)) ++ ⟨#[97 + n]⟩ ++ mkS ((filL cell).drop (plcL cell)) = mkS (midL cell n) := cd_inj (by
    rw [cd_app, cd_app, cd_mk, cd_mk, cd_mk]
    unfold midL
    rw [List.append_assoc]
    rfl)
  have lm := midL_len cell n
  have lmS : (mkS (midL cell n)).length = (filL cell).length + 1 := by rw [← cd_len, cd_mk, lm]
  have e6 : Txt.slice (mkS (midL cell n)) none (some ((cell / 208 % (((mkS (filL cell)).length : Int) + 1)) + 1)) = mkS ((midL cell n).take (plcL cell + 1)) := by
    rw [e2, show ((plcL cell : Nat) : Int) + 1 = ((plcL cell + 1 : Nat) : Int) by omega, slice_to (by rw [lmS]; omega), cd_mk]
  refine ⟨_, rfl, _, rfl, ?_⟩
  refine ⟨_, _, rfl, rfl, by rw [ll]; omega, ?_⟩
  refine ⟨_, rfl, _, _, rfl, rfl, by omega, _, rfl, _, rfl, _, _, rfl, rfl, by omega, _, rfl, _, _, rfl, rfl, ⟨by omega, fits_of (by omega) (by omega)⟩, _, _, rfl, rfl, by omega, _, _, rfl, rfl, _, rfl, ?_⟩
  refine ⟨_, rfl, by rw [len, ll]; omega, ?_⟩
  rw [e1]
  refine ⟨_, rfl, _, _, rfl, rfl, ⟨by omega, fits_of (by omega) (by omega)⟩, _, rfl, ?_⟩
  refine ⟨_, rfl, by rw [lfS]; omega, ?_⟩
  refine ⟨_, _, rfl, rfl, _, _, rfl, rfl, by omega, _, rfl, _, rfl, _, rfl, ?_⟩
  refine ⟨_, rfl, by rw [lfS]; omega, ?_⟩
  rw [e3]
  refine ⟨_, rfl, _, rfl, ?_⟩
  refine ⟨al, _, _, rfl, rfl, by rw [ll]; omega, atl n (by omega), ?_⟩
  refine ⟨_, _, rfl, rfl, ?_, ?_⟩
  · have : (mkS ((filL cell).take (plcL cell))).length ≤ 8 := by rw [← cd_len, cd_mk, List.length_take]; omega
    have l1 : (⟨#[97 + n]⟩ : Str).length = 1 := rfl
    omega
  refine ⟨_, rfl, _, rfl, _, rfl, ?_⟩
  refine ⟨_, rfl, by rw [lfS]; omega, ?_⟩
  rw [e4]
  refine ⟨_, _, rfl, rfl, ?_, ?_⟩
  · have : (mkS ((filL cell).take (plcL cell))).length ≤ 8 := by rw [← cd_len, cd_mk, List.length_take]; omega
    have : (mkS ((filL cell).drop (plcL cell))).length ≤ 8 := by rw [← cd_len, cd_mk, List.length_drop]; omega
    have l1 : (⟨#[97 + n]⟩ : Str).length = 1 := rfl
    rw [len]
    omega
  rw [e5]
  refine ⟨fun σ H' => H' = H ∧ σ = [some (.int (k : Int)), some (.int cell), some (.str al), some (.int (n : Int)), some (.str (mkS (filL cell))), some (.int (cell / 208 % (((mkS (filL cell)).length : Int) + 1))), some (.str (mkS (if n % 2 = 1 ∧ cell / 11 % 2 = 0 then (midL cell n).take (plcL cell + 1) else midL cell n)))], ?_, ?_⟩
  · refine ⟨_, rfl, _, _, rfl, rfl, by omega, _, _, rfl, rfl, _, rfl, ?_⟩
    refine ite3 (fun c1 => ?_) (fun c1 => iteF ?_)
    · refine ⟨_, rfl, _, _, rfl, rfl, ⟨by omega, fits_of (by omega) (by omega)⟩, _, _, rfl, rfl, by omega, _, _, rfl, rfl, _, rfl, ?_⟩
      refine ite3 (fun c2 => ?_) (fun c2 => ?_)
      · refine ⟨_, rfl, _, rfl, _, _, rfl, rfl, _, rfl, ?_⟩
        refine ⟨_, rfl, by rw [lmS]; omega, ?_⟩
        rw [e6]
        refine ⟨rfl, ?_⟩
        rw [if_pos ⟨by omega, c2⟩]
        rfl
      · refine ⟨rfl, ?_⟩
        rw [if_neg (fun z => c2 z.2)]
        rfl
    · refine ⟨rfl, ?_⟩
      rw [if_neg (fun z => c1 (by omega))]
      rfl
  rintro σ H' ⟨rfl, rfl⟩
  refine ⟨_, rfl, rfl, _, rfl, ?_⟩
  by_cases hf : filL cell = []
  · have ef : V.str (mkS (filL cell)) = V.str (Str.ofString "") := by rw [hf]; rfl
    refine iteNT ef ?_
    refine ⟨_, rfl, ?_⟩
    refine ⟨_, _, rfl, rfl, ?_, ?_⟩
    · have l1 : (Str.ofString "q").length = 1 := by decide +kernel
      have l2 : (mkS (if n % 2 = 1 ∧ cell / 11 % 2 = 0 then (midL cell n).take (plcL cell + 1) else midL cell n)).length ≤ 9 := by
        rw [← cd_len, cd_mk]
        split
        · rw [List.length_take, lm]; omega
        · rw [lm]; omega
      omega
    · have e8 : mkS (if n % 2 = 1 ∧ cell / 11 % 2 = 0 then (midL cell n).take (plcL cell + 1) else midL cell n) ++ Str.ofString "q" = mkS (namL cell n) := cd_inj (by
        have e9 : cd (Str.ofString "q") = [113] := by decide +kernel
        rw [cd_app, cd_mk, cd_mk, e9]
        unfold namL
        rw [if_neg c, if_pos hf])
      rw [e8]
      exact q
  · have ef : V.str (mkS (filL cell)) ≠ V.str (Str.ofString "") := fun z => hf (by
      have := congrArg cd (V.str.inj z)
      rw [cd_mk] at this
      exact this)
    refine iteNF ef ?_
    refine ⟨_, rfl, ?_⟩
    have e7 : (if n % 2 = 1 ∧ cell / 11 % 2 = 0 then (midL cell n).take (plcL cell + 1) else midL cell n) = namL cell n := by
      unfold namL
      rw [if_neg c, if_neg hf, List.append_nil]
    rw [e7]
    exact q
end
end K4
namespace K4
open PySem L2 SW
section
variable {P : Program} {w : World} {K : PySem.W.Frag} {mg : Str → Option Value} {base : Heap}
structure PuOk (hd : List (Str × Nat)) (rs : List Row) : Prop where
  hk : ∀ h, h ∈ hd → NameOk h.1 ∧ h.2 ≤ 300
  hn : (hd.map (·.1)).Nodup
  h1 : 0 < hd.length
  h12 : hd.length ≤ 12
  rk : ∀ r, r ∈ rs → NameOk r.1.1 ∧ r.1.2 ≤ 300 ∧ r.2.length = hd.length ∧ ∀ z, z ∈ r.2 → z ≤ 10 ^ 9
  rn : (rs.map (·.1.1)).Nodup
  r1 : 0 < rs.length
  r12 : rs.length ≤ 12
  sum : (nI (rs.map (·.1.2))).sum = (nI (hd.map (·.2))).sum
  s300 : (nI (rs.map (·.1.2))).sum ≤ 300
structure LsH (H : Hp) (nl cl pl rl vt : Addr) (bs : List Addr) (hd : List (Str × Nat)) (rs : List Row) : Prop where
  n : H nl = some (.lst ((hd.map (·.1)).map V.str))
  c : H cl = some (.lst ((nI (hd.map (·.2))).map V.int))
  p : H pl = some (.lst ((rs.map (·.1.1)).map V.str))
  r : H rl = some (.lst ((nI (rs.map (·.1.2))).map V.int))
  v : H vt = some (.lst (bs.map V.ref))
  lb : bs.length = rs.length
  vr : ∀ (i : Nat) (b : Addr) (r : Row), bs[i]? = some b → rs[i]? = some r → H b = some (.lst ((nI r.2).map V.int))
theorem LsH.same {H H' : Hp} {nl cl pl rl vt : Addr} {bs : List Addr} {hd : List (Str × Nat)} {rs : List Row} (t : LsH H nl cl pl rl vt bs hd rs) (S : Same H H') : LsH H' nl cl pl rl vt bs hd rs :=
  ⟨S _ _ t.n, S _ _ t.c, S _ _ t.p, S _ _ t.r, S _ _ t.v, t.lb, fun i b r e1 e2 => S _ _ (t.vr i b r e1 e2)⟩
theorem lab_sum (h : Str × Nat) : h.1 ++ Str.ofString "(" ++ numS h.2 ++ Str.ofString ")" = lab h := cd_inj (by
  rw [cd_lab, cd_app, cd_app, cd_app]
  have e1 : cd (Str.ofString "(") = [40] := by decide +kernel
  have e2 : cd (Str.ofString ")") = [41] := by decide +kernel
  have e3 : cd (numS h.2) = dg h.2 := cd_num h.2
  rw [e1, e2, e3]
  simp)
theorem PuOk.wb {hd : List (Str × Nat)} {rs : List Row} (o : PuOk hd rs) : ∀ ws, ws ∈ wsOf hd rs → ws ≠ [] ∧ ws.length ≤ 13 ∧ ∀ y, y ∈ ws → y.length ≤ 20 ∧ cd y ≠ [] ∧ ∀ c, c ∈ cd y → 40 ≤ c := fun ws hws => by
  have h12 := o.h12
  have h1 := o.h1
  have labs : ∀ h : Str × Nat, NameOk h.1 → h.2 ≤ 300 → (lab h).length ≤ 20 ∧ cd (lab h) ≠ [] ∧ ∀ c, c ∈ cd (lab h) → 40 ≤ c := fun h q1 q2 => by
    have := lab_len (h := h) (by omega)
    have := q1.le
    refine ⟨by omega, by rw [cd_lab]; simp, fun c hc => ?_⟩
    rw [cd_lab] at hc
    simp only [List.mem_append, List.mem_cons, List.not_mem_nil, or_false] at hc
    rcases hc with hc | rfl | hc | rfl
    · have := q1.let' c hc; omega
    · omega
    · have := dg_all _ c hc; omega
    · omega
  unfold wsOf at hws
  rcases List.mem_cons.mp hws with rfl | hws
  · refine ⟨fun z => ?_, by rw [List.length_map]; omega, fun y hy => ?_⟩
    · have := congrArg List.length z
      rw [List.length_map] at this
      simp at this
      rw [this] at h1
      simp at h1
    · obtain ⟨h, hh, rfl⟩ := List.mem_map.mp hy
      obtain ⟨q1, q2⟩ := o.hk h hh
      exact labs h q1 q2
  · obtain ⟨r, hr', rfl⟩ := List.mem_map.mp hws
    obtain ⟨q1, q2, q3, q4⟩ := o.rk r hr'
    refine ⟨by unfold rowW; simp, by unfold rowW; rw [List.length_cons, List.length_map]; omega, fun y hy => ?_⟩
    unfold rowW at hy
    rcases List.mem_cons.mp hy with rfl | hy
    · exact labs r.1 q1 q2
    · obtain ⟨z, hz, rfl⟩ := List.mem_map.mp hy
      have hz9 := q4 z hz
      have : (numS z).length ≤ 10 := PySem.W.KT.len_num (by omega) (by omega)
      have e3 : cd (numS z) = dg z := cd_num z
      refine ⟨by omega, by rw [e3]; exact dg_ne z, fun c hc => ?_⟩
      rw [e3] at hc
      have := dg_all _ c hc
      omega
theorem wsOf_len (hd : List (Str × Nat)) (rs : List Row) : (wsOf hd rs).length = rs.length + 1 := by unfold wsOf; simp
theorem lin_len {ws : List Str} (h1 : ws.length ≤ 13) (h2 : ∀ y, y ∈ ws → y.length ≤ 20) : (lin ws).length ≤ 273 := by
  unfold lin
  rw [← cd_len, cd_mk]
  have := J_len (c := 32) (k := 20) (L := ws.map cd) fun x hx => by
    obtain ⟨y, hy, rfl⟩ := List.mem_map.mp hx
    rw [cd_len]
    exact h2 y hy
  rw [List.length_map] at this
  have : ws.length * 21 ≤ 13 * 21 := Nat.mul_le_mul_right _ h1
  omega
def spText : Sp := fun vs H Q _ => ∃ (nl cl pl rl vt : Addr) (bs : List Addr) (hd : List (Str × Nat)) (rs : List Row), vs = [.ref nl, .ref cl, .ref pl, .ref rl, .ref vt] ∧ LsH H nl cl pl rl vt bs hd rs ∧ PuOk hd rs ∧ ∀ H', Same H H' → Q (.str (tex hd rs)) H'
theorem ok_ltext (T : Txt K mg) : FnOk P w K mg base CX0 1 T.a_ltext T.fd_ltext ["_law_names", "_law_columns", "_law_places", "_law_rows", "_law_votes"] spText := by
  refine T.F_ltext.ok sc_ltext (fun vs H Q E h => ?_) (fun cdv A outer s H vs Q E hr h => ?_)
  · obtain ⟨nl, cl, pl, rl, vt, bs, hd, rs, rfl, _⟩ := h
    rfl
  obtain ⟨nl, cl, pl, rl, vt, bs, hd, rs, rfl, t, o, k⟩ := h
  refine ⟨_, (pss_cons (ps_set (i := 5) sc_ltext.nd rfl (Or.inl rfl) (pe_lstA (pa_cons (pe_bm PySem.F.plainAttrs_str PySem.F.slot_str_join PySem.F.type_str_join (join_Q K) pe_str (pa_cons (pe_comp [7] rfl (blk_of rfl) (pi_range1 rfl T.n_range (pa_cons (pe_callB (len_Q K) (by rfl) T.n_len PySem.boot_len (pa_cons (pv 0) pa_nil)) pa_nil)) (fun _ => (pg_name (i := 7) sc_ltext.nd rfl (Or.inl rfl))) (fun _ => pts_nil) (fun _ => (pe_op op_add_str (pe_op op_add_str (pe_op op_add_str (pe_ix (ix_Q K) (pv 0) (pv 7) (fun _ _ => rfl)) pe_str) (pe_callTy call_str_int (by rfl) T.n_str PyProof.Rows.boot_str (pa_cons (pe_ix (ix_Q K) (pv 1) (pv 7) (fun _ _ => rfl)) pa_nil))) pe_str))) pa_nil)) pa_nil)))
      (pss_cons (ps_for PassesOwn.never rfl (pi_range1 rfl T.n_range (pa_cons (pe_callB (len_Q K) (by rfl) T.n_len PySem.boot_len (pa_cons (pv 2) pa_nil)) pa_nil)) (pg_name (i := 6) sc_ltext.nd rfl (Or.inl rfl))
      (pss_one (ps_expr (pe_bm PySem.F.plainAttrs_list PySem.F.slot_list_append PySem.F.type_list_append mt_append (pv 5) (pa_cons (pe_bm PySem.F.plainAttrs_str PySem.F.slot_str_join PySem.F.type_str_join (join_Q K) pe_str (pa_cons (pe_op op_catN (pe_lstA (pa_cons (pe_op op_add_str (pe_op op_add_str (pe_op op_add_str (pe_ix (ix_Q K) (pv 2) (pv 6) (fun _ _ => rfl)) pe_str) (pe_callTy call_str_int (by rfl) T.n_str PyProof.Rows.boot_str (pa_cons (pe_ix (ix_Q K) (pv 3) (pv 6) (fun _ _ => rfl)) pa_nil))) pe_str) pa_nil)) (pe_comp [8] rfl (blk_of rfl) (pi_listQ K (pe_ix (ix_Q K) (pv 4) (pv 6) (fun _ _ => rfl))) (fun _ => (pg_name (i := 8) sc_ltext.nd rfl (Or.inl rfl))) (fun _ => pts_nil) (fun _ => (pe_callTy call_str_int (by rfl) T.n_str PyProof.Rows.boot_str (pa_cons (pv 8) pa_nil))))) pa_nil)) pa_nil)))))
      (pss_one (ps_ret (pe_bm PySem.F.plainAttrs_str PySem.F.slot_str_join PySem.F.type_str_join (join_Q K) pe_str (pa_cons (pv 5) pa_nil)))))), ?_⟩
  have h12 := o.h12
  have r12 := o.r12
  have big : (10000 : Nat) ≤ sizeLine := by decide
  have len : ∀ a b : Str, (a ++ b).length = a.length + b.length := fun a b => by rw [← cd_len, ← cd_len, ← cd_len, cd_app, List.length_append]
  have p1 : (Str.ofString "(").length = 1 := by decide +kernel
  have p2 : (Str.ofString ")").length = 1 := by decide +kernel
  have s1 : (Str.ofString " ").length = 1 := by decide +kernel
  have hnl := t.n
  have hcl := t.c
  refine ⟨rfl, _, rfl, _, _, rfl, Or.inl (SqL.of (by assumption)), ?_⟩
  rw [List.length_map, List.length_map]
  refine ⟨_, rfl, by omega, by omega, ?_⟩
  rw [Int.toNat_natCast]
  refine comp_mapR (fun j => V.str (lab (hd.getD j (Str.empty, 0)))) (Nat.le_trans h12 (by decide)) (fun j Q' hj hQ => ?_) fun w0 H1 N1 => ?_
  · rw [show (0 : Int) + (j : Int) = (j : Int) by omega]
    have e : hd[j]? = some hd[j] := List.getElem?_eq_getElem hj
    have eg : hd.getD j (Str.empty, 0) = hd[j] := by simp [List.getD, e]
    rw [eg] at hQ
    obtain ⟨k1, k2⟩ := o.hk hd[j] (List.getElem_mem hj)
    have k3 := k1.le
    have k4 : (numS hd[j].2).length ≤ 10 := PySem.W.KT.len_num (by omega) (by omega)
    have at1 : atI ((hd.map (·.1)).map V.str) (j : Int) = some (.str hd[j].1) := atI_of (by omega) (by rw [Int.toNat_natCast, List.getElem?_map, List.getElem?_map, e]; rfl)
    have at2 : atI ((nI (hd.map (·.2))).map V.int) (j : Int) = some (.int (hd[j].2 : Int)) := atI_of (by omega) (by unfold nI; rw [Int.toNat_natCast, List.getElem?_map, List.getElem?_map, List.getElem?_map, e]; rfl)
    refine ⟨_, rfl, _, rfl, _, _, _, _, rfl, rfl, Or.inl (SqL.of (by assumption)), by assumption, ?_⟩
    refine ⟨_, _, rfl, rfl, by rw [p1]; omega, ?_⟩
    refine ⟨_, rfl, _, rfl, _, _, _, _, rfl, rfl, Or.inl (SqL.of (by assumption)), by assumption, ?_⟩
    refine ⟨_, rfl, lg (by omega), ?_⟩
    refine ⟨_, numS hd[j].2, rfl, rfl, by rw [len, p1]; omega, ?_⟩
    refine ⟨_, _, rfl, rfl, by rw [len, len, p1, p2]; omega, ?_⟩
    rw [lab_sum]
    exact hQ
  rw [range_at hd (Str.empty, 0) (fun h => V.str (lab h))] at N1
  have hw0 : H1 w0 = some (.lst ((hd.map lab).map V.str)) := by rw [List.map_map]; exact N1.at_
  have wb := o.wb
  obtain ⟨_, b1, b2⟩ := wb (hd.map lab) (by unfold wsOf; simp)
  have hs0 := sum_len (fun y hy => (b2 y hy).1)
  refine ⟨_, w0, _, rfl, rfl, SqL.of hw0, ?_, ?_⟩
  · rw [s1]; omega
  have ej0 : Txt.join (Str.ofString " ") (hd.map lab) = lin (hd.map lab) := join_cd 32 _
  rw [ej0]
  refine ⟨(by show 1 ≤ sizeLine; decide), fun ll H2 N2 => ?_⟩
  have S2 := N1.same.trans N2.same
  have hll := N2.at_
  have nll : H ll = none := N1.same.free N2.gone
  have t2 := t.same S2
  have pl2 := t2.p
  refine ⟨_, rfl, _, _, rfl, Or.inl (SqL.of (by assumption)), ?_⟩
  rw [List.length_map, List.length_map]
  refine ⟨_, rfl, by omega, by omega, ?_⟩
  rw [Int.toNat_natCast]
  refine for_range (fun i σ H' => Same H H' ∧ H' ll = some (.lst ((((wsOf hd rs).take (i + 1)).map lin).map V.str)) ∧ ∃ v6, σ = [some (.ref nl), some (.ref cl), some (.ref pl), some (.ref rl), some (.ref vt), some (.ref ll), v6, none, none]) ⟨S2, hll, _, rfl⟩ ?_ ?_
  · rintro i σ H3 hi ⟨S3, hl3, v6, rfl⟩
    rw [show (0 : Int) + (i : Int) = (i : Int) by omega]
    have er : rs[i]? = some rs[i] := List.getElem?_eq_getElem hi
    obtain ⟨k1, k2, k3, k4⟩ := o.rk rs[i] (List.getElem_mem hi)
    have k5 := k1.le
    have k6 : (numS rs[i].1.2).length ≤ 10 := PySem.W.KT.len_num (by omega) (by omega)
    have t3 := t.same S3
    have hp3 := t3.p
    have hr3 := t3.r
    have hv3 := t3.v
    have lb := t3.lb
    have at1 : atI ((rs.map (·.1.1)).map V.str) (i : Int) = some (.str rs[i].1.1) := atI_of (by omega) (by rw [Int.toNat_natCast, List.getElem?_map, List.getElem?_map, er]; rfl)
    have at2 : atI ((nI (rs.map (·.1.2))).map V.int) (i : Int) = some (.int (rs[i].1.2 : Int)) := atI_of (by omega) (by unfold nI; rw [Int.toNat_natCast, List.getElem?_map, List.getElem?_map, List.getElem?_map, er]; rfl)
    refine ⟨_, rfl, ?_⟩
    refine ⟨.inl ⟨rfl, _, SqL.of hl3⟩, ?_⟩
    refine ⟨rfl, _, rfl, _, rfl, _, _, _, _, rfl, rfl, Or.inl (SqL.of (by assumption)), by assumption, ?_⟩
    refine ⟨_, _, rfl, rfl, by rw [p1]; omega, ?_⟩
    refine ⟨_, rfl, _, rfl, _, _, _, _, rfl, rfl, Or.inl (SqL.of (by assumption)), by assumption, ?_⟩
    refine ⟨_, rfl, lg (by omega), ?_⟩
    refine ⟨_, numS rs[i].1.2, rfl, rfl, by rw [len, p1]; omega, ?_⟩
    refine ⟨_, _, rfl, rfl, by rw [len, len, p1, p2]; omega, ?_⟩
    rw [lab_sum]
    refine ⟨(by show 1 ≤ sizeLine; decide), fun w1 H4 N4 => ?_⟩
    have t4 := t3.same N4.same
    have hv4 := t4.v
    have hib : i < bs.length := by omega
    have ebi : bs[i]? = some bs[i] := List.getElem?_eq_getElem hib
    have hbi := t4.vr i bs[i] rs[i] ebi er
    have atb : atI (bs.map V.ref) (i : Int) = some (.ref bs[i]) := at_ref ebi
    have lr : ((nI rs[i].2).map V.int).length ≤ 12 := by unfold nI; rw [List.length_map, List.length_map, k3]; exact h12
    refine ⟨_, rfl, _, rfl, _, _, _, _, rfl, rfl, Or.inl (SqL.of (by assumption)), by assumption, ?_⟩
    refine ⟨bs[i], rfl, ⟨_, SqL.of hbi⟩, ?_⟩
    refine comp_mapL strV (SqL.of hbi) (Nat.le_trans lr (by decide)) (fun j x Q' hx hQ => ?_) fun w2 H5 N5 => ?_
    · obtain ⟨z, rfl, hz⟩ : ∃ z : Nat, x = .int (z : Int) ∧ z ∈ rs[i].2 := by
        unfold nI at hx
        rw [List.getElem?_map, List.getElem?_map] at hx
        cases e : rs[i].2[j]? with
        | none => rw [e] at hx; cases hx
        | some z => rw [e] at hx; exact ⟨z, (Option.some.inj hx).symm, List.mem_of_getElem? e⟩
      refine ⟨_, rfl, ?_⟩
      exact ⟨_, rfl, lg (k4 z hz), hQ⟩
    rw [strV_all] at N5
    have l2 : ((rs[i].2.map numS).map V.str).length ≤ 12 := by rw [List.length_map, List.length_map, k3]; exact h12
    refine ⟨w1, w2, _, _, rfl, rfl, N5.same _ _ N4.at_, N5.at_, Nat.le_trans (show 1 + _ ≤ 13 by omega) (by decide), fun w3 H6 N6 => ?_⟩
    have S36 := N4.same.trans (N5.same.trans N6.same)
    have hl6 := S36 _ _ hl3
    have hw3 : H6 w3 = some (.lst ((rowW rs[i]).map V.str)) := N6.at_
    obtain ⟨_, b1, b2⟩ := wb (rowW rs[i]) (by unfold wsOf; exact List.mem_cons_of_mem _ (List.mem_map_of_mem (List.getElem_mem hi)))
    have hs1 := sum_len (fun y hy => (b2 y hy).1)
    refine ⟨_, w3, _, rfl, rfl, SqL.of hw3, ?_, ?_⟩
    · rw [s1]; omega
    have ej1 : Txt.join (Str.ofString " ") (rowW rs[i]) = lin (rowW rs[i]) := join_cd 32 _
    rw [ej1]
    have lw := wsOf_len hd rs
    refine ⟨ll, _, _, rfl, rfl, hl6, ?_, ?_⟩
    · rw [List.length_map, List.length_map, List.length_take]
      exact Nat.lt_of_lt_of_le (show min (i + 1) (wsOf hd rs).length < 100 by omega) (by decide)
    refine ⟨(S3.trans S36).upd nll, ?_, _, rfl⟩
    have et : (wsOf hd rs).take (i + 1 + 1) = (wsOf hd rs).take (i + 1) ++ [rowW rs[i]] := by
      rw [List.take_add_one (l := wsOf hd rs)]
      congr 1
      unfold wsOf
      rw [List.getElem?_cons_succ, List.getElem?_map, er]
      rfl
    rw [upd_same, et, List.map_append, List.map_append]
    rfl
  · rintro σ H3 ⟨S3, hl3, v6, rfl⟩
    have lw := wsOf_len hd rs
    rw [show (wsOf hd rs).take (rs.length + 1) = wsOf hd rs from List.take_of_length_le (by omega)] at hl3
    have lb : ∀ y, y ∈ (wsOf hd rs).map lin → y.length ≤ 273 := fun y hy => by
      obtain ⟨ws, hws, rfl⟩ := List.mem_map.mp hy
      obtain ⟨_, b1, b2⟩ := wb ws hws
      exact lin_len b1 fun y hy => (b2 y hy).1
    have hsum := sum_len lb
    have l1 : (Str.ofString "\n").length = 1 := by decide +kernel
    refine ⟨rfl, _, rfl, ?_⟩
    refine ⟨_, ll, _, rfl, rfl, SqL.of hl3, ?_, ?_⟩
    · rw [l1]
      rw [List.length_map, lw] at hsum ⊢
      omega
    · have ej : Txt.join (Str.ofString "\n") ((wsOf hd rs).map lin) = tex hd rs := join_cd 10 _
      rw [ej]
      exact k H3 S3
end
end K4
namespace SW
open PySem L2
theorem J_snoc {c : Nat} {w : List Nat} : ∀ {L : List (List Nat)}, L ≠ [] → J c (L ++ [w]) = J c L ++ c :: w
  | [], h => absurd rfl h
  | [x], _ => rfl
  | x :: y :: r, _ => by
    show x ++ c :: J c ((y :: r) ++ [w]) = (x ++ c :: J c (y :: r)) ++ c :: w
    rw [J_snoc (by simp)]
    simp
theorem J_last {c : Nat} {w v : List Nat} : ∀ {L : List (List Nat)}, J c (L ++ [w ++ v]) = J c (L ++ [w]) ++ v
  | [] => rfl
  | x :: r => by rw [J_snoc (by simp), J_snoc (by simp)]; simp
theorem J_blank {c d : Nat} {L : List (List Nat)} (h : L ≠ []) : J c (L ++ List.replicate d []) = J c L ++ List.replicate d c := by
  induction d with
  | zero => simp
  | succ d ih =>
    rw [List.replicate_succ', ← List.append_assoc, J_snoc (by simp [h]), ih, List.replicate_succ']
    simp
theorem J_ge {c : Nat} : ∀ {L : List (List Nat)}, L.length ≤ (J c L).length + 1
  | [] => by simp
  | [x] => by simp
  | x :: y :: r => by
    have := J_ge (c := c) (L := y :: r)
    show (x :: y :: r).length ≤ (x ++ c :: J c (y :: r)).length + 1
    simp only [List.length_append, List.length_cons] at this ⊢
    omega
theorem J_mem {c x : Nat} : ∀ {L : List (List Nat)}, x ∈ J c L → x = c ∨ ∃ l, l ∈ L ∧ x ∈ l
  | [], h => by cases h
  | [l], h => .inr ⟨l, by simp, h⟩
  | l :: m :: r, h => by
    have h : x ∈ l ++ c :: J c (m :: r) := h
    rcases List.mem_append.mp h with h | h
    · exact .inr ⟨l, by simp, h⟩
    · rcases List.mem_cons.mp h with h | h
      · exact .inl h
      · rcases J_mem h with h | ⟨z, hz, hx⟩
        · exact .inl h
        · exact .inr ⟨z, List.mem_cons_of_mem _ hz, hx⟩
end SW
namespace K4
open PySem L2 SW
section
variable {P : Program} {w : World} {K : PySem.W.Frag} {mg : Str → Option Value} {base : Heap}
theorem for_enum {a : Addr} {xs : List V} {g : TG} {tb : TS} {D : Ends} {σ : St} {H : Hp} (Pv : Nat → St → Hp → Prop) (h0 : Pv 0 σ H) (hl : ∀ i σ H, i ≤ xs.length → Pv i σ H → SqL K H a xs)
    (hs : ∀ i x p σ H H', xs[i]? = some x → Pv i σ H → New H H' p (.tup [.int (i : Int), x]) → g (.ref p) σ H' fun σ2 H2 => tb { D with nx := Pv (i + 1), ct := Pv (i + 1), bk := D.nx } σ2 H2) (hd : ∀ σ H, Pv xs.length σ H → D.nx σ H) :
    ∃ W : Nat → Nat → St → Hp → Prop, (∃ m, W 0 m σ H) ∧ ∀ i m σ H, W i m σ H →
      ((Itn K a).stop i H ∧ D.nx σ H) ∨ ((Itn K a).go i H ∧ ∃ N : St → Hp → Prop, (∀ σ' H', N σ' H' → ∃ m', m' < m ∧ W (i + 1) m' σ' H') ∧ ∀ x H', (Itn K a).yld i H x H' → g x σ H' fun σ2 H2 => tb { D with nx := N, ct := N, bk := D.nx } σ2 H2) := by
  refine ⟨fun i m σ H => m = xs.length - i ∧ i ≤ xs.length ∧ Pv i σ H, ⟨xs.length, by simp, Nat.zero_le _, h0⟩, ?_⟩
  rintro i m σ H ⟨rfl, hi, p⟩
  have q := hl i σ H hi p
  by_cases hlt : i < xs.length
  · refine .inr ⟨⟨xs, xs[i], q, by simp [hlt]⟩, Pv (i + 1), fun σ' H' p' => ⟨xs.length - (i + 1), by omega, rfl, hlt, p'⟩, fun x H' y => ?_⟩
    obtain ⟨t, rfl, y⟩ := y
    obtain ⟨z, ez, N⟩ := y xs q
    exact hs i z t σ H H' ez p N
  · have e : i = xs.length := by omega
    subst e
    exact .inl ⟨⟨xs, q, Nat.le_refl _⟩, hd σ H p⟩
theorem noE_app (L M : List Str) : noE (L ++ M) = noE L ++ noE M := List.filter_append ..
theorem noE_rep (d : Nat) : noE (List.replicate d Str.empty) = [] := List.filter_eq_nil_iff.mpr fun z hz => by
  rw [(List.mem_replicate.mp hz).2]
  have : Str.empty = Str.ofString "" := rfl
  simp [this]
theorem noE_one {z : Str} (h : cd z ≠ []) : noE [z] = [z] := by
  have : z ≠ Str.ofString "" := fun e => h (by rw [e]; rfl)
  unfold noE
  rw [List.filter_cons, if_pos (decide_eq_true this)]
  rfl
theorem noE_all : ∀ {L : List Str}, (∀ z, z ∈ L → cd z ≠ []) → noE L = L
  | [], _ => rfl
  | z :: L, h => by
    refine (noE_app [z] L).trans ?_
    rw [noE_one (h z (by simp)), noE_all (L := L) fun y hy => h y (by simp [hy])]
    rfl
structure Gd (L : List Str) : Prop where
  ne : L ≠ []
  f : ∀ z, z ∈ L → 32 ∉ cd z ∧ 10 ∉ cd z
  sz : (lin L).length ≤ 1000
structure SpOk (Ls : List (List Str)) (n : Nat) (W : List (List Str)) : Prop where
  len : Ls.length ≤ n
  good : ∀ L, L ∈ Ls → Gd L
  w : (Ls.map noE).filter someW = W
theorem SpOk.le {Ls : List (List Str)} {n m : Nat} {W : List (List Str)} (h : SpOk Ls n W) (hm : n ≤ m) : SpOk Ls m W := ⟨Nat.le_trans h.len hm, h.good, h.w⟩
theorem SpOk.blank {Ls : List (List Str)} {n : Nat} {W : List (List Str)} {L : List Str} (h : SpOk Ls n W) (g : Gd L) (e : noE L = []) : SpOk (Ls ++ [L]) (n + 1) W := by
  refine ⟨by have := h.len; simp; omega, fun M hM => ?_, ?_⟩
  · rcases List.mem_append.mp hM with h' | h'
    · exact h.good M h'
    · rw [(by simpa using h' : M = L)]; exact g
  · rw [List.map_append, List.filter_append, h.w, List.map_cons, List.map_nil, e]
    simp [someW]
theorem SpOk.line {Ls : List (List Str)} {n : Nat} {W : List (List Str)} {L ws : List Str} (h : SpOk Ls n W) (g : Gd L) (e : noE L = ws) (ne : ws ≠ []) : SpOk (Ls ++ [L]) (n + 1) (W ++ [ws]) := by
  refine ⟨by have := h.len; simp; omega, fun M hM => ?_, ?_⟩
  · rcases List.mem_append.mp hM with h' | h'
    · exact h.good M h'
    · rw [(by simpa using h' : M = L)]; exact g
  · rw [List.map_append, List.filter_append, h.w, List.map_cons, List.map_nil, e]
    simp [someW, ne]
theorem cd_rep (d : Nat) : (List.replicate d Str.empty).map cd = List.replicate d [] := by
  rw [List.map_replicate]
  rfl
theorem cd_lin (L : List Str) : cd (lin L) = J 32 (L.map cd) := cd_mk _
theorem free_rep {d : Nat} {z : Str} (h : z ∈ List.replicate d Str.empty) : 32 ∉ cd z ∧ 10 ∉ cd z := by
  rw [(List.mem_replicate.mp h).2]
  exact ⟨fun q => (by cases q), fun q => (by cases q)⟩
theorem one_blank (d : Nat) : J 32 ((List.replicate d Str.empty ++ [Str.empty]).map cd) = List.replicate d 32 := by
  rw [← List.replicate_succ', cd_rep, List.replicate_succ]
  have := J_blank (c := 32) (d := d) (L := [[]]) (by simp)
  exact this
theorem blank_line {d : Int} (h : d ≤ 100) : Gd (List.replicate d.toNat Str.empty ++ [Str.empty]) ∧ lin (List.replicate d.toNat Str.empty ++ [Str.empty]) = Txt.mul ⟨#[32]⟩ d ∧ noE (List.replicate d.toNat Str.empty ++ [Str.empty]) = [] := by
  have e : lin (List.replicate d.toNat Str.empty ++ [Str.empty]) = Txt.mul ⟨#[32]⟩ d := cd_inj (by rw [cd_lin, one_blank, mul_cd])
  refine ⟨⟨by simp, fun z hz => ?_, ?_⟩, e, ?_⟩
  · rw [← List.replicate_succ'] at hz
    exact free_rep hz
  · rw [← cd_len, cd_lin, one_blank, List.length_replicate]
    omega
  · rw [← List.replicate_succ', noE_rep]
structure Mad (made : Str) (ws : List Str) (n : Nat) (L : List Str) : Prop where
  f : ∀ z, z ∈ L → 32 ∉ cd z ∧ 10 ∉ cd z
  w : noE L = ws.take n
  e : (n = 0 ∧ cd made = J 32 ((L ++ [Str.empty]).map cd)) ∨ (0 < n ∧ L ≠ [] ∧ cd made = J 32 (L.map cd))
  sz : made.length ≤ 3 + 30 * n
theorem Mad.start {ws : List Str} {d : Int} (h : d ≤ 3) : Mad (Txt.mul ⟨#[32]⟩ d) ws 0 (List.replicate d.toNat Str.empty) :=
  ⟨fun _ => free_rep, by rw [noE_rep]; rfl, .inl ⟨rfl, by rw [one_blank, mul_cd]⟩, by rw [← cd_len, mul_cd, List.length_replicate]; omega⟩
theorem app_len (a b : Str) : (a ++ b).length = a.length + b.length := by rw [← cd_len, ← cd_len, ← cd_len, cd_app, List.length_append]
theorem mul_len (d : Int) : (Txt.mul ⟨#[32]⟩ d).length = d.toNat := by rw [← cd_len, mul_cd, List.length_replicate]
theorem Mad.first {made : Str} {ws L : List Str} {z : Str} (h : Mad made ws 0 L) (ez : ws[0]? = some z) (f : 32 ∉ cd z ∧ 10 ∉ cd z) (ne : cd z ≠ []) (lz : z.length ≤ 20) : Mad (made ++ Txt.mul ⟨#[32]⟩ 0 ++ z) ws (0 + 1) (L ++ [z]) := by
  refine ⟨fun y hy => ?_, ?_, .inr ⟨by omega, by simp, ?_⟩, ?_⟩
  · rcases List.mem_append.mp hy with h' | h'
    · exact h.f y h'
    · rw [(by simpa using h' : y = z)]; exact f
  · rw [noE_app, h.w, noE_one ne, List.take_add_one, ez]
    rfl
  · rcases h.e with ⟨_, e⟩ | ⟨e, _⟩
    · rw [cd_app, cd_app, mul_cd, e, List.map_append, List.map_append, List.map_cons, List.map_cons, List.map_nil]
      have := J_last (c := 32) (w := []) (v := cd z) (L := L.map cd)
      rw [List.nil_append] at this
      rw [this]
      simp
      rfl
    · omega
  · have := h.sz
    rw [app_len, app_len, mul_len]
    simp
    omega
theorem Mad.next {made : Str} {ws L : List Str} {n : Nat} {z : Str} {d : Int} (h : Mad made ws n L) (n0 : 0 < n) (ez : ws[n]? = some z) (d0 : 0 ≤ d) (d9 : d < 9) (f : 32 ∉ cd z ∧ 10 ∉ cd z) (ne : cd z ≠ []) (lz : z.length ≤ 20) : Mad (made ++ Txt.mul ⟨#[32]⟩ (1 + d) ++ z) ws (n + 1) (L ++ List.replicate d.toNat Str.empty ++ [z]) := by
  refine ⟨fun y hy => ?_, ?_, .inr ⟨by omega, by simp, ?_⟩, ?_⟩
  · rcases List.mem_append.mp hy with h' | h'
    · rcases List.mem_append.mp h' with h' | h'
      · exact h.f y h'
      · exact free_rep h'
    · rw [(by simpa using h' : y = z)]; exact f
  · rw [noE_app, noE_app, h.w, noE_one ne, noE_rep, List.append_nil, List.take_add_one, ez]
    rfl
  · rcases h.e with ⟨e, _⟩ | ⟨_, eL, e⟩
    · omega
    · rw [cd_app, cd_app, mul_cd, e, List.map_append, List.map_append, List.map_cons, List.map_nil, cd_rep, J_snoc (by simp [eL]), J_blank (by simp [eL]), show (1 + d).toNat = d.toNat + 1 by omega, List.replicate_succ']
      simp
  · have := h.sz
    rw [app_len, app_len, mul_len]
    omega
theorem Mad.done {made : Str} {ws L : List Str} {d : Int} (h : Mad made ws ws.length L) (n0 : 0 < ws.length) (n13 : ws.length ≤ 13) (d9 : d < 9) : Gd (L ++ List.replicate d.toNat Str.empty) ∧ lin (L ++ List.replicate d.toNat Str.empty) = made ++ Txt.mul ⟨#[32]⟩ d ∧ noE (L ++ List.replicate d.toNat Str.empty) = ws := by
  rcases h.e with ⟨e, _⟩ | ⟨_, eL, e⟩
  · omega
  have el : lin (L ++ List.replicate d.toNat Str.empty) = made ++ Txt.mul ⟨#[32]⟩ d := cd_inj (by
    rw [cd_lin, cd_app, mul_cd, e, List.map_append, cd_rep, J_blank (by simp [eL])])
  refine ⟨⟨by simp [eL], fun y hy => ?_, ?_⟩, el, ?_⟩
  · rcases List.mem_append.mp hy with h' | h'
    · exact h.f y h'
    · exact free_rep h'
  · rw [el, app_len, mul_len]
    have := h.sz
    omega
  · rw [noE_app, noE_rep, List.append_nil, h.w, List.take_length]
theorem rd_of {Ls : List (List Str)} {n : Nat} {hd : List (Str × Nat)} {rs : List Row} (h : SpOk Ls n (wsOf hd rs)) (hn : n ≤ 100) (o : PuOk hd rs) : RdOk (Txt.join (Str.ofString "\n") (Ls.map lin)) Ls hd rs := by
  have ej : Txt.join (Str.ofString "\n") (Ls.map lin) = mkS (J 10 ((Ls.map lin).map cd)) := join_cd 10 _
  have hl := h.len
  refine ⟨by rw [ej, cd_mk], fun z => ?_, fun L hL => (h.good L hL).ne, fun L hL z hz => ((h.good L hL).f z hz).1, fun L hL q => ?_, ?_, fun L hL => ?_, by omega, h.w, o.hk, o.hn, o.h1, o.h12, o.rk, o.rn, o.r1, o.r12, o.sum, o.s300⟩
  · have := h.w
    rw [z] at this
    cases this
  · rw [cd_lin] at q
    rcases J_mem q with q | ⟨l, hl, q⟩
    · omega
    · obtain ⟨z, hz, rfl⟩ := List.mem_map.mp hl
      exact ((h.good L hL).f z hz).2 q
  · rw [ej, ← cd_len, cd_mk]
    have := J_len (c := 10) (k := 1000) (L := (Ls.map lin).map cd) fun x hx => by
      obtain ⟨y, hy, rfl⟩ := List.mem_map.mp hx
      obtain ⟨L, hL, rfl⟩ := List.mem_map.mp hy
      rw [cd_len]
      exact (h.good L hL).sz
    rw [List.length_map, List.length_map] at this
    omega
  · have := (h.good L hL).sz
    refine ⟨by omega, ?_⟩
    have g := J_ge (c := 32) (L := L.map cd)
    rw [← cd_lin, cd_len, List.length_map] at g
    omega
theorem PuOk.gd {hd : List (Str × Nat)} {rs : List Row} (o : PuOk hd rs) {ws : List Str} (hws : ws ∈ wsOf hd rs) : Gd ws := by
  obtain ⟨b0, b1, b2⟩ := o.wb ws hws
  refine ⟨b0, fun z hz => ?_, Nat.le_trans (lin_len b1 fun y hy => (b2 y hy).1) (by decide)⟩
  have := (b2 z hz).2.2
  exact ⟨fun q => by have := this _ q; omega, fun q => by have := this _ q; omega⟩
theorem PuOk.sp {hd : List (Str × Nat)} {rs : List Row} (o : PuOk hd rs) : SpOk (wsOf hd rs) 13 (wsOf hd rs) := by
  have r12 := o.r12
  refine ⟨by rw [wsOf_len]; omega, fun L hL => o.gd hL, ?_⟩
  have e : (wsOf hd rs).map noE = wsOf hd rs := by
    have : (wsOf hd rs).map noE = (wsOf hd rs).map id := List.map_congr_left fun ws hws => noE_all fun z hz => ((o.wb ws hws).2.2 z hz).2.1
    rw [this, List.map_id]
  rw [e]
  exact List.filter_eq_self.mpr fun ws hws => decide_eq_true (o.wb ws hws).1
theorem rd_tex {hd : List (Str × Nat)} {rs : List Row} (o : PuOk hd rs) : RdOk (tex hd rs) (wsOf hd rs) hd rs := by
  have ej : Txt.join (Str.ofString "\n") ((wsOf hd rs).map lin) = tex hd rs := join_cd 10 _
  rw [← ej]
  exact rd_of o.sp (by decide) o
def spSpread : Sp := fun vs H Q _ => ∃ (hd : List (Str × Nat)) (rs : List Row) (cell : Int), vs = [.str (tex hd rs), .int cell] ∧ PuOk hd rs ∧ ∀ (b : Str) (Ls : List (List Str)) (H' : Hp), RdOk b Ls hd rs → Same H H' → Q (.str b) H'
theorem ok_lspread (T : Txt K mg) : FnOk P w K mg base CX0 2 T.a_lspread T.fd_lspread ["_law_text_here", "_law_cell"] spSpread := by
  refine T.F_lspread.ok sc_lspread (fun vs H Q E h => ?_) (fun cdv A outer s H vs Q E hr h => ?_)
  · obtain ⟨hd, rs, cell, rfl, _⟩ := h
    rfl
  obtain ⟨hd, rs, cell, rfl, o, k⟩ := h
  refine ⟨_, (pss_cons (ps_par (i := 2) (j := 3) rfl sc_lspread.nd rfl rfl (by decide) rfl rfl (pa_cons (pe_lstA pa_nil) (pa_cons (pe_bm PySem.F.plainAttrs_str PySem.F.slot_str_split PySem.F.type_str_split mt_split (pv 0) (pa_cons pe_str pa_nil)) pa_nil)) rfl)
      (pss_cons (ps_for PassesOwn.never rfl (pi_range1 rfl T.n_range (pa_cons (pe_op op_add (pe_callB (len_Q K) (by rfl) T.n_len PySem.boot_len (pa_cons (pv 3) pa_nil)) pe_int) pa_nil)) (pg_name (i := 4) sc_lspread.nd rfl (Or.inl rfl))
      (pss_cons (ps_set (i := 5) sc_lspread.nd rfl (Or.inl rfl) (pe_op op_add (pv 1) (pe_op op_mulF pe_int (pv 4))))
      (pss_cons (ps_for PassesOwn.never rfl (pi_range1 rfl T.n_range (pa_cons (pe_ix (ix_Q K) (pe_tupA (pa_cons pe_int (pa_cons pe_int (pa_cons pe_int (pa_cons pe_int (pa_cons pe_int (pa_cons pe_int pa_nil))))))) (pe_call (ok_ldraw T) (hr.mono (by decide)) rfl T.m_ldraw T.F_ldraw.kp T.b_ldraw .nil pass0 (pa_cons (pv 5) (pa_cons pe_int (pa_cons pe_int pa_nil)))) (fun _ _ => rfl)) pa_nil)) (pg_name (i := 6) sc_lspread.nd rfl (Or.inl rfl))
      (pss_one (ps_expr (pe_bm PySem.F.plainAttrs_list PySem.F.slot_list_append PySem.F.type_list_append mt_append (pv 2) (pa_cons (pe_op op_mulS pe_str (pe_call (ok_ldraw T) (hr.mono (by decide)) rfl T.m_ldraw T.F_ldraw.kp T.b_ldraw .nil pass0 (pa_cons (pe_op op_add (pv 5) (pv 6)) (pa_cons pe_int (pa_cons pe_int pa_nil))))) pa_nil)))))
      (pss_one (ps_if (pt_cmpR op_lt (pv 4) (pe_callB (len_Q K) (by rfl) T.n_len PySem.boot_len (pa_cons (pv 3) pa_nil)) (nomark _))
      (pss_cons (ps_set (i := 7) sc_lspread.nd rfl (Or.inl rfl) (pe_op op_mulS pe_str (pe_call (ok_ldraw T) (hr.mono (by decide)) rfl T.m_ldraw T.F_ldraw.kp T.b_ldraw .nil pass0 (pa_cons (pv 5) (pa_cons pe_int (pa_cons pe_int pa_nil))))))
      (pss_cons (ps_for PassesOwn.never rfl (pi_enumQ K rfl T.n_enumerate (pa_cons (pe_bm PySem.F.plainAttrs_str PySem.F.slot_str_split PySem.F.type_str_split mt_split (pe_ix (ix_Q K) (pv 3) (pv 4) (fun _ _ => rfl)) (pa_cons pe_str pa_nil)) pa_nil)) (pg_tupQ K rfl (pgs_cons (pg_name (i := 6) sc_lspread.nd rfl (Or.inl rfl)) (pgs_cons (pg_name (i := 8) sc_lspread.nd rfl (Or.inl rfl)) pgs_nil)))
      (pss_one (ps_set (i := 7) sc_lspread.nd rfl (Or.inl rfl) (pe_op op_add_str (pe_op op_add_str (pv 7) (pe_op op_mulS pe_str (pe_ifExp (pt_cmpR op_eqI (pv 6) pe_int (nomark _)) pe_int (pe_op op_add pe_int (pe_call (ok_ldraw T) (hr.mono (by decide)) rfl T.m_ldraw T.F_ldraw.kp T.b_ldraw .nil pass0 (pa_cons (pe_op op_add (pe_op op_mulF (pv 5) pe_int) (pv 6)) (pa_cons pe_int (pa_cons pe_int pa_nil)))))))) (pv 8)))))
      (pss_one (ps_expr (pe_bm PySem.F.plainAttrs_list PySem.F.slot_list_append PySem.F.type_list_append mt_append (pv 2) (pa_cons (pe_op op_add_str (pv 7) (pe_op op_mulS pe_str (pe_call (ok_ldraw T) (hr.mono (by decide)) rfl T.m_ldraw T.F_ldraw.kp T.b_ldraw .nil pass0 (pa_cons (pv 5) (pa_cons pe_int (pa_cons pe_int pa_nil)))))) pa_nil))))))
      pss_nil)))))
      (pss_one (ps_ret (pe_bm PySem.F.plainAttrs_str PySem.F.slot_str_join PySem.F.type_str_join (join_Q K) pe_str (pa_cons (pv 2) pa_nil)))))), ?_⟩
  have big : (1000000 : Nat) ≤ sizeLine := by decide
  have rt := rd_tex o
  have r12 := o.r12
  have lw := wsOf_len hd rs
  have sp : Str.ofString " " = ⟨#[32]⟩ := rfl
  unfold tPar
  refine ⟨Nat.zero_le _, fun l H1 N1 => ?_⟩
  refine ⟨_, rfl, rfl, ?_⟩
  refine ⟨tex hd rs, _, rfl, rfl, by decide, Nat.le_trans rt.sz big, fun pa H2 N2 => ?_⟩
  have es : Txt.split (tex hd rs) (Str.ofString "\n") = (wsOf hd rs).map lin := split_of (c := 10) (by simp [rt.ne]) (fun z hz => by
    obtain ⟨L, hL, rfl⟩ := List.mem_map.mp hz
    exact rt.f10 L hL) rt.e
  rw [es] at N2
  refine ⟨_, _, rfl, ?_⟩
  have hpa := N2.at_
  have nl : H l = none := N1.gone
  have npl : pa ≠ l := fun z => by
    have := N2.gone
    rw [z, N1.at_] at this
    cases this
  have hl2 := N2.same _ _ N1.at_
  have lpp : ((((wsOf hd rs).map lin).map V.str).length : Int) + 1 = ((rs.length + 2 : Nat) : Int) := by rw [List.length_map, List.length_map, lw]; omega
  refine ⟨_, rfl, _, _, rfl, Or.inl (SqL.of (by assumption)), _, _, rfl, rfl, ?_⟩
  refine ⟨((rs.length + 2 : Nat) : Int), congrArg (fun z => [V.int z]) lpp, by omega, by omega, ?_⟩
  rw [Int.toNat_natCast]
  refine for_range (fun i σ H' => Same H H' ∧ H' pa = some (.lst (((wsOf hd rs).map lin).map V.str)) ∧ (∃ Ls, H' l = some (.lst ((Ls.map lin).map V.str)) ∧ SpOk Ls (4 * i) ((wsOf hd rs).take i)) ∧ ∃ v4 v5 v6 v7 v8, σ = [some (.str (tex hd rs)), some (.int cell), some (.ref l), some (.ref pa), v4, v5, v6, v7, v8]) ⟨N1.same.trans N2.same, hpa, ⟨[], hl2, Nat.le_refl _, fun L hL => (by cases hL), rfl⟩, _, _, _, _, _, rfl⟩ ?_ ?_
  · rintro i σ H3 hi ⟨S3, hpa3, ⟨Ls3, hl3, sp3⟩, v4, v5, v6, v7, v8, rfl⟩
    rw [show (0 : Int) + (i : Int) = (i : Int) by omega]
    refine ⟨_, rfl, _, rfl, _, _, rfl, rfl, .inr ⟨fits_of (by omega) (by omega), fits_of (by omega) (by omega)⟩, _, _, rfl, rfl, ?_⟩
    refine ⟨(by show 6 ≤ sizeLine; decide), fun tu H4 N4 => ?_⟩
    refine ⟨_, rfl, ?_⟩
    refine ⟨_, _, _, rfl, by decide, by decide, by decide, fun d H5 d0 d1 S5 => ?_⟩
    have htu := S5 _ _ N4.at_
    obtain ⟨m, hm, em⟩ : ∃ m : Nat, m ≤ 3 ∧ atI [V.int 0, .int 0, .int 0, .int 1, .int 2, .int 3] d = some (.int (m : Int)) := by
      have : d = 0 ∨ d = 1 ∨ d = 2 ∨ d = 3 ∨ d = 4 ∨ d = 5 := by omega
      rcases this with rfl | rfl | rfl | rfl | rfl | rfl
      · exact ⟨0, by decide, rfl⟩
      · exact ⟨0, by decide, rfl⟩
      · exact ⟨0, by decide, rfl⟩
      · exact ⟨1, by decide, rfl⟩
      · exact ⟨2, by decide, rfl⟩
      · exact ⟨3, by decide, rfl⟩
    have S45 := N4.same.trans S5
    refine ⟨_, _, _, _, rfl, rfl, Or.inr (SqT.of (by assumption)), by assumption, ?_⟩
    refine ⟨_, rfl, by omega, by omega, ?_⟩
    rw [Int.toNat_natCast]
    obtain ⟨one, eo⟩ : ∃ one : Int, one = cell + 31 * (i : Int) := ⟨_, rfl⟩
    refine for_range (fun n σ H' => Same H H' ∧ H' pa = some (.lst (((wsOf hd rs).map lin).map V.str)) ∧ (∃ Ls, H' l = some (.lst ((Ls.map lin).map V.str)) ∧ SpOk Ls (4 * i + n) ((wsOf hd rs).take i)) ∧ ∃ v6, σ = [some (.str (tex hd rs)), some (.int cell), some (.ref l), some (.ref pa), some (.int (i : Int)), some (.int one), v6, v7, v8]) ⟨S3.trans S45, S45 _ _ hpa3, ⟨Ls3, S45 _ _ hl3, sp3⟩, _, by rw [eo]; rfl⟩ ?_ ?_
    · rintro n σ H6 hn ⟨S6, hpa6, ⟨Ls, hl6, sp6⟩, v6, rfl⟩
      rw [show (0 : Int) + (n : Int) = (n : Int) by omega]
      refine ⟨_, rfl, ?_⟩
      refine ⟨.inl ⟨rfl, _, SqL.of hl6⟩, ?_⟩
      refine ⟨_, rfl, _, rfl, _, _, rfl, rfl, ?_⟩
      refine ⟨_, _, _, rfl, by decide, by decide, by decide, fun e H7 e0 e1 S7 => ?_⟩
      refine ⟨_, _, rfl, rfl, mul_ok 32 (by omega) (by omega), ?_⟩
      have hl7 := S7 _ _ hl6
      obtain ⟨g1, g2, g3⟩ := blank_line (d := e) (by omega)
      have sp7 := sp6.blank g1 g3
      have len6 := sp6.len
      refine ⟨l, _, _, rfl, rfl, hl7, ?_, ?_⟩
      · rw [List.length_map, List.length_map]
        exact Nat.lt_of_lt_of_le (show Ls.length < 100 by omega) (by decide)
      refine ⟨(S6.trans S7).upd nl, (upd_ne npl).trans (S7 _ _ hpa6), ⟨_, ?_, sp7⟩, _, rfl⟩
      rw [upd_same, List.map_append, List.map_append, List.map_cons, List.map_cons, List.map_nil, List.map_nil, g2]
      rfl
    rintro σ H6 ⟨S6, hpa6, ⟨Ls, hl6, sp6⟩, v6, rfl⟩
    have len6 := sp6.len
    refine ⟨_, rfl, _, rfl, _, _, rfl, Or.inl (SqL.of (by assumption)), _, _, rfl, rfl, _, rfl, ?_⟩
    rw [List.length_map, List.length_map, lw]
    refine ite3 (fun c => ?_) (fun c => ?_)
    · have hiw : i < (wsOf hd rs).length := by omega
      obtain ⟨ws, ew, hws⟩ : ∃ ws, (wsOf hd rs)[i]? = some ws ∧ ws ∈ wsOf hd rs := ⟨_, List.getElem?_eq_getElem hiw, List.getElem_mem hiw⟩
      have gw := o.gd hws
      obtain ⟨b0, b1, b2⟩ := o.wb ws hws
      have b3 : 0 < ws.length := List.length_pos_iff.mpr b0
      have atw : atI (((wsOf hd rs).map lin).map V.str) (i : Int) = some (.str (lin ws)) := atI_of (by omega) (by rw [Int.toNat_natCast, List.getElem?_map, List.getElem?_map, ew]; rfl)
      refine ⟨_, rfl, ?_⟩
      refine ⟨_, _, _, rfl, by decide, by decide, by decide, fun e H7 e0 e1 S7 => ?_⟩
      have hpa7 := S7 _ _ hpa6
      have hl7 := S7 _ _ hl6
      refine ⟨_, _, rfl, rfl, mul_ok 32 (by omega) (by omega), ?_⟩
      refine ⟨_, rfl, _, rfl, _, _, _, _, rfl, rfl, Or.inl (SqL.of (by assumption)), by assumption, ?_⟩
      refine ⟨rfl, ?_⟩
      have lz := gw.sz
      refine ⟨lin ws, _, rfl, rfl, by decide, Nat.le_trans (show (lin ws).length + 2 ≤ 1000000 by omega) big, fun wl H8 N8 => ?_⟩
      have e8 : Txt.split (lin ws) (Str.ofString " ") = ws := split_of (c := 32) b0 (fun z hz => (gw.f z hz).1) (cd_lin ws)
      rw [e8] at N8
      refine ⟨wl, rfl, ⟨_, SqL.of N8.at_⟩, ?_⟩
      refine for_enum (xs := ws.map V.str) (fun n σ H' => Same H8 H' ∧ ∃ made L v6 v8, Mad made ws n L ∧ σ = [some (.str (tex hd rs)), some (.int cell), some (.ref l), some (.ref pa), some (.int (i : Int)), some (.int one), v6, some (.str made), v8]) ⟨Same.refl _, _, _, _, _, Mad.start (show e ≤ 3 by omega), rfl⟩ (fun n σ H' _ h => h.1.seq (SqL.of N8.at_)) ?_ ?_
      · rintro n x p σ H9 H10 hx ⟨S9, made, L, v6, v8, md, rfl⟩ N10
        obtain ⟨z, rfl, ez⟩ : ∃ z, x = V.str z ∧ ws[n]? = some z := by
          rw [List.getElem?_map] at hx
          cases e : ws[n]? with
          | none => rw [e] at hx; cases hx
          | some z => rw [e] at hx; exact ⟨z, (Option.some.inj hx).symm, rfl⟩
        have hz := List.mem_of_getElem? ez
        obtain ⟨z1, z2, _⟩ := b2 z hz
        have z3 := gw.f z hz
        have n13 : n < ws.length := (List.getElem?_eq_some_iff.mp ez).1
        have msz := md.sz
        have ht := N10.at_
        refine ⟨_, _, rfl, SqT.of (by assumption), rfl, _, _, rfl, _, _, rfl, ?_⟩
        refine ⟨rfl, _, rfl, _, rfl, _, _, rfl, rfl, _, rfl, ?_⟩
        refine ite3 (fun c0 => ?_) (fun c0 => ?_)
        · have : n = 0 := by omega
          subst this
          refine ⟨_, _, rfl, rfl, mul_ok 32 (by decide) (by decide), ?_⟩
          refine ⟨_, _, rfl, rfl, Nat.le_trans (show made.length + (Txt.mul ⟨#[32]⟩ 0).length ≤ 1000000 by rw [mul_len]; omega) big, ?_⟩
          refine ⟨_, rfl, ?_⟩
          refine ⟨_, _, rfl, rfl, Nat.le_trans (show (made ++ Txt.mul ⟨#[32]⟩ 0).length + z.length ≤ 1000000 by rw [app_len, mul_len]; omega) big, ?_⟩
          exact ⟨S9.trans N10.same, _, _, _, _, md.first ez z3 z2 z1, rfl⟩
        · refine ⟨_, rfl, _, _, rfl, rfl, .inl (.inr ⟨by decide, by decide⟩), _, rfl, _, _, rfl, rfl, ?_⟩
          refine ⟨_, _, _, rfl, by decide, by decide, by decide, fun f H11 f0 f1 S11 => ?_⟩
          refine ⟨_, _, rfl, rfl, ?_⟩
          refine ⟨_, _, rfl, rfl, mul_ok 32 (by omega) (by omega), ?_⟩
          refine ⟨_, _, rfl, rfl, Nat.le_trans (show made.length + (Txt.mul ⟨#[32]⟩ (1 + f)).length ≤ 1000000 by rw [mul_len]; omega) big, ?_⟩
          refine ⟨_, rfl, ?_⟩
          refine ⟨_, _, rfl, rfl, Nat.le_trans (show (made ++ Txt.mul ⟨#[32]⟩ (1 + f)).length + z.length ≤ 1000000 by rw [app_len, mul_len]; omega) big, ?_⟩
          exact ⟨S9.trans (N10.same.trans S11), _, _, _, _, md.next (by omega) ez f0 f1 z3 z2 z1, rfl⟩
      · rintro σ H9 ⟨S9, made, L, v6, v8, md, rfl⟩
        rw [List.length_map] at md
        have hl9 := S9 _ _ (N8.same _ _ hl7)
        have hpa9 := S9 _ _ (N8.same _ _ hpa7)
        have msz := md.sz
        refine ⟨_, rfl, ?_⟩
        refine ⟨.inl ⟨rfl, _, SqL.of hl9⟩, ?_⟩
        refine ⟨_, rfl, _, rfl, ?_⟩
        refine ⟨_, _, _, rfl, by decide, by decide, by decide, fun f H10 f0 f1 S10 => ?_⟩
        have hl10 := S10 _ _ hl9
        refine ⟨_, _, rfl, rfl, mul_ok 32 (by omega) (by omega), ?_⟩
        refine ⟨_, _, rfl, rfl, Nat.le_trans (show made.length + (Txt.mul ⟨#[32]⟩ f).length ≤ 1000000 by rw [mul_len]; omega) big, ?_⟩
        obtain ⟨g1, g2, g3⟩ := md.done (d := f) b3 b1 (by omega)
        have sp10 := (sp6.line g1 g3 b0).le (show 4 * i + m + 1 ≤ 4 * (i + 1) by omega)
        refine ⟨l, _, _, rfl, rfl, hl10, ?_, ?_⟩
        · rw [List.length_map, List.length_map]
          exact Nat.lt_of_lt_of_le (show Ls.length < 100 by omega) (by decide)
        have S69 := S7.trans (N8.same.trans (S9.trans S10))
        refine ⟨(S6.trans S69).upd nl, (upd_ne npl).trans (S10 _ _ hpa9), ⟨_, ?_, by rw [List.take_add_one, ew]; exact sp10⟩, _, _, _, _, _, rfl⟩
        rw [upd_same, List.map_append, List.map_append, List.map_cons, List.map_cons, List.map_nil, List.map_nil, g2]
        rfl
    · refine ⟨S6, hpa6, ⟨Ls, hl6, ?_⟩, _, _, _, _, _, rfl⟩
      have : (wsOf hd rs).take (i + 1) = (wsOf hd rs).take i := by rw [List.take_of_length_le (by omega), List.take_of_length_le (by omega)]
      rw [this]
      exact sp6.le (by omega)
  · rintro σ H3 ⟨S3, hpa3, ⟨Ls, hl3, sp3⟩, v4, v5, v6, v7, v8, rfl⟩
    rw [List.take_of_length_le (by omega)] at sp3
    have len3 := sp3.len
    have lb : ∀ y, y ∈ Ls.map lin → y.length ≤ 1000 := fun y hy => by
      obtain ⟨L, hL, rfl⟩ := List.mem_map.mp hy
      exact (sp3.good L hL).sz
    have hsum := sum_len lb
    have l1 : (Str.ofString "\n").length = 1 := by decide +kernel
    refine ⟨rfl, _, rfl, ?_⟩
    refine ⟨_, l, _, rfl, rfl, SqL.of hl3, ?_, ?_⟩
    · rw [l1]
      rw [List.length_map] at hsum ⊢
      omega
    · exact k _ Ls H3 (rd_of sp3 (by omega) o) S3
end
end K4
namespace SW
open PySem PySem.Spec PyProof.Rows L2
def dS (ns : List Str) : PyData := .list (ns.map .str)
theorem lay_strs : ∀ {ns : List Str}, (∀ z, z ∈ ns → ∀ c, c ∈ cd z → c < 1114112) → PyData.canLayAll0 (ns.map .str) = true
  | [], _ => by simp [PyData.canLayAll0]
  | z :: ns, h => by
    have e : PyData.strOk z = true := by
      unfold PyData.strOk
      rw [← Array.all_toList]
      exact List.all_eq_true.mpr fun c hc => decide_eq_true (h z (by simp) c hc)
    rw [List.map_cons, PyData.canLayAll0, PyData.canLay0, e, lay_strs fun y hy => h y (by simp [hy])]
    rfl
theorem lay_dS {ns : List Str} (h : ∀ z, z ∈ ns → ∀ c, c ∈ cd z → c < 1114112) : (dS ns).canLay0 = true := by unfold dS; rw [PyData.canLay0]; exact lay_strs h
theorem dep_strs : ∀ ns : List Str, PyData.depthAll (ns.map .str) = 0
  | [] => by simp [PyData.depthAll]
  | n :: ns => by simp [PyData.depthAll, PyData.depth, dep_strs ns]
theorem dep_dS (ns : List Str) : (dS ns).depth = 1 := by unfold dS; rw [PyData.depth, dep_strs]
theorem dep_dI1 (ns : List Int) : (dI ns).depth = 1 := by unfold dI; rw [PyData.depth, dep_ints]
theorem eqv_strs : ∀ ns : List Str, PyData.eqvAll (ns.map .str) (ns.map .str) = true
  | [] => by simp [PyData.eqvAll]
  | n :: ns => by
    rw [List.map_cons, PyData.eqvAll, PyData.eqv, eqv_strs ns]
    simp
theorem eqv_dS (ns : List Str) : PyData.eqv (dS ns) (dS ns) = true := by unfold dS; rw [PyData.eqv]; exact eqv_strs ns
def d5 (ns : List Str) (cs : List Int) (ps : List Str) (qs : List Int) (rs : List (List Int)) : PyData := .list [dS ns, dI cs, dS ps, dI qs, dM rs]
theorem lay_d5 {ns : List Str} {cs : List Int} {ps : List Str} {qs : List Int} {rs : List (List Int)} (h1 : ∀ z, z ∈ ns → ∀ c, c ∈ cd z → c < 1114112) (h2 : ∀ z, z ∈ ps → ∀ c, c ∈ cd z → c < 1114112) : (d5 ns cs ps qs rs).canLay0 = true := by
  unfold d5
  simp [PyData.canLay0, PyData.canLayAll0, lay_dM, lay_dI, lay_dS h1, lay_dS h2]
theorem dep_d5 (ns : List Str) (cs : List Int) (ps : List Str) (qs : List Int) (rs : List (List Int)) : (d5 ns cs ps qs rs).depth ≤ 64 := by
  unfold d5
  have h1 : (dM rs).depth ≤ 2 := by unfold dM; rw [PyData.depth]; have := dep_rows rs; omega
  rw [PyData.depth, PyData.depthAll, PyData.depthAll, PyData.depthAll, PyData.depthAll, PyData.depthAll, PyData.depthAll, dep_dS, dep_dS, dep_dI1, dep_dI1]
  omega
theorem eqv_d5 (ns : List Str) (cs : List Int) (ps : List Str) (qs : List Int) (rs : List (List Int)) : PyData.eqv (d5 ns cs ps qs rs) (d5 ns cs ps qs rs) = true := by
  unfold d5
  rw [PyData.eqv, PyData.eqvAll, PyData.eqvAll, PyData.eqvAll, PyData.eqvAll, PyData.eqvAll, PyData.eqvAll, eqv_dM, eqv_dS, eqv_dS, eqv_dI, eqv_dI]
  simp
structure Five (K : PySem.W.Frag) (H : Hp) (p a b c d e : Addr) (ns : List Str) (cs : List Int) (ps : List Str) (qs : List Int) (rs : List (List Int)) : Prop where
  t : SqL K H p [.ref a, .ref b, .ref c, .ref d, .ref e]
  a : SqL K H a (ns.map V.str)
  b : SqL K H b (cs.map V.int)
  c : SqL K H c (ps.map V.str)
  d : SqL K H d (qs.map V.int)
  e : Mat K H e rs
theorem rep_dS {K : PySem.W.Frag} {H : Hp} {p : Addr} {ns : List Str} (h : SqL K H p (ns.map V.str)) : Rep K H (dS ns) (.ref p) := by
  have : ∀ ns : List Str, RepAll K H (ns.map PyData.str) (ns.map V.str) := fun ns => by
    induction ns with
    | nil => simp only [List.map_nil, RepAll]
    | cons n ns ih =>
      rw [List.map_cons, List.map_cons, RepAll]
      exact ⟨_, _, rfl, by rw [Rep], ih⟩
  unfold dS
  rw [Rep]
  exact ⟨p, _, rfl, h, this ns⟩
theorem rep_d5 {K : PySem.W.Frag} {H : Hp} {p a b c d e : Addr} {ns : List Str} {cs : List Int} {ps : List Str} {qs : List Int} {rs : List (List Int)} (t : Five K H p a b c d e ns cs ps qs rs) : Rep K H (d5 ns cs ps qs rs) (.ref p) := by
  unfold d5
  rw [Rep]
  refine ⟨p, _, rfl, t.t, ?_⟩
  rw [RepAll]
  refine ⟨_, _, rfl, rep_dS t.a, ?_⟩
  rw [RepAll]
  refine ⟨_, _, rfl, rep_dI t.b, ?_⟩
  rw [RepAll]
  refine ⟨_, _, rfl, rep_dS t.c, ?_⟩
  rw [RepAll]
  refine ⟨_, _, rfl, rep_dI t.d, ?_⟩
  rw [RepAll]
  refine ⟨_, _, rfl, rep_dM t.e, ?_⟩
  simp only [RepAll]
structure Two5 (K : PySem.W.Frag) (H : Hp) (p q : Addr) : Prop where
  h : ∃ (a b c d e a' b' c' d' e' : Addr) (ns : List Str) (cs : List Int) (ps : List Str) (qs : List Int) (rs : List (List Int)), Five K H p a b c d e ns cs ps qs rs ∧ Five K H q a' b' c' d' e' ns cs ps qs rs ∧ (∀ z, z ∈ ns → ∀ c, c ∈ cd z → c < 1114112) ∧ ∀ z, z ∈ ps → ∀ c, c ∈ cd z → c < 1114112
def rSame5 (K : PySem.W.Frag) : R2 := fun x y H Q => ∃ (p q : Addr), x = .ref p ∧ y = .ref q ∧ Two5 K H p q ∧ Q (.bl false) H
section
variable {X : Cx} (K : PySem.W.Frag)
theorem ne5_Q (hu : X.A.units + 64 < cLine) (h : X.K = K := by rfl) : OpR X (compareOp .NotEq) (rSame5 K) := by
  subst h
  intro pins s σ H x y v u Q I rx ry ⟨p, q, e1, e2, ⟨a, b, c, d, e, a', b', c', d', e', ns, cs, ps, qs, rs, h1, h2, g1, g2⟩, k⟩
  subst e1 e2
  exact op_neD hu pins s σ H _ _ v u Q I rx ry ⟨_, _, rep_d5 h1, rep_d5 h2, lay_d5 g1 g2, lay_d5 g1 g2, dep_d5 _ _ _ _ _, by rw [eqv_d5]; exact k⟩
end
end SW
namespace K4
open PySem L2 SW
section
variable {P : Program} {w : World} {K : PySem.W.Frag} {mg : Str → Option Value} {base : Heap}
abbrev TabR (T : Txt K mg) (H : Hp) (p dx a1 a2 a3 a4 a5 : Addr) (bs : List Addr) (hd : List (Str × Nat)) (rs : List Row) : Prop :=
  TabH T.c_Table H p dx a1 a2 a3 a4 a5 bs (rs.map (·.1.1)) (hd.map (·.1)) (nI (rs.map (·.1.2))) (nI (hd.map (·.2))) (rs.map fun r => nI r.2)
inductive RiOk (T : Txt K mg) (H : Hp) : List V → Prop where
  | mk {p dx a1 a2 a3 a4 a5 nl cl pl rl vt : Addr} {bs cs : List Addr} {hd : List (Str × Nat)} {rs : List Row} (t : TabR T H p dx a1 a2 a3 a4 a5 bs hd rs) (l : LsH H nl cl pl rl vt cs hd rs) (o : PuOk hd rs) : RiOk T H [.ref p, .ref nl, .ref cl, .ref pl, .ref rl, .ref vt]
def spRight (T : Txt K mg) : Sp := fun vs H Q _ => RiOk T H vs ∧ ∀ H', Same H H' → Q (.bl true) H'
theorem name_lay {a : Str} (h : NameOk a) : ∀ c, c ∈ cd a → c < 1114112 := fun c hc => by have := h.let' c hc; omega
theorem ok_lright (T : Txt K mg) : FnOk P w K mg base CX0 1 T.a_lright T.fd_lright ["_law_table_here", "_law_names", "_law_columns", "_law_places", "_law_rows", "_law_votes"] (spRight T) := by
  refine T.F_lright.ok sc_lright (fun vs H Q E h => ?_) (fun cdv A outer s H vs Q E hr h => ?_)
  · obtain ⟨⟨_, _, _⟩, _⟩ := h
    rfl
  obtain ⟨@⟨p, dx, a1, a2, a3, a4, a5, nl, cl, pl, rl, vt, bs, cs, hd, rs, t, l, o⟩, k⟩ := h
  refine ⟨_, (pss_cons (ps_set (i := 6) sc_lright.nd rfl (Or.inl rfl) (pe_lstA (pa_cons (pe_fldR K (pv 0) rfl) (pa_cons (pe_fldR K (pv 0) rfl) (pa_cons (pe_fldR K (pv 0) rfl) (pa_cons (pe_fldR K (pv 0) rfl) (pa_cons (pe_fldR K (pv 0) rfl) pa_nil)))))))
      (pss_cons (ps_if (PW.pt (pw_or (pt_not (pt_val (pe_isC K rfl T.n_isinstance rfl T.m_Table (pv 0)))) (pw_or1 (pt_cmpR (ne5_Q K hr.units) (pv 6) (pe_lstA (pa_cons (pv 1) (pa_cons (pv 2) (pa_cons (pv 3) (pa_cons (pv 4) (pa_cons (pv 5) pa_nil)))))) (nomark _)))))
      (pss_one (ps_ret pe_bl))
      pss_nil)
      (pss_cons (ps_for PassesOwn.never rfl (pi_listQ K (pe_op op_catN (pe_fldR K (pv 0) rfl) (pe_lstA (pa_cons (pe_fldR K (pv 0) rfl) (pa_cons (pe_fldR K (pv 0) rfl) pa_nil))))) (pg_name (i := 7) sc_lright.nd rfl (Or.inl rfl))
      (pss_cons (ps_setC (i := 8) [9] rfl (blk_of rfl) (pi_listQ K (pv 7)) (fun _ => (pg_name (i := 9) sc_lright.nd rfl (Or.inl rfl))) (fun _ => pts_one (PW.pt (pw_or (pt_not (pt_val (pe_isT K rfl T.n_isinstance rfl T.n_int PyProof.Rows.boot_int (pv 9)))) (pw_or1 (pt_val (pe_isT K rfl T.n_isinstance rfl T.n_bool PyProof.Rows.boot_bool (pv 9))))))) (fun _ => (pv 9)) sc_lright.nd rfl rfl)
      (pss_one (ps_if (PW.pt (pw_or (pt_not (pt_val (pe_isT K rfl T.n_isinstance rfl T.n_list PyProof.Rows.boot_list (pv 7)))) (pw_or1 (pt_cmpR (neLI_Q K hr.units) (pv 8) (pe_lstA pa_nil) (nomark _)))))
      (pss_one (ps_ret pe_bl))
      pss_nil))))
      (pss_one (ps_ret (pe_and (pe_isT K rfl T.n_isinstance rfl T.n_list PyProof.Rows.boot_list (pe_fldR K (pv 0) rfl)) (pe_one (pe_isT K rfl T.n_isinstance rfl T.n_list PyProof.Rows.boot_list (pe_fldR K (pv 0) rfl))))))))), ?_⟩
  have h12 := o.h12
  have r12 := o.r12
  have ob := t.ob
  refine ⟨_, rfl, _, _, _, _, _, rfl, by assumption, T.cl_Table, T.na_Table_parties, by rfl, _, rfl, _, _, _, _, _, rfl, by assumption, T.cl_Table, T.na_Table_columns, by rfl, _, rfl, _, _, _, _, _, rfl, by assumption, T.cl_Table, T.na_Table_places, by rfl, _, rfl, _, _, _, _, _, rfl, by assumption, T.cl_Table, T.na_Table_rows, by rfl, _, rfl, _, _, _, _, _, rfl, by assumption, T.cl_Table, T.na_Table_votes, by rfl, ?_⟩
  refine ⟨(by show 5 ≤ sizeLine; decide), fun tl H1 N1 => ?_⟩
  have ty : TyOf K H1 (.ref p) (.ref T.c_Table) := T.ty_Table.of T.cl_Table (N1.same _ _ ob)
  refine ⟨_, rfl, ?_⟩
  refine ⟨_, _, _, rfl, ty, T.k_Table_Table, ?_⟩
  refine ⟨_, rfl, ?_⟩
  refine iteF ?_
  refine ⟨_, rfl, _, rfl, _, rfl, _, rfl, _, rfl, _, rfl, ?_⟩
  refine ⟨(by show 5 ≤ sizeLine; decide), fun ol H2 N2 => ?_⟩
  have S2 := N1.same.trans N2.same
  have t2 := t.same S2
  have l2 := l.same S2
  have two : Two5 K H2 tl ol := ⟨a2, a4, a1, a3, a5, nl, cl, pl, rl, vt, hd.map (·.1), nI (hd.map (·.2)), rs.map (·.1.1), nI (rs.map (·.1.2)), rs.map fun r => nI r.2,
    ⟨SqL.of (N2.same _ _ N1.at_), SqL.of t2.pa, SqL.of t2.co, SqL.of t2.pl, SqL.of t2.ro, ⟨bs, SqL.of t2.vo, t2.lb, fun i a r e1 e2 => SqL.of (t2.vr i a r e1 e2)⟩⟩,
    ⟨SqL.of N2.at_, SqL.of l2.n, SqL.of l2.c, SqL.of l2.p, SqL.of l2.r, ⟨cs, SqL.of l2.v, by rw [List.length_map]; exact l2.lb, fun i a r e1 e2 => by
      rw [List.getElem?_map] at e2
      cases e : rs[i]? with
      | none => rw [e] at e2; cases e2
      | some z =>
        rw [e] at e2
        have e2 : nI z.2 = r := Option.some.inj e2
        subst e2
        exact SqL.of (l2.vr i a z e1 e)⟩⟩, fun z hz => by
      obtain ⟨h, hh, rfl⟩ := List.mem_map.mp hz
      exact name_lay (o.hk h hh).1, fun z hz => by
      obtain ⟨r, hr', rfl⟩ := List.mem_map.mp hz
      exact name_lay (o.rk r hr').1⟩
  refine ⟨tl, ol, rfl, rfl, two, ?_⟩
  refine ⟨_, rfl, ?_⟩
  refine iteF ?_
  have ob2 := t2.ob
  refine ⟨_, rfl, _, _, _, _, _, rfl, by assumption, T.cl_Table, T.na_Table_votes, by rfl, _, rfl, _, _, _, _, _, rfl, by assumption, T.cl_Table, T.na_Table_rows, by rfl, _, rfl, _, _, _, _, _, rfl, by assumption, T.cl_Table, T.na_Table_columns, by rfl, ?_⟩
  refine ⟨(by show 2 ≤ sizeLine; decide), fun w1 H3 N3 => ?_⟩
  have lb := t2.lb
  rw [List.length_map] at lb
  refine ⟨a5, w1, _, _, rfl, rfl, N3.same _ _ t2.vo, N3.at_, ?_, fun w2 H4 N4 => ?_⟩
  · rw [List.length_map]
    exact Nat.le_trans (show bs.length + 2 ≤ 100 by omega) (by decide)
  have S4 := S2.trans (N3.same.trans N4.same)
  have t4 := t.same S4
  refine ⟨w2, rfl, ⟨_, SqL.of N4.at_⟩, ?_⟩
  refine for_list (K := K) (xs := bs.map V.ref ++ [.ref a3, .ref a4]) (fun i σ H' => Same H4 H' ∧ ∃ v7 v8, σ = [some (.ref p), some (.ref nl), some (.ref cl), some (.ref pl), some (.ref rl), some (.ref vt), some (.ref tl), v7, v8, none]) ⟨Same.refl _, _, _, rfl⟩ (fun i σ H' _ h => h.1.seq (SqL.of N4.at_)) ?_ ?_
  · rintro i x σ H5 hx ⟨S5, v7, v8, rfl⟩
    obtain ⟨b, ns, rfl, hb4, lns⟩ : ∃ (b : Addr) (ns : List Int), x = .ref b ∧ H4 b = some (.lst (ns.map V.int)) ∧ ns.length ≤ 12 := by
      by_cases hi : i < bs.length
      · have hir : i < rs.length := by omega
        rw [List.getElem?_append_left (by rw [List.length_map]; exact hi), List.getElem?_map, List.getElem?_eq_getElem hi] at hx
        refine ⟨bs[i], nI rs[i].2, (Option.some.inj hx).symm, t4.vr i bs[i] _ (List.getElem?_eq_getElem hi) (by rw [List.getElem?_map, List.getElem?_eq_getElem hir]; rfl), ?_⟩
        unfold nI
        rw [List.length_map, (o.rk rs[i] (List.getElem_mem hir)).2.2.1]
        exact h12
      · rw [List.getElem?_append_right (by rw [List.length_map]; omega), List.length_map] at hx
        have hj : i - bs.length = 0 ∨ i - bs.length = 1 := by have := (List.getElem?_eq_some_iff.mp hx).1; simp at this; omega
        rcases hj with hj | hj
        · rw [hj] at hx
          refine ⟨a3, _, (Option.some.inj hx).symm, t4.ro, ?_⟩
          unfold nI
          rw [List.length_map, List.length_map]
          exact r12
        · rw [hj] at hx
          refine ⟨a4, _, (Option.some.inj hx).symm, t4.co, ?_⟩
          unfold nI
          rw [List.length_map, List.length_map]
          exact h12
    have hb := S5 _ _ hb4
    refine ⟨_, rfl, ?_⟩
    refine ⟨b, rfl, ⟨_, SqL.of hb⟩, ?_⟩
    refine comp_filL (fun _ => false) (fun v => v) (SqL.of hb) (by rw [List.length_map]; exact Nat.le_trans lns (by decide)) (fun j y Q' hy hQ => ?_) (fun j y Q' hy hf hQ => by cases hf) fun l6 H6 N6 => ?_
    · obtain ⟨z, rfl⟩ : ∃ z, y = V.int z := by
        rw [List.getElem?_map] at hy
        cases e : ns[j]? with
        | none => rw [e] at hy; cases hy
        | some z => rw [e] at hy; exact ⟨z, (Option.some.inj hy).symm⟩
      refine ⟨_, rfl, _, _, _, rfl, .int _, kit_int_int _, _, rfl, ?_⟩
      refine iteF ?_
      refine ⟨_, rfl, _, _, _, rfl, .int _, kit_int_bool _, _, rfl, ?_⟩
      exact hQ
    have e6 : ((ns.map V.int).filter fun _ => false).map (fun v => v) = ([] : List Int).map V.int := by simp
    rw [e6] at N6
    have hb6 := N6.same _ _ hb
    refine ⟨_, rfl, _, _, _, rfl, .lst (by assumption), kit_list_list _, _, rfl, ?_⟩
    refine iteF ?_
    refine ⟨_, rfl, ?_⟩
    refine ⟨Nat.zero_le _, fun l7 H7 N7 => ?_⟩
    refine ⟨l6, l7, [], [], rfl, rfl, SqL.of (N7.same _ _ N6.at_), SqL.of N7.at_, ?_⟩
    refine ⟨_, rfl, ?_⟩
    refine iteF ?_
    exact ⟨S5.trans (N6.same.trans N7.same), _, _, rfl⟩
  · rintro σ H5 ⟨S5, v7, v8, rfl⟩
    have t5 := t4.same S5
    have ob5 := t5.ob
    have pa5 := t5.pa
    have pl5 := t5.pl
    refine ⟨_, rfl, _, _, _, _, _, rfl, by assumption, T.cl_Table, T.na_Table_parties, by rfl, _, _, _, rfl, .lst (by assumption), kit_list_list _, _, rfl, ?_⟩
    refine iteT ?_
    refine ⟨_, rfl, _, _, _, _, _, rfl, by assumption, T.cl_Table, T.na_Table_places, by rfl, _, _, _, rfl, .lst (by assumption), kit_list_list _, ?_⟩
    exact k H5 (S4.trans S5)
end
end K4
namespace K4
open PySem L2 SW
section
variable {P : Program} {w : World} {K : PySem.W.Frag} {mg : Str → Option Value} {base : Heap}
def hdL (cell : Int) (c : Nat) (qe : Nat → Int) : List (Str × Nat) := (List.range c).map fun j => (mkS (namL cell (numL j cell)), (qe j).toNat)
def rsL (cell : Int) (r c : Nat) (pe : Nat → Int) (U : Nat → Nat → Int) : List Row := (List.range r).map fun i => ((mkS (namL cell (numL i cell)), (pe i).toNat), (List.range c).map fun j => (U i j).toNat)
theorem nI_row {n : Nat} {f : Nat → Int} (h : ∀ i, i < n → 0 ≤ f i) : nI ((List.range n).map fun i => (f i).toNat) = row n f := by
  unfold nI row
  rw [List.map_map]
  exact List.map_congr_left fun i hi => Int.toNat_of_nonneg (h i (List.mem_range.mp hi))
theorem names_nd (cell : Int) {n : Nat} (h : n ≤ 12) : ((List.range n).map fun j => mkS (namL cell (numL j cell))).Nodup := by
  unfold List.Nodup
  rw [List.pairwise_map]
  refine List.Pairwise.imp_of_mem (fun {a b} ha hb hab e => ?_) (List.nodup_range (n := n))
  have h1 := List.mem_range.mp ha
  have h2 := List.mem_range.mp hb
  exact hab (name_inj (by omega) (by omega) e)
theorem pu_law {cell cell' : Int} {r c : Nat} {pe qe : Nat → Int} {U : Nat → Nat → Int} (r0 : 0 < r) (r1 : r ≤ 12) (c0 : 0 < c) (c1 : c ≤ 12) (ub : ∀ i j, i < r → j < c → 0 ≤ U i j ∧ U i j ≤ 10 ^ 9) (du : Due r c pe qe) : PuOk (hdL cell c qe) (rsL cell' r c pe U) := by
  have e1 : nI ((rsL cell' r c pe U).map (·.1.2)) = row r pe := by
    rw [← nI_row fun i hi => (du.p0 i hi).1]
    unfold rsL
    rw [List.map_map]
    rfl
  have e2 : nI ((hdL cell c qe).map (·.2)) = row c qe := by
    rw [← nI_row fun i hi => (du.q0 i hi).1]
    unfold hdL
    rw [List.map_map]
    rfl
  refine ⟨fun h hh => ?_, ?_, by unfold hdL; simpa using c0, by unfold hdL; simpa using c1, fun x hx => ?_, ?_, by unfold rsL; simpa using r0, by unfold rsL; simpa using r1, ?_, ?_⟩
  · unfold hdL at hh
    obtain ⟨j, hj, rfl⟩ := List.mem_map.mp hh
    have := du.q0 j (List.mem_range.mp hj)
    exact ⟨name_ok _ _, by show (qe j).toNat ≤ 300; omega⟩
  · unfold hdL
    rw [List.map_map]
    exact names_nd cell c1
  · unfold rsL at hx
    obtain ⟨i, hi, rfl⟩ := List.mem_map.mp hx
    have hi := List.mem_range.mp hi
    have := du.p0 i hi
    refine ⟨name_ok _ _, (by show (pe i).toNat ≤ 300; omega), by unfold hdL; simp, fun z hz => ?_⟩
    obtain ⟨j, hj, rfl⟩ := List.mem_map.mp hz
    have := ub i j hi (List.mem_range.mp hj)
    omega
  · unfold rsL
    rw [List.map_map]
    exact names_nd cell' r1
  · rw [e1, e2, row_sum, row_sum]
    exact du.eq
  · rw [e1, row_sum]
    exact du.s300
theorem ls_law {H : Hp} {cell cell' : Int} {r c : Nat} {pe qe : Nat → Int} {U : Nat → Nat → Int} {nl cl pl rl vt : Addr} {as : List Addr} (ub : ∀ i j, i < r → j < c → 0 ≤ U i j ∧ U i j ≤ 10 ^ 9) (du : Due r c pe qe)
    (hn : H nl = some (.lst ((List.range c).map fun j => V.str (mkS (namL cell (numL j cell)))))) (hp : H pl = some (.lst ((List.range r).map fun j => V.str (mkS (namL cell' (numL j cell'))))))
    (hc : H cl = some (.lst ((row c qe).map V.int))) (hr : H rl = some (.lst ((row r pe).map V.int))) (mt : MatM H vt as (mkT U r c)) : LsH H nl cl pl rl vt as (hdL cell c qe) (rsL cell' r c pe U) := by
  refine ⟨?_, ?_, ?_, ?_, mt.top, ?_, fun i b x e1 e2 => ?_⟩
  · rw [hn]
    unfold hdL
    rw [List.map_map, List.map_map]
    rfl
  · rw [hc, ← nI_row fun i hi => (du.q0 i hi).1]
    unfold hdL
    rw [List.map_map]
    rfl
  · rw [hp]
    unfold rsL
    rw [List.map_map, List.map_map]
    rfl
  · rw [hr, ← nI_row fun i hi => (du.p0 i hi).1]
    unfold rsL
    rw [List.map_map]
    rfl
  · have := mt.len
    rw [mk_len] at this
    rw [this]
    unfold rsL
    simp
  · unfold rsL at e2
    rw [List.getElem?_map] at e2
    have hi : i < r := by
      have := (List.getElem?_eq_some_iff.mp e1).1
      have l := mt.len
      rw [mk_len] at l
      omega
    rw [List.getElem?_range hi] at e2
    have e2 := Option.some.inj e2
    rw [← e2]
    show H b = some (.lst ((nI ((List.range c).map fun j => (U i j).toNat)).map V.int))
    rw [nI_row fun j hj => (ub i j hi hj).1]
    exact mt.rows i b _ e1 (mk_get hi)
structure FrH (H0 : Hp) (p a1 a2 a3 a4 a5 : Addr) (bs : List Addr) : Prop where
  p : H0 p = none
  h1 : H0 a1 = none
  h2 : H0 a2 = none
  h3 : H0 a3 = none
  h4 : H0 a4 = none
  h5 : H0 a5 = none
  hb : ∀ b, b ∈ bs → H0 b = none
theorem tabFar {cT : Addr} {H H0 : Hp} {p dx a1 a2 a3 a4 a5 x : Addr} {bs : List Addr} {Pn Nn : List Str} {Rs Cs : List Int} {Vs : List (List Int)} {o : HO} (t : TabH cT H p dx a1 a2 a3 a4 a5 bs Pn Nn Rs Cs Vs) (f : FrH H0 p a1 a2 a3 a4 a5 bs) {o0 : HO} (hx : H0 x = some o0) : TabH cT (upd H x o) p dx a1 a2 a3 a4 a5 bs Pn Nn Rs Cs Vs := by
  have ne : ∀ {y : Addr}, H0 y = none → y ≠ x := fun hy z => by rw [z, hx] at hy; cases hy
  exact ⟨(upd_ne (ne f.p)).trans t.ob, (upd_ne (ne f.h1)).trans t.pl, (upd_ne (ne f.h2)).trans t.pa, (upd_ne (ne f.h3)).trans t.ro, (upd_ne (ne f.h4)).trans t.co, (upd_ne (ne f.h5)).trans t.vo, t.lb, fun i b v e1 e2 => (upd_ne (ne (f.hb b (List.mem_of_getElem? e1)))).trans (t.vr i b v e1 e2), t.nd, t.nb⟩
def hd0 : List (Str × Nat) := [(mkS [97], 0)]
def rs0 : List Row := [((mkS [98], 0), [7])]
theorem pu0 : PuOk hd0 rs0 := by
  have na : ∀ z, 97 ≤ z → z ≤ 122 → NameOk (mkS [z]) := fun z h1 h2 => ⟨by rw [cd_mk]; simp, by rw [cd_mk]; intro c hc; have : c = z := (by simpa using hc); omega, by rw [← cd_len, cd_mk]; simp⟩
  refine ⟨fun h hh => ?_, by simp [hd0], by decide, by decide, fun r hr => ?_, by simp [rs0], by decide, by decide, by decide, by decide⟩
  · have : h = (mkS [97], 0) := by simpa [hd0] using hh
    subst this
    exact ⟨na 97 (by decide) (by decide), by decide⟩
  · have : r = ((mkS [98], 0), [7]) := by simpa [rs0] using hr
    subst this
    exact ⟨na 98 (by decide) (by decide), by decide, rfl, fun z hz => by have : z = 7 := (by simpa using hz); omega⟩
theorem tex0 : Str.ofString "a(0)\nb(0) 7" = tex hd0 rs0 := cd_inj (by decide +kernel)
theorem ok_law (T : Txt K mg) : FnOk P w K mg base CX0 7 T.a_law T.fd_law ["_law_script"] (spLaw K) := by
  refine T.F_law.ok sc_law (fun vs H Q E h => ?_) (fun cdv A outer s H vs Q E hr h => ?_)
  · obtain ⟨a, ns, rfl, _⟩ := h
    rfl
  obtain ⟨a, ns, rfl, hS, _, q⟩ := h
  refine ⟨_, (pss_cons (ps_asg (pe_call (ok_ltable T) (hr.mono (by decide)) rfl T.m_ltable T.F_ltable.kp T.b_ltable .nil pass0 (pa_cons (pv 0) pa_nil)) (pg_tupQ K rfl (pgs_cons (pg_name (i := 1) sc_law.nd rfl (Or.inl rfl)) (pgs_cons (pg_name (i := 2) sc_law.nd rfl (Or.inl rfl)) (pgs_cons (pg_name (i := 3) sc_law.nd rfl (Or.inl rfl)) pgs_nil)))))
      (pss_cons (ps_set (i := 4) sc_law.nd rfl (Or.inr rfl) (pe_call (ok_lcell_at T) (hr.mono (by decide)) rfl T.m_lcell_at T.F_lcell_at.kp T.b_lcell_at .nil pass0 (pa_cons (pv 0) (pa_cons pe_int pa_nil))))
      (pss_cons (ps_setC (i := 5) [11] rfl (blk_of rfl) (pi_range1 rfl T.n_range (pa_cons (pe_callB (len_Q K) (by rfl) T.n_len PySem.boot_len (pa_cons (pv 3) pa_nil)) pa_nil)) (fun _ => (pg_name (i := 11) sc_law.nd rfl (Or.inl rfl))) (fun _ => pts_nil) (fun _ => (pe_call (ok_lname T) (hr.mono (by decide)) rfl T.m_lname T.F_lname.kp T.b_lname .nil pass0 (pa_cons (pv 11) (pa_cons (pv 4) pa_nil)))) sc_law.nd rfl rfl)
      (pss_cons (ps_setC (i := 6) [11] rfl (blk_of rfl) (pi_range1 rfl T.n_range (pa_cons (pe_callB (len_Q K) (by rfl) T.n_len PySem.boot_len (pa_cons (pv 2) pa_nil)) pa_nil)) (fun _ => (pg_name (i := 11) sc_law.nd rfl (Or.inl rfl))) (fun _ => pts_nil) (fun _ => (pe_call (ok_lname T) (hr.mono (by decide)) rfl T.m_lname T.F_lname.kp T.b_lname .nil pass0 (pa_cons (pv 11) (pa_cons (pe_op op_fdivF (pv 4) pe_int) pa_nil)))) sc_law.nd rfl rfl)
      (pss_cons (ps_set (i := 7) sc_law.nd rfl (Or.inl rfl) (pe_call (ok_ltext T) (hr.mono (by decide)) rfl T.m_ltext T.F_ltext.kp T.b_ltext .nil pass0 (pa_cons (pv 5) (pa_cons (pv 3) (pa_cons (pv 6) (pa_cons (pv 2) (pa_cons (pv 1) pa_nil)))))))
      (pss_cons (ps_par (i := 8) (j := 9) rfl sc_law.nd rfl rfl (by decide) rfl rfl (pa_cons (pe_call (ok_read T) (hr.mono (by decide)) rfl T.m_read T.F_read.kp T.b_read .nil pass0 (pa_cons (pe_call (ok_lspread T) (hr.mono (by decide)) rfl T.m_lspread T.F_lspread.kp T.b_lspread .nil pass0 (pa_cons (pv 7) (pa_cons (pv 4) pa_nil))) pa_nil)) (pa_cons (pe_call (ok_read T) (hr.mono (by decide)) rfl T.m_read T.F_read.kp T.b_read .nil pass0 (pa_cons pe_str pa_nil)) pa_nil)) rfl)
      (pss_cons (ps_if (PW.pt (pw_or (pt_not (pt_val (pe_call (ok_lright T) (hr.mono (by decide)) rfl T.m_lright T.F_lright.kp T.b_lright .nil pass0 (pa_cons (pv 8) (pa_cons (pv 5) (pa_cons (pv 3) (pa_cons (pv 6) (pa_cons (pv 2) (pa_cons (pv 1) pa_nil))))))))) (pw_or1 (pt_cmpR op_ne (pe_call (ok_written T) (hr.mono (by decide)) rfl T.m_written T.F_written.kp T.b_written .nil pass0 (pa_cons (pv 8) pa_nil)) (pv 7) (nomark _)))))
      (pss_one (ps_ret pe_bl))
      pss_nil)
      (pss_cons (ps_set (i := 10) sc_law.nd rfl (Or.inl rfl) (pe_call (ok_read T) (hr.mono (by decide)) rfl T.m_read T.F_read.kp T.b_read .nil pass0 (pa_cons (pe_call (ok_written T) (hr.mono (by decide)) rfl T.m_written T.F_written.kp T.b_written .nil pass0 (pa_cons (pv 8) pa_nil)) pa_nil)))
      (pss_cons (ps_if (pt_not (pt_val (pe_call (ok_lright T) (hr.mono (by decide)) rfl T.m_lright T.F_lright.kp T.b_lright .nil pass0 (pa_cons (pv 8) (pa_cons (pv 5) (pa_cons (pv 3) (pa_cons (pv 6) (pa_cons (pv 2) (pa_cons (pv 1) pa_nil)))))))))
      (pss_one (ps_ret pe_bl))
      pss_nil)
      (pss_cons (ps_expr (pe_bm PySem.F.plainAttrs_list PySem.F.slot_list_append PySem.F.type_list_append mt_append (pe_ix (ix_Q K) (pe_fldR K (pv 8) rfl) pe_int (fun _ _ => rfl)) (pa_cons pe_int pa_nil)))
      (pss_cons (ps_expr (pe_bm PySem.F.plainAttrs_list PySem.F.slot_list_append PySem.F.type_list_append mt_append (pe_fldR K (pv 8) rfl) (pa_cons pe_int pa_nil)))
      (pss_cons (ps_expr (pe_bm PySem.F.plainAttrs_list PySem.F.slot_list_append PySem.F.type_list_append mt_append (pe_fldR K (pv 8) rfl) (pa_cons pe_str pa_nil)))
      (pss_cons (ps_if (pt_not (pt_val (pe_call (ok_lright T) (hr.mono (by decide)) rfl T.m_lright T.F_lright.kp T.b_lright .nil pass0 (pa_cons (pv 10) (pa_cons (pv 5) (pa_cons (pv 3) (pa_cons (pv 6) (pa_cons (pv 2) (pa_cons (pv 1) pa_nil)))))))))
      (pss_one (ps_ret pe_bl))
      pss_nil)
      (pss_cons (ps_if (pt_not (pt_val (pe_call (ok_lright T) (hr.mono (by decide)) rfl T.m_lright T.F_lright.kp T.b_lright .nil pass0 (pa_cons (pe_call (ok_read T) (hr.mono (by decide)) rfl T.m_read T.F_read.kp T.b_read .nil pass0 (pa_cons (pv 7) pa_nil)) (pa_cons (pv 5) (pa_cons (pv 3) (pa_cons (pv 6) (pa_cons (pv 2) (pa_cons (pv 1) pa_nil)))))))))
      (pss_one (ps_ret pe_bl))
      pss_nil)
      (pss_one (ps_ret (pe_call (ok_lright T) (hr.mono (by decide)) rfl T.m_lright T.F_lright.kp T.b_lright .nil pass0 (pa_cons (pv 9) (pa_cons (pe_lstA (pa_cons pe_str pa_nil)) (pa_cons (pe_lstA (pa_cons pe_int pa_nil)) (pa_cons (pe_lstA (pa_cons pe_str pa_nil)) (pa_cons (pe_lstA (pa_cons pe_int pa_nil)) (pa_cons (pe_lstA (pa_cons (pe_lstA (pa_cons pe_int pa_nil)) pa_nil)) pa_nil))))))))))))))))))))))), ?_⟩
  refine ⟨_, rfl, ?_⟩
  refine ⟨a, ns, rfl, hS, fun tt vt rl cl as U r c pe qe H1 S1 et mt hrl hcl r0 r1 c0 c1 ub du _ => ?_⟩
  have hS1 := S1.seq hS
  refine ⟨_, _, rfl, SqT.of (by assumption), rfl, _, _, rfl, _, _, rfl, _, _, rfl, ?_⟩
  refine ⟨rfl, _, rfl, ?_⟩
  refine ⟨a, ns, _, rfl, hS1, by decide, fun cell => ?_⟩
  refine ⟨_, rfl, _, _, rfl, Or.inl (SqL.of (by assumption)), ?_⟩
  rw [List.length_map, row_len]
  refine ⟨_, rfl, by omega, by omega, ?_⟩
  rw [Int.toNat_natCast]
  refine comp_mapR (fun j => V.str (mkS (namL cell (numL j cell)))) (Nat.le_trans c1 (by decide)) (fun j Q' hj hQ => ?_) fun nl H2 N2 => ?_
  · rw [show (0 : Int) + (j : Int) = (j : Int) by omega]
    refine ⟨_, rfl, _, rfl, ?_⟩
    exact ⟨j, cell, rfl, hQ⟩
  have hrl2 := N2.same _ _ hrl
  refine ⟨_, rfl, _, _, rfl, Or.inl (SqL.of (by assumption)), ?_⟩
  rw [List.length_map, row_len]
  refine ⟨_, rfl, by omega, by omega, ?_⟩
  rw [Int.toNat_natCast]
  refine comp_mapR (fun j => V.str (mkS (namL (cell / 7) (numL j (cell / 7))))) (Nat.le_trans r1 (by decide)) (fun j Q' hj hQ => ?_) fun pl H3 N3 => ?_
  · rw [show (0 : Int) + (j : Int) = (j : Int) by omega]
    refine ⟨_, rfl, _, rfl, _, _, rfl, rfl, ⟨by omega, fits_of (by omega) (by omega)⟩, ?_⟩
    exact ⟨j, cell / 7, rfl, hQ⟩
  have S13 := N2.same.trans N3.same
  have pu := pu_law (cell := cell) (cell' := cell / 7) r0 r1 c0 c1 ub du
  have ls3 := ls_law (cell := cell) (cell' := cell / 7) ub du (N3.same _ _ N2.at_) N3.at_ (S13 _ _ hcl) (S13 _ _ hrl) (mt.same S13)
  generalize hdL cell c qe = hd at *
  generalize rsL (cell / 7) r c pe U = rs at *
  have h12 := pu.h12
  have rr12 := pu.r12
  refine ⟨_, rfl, _, rfl, _, rfl, _, rfl, _, rfl, ?_⟩
  refine ⟨nl, cl, pl, rl, vt, as, hd, rs, rfl, ls3, pu, fun H4 S4 => ?_⟩
  have ls4 := ls3.same S4
  unfold tPar
  refine ⟨_, rfl, _, rfl, ?_⟩
  refine ⟨hd, rs, cell, rfl, pu, fun b Ls H5 rd5 S5 => ?_⟩
  refine ⟨b, Ls, hd, rs, rfl, rd5, fun H6 p dx a1 a2 a3 a4 a5 bs S6 t6 n0 n1 n2 n3 n4 n5 nb => ?_⟩
  refine ⟨_, wsOf hd0 rs0, hd0, rs0, rfl, by rw [tex0]; exact (rd_tex pu0), fun H7 p' dx' a1' a2' a3' a4' a5' bs' S7 t7 m0 m1 m2 m3 m4 m5 mb => ?_⟩
  have f7 : FrH H6 p' a1' a2' a3' a4' a5' bs' := ⟨m0, m1, m2, m3, m4, m5, mb⟩
  refine ⟨_, _, rfl, ?_⟩
  have S47 := S5.trans (S6.trans S7)
  refine ⟨_, rfl, _, rfl, _, rfl, _, rfl, _, rfl, _, rfl, ?_⟩
  refine ⟨.mk (t6.same S7) (ls4.same S47) pu, fun H8 S8 => ?_⟩
  refine ⟨_, rfl, ?_⟩
  refine iteF ?_
  refine ⟨_, rfl, ?_⟩
  refine ⟨p, dx, a1, a2, a3, a4, a5, bs, hd, rs, rfl, ⟨t6.same (S7.trans S8), pu.hk, h12, pu.rk, rr12⟩, fun H9 S9 => ?_⟩
  refine ⟨_, rfl, rfl, _, rfl, ?_⟩
  refine iteNT rfl ?_
  refine ⟨_, rfl, ?_⟩
  refine ⟨p, dx, a1, a2, a3, a4, a5, bs, hd, rs, rfl, ⟨t6.same (S7.trans (S8.trans S9)), pu.hk, h12, pu.rk, rr12⟩, fun H10 S10 => ?_⟩
  refine ⟨_, wsOf hd rs, hd, rs, rfl, rd_tex pu, fun H11 p2 dx2 b1 b2 b3 b4 b5 bs2 S11 t11 k0 k1 k2 k3 k4 k5 kb => ?_⟩
  have f11 : FrH H10 p2 b1 b2 b3 b4 b5 bs2 := ⟨k0, k1, k2, k3, k4, k5, kb⟩
  have S610 := S7.trans (S8.trans (S9.trans S10))
  refine ⟨_, rfl, _, rfl, _, rfl, _, rfl, _, rfl, _, rfl, ?_⟩
  refine ⟨.mk (t6.same (S610.trans S11)) (ls4.same (S5.trans (S6.trans (S610.trans S11)))) pu, fun H12 S12 => ?_⟩
  have S612 := S610.trans (S11.trans S12)
  have t12 := t6.same S612
  have ob12 := t12.ob
  have vo12 := t12.vo
  have lb12 := t12.lb
  rw [List.length_map] at lb12
  have r1' := pu.r1
  have hib : 0 < bs.length := by omega
  have eb : bs[0]? = some bs[0] := List.getElem?_eq_getElem hib
  have er : rs[0]? = some rs[0] := List.getElem?_eq_getElem r1'
  have atb : atI (bs.map V.ref) 0 = some (.ref bs[0]) := at_ref (k := 0) eb
  have hb12 := t12.vr 0 bs[0] (nI rs[0].2) eb (by rw [List.getElem?_map, er]; rfl)
  have lr : (nI rs[0].2).length ≤ 12 := by unfold nI; rw [List.length_map, (pu.rk rs[0] (List.getElem_mem r1')).2.2.1]; exact h12
  have hb6 := t6.vr 0 bs[0] (nI rs[0].2) eb (by rw [List.getElem?_map, er]; rfl)
  have nb5 := nb bs[0] (List.getElem_mem hib)
  have nbx := t12.nb bs[0] (List.getElem_mem hib)
  have ndx := t12.nd
  simp only [List.nodup_cons, List.mem_cons, List.not_mem_nil, or_false, not_or, not_false_eq_true, List.nodup_nil, and_true] at nbx ndx
  obtain ⟨x1, x2, x3, x4, x5⟩ := nbx
  obtain ⟨_, ⟨n23, _, _⟩, _, _⟩ := ndx
  generalize bs[0] = b0 at *
  generalize nI rs[0].2 = v0 at *
  refine ⟨_, rfl, ?_⟩
  refine iteF ?_
  refine ⟨_, rfl, _, _, _, _, _, rfl, by assumption, T.cl_Table, T.na_Table_votes, by rfl, _, _, _, _, rfl, rfl, Or.inl (SqL.of (by assumption)), by assumption, ?_⟩
  refine ⟨.inl ⟨rfl, _, SqL.of hb12⟩, ?_⟩
  refine ⟨b0, _, _, rfl, rfl, hb12, ?_, ?_⟩
  · rw [List.length_map]
    exact Nat.lt_of_le_of_lt lr (by decide)
  have hb10 := S610 _ _ hb6
  have t11a := tabFar (t11.same S12) (o := .lst (v0.map V.int ++ [.int 1])) f11 hb10
  have t7a := tabFar (t7.same (S8.trans (S9.trans (S10.trans (S11.trans S12))))) (o := .lst (v0.map V.int ++ [.int 1])) f7 hb6
  have ob13 : upd H12 b0 (.lst (v0.map V.int ++ [.int 1])) p = _ := (upd_ne (ne_ins ob12 hb12)).trans ob12
  have ro13 : upd H12 b0 (.lst (v0.map V.int ++ [.int 1])) a3 = _ := (upd_ne (Ne.symm x3)).trans t12.ro
  have pa13 : upd H12 b0 (.lst (v0.map V.int ++ [.int 1])) a2 = _ := (upd_ne (Ne.symm x2)).trans t12.pa
  have S13' : Same H4 (upd H12 b0 (.lst (v0.map V.int ++ [.int 1]))) := (S5.trans (S6.trans S612)).upd (S5.free nb5)
  generalize upd H12 b0 (.lst (v0.map V.int ++ [.int 1])) = H13 at *
  refine ⟨_, rfl, _, _, _, _, _, rfl, by assumption, T.cl_Table, T.na_Table_rows, by rfl, ?_⟩
  refine ⟨.inl ⟨rfl, _, SqL.of ro13⟩, ?_⟩
  refine ⟨a3, _, _, rfl, rfl, ro13, ?_, ?_⟩
  · unfold nI
    rw [List.length_map, List.length_map, List.length_map]
    exact Nat.lt_of_le_of_lt rr12 (by decide)
  have t11b := tabFar t11a (o := .lst ((nI (rs.map (·.1.2))).map V.int ++ [.int 1])) f11 (S610 _ _ t6.ro)
  have t7b := tabFar t7a (o := .lst ((nI (rs.map (·.1.2))).map V.int ++ [.int 1])) f7 t6.ro
  have ob14 : upd H13 a3 (.lst ((nI (rs.map (·.1.2))).map V.int ++ [.int 1])) p = _ := (upd_ne (ne_ins ob13 ro13)).trans ob13
  have pa14 : upd H13 a3 (.lst ((nI (rs.map (·.1.2))).map V.int ++ [.int 1])) a2 = _ := (upd_ne n23).trans pa13
  have S14' : Same H4 (upd H13 a3 (.lst ((nI (rs.map (·.1.2))).map V.int ++ [.int 1]))) := S13'.upd (S5.free n3)
  generalize upd H13 a3 (.lst ((nI (rs.map (·.1.2))).map V.int ++ [.int 1])) = H14 at *
  refine ⟨_, rfl, _, _, _, _, _, rfl, by assumption, T.cl_Table, T.na_Table_parties, by rfl, ?_⟩
  refine ⟨.inl ⟨rfl, _, SqL.of pa14⟩, ?_⟩
  refine ⟨a2, _, _, rfl, rfl, pa14, ?_, ?_⟩
  · rw [List.length_map, List.length_map]
    exact Nat.lt_of_le_of_lt h12 (by decide)
  have t11c := tabFar t11b (o := .lst ((hd.map (·.1)).map V.str ++ [.str (Str.ofString "z")])) f11 (S610 _ _ t6.pa)
  have t7c := tabFar t7b (o := .lst ((hd.map (·.1)).map V.str ++ [.str (Str.ofString "z")])) f7 t6.pa
  have S15' : Same H4 (upd H14 a2 (.lst ((hd.map (·.1)).map V.str ++ [.str (Str.ofString "z")]))) := S14'.upd (S5.free n2)
  generalize upd H14 a2 (.lst ((hd.map (·.1)).map V.str ++ [.str (Str.ofString "z")])) = H15 at *
  have ls15 := ls4.same S15'
  refine ⟨_, rfl, _, rfl, _, rfl, _, rfl, _, rfl, _, rfl, ?_⟩
  refine ⟨.mk t11c ls15 pu, fun H16 S16 => ?_⟩
  refine ⟨_, rfl, ?_⟩
  refine iteF ?_
  refine ⟨_, rfl, ?_⟩
  refine ⟨_, wsOf hd rs, hd, rs, rfl, rd_tex pu, fun H17 p3 dx3 c1 c2 c3 c4 c5 bs3 S17 t17 _ _ _ _ _ _ _ => ?_⟩
  refine ⟨_, rfl, _, rfl, _, rfl, _, rfl, _, rfl, ?_⟩
  refine ⟨.mk t17 (ls15.same (S16.trans S17)) pu, fun H18 S18 => ?_⟩
  refine ⟨_, rfl, ?_⟩
  refine iteF ?_
  refine ⟨_, rfl, ?_⟩
  refine ⟨(by show 1 ≤ sizeLine; decide), fun g1 H19 N19 => ?_⟩
  refine ⟨(by show 1 ≤ sizeLine; decide), fun g2 H20 N20 => ?_⟩
  refine ⟨(by show 1 ≤ sizeLine; decide), fun g3 H21 N21 => ?_⟩
  refine ⟨(by show 1 ≤ sizeLine; decide), fun g4 H22 N22 => ?_⟩
  refine ⟨(by show 1 ≤ sizeLine; decide), fun g5 H23 N23 => ?_⟩
  refine ⟨(by show 1 ≤ sizeLine; decide), fun g6 H24 N24 => ?_⟩
  have S2224 := N23.same.trans N24.same
  have S2124 := N22.same.trans S2224
  have S2024 := N21.same.trans S2124
  have S1924 := N20.same.trans S2024
  have t24 := t7c.same (S16.trans (S17.trans (S18.trans (N19.same.trans S1924))))
  have ls24 : LsH H24 g1 g2 g3 g4 g6 [g5] hd0 rs0 := ⟨S1924 _ _ N19.at_, S2024 _ _ N20.at_, S2124 _ _ N21.at_, S2224 _ _ N22.at_, N24.at_, rfl, fun i b r e1 e2 => by
    cases i with
    | succ i => simp at e1
    | zero =>
      have e1 : g5 = b := by simpa using e1
      have e2 : ((mkS [98], 0), [7]) = r := by simpa [rs0] using e2
      subst e1 e2
      exact N24.same _ _ N23.at_⟩
  exact ⟨.mk t24 ls24 pu0, fun H' _ => q H'⟩
end
end K4
namespace K4
open PySem L2 SW
section
variable {α : Type} {P : List α → Prop}
theorem A1 (h : ∀ a, P [a]) (us : List α) (e : us.length = 1) : P us := by
  obtain ⟨a, rfl⟩ := List.length_eq_one_iff.mp e
  exact h a
theorem A0 (k : Nat) (us : List α) (e : us.length = k + 1) : ∃ a v, us = a :: v ∧ v.length = k := by
  cases us with
  | nil => cases e
  | cons a v => exact ⟨a, v, rfl, Nat.succ.inj e⟩
theorem A2 (h : ∀ a b, P [a, b]) (us : List α) (e : us.length = 2) : P us := by
  obtain ⟨a, v, rfl, e2⟩ := A0 _ us e
  exact A1 (P := fun v => P (a :: v)) (h a) v e2
theorem A3 (h : ∀ a b c, P [a, b, c]) (us : List α) (e : us.length = 3) : P us := by
  obtain ⟨a, v, rfl, e2⟩ := A0 _ us e
  exact A2 (P := fun v => P (a :: v)) (h a) v e2
theorem A4 (h : ∀ a b c d, P [a, b, c, d]) (us : List α) (e : us.length = 4) : P us := by
  obtain ⟨a, v, rfl, e2⟩ := A0 _ us e
  exact A3 (P := fun v => P (a :: v)) (h a) v e2
theorem A5 (h : ∀ a b c d e, P [a, b, c, d, e]) (us : List α) (e : us.length = 5) : P us := by
  obtain ⟨a, v, rfl, e2⟩ := A0 _ us e
  exact A4 (P := fun v => P (a :: v)) (h a) v e2
theorem A6 (h : ∀ a b c d e f, P [a, b, c, d, e, f]) (us : List α) (e : us.length = 6) : P us := by
  obtain ⟨a, v, rfl, e2⟩ := A0 _ us e
  exact A5 (P := fun v => P (a :: v)) (h a) v e2
end
theorem txt_mk {K : PySem.W.Frag} {h : Heap} {mg : Str → Option Value} (X : K.In h) (G : h.Ns mainGlobals mg)
    {c_Table c_DealError c_BadLine c_NoTable f_words_of f_is_of f_number_of f_take_name f_take_place f_take_line f_read f_labelled f_written f_lcell_at f_ldraw f_lgreat f_lvote f_lsize f_ltable f_lname f_ltext f_lspread f_lright f_law f_Table_init : Addr}
    {p0 q0 p1 q1 p2 q2 p3 q3 p4 q4 p5 q5 p6 q6 p7 q7 p8 q8 p9 q9 p10 q10 p11 q11 p12 q12 p13 q13 p14 q14 p15 q15 p16 q16 p17 q17 p18 q18 p19 q19 p20 q20 : Option Addr}
    {r0 r1 r2 r3 r4 r5 r6 r7 r8 r9 r10 r11 r12 r13 r14 r15 r16 r17 r18 r19 r20 : Array (Option Value)}
    {u0 v0 w0 x0 y0 z0 u1 v1 w1 x1 y1 z1 u2 v2 w2 x2 y2 z2 u3 v3 w3 x3 y3 z3 u4 v4 w4 x4 y4 z4 u5 v5 w5 x5 y5 z5 u6 v6 w6 x6 y6 z6 u7 v7 w7 x7 y7 z7 u8 v8 w8 x8 y8 z8 u9 v9 w9 x9 y9 z9 u10 v10 w10 x10 y10 z10 u11 v11 w11 x11 y11 z11 u12 v12 w12 x12 y12 z12 u13 v13 w13 x13 y13 z13 u14 v14 w14 x14 y14 z14 u15 v15 w15 x15 y15 z15 u16 v16 w16 x16 y16 z16 u17 v17 w17 x17 y17 z17 u18 v18 w18 x18 y18 z18 u19 v19 w19 x19 y19 z19 u20 v20 w20 x20 y20 z20 : Value}
    {tk_LETTERS tk_FIGURES tk_LONGEST_NAME tk_MOST_NAMES tk_MOST_SEATS tk_MOST_VOTES : Tok}
    (m_Table : PySem.W.nsIn K mainGlobals "Table" = some (some (.ref c_Table)))
    (m_DealError : PySem.W.nsIn K mainGlobals "DealError" = some (some (.ref c_DealError)))
    (m_BadLine : PySem.W.nsIn K mainGlobals "BadLine" = some (some (.ref c_BadLine)))
    (m_NoTable : PySem.W.nsIn K mainGlobals "NoTable" = some (some (.ref c_NoTable)))
    (a_words_of : PySem.W.nsIn K mainGlobals "words_of" = some (some (.ref f_words_of)))
    (l0 : K.lookup f_words_of = some ⟨u0, p0, .func (PySem.W.fnOf "words_of" "words_of" (defArgs s_words_of) (defBody s_words_of) (defScope s_words_of) .none v0 w0 x0 q0 y0 z0), r0⟩)
    (c0 : PySem.W.codeIn K y0 "words_of" = true)
    (k_words_of' : PySem.W.keepIn K (.ref f_words_of) = true)
    (a_is_of : PySem.W.nsIn K mainGlobals "is_of" = some (some (.ref f_is_of)))
    (l1 : K.lookup f_is_of = some ⟨u1, p1, .func (PySem.W.fnOf "is_of" "is_of" (defArgs s_is_of) (defBody s_is_of) (defScope s_is_of) .none v1 w1 x1 q1 y1 z1), r1⟩)
    (c1 : PySem.W.codeIn K y1 "is_of" = true)
    (k_is_of' : PySem.W.keepIn K (.ref f_is_of) = true)
    (a_number_of : PySem.W.nsIn K mainGlobals "number_of" = some (some (.ref f_number_of)))
    (l2 : K.lookup f_number_of = some ⟨u2, p2, .func (PySem.W.fnOf "number_of" "number_of" (defArgs s_number_of) (defBody s_number_of) (defScope s_number_of) .none v2 w2 x2 q2 y2 z2), r2⟩)
    (c2 : PySem.W.codeIn K y2 "number_of" = true)
    (k_number_of' : PySem.W.keepIn K (.ref f_number_of) = true)
    (a_take_name : PySem.W.nsIn K mainGlobals "take_name" = some (some (.ref f_take_name)))
    (l3 : K.lookup f_take_name = some ⟨u3, p3, .func (PySem.W.fnOf "take_name" "take_name" (defArgs s_take_name) (defBody s_take_name) (defScope s_take_name) .none v3 w3 x3 q3 y3 z3), r3⟩)
    (c3 : PySem.W.codeIn K y3 "take_name" = true)
    (k_take_name' : PySem.W.keepIn K (.ref f_take_name) = true)
    (a_take_place : PySem.W.nsIn K mainGlobals "take_place" = some (some (.ref f_take_place)))
    (l4 : K.lookup f_take_place = some ⟨u4, p4, .func (PySem.W.fnOf "take_place" "take_place" (defArgs s_take_place) (defBody s_take_place) (defScope s_take_place) .none v4 w4 x4 q4 y4 z4), r4⟩)
    (c4 : PySem.W.codeIn K y4 "take_place" = true)
    (k_take_place' : PySem.W.keepIn K (.ref f_take_place) = true)
    (a_take_line : PySem.W.nsIn K mainGlobals "take_line" = some (some (.ref f_take_line)))
    (l5 : K.lookup f_take_line = some ⟨u5, p5, .func (PySem.W.fnOf "take_line" "take_line" (defArgs s_take_line) (defBody s_take_line) (defScope s_take_line) .none v5 w5 x5 q5 y5 z5), r5⟩)
    (c5 : PySem.W.codeIn K y5 "take_line" = true)
    (k_take_line' : PySem.W.keepIn K (.ref f_take_line) = true)
    (a_read : PySem.W.nsIn K mainGlobals "read" = some (some (.ref f_read)))
    (l6 : K.lookup f_read = some ⟨u6, p6, .func (PySem.W.fnOf "read" "read" (defArgs s_read) (defBody s_read) (defScope s_read) .none v6 w6 x6 q6 y6 z6), r6⟩)
    (c6 : PySem.W.codeIn K y6 "read" = true)
    (k_read' : PySem.W.keepIn K (.ref f_read) = true)
    (a_labelled : PySem.W.nsIn K mainGlobals "labelled" = some (some (.ref f_labelled)))
    (l7 : K.lookup f_labelled = some ⟨u7, p7, .func (PySem.W.fnOf "labelled" "labelled" (defArgs s_labelled) (defBody s_labelled) (defScope s_labelled) .none v7 w7 x7 q7 y7 z7), r7⟩)
    (c7 : PySem.W.codeIn K y7 "labelled" = true)
    (k_labelled' : PySem.W.keepIn K (.ref f_labelled) = true)
    (a_written : PySem.W.nsIn K mainGlobals "written" = some (some (.ref f_written)))
    (l8 : K.lookup f_written = some ⟨u8, p8, .func (PySem.W.fnOf "written" "written" (defArgs s_written) (defBody s_written) (defScope s_written) .none v8 w8 x8 q8 y8 z8), r8⟩)
    (c8 : PySem.W.codeIn K y8 "written" = true)
    (k_written' : PySem.W.keepIn K (.ref f_written) = true)
    (a_lcell_at : PySem.W.nsIn K mainGlobals "_law_cell_at" = some (some (.ref f_lcell_at)))
    (l9 : K.lookup f_lcell_at = some ⟨u9, p9, .func (PySem.W.fnOf "_law_cell_at" "_law_cell_at" (defArgs s_lcell_at) (defBody s_lcell_at) (defScope s_lcell_at) .none v9 w9 x9 q9 y9 z9), r9⟩)
    (c9 : PySem.W.codeIn K y9 "_law_cell_at" = true)
    (k_lcell_at' : PySem.W.keepIn K (.ref f_lcell_at) = true)
    (a_ldraw : PySem.W.nsIn K mainGlobals "_law_draw" = some (some (.ref f_ldraw)))
    (l10 : K.lookup f_ldraw = some ⟨u10, p10, .func (PySem.W.fnOf "_law_draw" "_law_draw" (defArgs s_ldraw) (defBody s_ldraw) (defScope s_ldraw) .none v10 w10 x10 q10 y10 z10), r10⟩)
    (c10 : PySem.W.codeIn K y10 "_law_draw" = true)
    (k_ldraw' : PySem.W.keepIn K (.ref f_ldraw) = true)
    (a_lgreat : PySem.W.nsIn K mainGlobals "_law_great" = some (some (.ref f_lgreat)))
    (l11 : K.lookup f_lgreat = some ⟨u11, p11, .func (PySem.W.fnOf "_law_great" "_law_great" (defArgs s_lgreat) (defBody s_lgreat) (defScope s_lgreat) .none v11 w11 x11 q11 y11 z11), r11⟩)
    (c11 : PySem.W.codeIn K y11 "_law_great" = true)
    (k_lgreat' : PySem.W.keepIn K (.ref f_lgreat) = true)
    (a_lvote : PySem.W.nsIn K mainGlobals "_law_vote" = some (some (.ref f_lvote)))
    (l12 : K.lookup f_lvote = some ⟨u12, p12, .func (PySem.W.fnOf "_law_vote" "_law_vote" (defArgs s_lvote) (defBody s_lvote) (defScope s_lvote) .none v12 w12 x12 q12 y12 z12), r12⟩)
    (c12 : PySem.W.codeIn K y12 "_law_vote" = true)
    (k_lvote' : PySem.W.keepIn K (.ref f_lvote) = true)
    (a_lsize : PySem.W.nsIn K mainGlobals "_law_size" = some (some (.ref f_lsize)))
    (l13 : K.lookup f_lsize = some ⟨u13, p13, .func (PySem.W.fnOf "_law_size" "_law_size" (defArgs s_lsize) (defBody s_lsize) (defScope s_lsize) .none v13 w13 x13 q13 y13 z13), r13⟩)
    (c13 : PySem.W.codeIn K y13 "_law_size" = true)
    (k_lsize' : PySem.W.keepIn K (.ref f_lsize) = true)
    (a_ltable : PySem.W.nsIn K mainGlobals "_law_table" = some (some (.ref f_ltable)))
    (l14 : K.lookup f_ltable = some ⟨u14, p14, .func (PySem.W.fnOf "_law_table" "_law_table" (defArgs s_ltable) (defBody s_ltable) (defScope s_ltable) .none v14 w14 x14 q14 y14 z14), r14⟩)
    (c14 : PySem.W.codeIn K y14 "_law_table" = true)
    (k_ltable' : PySem.W.keepIn K (.ref f_ltable) = true)
    (a_lname : PySem.W.nsIn K mainGlobals "_law_name" = some (some (.ref f_lname)))
    (l15 : K.lookup f_lname = some ⟨u15, p15, .func (PySem.W.fnOf "_law_name" "_law_name" (defArgs s_lname) (defBody s_lname) (defScope s_lname) .none v15 w15 x15 q15 y15 z15), r15⟩)
    (c15 : PySem.W.codeIn K y15 "_law_name" = true)
    (k_lname' : PySem.W.keepIn K (.ref f_lname) = true)
    (a_ltext : PySem.W.nsIn K mainGlobals "_law_text" = some (some (.ref f_ltext)))
    (l16 : K.lookup f_ltext = some ⟨u16, p16, .func (PySem.W.fnOf "_law_text" "_law_text" (defArgs s_ltext) (defBody s_ltext) (defScope s_ltext) .none v16 w16 x16 q16 y16 z16), r16⟩)
    (c16 : PySem.W.codeIn K y16 "_law_text" = true)
    (k_ltext' : PySem.W.keepIn K (.ref f_ltext) = true)
    (a_lspread : PySem.W.nsIn K mainGlobals "_law_spread" = some (some (.ref f_lspread)))
    (l17 : K.lookup f_lspread = some ⟨u17, p17, .func (PySem.W.fnOf "_law_spread" "_law_spread" (defArgs s_lspread) (defBody s_lspread) (defScope s_lspread) .none v17 w17 x17 q17 y17 z17), r17⟩)
    (c17 : PySem.W.codeIn K y17 "_law_spread" = true)
    (k_lspread' : PySem.W.keepIn K (.ref f_lspread) = true)
    (a_lright : PySem.W.nsIn K mainGlobals "_law_right" = some (some (.ref f_lright)))
    (l18 : K.lookup f_lright = some ⟨u18, p18, .func (PySem.W.fnOf "_law_right" "_law_right" (defArgs s_lright) (defBody s_lright) (defScope s_lright) .none v18 w18 x18 q18 y18 z18), r18⟩)
    (c18 : PySem.W.codeIn K y18 "_law_right" = true)
    (k_lright' : PySem.W.keepIn K (.ref f_lright) = true)
    (a_law : PySem.W.nsIn K mainGlobals "law" = some (some (.ref f_law)))
    (l19 : K.lookup f_law = some ⟨u19, p19, .func (PySem.W.fnOf "law" "law" (defArgs s_law) (defBody s_law) (defScope s_law) .none v19 w19 x19 q19 y19 z19), r19⟩)
    (c19 : PySem.W.codeIn K y19 "law" = true)
    (k_law' : PySem.W.keepIn K (.ref f_law) = true)
    (a_Table_init : PySem.W.findIn K (.ref c_Table) "__init__" = some (some (.ref f_Table_init)))
    (i_Table_init : PySem.W.isFn K (.ref f_Table_init) = true)
    (l20 : K.lookup f_Table_init = some ⟨u20, p20, .func (PySem.W.fnOf "__init__" "Table.__init__" (defArgs s_Table_init) (defBody s_Table_init) (defScope s_Table_init) .none v20 w20 x20 q20 y20 z20), r20⟩)
    (c20 : PySem.W.codeIn K y20 "Table.__init__" = true)
    (k_Table_init' : PySem.W.keepIn K (.ref f_Table_init) = true)
    (z_isinstance : PySem.W.nsIn K mainGlobals "isinstance" = some none)
    (z_int : PySem.W.nsIn K mainGlobals "int" = some none)
    (z_bool : PySem.W.nsIn K mainGlobals "bool" = some none)
    (z_list : PySem.W.nsIn K mainGlobals "list" = some none)
    (z_str : PySem.W.nsIn K mainGlobals "str" = some none)
    (z_len : PySem.W.nsIn K mainGlobals "len" = some none)
    (z_min : PySem.W.nsIn K mainGlobals "min" = some none)
    (z_range : PySem.W.nsIn K mainGlobals "range" = some none)
    (z_sum : PySem.W.nsIn K mainGlobals "sum" = some none)
    (z_all : PySem.W.nsIn K mainGlobals "all" = some none)
    (z_enumerate : PySem.W.nsIn K mainGlobals "enumerate" = some none)
    (g_LETTERS : PySem.W.nsIn K mainGlobals "LETTERS" = some (some (.str "abcdefghijklmnopqrstuvwxyz" tk_LETTERS)))
    (g_FIGURES : PySem.W.nsIn K mainGlobals "FIGURES" = some (some (.str "0123456789" tk_FIGURES)))
    (g_LONGEST_NAME : PySem.W.nsIn K mainGlobals "LONGEST_NAME" = some (some (.int 8 tk_LONGEST_NAME)))
    (g_MOST_NAMES : PySem.W.nsIn K mainGlobals "MOST_NAMES" = some (some (.int 12 tk_MOST_NAMES)))
    (g_MOST_SEATS : PySem.W.nsIn K mainGlobals "MOST_SEATS" = some (some (.int 300 tk_MOST_SEATS)))
    (g_MOST_VOTES : PySem.W.nsIn K mainGlobals "MOST_VOTES" = some (some (.int 1000000000 tk_MOST_VOTES)))
    (pg_Table : PySem.W.plainGet K c_Table Str.empty = true)
    (hd_Table : PySem.W.hasDictIn K c_Table = true)
    (po_Table : PySem.W.plainOver K c_Table = true)
    (sa_Table : PySem.W.findIn K (.ref c_Table) "__setattr__" = some (some (.builtin "object.__setattr__")))
    (mk_Table : PySem.W.makesIn K c_Table = true)
    (kc_Table : PySem.W.keepIn K (.ref c_Table) = true)
    (na_Table_places : PySem.W.findIn K (.ref c_Table) "places" = some none)
    (na_Table_parties : PySem.W.findIn K (.ref c_Table) "parties" = some none)
    (na_Table_rows : PySem.W.findIn K (.ref c_Table) "rows" = some none)
    (na_Table_columns : PySem.W.findIn K (.ref c_Table) "columns" = some none)
    (na_Table_votes : PySem.W.findIn K (.ref c_Table) "votes" = some none)
    (hn : PySem.W.specialIn K (.builtin "object.__class__") "__get__" = some (some (.builtin "getset_descriptor.__get__")))
    (tk : PySem.W.takesIn K (.builtin "object.__class__") = some true)
    (ha_Table : PySem.W.findIn K (.ref c_Table) "__class__" = some (some (.builtin "object.__class__")))
    (ob_Table : PySem.W.mroIn K c_Table (.type "object") = some true)
    (k_Table_Table : PySem.W.kitOne K (.ref c_Table) (.ref c_Table) = some true)
    : ∃ T : Txt K mg, mg "law" = some (.ref T.a_law) ∧ ∀ (s : Shared) (v : Value), BindsTo s T.fd_law ⟨[v], []⟩ [("_law_script", v)] := by
  have F_words_of := fun_mk (st := s_words_of) l0 c0 k_words_of'
  have b_words_of := F_words_of.binds (ps := ["line"]) fun _ _ _ _ _ _ => A1 fun _ => rfl
  have F_is_of := fun_mk (st := s_is_of) l1 c1 k_is_of'
  have b_is_of := F_is_of.binds (ps := ["word", "signs"]) fun _ _ _ _ _ _ => A2 fun _ _ => rfl
  have F_number_of := fun_mk (st := s_number_of) l2 c2 k_number_of'
  have b_number_of := F_number_of.binds (ps := ["word", "most", "at"]) fun _ _ _ _ _ _ => A3 fun _ _ _ => rfl
  have F_take_name := fun_mk (st := s_take_name) l3 c3 k_take_name'
  have b_take_name := F_take_name.binds (ps := ["word", "names", "seats", "at"]) fun _ _ _ _ _ _ => A4 fun _ _ _ _ => rfl
  have F_take_place := fun_mk (st := s_take_place) l4 c4 k_take_place'
  have b_take_place := F_take_place.binds (ps := ["words", "table", "at"]) fun _ _ _ _ _ _ => A3 fun _ _ _ => rfl
  have F_take_line := fun_mk (st := s_take_line) l5 c5 k_take_line'
  have b_take_line := F_take_line.binds (ps := ["words", "table", "at"]) fun _ _ _ _ _ _ => A3 fun _ _ _ => rfl
  have F_read := fun_mk (st := s_read) l6 c6 k_read'
  have b_read := F_read.binds (ps := ["text"]) fun _ _ _ _ _ _ => A1 fun _ => rfl
  have F_labelled := fun_mk (st := s_labelled) l7 c7 k_labelled'
  have b_labelled := F_labelled.binds (ps := ["name", "seats"]) fun _ _ _ _ _ _ => A2 fun _ _ => rfl
  have F_written := fun_mk (st := s_written) l8 c8 k_written'
  have b_written := F_written.binds (ps := ["table"]) fun _ _ _ _ _ _ => A1 fun _ => rfl
  have F_lcell_at := fun_mk (st := s_lcell_at) l9 c9 k_lcell_at'
  have b_lcell_at := F_lcell_at.binds (ps := ["_law_script", "_law_k"]) fun _ _ _ _ _ _ => A2 fun _ _ => rfl
  have F_ldraw := fun_mk (st := s_ldraw) l10 c10 k_ldraw'
  have b_ldraw := F_ldraw.binds (ps := ["_law_cell", "_law_k", "_law_many"]) fun _ _ _ _ _ _ => A3 fun _ _ _ => rfl
  have F_lgreat := fun_mk (st := s_lgreat) l11 c11 k_lgreat'
  have b_lgreat := F_lgreat.binds (ps := ["_law_cell", "_law_k", "_law_most"]) fun _ _ _ _ _ _ => A3 fun _ _ _ => rfl
  have F_lvote := fun_mk (st := s_lvote) l12 c12 k_lvote'
  have b_lvote := F_lvote.binds (ps := ["_law_cell"]) fun _ _ _ _ _ _ => A1 fun _ => rfl
  have F_lsize := fun_mk (st := s_lsize) l13 c13 k_lsize'
  have b_lsize := F_lsize.binds (ps := ["_law_cell", "_law_k"]) fun _ _ _ _ _ _ => A2 fun _ _ => rfl
  have F_ltable := fun_mk (st := s_ltable) l14 c14 k_ltable'
  have b_ltable := F_ltable.binds (ps := ["_law_script"]) fun _ _ _ _ _ _ => A1 fun _ => rfl
  have F_lname := fun_mk (st := s_lname) l15 c15 k_lname'
  have b_lname := F_lname.binds (ps := ["_law_k", "_law_cell"]) fun _ _ _ _ _ _ => A2 fun _ _ => rfl
  have F_ltext := fun_mk (st := s_ltext) l16 c16 k_ltext'
  have b_ltext := F_ltext.binds (ps := ["_law_names", "_law_columns", "_law_places", "_law_rows", "_law_votes"]) fun _ _ _ _ _ _ => A5 fun _ _ _ _ _ => rfl
  have F_lspread := fun_mk (st := s_lspread) l17 c17 k_lspread'
  have b_lspread := F_lspread.binds (ps := ["_law_text_here", "_law_cell"]) fun _ _ _ _ _ _ => A2 fun _ _ => rfl
  have F_lright := fun_mk (st := s_lright) l18 c18 k_lright'
  have b_lright := F_lright.binds (ps := ["_law_table_here", "_law_names", "_law_columns", "_law_places", "_law_rows", "_law_votes"]) fun _ _ _ _ _ _ => A6 fun _ _ _ _ _ _ => rfl
  have F_law := fun_mk (st := s_law) l19 c19 k_law'
  have F_Table_init := fun_mk (st := s_Table_init) l20 c20 k_Table_init'
  have b_Table_init := F_Table_init.binds (ps := ["self", "places", "parties", "rows", "columns", "votes"]) fun _ _ _ _ _ _ => A6 fun _ _ _ _ _ _ => rfl
  exact ⟨{ c_Table := c_Table, m_Table := PySem.W.mg_of X G m_Table, c_DealError := c_DealError, m_DealError := PySem.W.mg_of X G m_DealError, c_BadLine := c_BadLine, m_BadLine := PySem.W.mg_of X G m_BadLine, c_NoTable := c_NoTable, m_NoTable := PySem.W.mg_of X G m_NoTable, a_words_of := f_words_of, fd_words_of := _, F_words_of := F_words_of, b_words_of := b_words_of, m_words_of := PySem.W.mg_of X G a_words_of, a_is_of := f_is_of, fd_is_of := _, F_is_of := F_is_of, b_is_of := b_is_of, m_is_of := PySem.W.mg_of X G a_is_of, a_number_of := f_number_of, fd_number_of := _, F_number_of := F_number_of, b_number_of := b_number_of, m_number_of := PySem.W.mg_of X G a_number_of, a_take_name := f_take_name, fd_take_name := _, F_take_name := F_take_name, b_take_name := b_take_name, m_take_name := PySem.W.mg_of X G a_take_name, a_take_place := f_take_place, fd_take_place := _, F_take_place := F_take_place, b_take_place := b_take_place, m_take_place := PySem.W.mg_of X G a_take_place, a_take_line := f_take_line, fd_take_line := _, F_take_line := F_take_line, b_take_line := b_take_line, m_take_line := PySem.W.mg_of X G a_take_line, a_read := f_read, fd_read := _, F_read := F_read, b_read := b_read, m_read := PySem.W.mg_of X G a_read, a_labelled := f_labelled, fd_labelled := _, F_labelled := F_labelled, b_labelled := b_labelled, m_labelled := PySem.W.mg_of X G a_labelled, a_written := f_written, fd_written := _, F_written := F_written, b_written := b_written, m_written := PySem.W.mg_of X G a_written, a_lcell_at := f_lcell_at, fd_lcell_at := _, F_lcell_at := F_lcell_at, b_lcell_at := b_lcell_at, m_lcell_at := PySem.W.mg_of X G a_lcell_at, a_ldraw := f_ldraw, fd_ldraw := _, F_ldraw := F_ldraw, b_ldraw := b_ldraw, m_ldraw := PySem.W.mg_of X G a_ldraw, a_lgreat := f_lgreat, fd_lgreat := _, F_lgreat := F_lgreat, b_lgreat := b_lgreat, m_lgreat := PySem.W.mg_of X G a_lgreat, a_lvote := f_lvote, fd_lvote := _, F_lvote := F_lvote, b_lvote := b_lvote, m_lvote := PySem.W.mg_of X G a_lvote, a_lsize := f_lsize, fd_lsize := _, F_lsize := F_lsize, b_lsize := b_lsize, m_lsize := PySem.W.mg_of X G a_lsize, a_ltable := f_ltable, fd_ltable := _, F_ltable := F_ltable, b_ltable := b_ltable, m_ltable := PySem.W.mg_of X G a_ltable, a_lname := f_lname, fd_lname := _, F_lname := F_lname, b_lname := b_lname, m_lname := PySem.W.mg_of X G a_lname, a_ltext := f_ltext, fd_ltext := _, F_ltext := F_ltext, b_ltext := b_ltext, m_ltext := PySem.W.mg_of X G a_ltext, a_lspread := f_lspread, fd_lspread := _, F_lspread := F_lspread, b_lspread := b_lspread, m_lspread := PySem.W.mg_of X G a_lspread, a_lright := f_lright, fd_lright := _, F_lright := F_lright, b_lright := b_lright, m_lright := PySem.W.mg_of X G a_lright, a_law := f_law, fd_law := _, F_law := F_law, a_Table_init := f_Table_init, fd_Table_init := _, F_Table_init := F_Table_init, b_Table_init := b_Table_init, n_isinstance := PySem.W.mg_none_of X G z_isinstance, n_int := PySem.W.mg_none_of X G z_int, n_bool := PySem.W.mg_none_of X G z_bool, n_list := PySem.W.mg_none_of X G z_list, n_str := PySem.W.mg_none_of X G z_str, n_len := PySem.W.mg_none_of X G z_len, n_min := PySem.W.mg_none_of X G z_min, n_range := PySem.W.mg_none_of X G z_range, n_sum := PySem.W.mg_none_of X G z_sum, n_all := PySem.W.mg_none_of X G z_all, n_enumerate := PySem.W.mg_none_of X G z_enumerate, tk_LETTERS := tk_LETTERS, m_LETTERS := PySem.W.mg_of X G g_LETTERS, tk_FIGURES := tk_FIGURES, m_FIGURES := PySem.W.mg_of X G g_FIGURES, tk_LONGEST_NAME := tk_LONGEST_NAME, m_LONGEST_NAME := PySem.W.mg_of X G g_LONGEST_NAME, tk_MOST_NAMES := tk_MOST_NAMES, m_MOST_NAMES := PySem.W.mg_of X G g_MOST_NAMES, tk_MOST_SEATS := tk_MOST_SEATS, m_MOST_SEATS := PySem.W.mg_of X G g_MOST_SEATS, tk_MOST_VOTES := tk_MOST_VOTES, m_MOST_VOTES := PySem.W.mg_of X G g_MOST_VOTES, cl_Table := ⟨pg_Table, hd_Table, po_Table, sa_Table⟩, M_Table := ⟨mk_Table, a_Table_init, i_Table_init, kc_Table⟩, na_Table_places := na_Table_places, na_Table_parties := na_Table_parties, na_Table_rows := na_Table_rows, na_Table_columns := na_Table_columns, na_Table_votes := na_Table_votes, ty_Table := ⟨ha_Table, hn, tk, ob_Table⟩, k_Table_Table := k_Table_Table }, PySem.W.mg_of X G a_law, fun s v => .of_eq rfl⟩
end K4
def PySem.W.Fast.tw520754038338400077 := ()
def PySem.W.Fast.tw11638729231457782237 := ()
def PySem.W.Fast.tw7848259504061408050 := ()
def PySem.W.Fast.tw7748486262404881153 := ()
def PySem.W.Fast.tw857638022952023821 := ()
def PySem.W.Fast.tw8027214991864410438 := ()
def PySem.W.Fast.tw11306327431503456709 := ()
def PySem.W.Fast.tw9827192975628586481 := ()
def PySem.W.Fast.tw2972570268720531269 := ()
def PySem.W.Fast.tw678714708287419197 := ()
def PySem.W.Fast.tw15048039091479649138 := ()
def PySem.W.Fast.tw3758926626260173567 := ()
def PySem.W.Fast.tw8944984779042818696 := ()
def PySem.W.Fast.tw2612449099349821301 := ()
def PySem.W.Fast.tw12863248845867104767 := ()
def PySem.W.Fast.tw15707314802612815629 := ()
def PySem.W.Fast.tw12036691164925425588 := ()
def PySem.W.Fast.tw18155666543603066974 := ()
def PySem.W.Fast.tw18382791793264257296 := ()
def PySem.W.Fast.tw17751489224784481465 := ()
def PySem.W.Fast.tw1675492841251805343 := ()
def PySem.W.Fast.tw175983421773886689 := ()
def PySem.W.Fast.tw10854148217674744893 := ()
def PySem.W.Fast.tw10280351929999450394 := ()
def PySem.W.Fast.tw14930125886086528096 := ()
def PySem.W.Fast.tw10798590725812352095 := ()
def PySem.W.Fast.tw4649751411440076985 := ()
def PySem.W.Fast.tw1670764940757625848 := ()
def PySem.W.Fast.tw6653796606338847003 := ()
def PySem.W.Fast.tw7420575141476133391 := ()
def PySem.W.Fast.tw14969122481721682337 := ()
def PySem.W.Fast.tw11595081640986511696 := ()
def PySem.W.Fast.tw9718879013390473814 := ()
def PySem.W.Fast.tw599591832592761384 := ()
def PySem.W.Fast.tw2216755971562533760 := ()
def PySem.W.Fast.tw8505312536154963254 := ()
def PySem.W.Fast.tw6724513188276682909 := ()
def PySem.W.Fast.tw15310384402091228250 := ()
def PySem.W.Fast.tw4694373188002410732 := ()
def PySem.W.Fast.tw1116090744340301683 := ()
def PySem.W.Fast.tw6222581993347291079 := ()
def PySem.W.Fast.tw7216969282849530918 := ()
def PySem.W.Fast.tw77969564454417820 := ()
def PySem.W.Fast.tw12890473273283592209 := ()
def PySem.W.Fast.tw3522470984236023731 := ()
def PySem.W.Fast.tw3123444938147105888 := ()
def PySem.W.Fast.tw8686350424800714569 := ()
def PySem.W.Fast.tw12311503463000129581 := ()
def PySem.W.Fast.tw1727377677332223446 := ()
def PySem.W.Fast.tw17012858128695934745 := ()
def PySem.W.Fast.tw14529858547216982806 := ()
def PySem.W.Fast.tw1600314196047765761 := ()
def PySem.W.Fast.tw14989539653986724738 := ()
def PySem.W.Fast.tw9425332545133107165 := ()
def PySem.W.Fast.tw5031820049423620008 := ()
def PySem.W.Fast.tw16355990219511519452 := ()
def PySem.W.Fast.tw6966097178117104860 := ()
def PySem.W.Fast.tw10216607887761873685 := ()
def PySem.W.Fast.tw17211929645002102778 := ()
def PySem.W.Fast.tw16717689120342214124 := ()
def PySem.W.Fast.tw2109805180551302432 := ()
def PySem.W.Fast.tw6786652945692152422 := ()
def PySem.W.Fast.tw5279646956268103750 := ()
def PySem.W.Fast.tw8302542924678309989 := ()
def PySem.W.Fast.tw6369339068170472526 := ()
def PySem.W.Fast.tw16992831571398271757 := ()
def PySem.W.Fast.tw9066143733333562321 := ()
def PySem.W.Fast.tw7662171495481855137 := ()
def PySem.W.Fast.tw10217566403566157830 := ()
def PySem.W.Fast.tw16017683606189536696 := ()
def PySem.W.Fast.tw1734835704923064158 := ()
def PySem.W.Fast.tw9697543409548228839 := ()
def PySem.W.Fast.tw461132101935668939 := ()
def PySem.W.Fast.tw6803798546615221068 := ()
def PySem.W.Fast.tw3328456844394310900 := ()
def PySem.W.Fast.tw11910890471348603990 := ()
def PySem.W.Fast.tw4892551820051885717 := ()
def PySem.W.Fast.tw12466794837726194286 := ()
def PySem.W.Fast.tw4950200749190763200 := ()
def PySem.W.Fast.tw2360987613787186352 := ()
def PySem.W.Fast.tw8960141489019870213 := ()
def PySem.W.Fast.tw5114269686304553346 := ()
def PySem.W.Fast.tw11640825002739117113 := ()
def PySem.W.Fast.tw16899298862316107475 := ()
def PySem.W.Fast.tw5898403370466677500 := ()
def PySem.W.Fast.tw9721287882172316392 := ()
def PySem.W.Fast.tw2231927848875962368 := ()
def PySem.W.Fast.tw7658066377995334876 := ()
def PySem.W.Fast.tw13702500619354186031 := ()
def PySem.W.Fast.tw8979268169762700943 := ()
def PySem.W.Fast.tw11828364765383551384 := ()
def PySem.W.Fast.tw12768644474419069179 := ()
def PySem.W.Fast.tw3261693122160036912 := ()
def PySem.W.Fast.tw10749927826357640888 := ()
def PySem.W.Fast.tw13815151825317521400 := ()
def PySem.W.Fast.tw896823018049868183 := ()
def PySem.W.Fast.tw11092486523586074300 := ()
def PySem.W.Fast.tw5619507356771587623 := ()
def PySem.W.Fast.tw12000500173464439262 := ()
def PySem.W.Fast.tw3002498794477406698 := ()
def PySem.W.Fast.tw4956076402846763626 := ()
def PySem.W.Fast.tw7967952997269552426 := ()
def PySem.W.Fast.tw10557007195877439720 := ()
def PySem.W.Fast.tw9196441059666140227 := ()
def PySem.W.Fast.tw15681199461122578026 := ()
def PySem.W.Fast.tw7701039692226872891 := ()
def PySem.W.Fast.tw3669133873691615817 := ()
def PySem.W.Fast.tw17653802430250677818 := ()
def PySem.W.Fast.tw676811409993870941 := ()
def PySem.W.Fast.tw2714610330809767241 := ()
def PySem.W.Fast.tw10294110194209752726 := ()
def PySem.W.Fast.tw386497506221864435 := ()
def PySem.W.Fast.tw3173509691827058656 := ()
def PySem.W.Fast.tw16765270400247258199 := ()
def PySem.W.Fast.tw5157066536940084218 := ()
def PySem.W.Fast.tw14936314077863249084 := ()
def PySem.W.Fast.tw11754160398791386033 := ()
def PySem.W.Fast.tw6246056117005501647 := ()
def PySem.W.Fast.tw9366131146726502376 := ()
def PySem.W.Fast.tw15330024465534226122 := ()
def PySem.W.Fast.tw6401889349406359465 := ()
def PySem.W.Fast.tw7756741007759534293 := ()
def PySem.W.Fast.tw12185941122410454846 := ()
def PySem.W.Fast.tw5913654162229959849 := ()
def PySem.W.Fast.tw5506104777509830755 := ()
def PySem.W.Fast.tw7354958065115949129 := ()
def PySem.W.Fast.tw15722711251254485232 := ()
def PySem.W.Fast.tw6313619077981399225 := ()
def PySem.W.Fast.tw11110219998641593218 := ()
def PySem.W.Fast.tw4100879096581564228 := ()
def PySem.W.Fast.tw15958097797531959778 := ()
def PySem.W.Fast.tw3066783202164138871 := ()
def PySem.W.Fast.tw4761699101986506746 := ()
open PySem PySem.W PyProof.Rows
set_option maxRecDepth 100000 in
set_option maxHeartbeats 0 in
theorem PySem.Challenge.cw_seatweave_k04_read_holds : PySem.Challenge.rw_seatweave_k04_read.Holds := by
  w_on; o_law; k_head; (case hw => w_witness2)
  k_fill
  refine L2.walk_ofK (l := PySem.Challenge.rw_seatweave_k04_read) (n := 63) (k := 7) (x := "_law_script") (CX := L2.CX0) (sp := SW.spLaw) rfl (by decide) rfl ⟨rfl, by decide, by decide⟩ (fun w h Y => PySem.W.kIn_of Y) ?F (fun K H a ns hl _ hS => ⟨a, ns, rfl, hS, hl, fun _ => rfl⟩) fun _ _ _ _ z => z
  case F =>
    intro w mg fa h KX G hmg
    have T : ∃ T : K4.Txt (L2.KOf KX) mg, mg "law" = some (.ref T.a_law) ∧ ∀ (s : Shared) (v : Value), BindsTo s T.fd_law ⟨[v], []⟩ [("_law_script", v)] := by
      dsimp only [L2.KOf]
      refine' K4.txt_mk KX G ?_ ?_ ?_ ?_ ?_ ?_ ?_ ?_ ?_ ?_ ?_ ?_ ?_ ?_ ?_ ?_ ?_ ?_ ?_ ?_ ?_ ?_ ?_ ?_ ?_ ?_ ?_ ?_ ?_ ?_ ?_ ?_ ?_ ?_ ?_ ?_ ?_ ?_ ?_ ?_ ?_ ?_ ?_ ?_ ?_ ?_ ?_ ?_ ?_ ?_ ?_ ?_ ?_ ?_ ?_ ?_ ?_ ?_ ?_ ?_ ?_ ?_ ?_ ?_ ?_ ?_ ?_ ?_ ?_ ?_ ?_ ?_ ?_ ?_ ?_ ?_ ?_ ?_ ?_ ?_ ?_ ?_ ?_ ?_ ?_ ?_ ?_ ?_ ?_ ?_ ?_ ?_ ?_ ?_ ?_ ?_ ?_ ?_ ?_ ?_ ?_ ?_ ?_ ?_ ?_ ?_ ?_ ?_ ?_ ?_ ?_ ?_ ?_ ?_ ?_ ?_ ?_ ?_ ?_ ?_ ?_ ?_ <;> try first | k_is | kit_is | kts_exm | k_exc
    obtain ⟨T, e1, hb⟩ := T
    have e := hmg.symm.trans e1
    cases e
    exact ⟨T.fd_law, hb, fun base _ _ => K4.ok_law T⟩
