import PyProof.Rows.All
import Wide.All
import OpenK.AllK
import Wide.FinOn
import Lean
import PyProof.EqAt
import PyProof.EqKinds
import PyProof.TupleCall
import KE.KSortTup
import KE.KRevIter
import PySem.Challenge.RW_turnery_k33_outcomes_begin_so
noncomputable section
set_option Elab.async false
set_option linter.all false
set_option maxRecDepth 100000
namespace L2
open PySem PySem.Spec PyProof.Rows
abbrev Key := Sum Int Str
def keyIs : Key → Value → Bool
  | .inl k, v => Value.isInt k v
  | .inr x, v => Value.isStrOf x v
def keyH (w : World) : Key → Int
  | .inl k => hashInt k
  | .inr x => hashStr w x
theorem keyIs_shape : ∀ {k : Key} {v : Value}, keyIs k v = true → (∃ i t, k = Sum.inl i ∧ v = Value.int i t) ∨ (∃ x t, k = Sum.inr x ∧ v = Value.str x t)
  | .inl i, v, h => by
    obtain ⟨t, e⟩ := Value.isInt_shape (k := i) (v := v) h
    exact .inl ⟨i, t, rfl, e⟩
  | .inr x, v, h => by
    obtain ⟨t, e⟩ := Value.isStrOf_shape (x := x) (v := v) h
    exact .inr ⟨x, t, rfl, e⟩
theorem keyIs_int (i : Int) (t : Tok) : keyIs (.inl i) (.int i t) = true := by simp [keyIs, Value.isInt]
theorem keyIs_str (x : Str) (t : Tok) : keyIs (.inr x) (.str x t) = true := by simp [keyIs, Value.isStrOf]
theorem key_ll (a b : Int) : decide ((Sum.inl a : Key) = Sum.inl b) = (a == b) := by
  by_cases e : a = b
  · subst e; simp
  · have h : ¬ (Sum.inl a : Key) = Sum.inl b := fun q => e (Sum.inl.inj q)
    rw [decide_eq_false h]
    exact (beq_eq_false_iff_ne.mpr e).symm
theorem key_rr (a b : Str) : decide ((Sum.inr a : Key) = Sum.inr b) = decide (a = b) := by
  by_cases e : a = b
  · subst e; simp
  · have h : ¬ (Sum.inr a : Key) = Sum.inr b := fun q => e (Sum.inr.inj q)
    rw [decide_eq_false h, decide_eq_false e]
theorem key_lr (a : Int) (b : Str) : decide ((Sum.inl a : Key) = Sum.inr b) = false := decide_eq_false (fun q => nomatch q)
theorem key_rl (a : Str) (b : Int) : decide ((Sum.inr a : Key) = Sum.inl b) = false := decide_eq_false (fun q => nomatch q)
def mixKind (prog : Program) (w : World) : PySem.KeyKind prog w Key where
  is := keyIs
  hash := keyH w
  inj := fun v a b ha hb => by
    rcases keyIs_shape ha with ⟨i, t, rfl, rfl⟩ | ⟨x, t, rfl, rfl⟩
    · rcases keyIs_shape hb with ⟨j, u, rfl, e⟩ | ⟨y, u, rfl, e⟩
      · injection e with e1 _; rw [e1]
      · exact nomatch e
    · rcases keyIs_shape hb with ⟨j, u, rfl, e⟩ | ⟨y, u, rfl, e⟩
      · exact nomatch e
      · injection e with e1 _; rw [e1]
  byValue := fun k v h => by
    rcases keyIs_shape h with ⟨i, t, rfl, rfl⟩ | ⟨x, t, rfl, rfl⟩ <;> rfl
  pyHash := fun hv h => by
    rcases keyIs_shape hv with ⟨i, t, rfl, rfl⟩ | ⟨x, t, rfl, rfl⟩
    · exact wpAny_pyHash_int h
    · exact wpAny_pyHash_str h
  eqBool := fun hu hv h => by
    rcases keyIs_shape hu with ⟨i, t, rfl, rfl⟩ | ⟨x, t, rfl, rfl⟩
    · rcases keyIs_shape hv with ⟨j, u, rfl, rfl⟩ | ⟨y, u, rfl, rfl⟩
      · rw [key_ll] at h; exact wpAny_eqBool_int h
      · rw [key_lr] at h; exact SeqAt.EqAt.int_str i t y u _ _ _ _ h
    · rcases keyIs_shape hv with ⟨j, u, rfl, rfl⟩ | ⟨y, u, rfl, rfl⟩
      · rw [key_rl] at h; exact SeqAt.EqAt.str_int x t j u _ _ _ _ h
      · rw [key_rr] at h; exact wpAny_eqBool_str h
  «strs» := fun k x t v h => by
    rcases keyIs_shape h with ⟨i, u, rfl, e⟩ | ⟨y, u, rfl, e⟩
    · exact nomatch e
    · injection e with e1 _
      subst e1
      cases v <;> rfl
theorem mixKind_int (prog : Program) (w : World) (i : Int) (t : Tok) : (mixKind prog w).is (.inl i) (.int i t) = true := keyIs_int i t
theorem mixKind_str (prog : Program) (w : World) (x : Str) (t : Tok) : (mixKind prog w).is (.inr x) (.str x t) = true := keyIs_str x t
end L2
namespace L2
open PySem PySem.Spec PyProof.Rows
inductive V where
  | non | bl (b : Bool) | int (i : Int) | str (x : Str) | byt (b : Array UInt8) | flt (b : UInt64) | ref (a : Addr) | ty (n : String)
  deriving DecidableEq
def RelV : V → Value → Prop
  | .non, u => u = Value.none
  | .bl b, u => u = Value.bool b
  | .int i, u => ∃ t, u = Value.int i t
  | .str x, u => ∃ t, u = Value.str x t
  | .byt b, u => ∃ t, u = Value.bytes b t
  | .flt b, u => ∃ t, u = Value.float b t
  | .ref a, u => u = Value.ref a
  | .ty n, u => u = Value.type n
abbrev Vals : List V → List Value → Prop := Paired RelV
theorem Vals.length {xs : List V} {us : List Value} (r : Vals xs us) : xs.length = us.length := Paired.length r
theorem Vals.get : ∀ {xs : List V} {us : List Value} {i : Nat} {x : V}, Vals xs us → xs[i]? = some x → ∃ u, us[i]? = some u ∧ RelV x u
  | _, _, _, _, .nil, e => by simp at e
  | _, _, 0, _, .cons r _, e => by simp at e; subst e; exact ⟨_, rfl, r⟩
  | _, _, i + 1, x, .cons _ t, e => by
    obtain ⟨u, h1, h2⟩ := Vals.get (i := i) (x := x) t (by simpa using e)
    exact ⟨u, by simpa using h1, h2⟩
theorem Vals.set {x : V} {u : Value} (r : RelV x u) : ∀ {xs : List V} {us : List Value} (i : Nat), Vals xs us → Vals (xs.set i x) (us.set i u)
  | _, _, _, .nil => .nil
  | _, _, 0, .cons _ t => .cons r t
  | _, _, i + 1, .cons q t => .cons q (Vals.set r i t)
theorem Vals.append : ∀ {xs ys : List V} {us ws : List Value}, Vals xs us → Vals ys ws → Vals (xs ++ ys) (us ++ ws)
  | _, _, _, _, .nil, s => s
  | _, _, _, _, .cons r t, s => .cons r (Vals.append t s)
theorem Vals.take : ∀ {xs : List V} {us : List Value} (n : Nat), Vals xs us → Vals (xs.take n) (us.take n)
  | _, _, 0, _ => .nil
  | _, _, _ + 1, .nil => .nil
  | _, _, n + 1, .cons r t => .cons r (Vals.take n t)
theorem Vals.drop : ∀ {xs : List V} {us : List Value} (n : Nat), Vals xs us → Vals (xs.drop n) (us.drop n)
  | _, _, 0, r => r
  | _, _, _ + 1, .nil => .nil
  | _, _, n + 1, .cons _ t => Vals.drop n t
def RelO : Option V → Option Value → Prop
  | some v, some u => RelV v u
  | none, none => True
  | _, _ => False
def KV {κ : Type} : List (κ × V) → List (κ × Value) → Prop := Paired fun (p : κ × V) (q : κ × Value) => p.1 = q.1 ∧ RelV p.2 q.2
def kV : Key → V
  | .inl i => .int i
  | .inr x => .str x
inductive HO where
  /-- a list -/
  | lst (xs : List V)
  /-- a tuple (never changes) -/
  | tup (xs : List V)
  /-- a dict whose keys are ints and texts; one whose keys are tuples of ints and texts (the empty one is both) -/
  | dK (kvs : List (Key × V)) | dT (kvs : List (List Key × V))
  /-- a set of ints: its members, its size -/
  | set (S : Int → Bool) (n : Nat)
  /-- an instance of the class at C, its dict at dx, its attributes -/
  | ins (C dx : Addr) (fs : List (Str × V))
  /-- the dict of the instance at x -/
  | own (x : Addr)
  /-- the dict of an exception -/
  | xd (fs : List (Str × V))
  /-- a bound method, f of x -/
  | met (f x : Addr)
  /-- a range object lo, lo + 1, .. below hi -/
  | rng (lo hi : Int)
  /-- a thing that is known to the object (the script; a dict while a loop walks it): read, never written while it is so -/
  | frz (o : Obj) (u : HO)
  /-- a code object's table -/
  | tbl (ps : Array Value)
  /-- any other thing, by what is true of its one object (a def of one's own: SetO a S n := HO.ext fun h => ..) -/
  | ext (φ : Heap → Prop)
abbrev Hp := Addr → Option HO
def upd (H : Hp) (a : Addr) (o : HO) : Hp := fun b => if b = a then some o else H b
theorem upd_same {H : Hp} {a : Addr} {o : HO} : upd H a o a = some o := by unfold upd; rw [if_pos rfl]
theorem upd_ne {H : Hp} {a b : Addr} {o : HO} (h : b ≠ a) : upd H a o b = H b := by unfold upd; rw [if_neg h]
theorem ne_of {H : Hp} {a b : Addr} {o u : HO} (h : H a = some o) (h' : H b = some u) (d : o ≠ u) : a ≠ b := by
  intro e; subst e; rw [h] at h'; exact d (Option.some.inj h')
theorem ne_of_none {H : Hp} {a b : Addr} {o : HO} (h : H a = some o) (h' : H b = none) : a ≠ b := by
  intro e; subst e; rw [h] at h'; cases h'
section
variable (P : Program) (w : World)
def ObjOk (H : Hp) (h : Heap) (a : Addr) : HO → Prop
  | .lst xs => xs.length ≤ sizeLine ∧ ∃ (its : List Value) (n : Nat), Vals xs its ∧ h.get? a = some { cls := .type "list", data := .seq its.toArray n }
  | .tup xs => xs.length ≤ sizeLine ∧ ∃ its : List Value, Vals xs its ∧ IsTup h a its.toArray
  | .dK kvs => kvs.length ≤ sizeLine ∧ (a == sysModules) = false ∧ ∃ vs, KV kvs vs ∧ h.DictOf (mixKind P w) a vs
  | .dT kvs => kvs.length ≤ sizeLine ∧ (a == sysModules) = false ∧ ∃ xs : List (List Key × Addr × Value),
      Paired (fun (p : List Key × V) (q : List Key × Addr × Value) => p.1 = q.1 ∧ H q.2.1 = some (.tup (p.1.map kV)) ∧ RelV p.2 q.2.2) kvs xs ∧
      ∃ o es ep, h.get? a = some o ∧ o.ExactDict ∧ o.data = .dict es ep ∧ es.toList = xs.map (entryOfKey (tupleKind (mixKind P w))) ∧ (xs.map (·.1)).Nodup
  | .set S n => h.SetOf (intKind P w) a S n
  | .ins C dx fs => H dx = some (.own a) ∧ fs.length ≤ 1000 ∧ dx ≠ a ∧ h.get? a = some (PySem.W.instObj C dx) ∧
      ∃ mA, h.Ns1 dx mA ∧ (∀ f, RelO (fs.lookup f) (mA f)) ∧ PySem.Within mA (fs.map (·.1))
  | .own _ => ∃ o, h.get? a = some o
  | .xd fs => ∃ mA, h.Ns1 a mA ∧ ∀ f, RelO (fs.lookup f) (mA f)
  | .rng lo hi => ∃ t u v, h.get? a = some { cls := .type "range", data := .fields #[.int lo t, .int hi u, .int 1 v] }
  | .frz o u => h.get? a = some o ∧ ObjOk H h a u
  | .tbl ps => h.get? a = some { cls := .none, data := .fields ps }
  | .met f x => h.get? a = some (PySem.W.methodObj (.ref f) (.ref x))
  | .ext φ => φ h ∧ (∃ o, h.get? a = some o) ∧ ∀ h1 h2 : Heap, φ h1 → (∀ o, h1.get? a = some o → h2.get? a = some o) → φ h2
def HOk (H : Hp) (h : Heap) : Prop := ∀ a o, H a = some o → ObjOk P w H h a o
end
section
variable {P : Program} {w : World} {H H' : Hp} {h h' : Heap} {a : Addr} {o : HO}
theorem ObjOk.lt (x : ObjOk P w H h a o) : a < h.objs.size := by
  cases o with
  | lst xs => obtain ⟨_, _, _, _, e⟩ := x; exact Heap.lt_size e
  | tup xs => obtain ⟨_, _, _, p⟩ := x; exact p.lt
  | dK kvs => obtain ⟨_, _, _, _, o, _, _, e, _⟩ := x; exact Heap.lt_size e
  | dT kvs => obtain ⟨_, _, _, _, o, _, _, e, _⟩ := x; exact Heap.lt_size e
  | set S n => obtain ⟨o, _, _, _, e, _⟩ := x; exact Heap.lt_size e
  | ins C dx fs => obtain ⟨_, _, _, e, _⟩ := x; exact Heap.lt_size e
  | own y => obtain ⟨_, e⟩ := x; exact Heap.lt_size e
  | xd fs => obtain ⟨_, ⟨_, _, _, e, _⟩, _⟩ := x; exact Heap.lt_size e
  | rng lo hi => obtain ⟨_, _, _, e⟩ := x; exact Heap.lt_size e
  | frz ob u => obtain ⟨e, _⟩ := x; exact Heap.lt_size e
  | tbl ps => exact Heap.lt_size (show h.get? a = some _ from x)
  | met f y => exact Heap.lt_size (show h.get? a = some _ from x)
  | ext φ => obtain ⟨_, ⟨_, e⟩, _⟩ := x; exact Heap.lt_size e
theorem Paired.mapP {α β : Type} {F G : α → β → Prop} : ∀ {l₁ : List α} {l₂ : List β}, Paired F l₁ l₂ → (∀ a b, F a b → G a b) → Paired G l₁ l₂
  | _, _, .nil, _ => .nil
  | _, _, .cons r t, f => .cons (f _ _ r) (Paired.mapP t f)
theorem ObjOk.stay (x : ObjOk P w H h a o) (k : ∀ b u, (b = a ∨ H b = some (.own a)) → h.get? b = some u → h'.get? b = some u)
    (ho : ∀ b, H b = some (.own a) → H' b = some (.own a)) (ht : ∀ b xs, H b = some (.tup xs) → H' b = some (.tup xs)) : ObjOk P w H' h' a o := by
  induction o with
  | lst xs => obtain ⟨z, its, n, r, e⟩ := x; exact ⟨z, its, n, r, k _ _ (.inl rfl) e⟩
  | tup xs => obtain ⟨z, its, r, ob, e, c⟩ := x; exact ⟨z, its, r, ob, k _ _ (.inl rfl) e, c⟩
  | dK kvs => obtain ⟨z, y, vs, r, ob, es, ep, e, c⟩ := x; exact ⟨z, y, vs, r, ob, es, ep, k _ _ (.inl rfl) e, c⟩
  | dT kvs =>
    obtain ⟨z, y, xs, r, ob, es, ep, e, c⟩ := x
    exact ⟨z, y, xs, Paired.mapP r fun p q z => ⟨z.1, ht _ _ z.2.1, z.2.2⟩, ob, es, ep, k _ _ (.inl rfl) e, c⟩
  | set S n => obtain ⟨ob, es, ep, t, e, c⟩ := x; exact ⟨ob, es, ep, t, k _ _ (.inl rfl) e, c⟩
  | ins C dx fs =>
    obtain ⟨d, z, ne, e, mA, ⟨od, es, ep, e2, c⟩, r⟩ := x
    exact ⟨ho _ d, z, ne, k _ _ (.inl rfl) e, mA, ⟨od, es, ep, k _ _ (.inr d) e2, c⟩, r⟩
  | own y => obtain ⟨ob, e⟩ := x; exact ⟨ob, k _ _ (.inl rfl) e⟩
  | xd fs => obtain ⟨mA, ⟨od, es, ep, e, c⟩, r⟩ := x; exact ⟨mA, ⟨od, es, ep, k _ _ (.inl rfl) e, c⟩, r⟩
  | rng lo hi => obtain ⟨t, u, v, e⟩ := x; exact ⟨t, u, v, k _ _ (.inl rfl) e⟩
  | frz ob u ih => obtain ⟨e, q⟩ := x; exact ⟨k _ _ (.inl rfl) e, ih q⟩
  | tbl ps =>
    have e : h.get? a = some { cls := .none, data := .fields ps } := x
    show h'.get? a = some { cls := .none, data := .fields ps }
    exact k a _ (.inl rfl) e
  | met f y =>
    have e : h.get? a = some (PySem.W.methodObj (.ref f) (.ref y)) := x
    show h'.get? a = some (PySem.W.methodObj (.ref f) (.ref y))
    exact k a _ (.inl rfl) e
  | ext φ => obtain ⟨p, ⟨o, e⟩, st⟩ := x; exact ⟨st _ _ p fun o q => k _ _ (.inl rfl) q, ⟨o, k _ _ (.inl rfl) e⟩, st⟩
theorem HOk.lt (x : HOk P w H h) (e : H a = some o) : a < h.objs.size := (x a o e).lt
theorem HOk.fresh (x : HOk P w H h) (e : h.objs.size ≤ a) : H a = none := by
  cases q : H a with
  | none => rfl
  | some u => exact absurd (Nat.lt_of_lt_of_le (x.lt q) e) (Nat.lt_irrefl _)
theorem HOk.kept (x : HOk P w H h) (k : ∀ b u, h.get? b = some u → h'.get? b = some u) : HOk P w H h' := fun a o e =>
  (x a o e).stay (fun b u _ q => k b u q) (fun _ q => q) fun _ _ q => q
theorem HOk.laid (x : HOk P w H h) (k : ∀ b u, h.get? b = some u → h'.get? b = some u) (hp : h.objs.size ≤ a) (new : ObjOk P w (upd H a o) h' a o) : HOk P w (upd H a o) h' := fun b u e => by
  have hn := x.fresh hp
  by_cases hb : b = a
  · subst hb; rw [upd_same] at e; cases e; exact new
  · rw [upd_ne hb] at e
    exact (x b u e).stay (fun c v _ q => k c v q) (fun c q => by rw [upd_ne (ne_of_none q hn)]; exact q) fun c xs q => by rw [upd_ne (ne_of_none q hn)]; exact q
end
def Rd (H : Hp) (a : Addr) (u : HO) : Prop := H a = some u ∨ ∃ o, H a = some (.frz o u)
theorem Rd.ok {P : Program} {w : World} {H : Hp} {h : Heap} {a : Addr} {u : HO} (r : Rd H a u) (x : HOk P w H h) : ObjOk P w H h a u := by
  rcases r with r | ⟨o, r⟩
  · exact x a u r
  · obtain ⟨_, q⟩ := x a _ r
    exact q
def Mut : Option HO → Prop
  | some (.lst _) => True
  | some (.dK _) => True
  | some (.dT _) => True
  | some (.set _ _) => True
  | some (.ins _ _ _) => True
  | some (.ext _) => True
  | _ => False
section
variable {P : Program} {w : World} {H : Hp} {h h' : Heap} {x e : Addr} {o' : HO}
theorem HOk.write (ok : HOk P w H h) (mu : Mut (H x)) (he : e = x ∨ H e = some (.own x)) (k : ∀ b u, b ≠ e → h.get? b = some u → h'.get? b = some u) (heo : ∃ u, h'.get? e = some u)
    (new : ObjOk P w (upd H x o') h' x o') : HOk P w (upd H x o') h' := fun b u q => by
  have nown : ∀ c y, H c = some (.own y) → c ≠ x := fun c y r z => by subst z; rw [r] at mu; exact mu
  have ntup : ∀ c xs, H c = some (.tup xs) → c ≠ x := fun c xs r z => by subst z; rw [r] at mu; exact mu
  by_cases hb : b = x
  · subst hb; rw [upd_same] at q; cases q; exact new
  · rw [upd_ne hb] at q
    by_cases hbe : b = e
    · have q' : H b = some (.own x) := by
        rcases he with z | z
        · exact absurd (hbe.trans z) hb
        · rw [hbe]; exact z
      rw [q] at q'; cases q'
      obtain ⟨v, hv⟩ := heo
      exact ⟨v, by rw [hbe]; exact hv⟩
    · refine (ok b u q).stay (fun c v hc r => k c v ?_ r) (fun c r => by rw [upd_ne (nown c b r)]; exact r) fun c xs r => by rw [upd_ne (ntup c xs r)]; exact r
      rcases hc with rfl | hc
      · exact hbe
      · rintro rfl
        rcases he with z | z
        · exact nown c b hc z
        · rw [hc] at z; cases z; exact hb rfl
end
structure Un (fs ex : List Addr) (H H' : Hp) (h h' : Heap) : Prop where
  keep : ∀ b o, h.get? b = some o → H b = none → b ∉ fs → b ∉ ex → h'.get? b = some o
  slot : ∀ b o, h.get? b = some o → H b = none → b ∈ fs → b ∉ ex → ∃ sl, h'.get? b = some { o with slots := sl }
  free : ∀ b o, h.get? b = some o → H b = none → b ∉ ex → H' b = none
  there : ∀ b o, h.get? b = some o → b ∉ ex → ∃ o', h'.get? b = some o'
  tups : ∀ b xs, H b = some (.tup xs) → H' b = some (.tup xs)
  frzs : ∀ b o u, H b = some (.frz o u) → H' b = some (.frz o u)
  tbls : ∀ b ps, H b = some (.tbl ps) → ∃ more, H' b = some (.tbl (ps ++ more))
section
variable {fs fs' ex ex' : List Addr} {H H1 H2 : Hp} {h h1 h2 h' : Heap} {a x e : Addr} {o : HO}
theorem Un.any (u : Un fs ex H H1 h h1) {b : Addr} {ob : Obj} (q : h.get? b = some ob) (n : H b = none) (hx : b ∉ ex) : ∃ sl, h1.get? b = some { ob with slots := sl } := by
  by_cases hb : b ∈ fs
  · exact u.slot b ob q n hb hx
  · exact ⟨ob.slots, u.keep b ob q n hb hx⟩
theorem Un.kept (k : ∀ b u, h.get? b = some u → h'.get? b = some u) : Un fs ex H H h h' :=
  ⟨fun b ob q _ _ _ => k b ob q, fun b ob q _ _ _ => ⟨ob.slots, k b ob q⟩, fun _ _ _ n _ => n, fun b ob q _ => ⟨ob, k b ob q⟩, fun _ _ q => q, fun _ _ _ q => q, fun _ ps q => ⟨#[], by rw [q]; simp⟩⟩
theorem Un.refl : Un fs ex H H h h := Un.kept fun _ _ q => q
theorem Un.laid (k : ∀ b u, h.get? b = some u → h'.get? b = some u) (hp : h.objs.size ≤ a) (hn : H a = none) : Un fs ex H (upd H a o) h h' where
  keep := fun b u q _ _ _ => k b u q
  slot := fun b u q _ _ _ => ⟨u.slots, k b u q⟩
  free := fun b u q n _ => by rw [upd_ne (Nat.ne_of_lt (Nat.lt_of_lt_of_le (Heap.lt_size q) hp))]; exact n
  there := fun b u q _ => ⟨u, k b u q⟩
  tups := fun b xs q => by rw [upd_ne (ne_of_none q hn)]; exact q
  frzs := fun b u xs q => by rw [upd_ne (ne_of_none q hn)]; exact q
  tbls := fun b ps q => ⟨#[], by rw [upd_ne (ne_of_none q hn), q]; simp⟩
theorem Un.write (mu : Mut (H x)) (he : e = x ∨ H e = some (.own x)) (k : ∀ b u, b ≠ e → h.get? b = some u → h'.get? b = some u) (heo : ∃ u, h'.get? e = some u) : Un fs ex H (upd H x o) h h' := by
  have hx : ∀ b, H b = none → b ≠ x := fun b n z => by subst z; rw [n] at mu; exact mu
  have hb : ∀ b, H b = none → b ≠ e := fun b n z => by
    subst z
    rcases he with r | r
    · exact hx b n r
    · rw [n] at r; cases r
  have hm : ∀ b u, H b = some u → ¬ Mut (some u) → b ≠ x := fun b u q nm z => by subst z; rw [q] at mu; exact nm mu
  refine ⟨fun b u q n _ _ => k b u (hb b n) q, fun b u q n _ _ => ⟨u.slots, k b u (hb b n) q⟩, fun b u q n _ => by rw [upd_ne (hx b n)]; exact n, fun b u q _ => ?_,
    fun b xs q => by rw [upd_ne (hm b _ q fun z => z)]; exact q, fun b u xs q => by rw [upd_ne (hm b _ q fun z => z)]; exact q, fun b ps q => ⟨#[], by rw [upd_ne (hm b _ q fun z => z), q]; simp⟩⟩
  by_cases hbe : b = e
  · subst hbe; exact heo
  · exact ⟨u, k b u hbe q⟩
end
def trk (h : Heap) (H : Hp) : List Addr := (List.range h.objs.size).filter fun a => (H a).isSome
def hidT (h : Heap) (H : Hp) : Heap := PySem.W.hideAll h (trk h H)
theorem hidT_size (h : Heap) (H : Hp) : (hidT h H).objs.size = h.objs.size := PySem.W.hideAll_size _ _
theorem hidT_get {h : Heap} {H : Hp} {b : Addr} {o : Obj} (e : h.get? b = some o) (n : H b = none) : (hidT h H).get? b = some o :=
  PySem.W.hideAll_get _ e fun hm => by
    have q : (H b).isSome = true := (List.mem_filter.mp hm).2
    rw [n] at q; simp at q
theorem of_hidT {h : Heap} {H : Hp} {b : Addr} {o : Obj} (e : (hidT h H).get? b = some o) : h.get? b = some o ∧ H b = none := by
  have e' : h.get? b = some o := PySem.W.of_hideAll (trk h H) e
  refine ⟨e', ?_⟩
  cases q : H b with
  | none => rfl
  | some x =>
    have hm : b ∈ trk h H := List.mem_filter.mpr ⟨List.mem_range.mpr (Heap.lt_size e'), by simp [q]⟩
    have z : (hidT h H).get? b = none := PySem.W.hideAll_none (trk h H) hm
    rw [z] at e; cases e
def allNews (g h : Heap) (L : Addr) : List (Addr × Obj) := (List.range h.objs.size).filterMap fun a => if a = L ∨ (g.get? a).isSome = true then none else (h.get? a).map fun o => (a, o)
def rest (g h : Heap) (L d : Addr) : List (Addr × Obj) := (allNews g h L).filter fun p => decide (p.1 ≠ d)
end L2
namespace L2
open PySem PySem.Spec PyProof.Rows
structure Mod (K : PySem.W.Frag) (mg : Str → Option Value) (base : Heap) : Prop where
  kin : K.In base
  glob : base.Ns mainGlobals mg
  blt : ∃ mb, base.Ns builtinsNs mb ∧ ∀ x : Str, x ≠ "__name__" → mb x = bootBuiltins x
  nolimit : base.NoLimit
structure Cx where
  prog : Program
  w : World
  K : PySem.W.Frag
  mg : Str → Option Value
  base : Heap
  A : Around
  N : List Str
  s₀ : Shared
  H₀ : Hp
  env : Env
  outer : List Env
  stack : List Env
  ex : List Addr
  fn : Str → Bool
  calm : Bool
  pn : List (Addr × Obj)
  xe : Value → Shared → Prop
def frs (l : List Env) : List Addr := l.filterMap (·.frame)
abbrev Cx.fs (X : Cx) : List Addr := frs X.outer
def Vis (sc : Scope) (x : Str) : Prop := sc.names.lookup x = some .local ∨ sc.names.lookup x = some .cell ∨ sc.names.lookup x = some .free
def Loc (sc : Scope) (x : Str) : Prop := sc.names.lookup x = some .local ∨ sc.names.lookup x = some .cell
def Look (env : Env) (h : Heap) (m : Str → Option Value) (x : Str) (u : Value) : Prop :=
  (env.kindOf x = some .local ∧ m x = some u) ∨ ((env.kindOf x = some .cell ∨ env.kindOf x = some .free) ∧ ∃ c, env.cells.lookup x = some c ∧ h.IsCell c (some u))
structure Cx.Ok (X : Cx) : Prop where
  mod : Mod X.K X.mg X.base
  kind : X.env.scope.kind = .function
  glob : X.env.globals = mainGlobals
  blt : X.env.builtins = builtinsNs
  above : X.s₀.heap.objs.size ≤ X.env.locals
  inj : ∀ x y c, X.env.cells.lookup x = some c → X.env.cells.lookup y = some c → x = y
  has : ∀ x, (X.env.kindOf x = some .cell ∨ X.env.kindOf x = some .free) → ∃ c, X.env.cells.lookup x = some c
  cab : ∀ x c, X.fn x = true → X.env.cells.lookup x = some c → X.s₀.heap.objs.size ≤ c
  hd : X.calm = true → X.A.handled = none
  frames : X.A.frames = some X.stack
  stk : X.stack = X.outer ∨ (X.stack = X.env :: X.outer ∧ X.env.frame = some X.env.locals)
  exf : ∀ b ∈ X.ex, b ≠ X.env.locals ∧ ∀ x c, X.env.cells.lookup x = some c → c ≠ b
  bs : ∀ b o, X.base.get? b = some o → X.s₀.heap.get? b = some o ∧ X.H₀ b = none
  bsz : X.base.objs.size ≤ X.s₀.heap.objs.size
  noex : ∀ b o, X.base.get? b = some o → b ∉ X.ex
  exfs : ∀ b ∈ X.ex, b ∉ X.fs
  funs : X.s₀.heap.FunFrames X.base X.outer
  frf : ∀ b ∈ X.fs, X.H₀ b = none
structure Inv (X : Cx) (pins : List (Addr × Obj)) (σ : List (Option V)) (H : Hp) (s : Shared) : Prop where
  ok : X.Ok
  os : s.os = X.s₀.os
  bare : AllBare s.gens
  base : Un X.fs X.ex X.H₀ H X.s₀.heap s.heap
  loc : ∃ m, s.heap.Ns X.env.locals m ∧ ∀ (i : Nat) (x : Str) (v : V), X.N[i]? = some x → σ[i]? = some (some v) → Vis X.env.scope x → ∃ u, RelV v u ∧ Look X.env s.heap m x u
  cell : ∀ x c, X.env.cells.lookup x = some c → ∃ v, s.heap.IsCell c v
  free : H X.env.locals = none
  freeC : ∀ x c, X.env.cells.lookup x = some c → H c = none
  pin : ∀ p ∈ X.pn ++ pins, s.heap.get? p.1 = some p.2 ∧ H p.1 = none ∧ p.1 ≠ X.env.locals ∧ p.1 ∉ X.fs ∧ ∀ v, p.2.data ≠ .cell v
  hok : HOk X.prog X.w H s.heap
  len : σ.length = X.N.length
section
variable {X : Cx} {pins : List (Addr × Obj)} {σ : List (Option V)} {H H' : Hp} {s : Shared} {h' : Heap}
theorem Cx.Ok.nofr (ok : X.Ok) {b : Addr} {o : Obj} (e : X.base.get? b = some o) : b ∉ X.fs := fun hb => by
  have := (ok.funs.mem hb).1
  rw [e] at this; cases this
theorem Inv.bs (I : Inv X pins σ H s) : ∀ b o, X.base.get? b = some o → s.heap.get? b = some o ∧ H b = none := fun b o e =>
  ⟨I.base.keep b o (I.ok.bs b o e).1 (I.ok.bs b o e).2 (I.ok.nofr e) (I.ok.noex b o e), I.base.free b o (I.ok.bs b o e).1 (I.ok.bs b o e).2 (I.ok.noex b o e)⟩
theorem Inv.bk (I : Inv X pins σ H s) : ∀ b o, X.base.get? b = some o → s.heap.get? b = some o := fun b o e => (I.bs b o e).1
theorem Inv.mod (I : Inv X pins σ H s) : Mod X.K X.mg X.base := I.ok.mod
theorem Inv.kIn (I : Inv X pins σ H s) : X.K.In s.heap := I.ok.mod.kin.keeps I.bk
theorem Inv.lt (I : Inv X pins σ H s) : X.env.locals < s.heap.objs.size := let ⟨_, hn, _⟩ := I.loc; hn.lt
theorem Inv.sz (I : Inv X pins σ H s) : X.s₀.heap.objs.size ≤ s.heap.objs.size := Nat.le_trans I.ok.above (Nat.le_of_lt I.lt)
theorem Inv.nofs (I : Inv X pins σ H s) {a : Addr} (h : s.heap.objs.size ≤ a) : a ∉ X.fs := fun hb => by
  obtain ⟨_, o, ho, _⟩ := I.ok.funs.mem hb
  exact absurd (Nat.lt_of_lt_of_le (Heap.lt_size ho) (Nat.le_trans I.sz h)) (Nat.lt_irrefl _)
theorem Inv.cne (I : Inv X pins σ H s) : ∀ x c, X.env.cells.lookup x = some c → c ≠ X.env.locals := fun x c e z => by
  obtain ⟨v, o, ho, hd⟩ := I.cell x c e
  obtain ⟨m, ⟨o', es, ep, ho', hd', _⟩, _⟩ := I.loc
  rw [z, ho'] at ho; cases ho; rw [hd'] at hd; cases hd
theorem Inv.funs (I : Inv X pins σ H s) : s.heap.FunFrames X.base X.outer := by
  have all : ∀ (l : List Env), (∀ b ∈ frs l, b ∈ X.fs) → X.s₀.heap.FunFrames X.base l → s.heap.FunFrames X.base l := by
    intro l
    induction l with
    | nil => intro _ _; trivial
    | cons env r ih =>
      intro hs hl
      obtain ⟨hk, ⟨L, o, hf, hn, ho, hd⟩, hr⟩ := hl
      have hL : L ∈ X.fs := hs L (by unfold frs; rw [List.filterMap_cons, hf]; exact List.mem_cons_self)
      obtain ⟨sl, e⟩ := I.base.slot L o ho (I.ok.frf L hL) hL fun z => I.ok.exfs L z hL
      exact ⟨hk, ⟨L, _, hf, hn, e, hd⟩, ih (fun b hb => hs b (by unfold frs; rw [List.filterMap_cons, hf]; exact List.mem_cons_of_mem _ hb)) hr⟩
  exact all X.outer (fun _ hb => hb) I.ok.funs
theorem Inv.stack (I : Inv X pins σ H s) : s.heap.FunFrames X.base X.stack := by
  rcases I.ok.stk with e | ⟨e, hf⟩
  · rw [e]; exact I.funs
  · rw [e]
    obtain ⟨m, hn, _⟩ := I.loc
    refine .cons (by rw [I.ok.kind]; decide) hf hn ?_ I.funs
    exact Heap.get?_none_of_le (Nat.le_trans I.ok.bsz I.ok.above)
theorem Inv.stkSub (I : Inv X pins σ H s) : ∀ b ∈ frs X.stack, b ∈ X.env.locals :: X.fs := fun b hb => by
  rcases I.ok.stk with e | ⟨e, hf⟩
  · rw [e] at hb; exact List.mem_cons_of_mem _ hb
  · rw [e] at hb
    unfold frs at hb
    rw [List.filterMap_cons, hf] at hb
    exact hb
theorem Inv.stkFree (I : Inv X pins σ H s) : ∀ b ∈ frs X.stack, H b = none := fun b hb => by
  rcases List.mem_cons.mp (I.stkSub b hb) with e | hb
  · rw [e]; exact I.free
  · obtain ⟨_, o, ho, _⟩ := I.ok.funs.mem hb
    exact I.base.free b o ho (I.ok.frf b hb) fun z => I.ok.exfs b z hb
theorem Inv.step {g' : Array GenState} {t' : Nat} {d' : Drawn} {ch : List Addr} (I : Inv X pins σ H s)
    (hch : ∀ b ∈ ch, (b ∈ X.ex ∨ X.s₀.heap.objs.size ≤ b) ∧ b ≠ X.env.locals ∧ (∀ x c, X.env.cells.lookup x = some c → c ≠ b) ∧ ∀ p ∈ X.pn ++ pins, p.1 ≠ b)
    (keep : ∀ b o, b ≠ X.env.locals → b ∉ X.fs → b ∉ ch → s.heap.get? b = some o → H b = none → h'.get? b = some o)
    (slot : ∀ b o, b ≠ X.env.locals → b ∈ X.fs → b ∉ ch → s.heap.get? b = some o → H b = none → ∃ sl, h'.get? b = some { o with slots := sl }) (free : ∀ b o, b ∉ ch → s.heap.get? b = some o → H b = none → H' b = none)
    (there : ∀ b o, b ∉ ch → s.heap.get? b = some o → ∃ o', h'.get? b = some o')
    (tups : ∀ b xs, H b = some (.tup xs) → H' b = some (.tup xs)) (frzs : ∀ b o u, H b = some (.frz o u) → H' b = some (.frz o u)) (tbls : ∀ b ps, H b = some (.tbl ps) → ∃ more, H' b = some (.tbl (ps ++ more)))
    (ns : ∀ m, s.heap.Ns X.env.locals m → h'.Ns X.env.locals m) (hok : HOk X.prog X.w H' h') (hg : AllBare g') :
    Inv X pins σ H' { s with heap := h', gens := g', drawn := d', toks := t' } := by
  have neL : ∀ b o, X.s₀.heap.get? b = some o → b ≠ X.env.locals := fun b o e => Nat.ne_of_lt (Nat.lt_of_lt_of_le (Heap.lt_size e) I.ok.above)
  have neC : ∀ b o, X.s₀.heap.get? b = some o → b ∉ X.ex → b ∉ ch := fun b o e hx hb => by
    rcases (hch b hb).1 with z | z
    · exact hx z
    · exact absurd (Nat.lt_of_lt_of_le (Heap.lt_size e) z) (Nat.lt_irrefl _)
  have cellK : ∀ x c, X.env.cells.lookup x = some c → ∀ v, s.heap.IsCell c v → h'.IsCell c v := fun x c e v ⟨o, ho, hd⟩ => by
    have nch : c ∉ ch := fun z => (hch c z).2.2.1 x c e rfl
    by_cases hc : c ∈ X.fs
    · obtain ⟨sl, q⟩ := slot c o (I.cne x c e) hc nch ho (I.freeC x c e)
      exact ⟨_, q, hd⟩
    · exact ⟨o, keep c o (I.cne x c e) hc nch ho (I.freeC x c e), hd⟩
  refine ⟨I.ok, I.os, hg, ⟨fun b o e n hb hx => ?_, fun b o e n hb hx => ?_, fun b o e n hx => ?_, fun b o e hx => ?_, fun b xs e => tups b xs (I.base.tups b xs e), fun b o xs e => frzs b o xs (I.base.frzs b o xs e), fun b ps e => ?_⟩, ?_, fun x c e => ?_, ?_, fun x c e => ?_, fun p hp => ?_, hok, I.len⟩
  · exact keep b o (neL b o e) hb (neC b o e hx) (I.base.keep b o e n hb hx) (I.base.free b o e n hx)
  · obtain ⟨sl, e1⟩ := I.base.slot b o e n hb hx
    obtain ⟨sl', e2⟩ := slot b _ (neL b o e) hb (neC b o e hx) e1 (I.base.free b o e n hx)
    exact ⟨sl', e2⟩
  · obtain ⟨o', e1⟩ := I.base.there b o e hx
    exact free b o' (neC b o e hx) e1 (I.base.free b o e n hx)
  · obtain ⟨o', e1⟩ := I.base.there b o e hx
    exact there b o' (neC b o e hx) e1
  · obtain ⟨m1, e1⟩ := I.base.tbls b ps e
    obtain ⟨m2, e2⟩ := tbls b _ e1
    exact ⟨m1 ++ m2, by rw [e2, Array.append_assoc]⟩
  · obtain ⟨m, hn, hl⟩ := I.loc
    refine ⟨m, ns m hn, fun i x v e1 e2 e3 => ?_⟩
    obtain ⟨u, r, l⟩ := hl i x v e1 e2 e3
    refine ⟨u, r, ?_⟩
    rcases l with l | ⟨k, c, e, z⟩
    · exact .inl l
    · exact .inr ⟨k, c, e, cellK x c e _ z⟩
  · obtain ⟨v, z⟩ := I.cell x c e
    exact ⟨v, cellK x c e v z⟩
  · obtain ⟨m, ⟨o, _, _, ho, _⟩, _⟩ := I.loc
    exact free _ o (fun z => (hch _ z).2.1 rfl) ho I.free
  · obtain ⟨v, o, ho, hd⟩ := I.cell x c e
    exact free c o (fun z => (hch c z).2.2.1 x c e rfl) ho (I.freeC x c e)
  · obtain ⟨e, n, ne, nf, d⟩ := I.pin p hp
    have nch : p.1 ∉ ch := fun z => (hch p.1 z).2.2.2 p hp rfl
    exact ⟨keep p.1 p.2 ne nf nch e n, free p.1 p.2 nch e n, ne, nf, d⟩
theorem Inv.un {t' : Nat} (I : Inv X pins σ H s) (u : Un X.fs [] H H' s.heap h') (hok : HOk X.prog X.w H' h') : Inv X pins σ H' { s with heap := h', toks := t' } := by
  obtain ⟨m, ⟨o, es, ep, ho, r⟩, _⟩ := id I.loc
  obtain ⟨sl, hL⟩ := u.any ho I.free (by simp)
  exact I.step (g' := s.gens) (d' := s.drawn) (ch := []) (fun _ z => nomatch z) (fun b o _ hb _ e n => u.keep b o e n hb (by simp)) (fun b o _ hb _ e n => u.slot b o e n hb (by simp)) (fun b o _ e n => u.free b o e n (by simp)) (fun b o _ e => u.there b o e (by simp)) u.tups u.frzs u.tbls (fun m' hm => by
    obtain ⟨o', es', ep', ho', r'⟩ := hm
    rw [ho] at ho'; cases ho'
    exact ⟨_, es', ep', hL, r'⟩) hok I.bare
theorem Inv.call {g' : Array GenState} {t' : Nat} {d' : Drawn} {ch : List Addr} (I : Inv X pins σ H s) (u : Un (frs X.stack) ch H H' s.heap h') (hok : HOk X.prog X.w H' h') (hg : AllBare g')
    (hch : ∀ b ∈ ch, (b ∈ X.ex ∨ X.s₀.heap.objs.size ≤ b) ∧ b ≠ X.env.locals ∧ (∀ x c, X.env.cells.lookup x = some c → c ≠ b) ∧ ∀ p ∈ X.pn ++ pins, p.1 ≠ b) :
    Inv X pins σ H' { s with heap := h', gens := g', drawn := d', toks := t' } := by
  obtain ⟨m, ⟨o, es, ep, ho, r⟩, _⟩ := id I.loc
  obtain ⟨sl, hL⟩ := u.any ho I.free fun z => (hch _ z).2.1 rfl
  exact I.step (ch := ch) hch (fun b o hL hb hc e n => u.keep b o e n (fun z => (List.mem_cons.mp (I.stkSub b z)).elim hL hb) hc) (fun b o _ _ hc e n => u.any e n hc) (fun b o hc e n => u.free b o e n hc) (fun b o hc e => u.there b o e hc) u.tups u.frzs u.tbls (fun m' hm => by
    obtain ⟨o', es', ep', ho', r'⟩ := hm
    rw [ho] at ho'; cases ho'
    exact ⟨_, es', ep', hL, r'⟩) hok hg
theorem Inv.turned {t' : Nat} {it : Addr} (I : Inv X pins σ H s) (k : ∀ b o, b ≠ it → s.heap.get? b = some o → h'.get? b = some o) (hn : H it = none) (hL : it ≠ X.env.locals)
    (h1 : it ∈ X.ex ∨ X.s₀.heap.objs.size ≤ it) (h2 : ∀ x c, X.env.cells.lookup x = some c → c ≠ it) (h3 : ∀ p ∈ X.pn ++ pins, p.1 ≠ it) : Inv X pins σ H { s with heap := h', toks := t' } := by
  have nit : ∀ b u, H b = some u → b ≠ it := fun b u e z => by rw [z, hn] at e; cases e
  refine I.step (g' := s.gens) (d' := s.drawn) (ch := [it]) (fun b hb => ?_) (fun b o _ _ hc e _ => k b o (fun z => hc (by simp [z])) e) (fun b o _ _ hc e _ => ⟨o.slots, k b o (fun z => hc (by simp [z])) e⟩) (fun _ _ _ _ n => n)
    (fun b o hc e => ⟨o, k b o (fun z => hc (by simp [z])) e⟩) (fun _ _ e => e) (fun _ _ _ e => e) (fun b ps e => ⟨#[], by rw [e]; simp⟩) (fun m hm => ?_) (fun b u e => ?_) I.bare
  · have e : b = it := by simpa using hb
    subst e
    exact ⟨h1, hL, h2, h3⟩
  · obtain ⟨o, es, ep, ho, r⟩ := hm
    exact ⟨o, es, ep, k _ o (Ne.symm hL) ho, r⟩
  · refine (I.hok b u e).stay (fun c v hc q => k c v ?_ q) (fun _ q => q) fun _ _ q => q
    rcases hc with z | z
    · rw [z]; exact nit b u e
    · exact nit c _ z
theorem Inv.tok (I : Inv X pins σ H s) (t : Nat) : Inv X pins σ H { s with toks := t } := I.un (h' := s.heap) (t' := t) Un.refl I.hok
theorem Inv.kept {t' : Nat} (I : Inv X pins σ H s) (k : ∀ b u, s.heap.get? b = some u → h'.get? b = some u) : Inv X pins σ H { s with heap := h', toks := t' } := I.un (Un.kept k) (I.hok.kept k)
theorem Inv.laid {a : Addr} {o : HO} {t' : Nat} (I : Inv X pins σ H s) (k : ∀ b u, s.heap.get? b = some u → h'.get? b = some u) (hp : s.heap.objs.size ≤ a) (new : ObjOk X.prog X.w (upd H a o) h' a o) :
    Inv X pins σ (upd H a o) { s with heap := h', toks := t' } := I.un (Un.laid k hp (I.hok.fresh hp)) (I.hok.laid k hp new)
theorem Inv.write {x e : Addr} {o : HO} {t' : Nat} (I : Inv X pins σ H s) (mu : Mut (H x)) (he : e = x ∨ H e = some (.own x)) (k : ∀ b u, b ≠ e → s.heap.get? b = some u → h'.get? b = some u) (heo : ∃ u, h'.get? e = some u)
    (new : ObjOk X.prog X.w (upd H x o) h' x o) : Inv X pins σ (upd H x o) { s with heap := h', toks := t' } := I.un (Un.write mu he k heo) (I.hok.write mu he k heo new)
theorem Inv.pins_of {pins' : List (Addr × Obj)} (I : Inv X pins σ H s) (h : ∀ p ∈ pins', s.heap.get? p.1 = some p.2 ∧ H p.1 = none ∧ p.1 ≠ X.env.locals ∧ p.1 ∉ X.fs ∧ ∀ v, p.2.data ≠ .cell v) : Inv X pins' σ H s :=
  ⟨I.ok, I.os, I.bare, I.base, I.loc, I.cell, I.free, I.freeC, fun p hp => (List.mem_append.mp hp).elim (fun z => I.pin p (List.mem_append_left _ z)) (h p), I.hok, I.len⟩
theorem nodup_ix {N : List Str} (hN : N.Nodup) {i j : Nat} {x : Str} (a : N[i]? = some x) (b : N[j]? = some x) : i = j := by
  obtain ⟨h1, e1⟩ := List.getElem?_eq_some_iff.mp a
  obtain ⟨h2, e2⟩ := List.getElem?_eq_some_iff.mp b
  exact (List.getElem_inj hN).mp (e1.trans e2.symm)
theorem store_ok2 {M : Model} {A : Around} {E : Value → Shared → Prop} {i : Nat} {x : Str} {v : V} {u : Value} {Q : Unit → Shared → Prop} (I : Inv X pins σ H s) (hN : X.N.Nodup) (hi : X.N[i]? = some x) (hx : Loc X.env.scope x) (r : RelV v u)
    (h : ∀ s', Inv X pins (σ.set i (some v)) H s' → (∃ a, Heap.SameBut a s.heap s'.heap ∧ (a = X.env.locals ∨ X.env.cells.lookup x = some a)) → Q () s') (hf : X.fn x = true ∨ X.env.scope.names.lookup x = some .local := by first | exact .inl rfl | exact .inr rfl | assumption) : wpAny M A (storeName X.env x u) Q E s := by
  obtain ⟨m, hn, hl⟩ := id I.loc
  have hcls : (X.env.scope.kind == .class || (X.env.scope.kind == .module && X.env.locals != X.env.globals)) = false := by rw [I.ok.kind]; rfl
  have hiσ : i < σ.length := by rw [I.len]; exact (List.getElem?_eq_some_iff.mp hi).1
  have cne := I.cne
  have tracked : ∀ {a : Addr} {h' : Heap}, (∃ o, s.heap.get? a = some o ∧ H a = none) → Heap.SameBut a s.heap h' → HOk X.prog X.w H h' := fun {a h'} ha hs b ob e => by
    obtain ⟨_, _, hfree⟩ := ha
    refine (I.hok b ob e).stay (fun c w' hc q => (hs.2 c ?_).trans q) (fun _ q => q) fun _ _ q => q
    rintro rfl
    rcases hc with rfl | hc
    · rw [hfree] at e; cases e
    · rw [hfree] at hc; cases hc
  rcases hx with hk | hk
  · refine wpAny_storeName_local hk hn (fun h' hn' hs => ?_) hcls
    obtain ⟨oL, _, _, hoL, _⟩ := id hn
    refine h _ ⟨I.ok, I.os, I.bare, ⟨fun b o e n hb hx => ?_, fun b o e n hb hx => ?_, I.base.free, fun b o e hx => ?_, I.base.tups, I.base.frzs, I.base.tbls⟩, ⟨_, hn', fun j y v' e1 e2 e3 => ?_⟩, fun y c e => ?_, I.free, I.freeC, fun p hp => ?_, tracked ⟨oL, hoL, I.free⟩ hs, by simpa using I.len⟩ ⟨_, hs, .inl rfl⟩
    · exact (hs.2 b (Nat.ne_of_lt (Nat.lt_of_lt_of_le (Heap.lt_size e) I.ok.above))).trans (I.base.keep b o e n hb hx)
    · obtain ⟨sl, e1⟩ := I.base.slot b o e n hb hx
      exact ⟨sl, (hs.2 b (Nat.ne_of_lt (Nat.lt_of_lt_of_le (Heap.lt_size e) I.ok.above))).trans e1⟩
    · obtain ⟨o', e1⟩ := I.base.there b o e hx
      exact ⟨o', (hs.2 b (Nat.ne_of_lt (Nat.lt_of_lt_of_le (Heap.lt_size e) I.ok.above))).trans e1⟩
    · by_cases hj : j = i
      · subst hj
        rw [hi] at e1; cases e1
        rw [List.getElem?_set_self hiσ] at e2
        cases e2
        exact ⟨u, r, .inl ⟨hk, by simp⟩⟩
      · rw [List.getElem?_set_ne (Ne.symm hj)] at e2
        obtain ⟨u', r', q⟩ := hl j y v' e1 e2 e3
        refine ⟨u', r', ?_⟩
        rcases q with ⟨k, e⟩ | ⟨k, c, e, z⟩
        · refine .inl ⟨k, ?_⟩
          have : y ≠ x := fun e => hj (nodup_ix hN e1 (e ▸ hi))
          simp [this, e]
        · exact .inr ⟨k, c, e, z.sameBut hs (cne y c e)⟩
    · obtain ⟨w', z⟩ := I.cell y c e
      exact ⟨w', z.sameBut hs (cne y c e)⟩
    · obtain ⟨e, n, ne, nf, d⟩ := I.pin p hp
      exact ⟨(hs.2 p.1 ne).trans e, n, ne, nf, d⟩
  · have hfn : X.fn x = true := by
      rcases hf with z | z
      · exact z
      · rw [z] at hk; cases hk
    obtain ⟨c, hc⟩ := I.ok.has x (.inl hk)
    obtain ⟨w', z⟩ := I.cell x c hc
    refine wpAny_storeName_cell I.ok.kind hk hc z (fun h' hc' hs => ?_)
    obtain ⟨oc, hoc, hocd⟩ := id z
    refine h { s with heap := h' } ⟨I.ok, I.os, I.bare, ⟨fun b o e n hb hx => ?_, fun b o e n hb hx => ?_, I.base.free, fun b o e hx => ?_, I.base.tups, I.base.frzs, I.base.tbls⟩, ⟨m, hn.sameBut hs (Ne.symm (cne x c hc)), fun j y v' e1 e2 e3 => ?_⟩, fun y c' e => ?_, I.free, I.freeC, fun p hp => ?_, tracked ⟨oc, hoc, I.freeC x c hc⟩ hs, by simpa using I.len⟩ ⟨c, hs, .inr hc⟩
    · exact (hs.2 b (Nat.ne_of_lt (Nat.lt_of_lt_of_le (Heap.lt_size e) (I.ok.cab x c hfn hc)))).trans (I.base.keep b o e n hb hx)
    · obtain ⟨sl, e1⟩ := I.base.slot b o e n hb hx
      exact ⟨sl, (hs.2 b (Nat.ne_of_lt (Nat.lt_of_lt_of_le (Heap.lt_size e) (I.ok.cab x c hfn hc)))).trans e1⟩
    · obtain ⟨o', e1⟩ := I.base.there b o e hx
      exact ⟨o', (hs.2 b (Nat.ne_of_lt (Nat.lt_of_lt_of_le (Heap.lt_size e) (I.ok.cab x c hfn hc)))).trans e1⟩
    · by_cases hj : j = i
      · subst hj
        rw [hi] at e1; cases e1
        rw [List.getElem?_set_self hiσ] at e2
        cases e2
        exact ⟨u, r, .inr ⟨.inl hk, c, hc, hc'⟩⟩
      · rw [List.getElem?_set_ne (Ne.symm hj)] at e2
        obtain ⟨u', r', q⟩ := hl j y v' e1 e2 e3
        refine ⟨u', r', ?_⟩
        rcases q with q | ⟨k, c', e, z'⟩
        · exact .inl q
        · refine .inr ⟨k, c', e, z'.sameBut hs ?_⟩
          rintro rfl
          exact hj (nodup_ix hN e1 (I.ok.inj _ _ _ e hc ▸ hi))
    · by_cases hcc : c' = c
      · subst hcc; exact ⟨_, hc'⟩
      · obtain ⟨w2, z2⟩ := I.cell y c' e
        exact ⟨w2, z2.sameBut hs hcc⟩
    · obtain ⟨e, n, ne, nf, d⟩ := I.pin p hp
      refine ⟨(hs.2 p.1 ?_).trans e, n, ne, nf, d⟩
      intro q
      rw [q, hoc] at e
      have q' : oc = p.2 := Option.some.inj e
      exact d w' (by rw [← q']; exact hocd)
theorem store_ok {M : Model} {A : Around} {E : Value → Shared → Prop} {i : Nat} {x : Str} {v : V} {u : Value} {Q : Unit → Shared → Prop} (I : Inv X pins σ H s) (hN : X.N.Nodup) (hi : X.N[i]? = some x) (hx : Loc X.env.scope x) (r : RelV v u)
    (h : ∀ s', Inv X pins (σ.set i (some v)) H s' → Q () s') (hf : X.fn x = true ∨ X.env.scope.names.lookup x = some .local := by first | exact .inl rfl | exact .inr rfl | assumption) : wpAny M A (storeName X.env x u) Q E s :=
  store_ok2 I hN hi hx r (fun s' I' _ => h s' I') hf
theorem Inv.call' {s' : Shared} {ch : List Addr} (I : Inv X pins σ H s) (ho : s'.os = s.os) (u : Un (frs X.stack) ch H H' s.heap s'.heap) (hok : HOk X.prog X.w H' s'.heap) (hg : AllBare s'.gens)
    (hch : ∀ b ∈ ch, (b ∈ X.ex ∨ X.s₀.heap.objs.size ≤ b) ∧ b ≠ X.env.locals ∧ (∀ x c, X.env.cells.lookup x = some c → c ≠ b) ∧ ∀ p ∈ X.pn ++ pins, p.1 ≠ b) : Inv X pins σ H' s' := by
  obtain ⟨h', g', d', t', o'⟩ := s'
  have e : o' = s.os := ho
  subst e
  exact I.call (g' := g') (t' := t') (d' := d') u hok hg hch
end
abbrev XK := Value → Option Addr → Hp → Prop
abbrev St := List (Option V)
abbrev VK := V → Hp → Prop
abbrev TE := St → Hp → VK → Prop
abbrev TT := St → Hp → (Bool → Hp → Prop) → Prop
abbrev TA := St → Hp → (List V → Hp → Prop) → Prop
structure Ends where
  nx : St → Hp → Prop
  rt : VK
  bk : St → Hp → Prop := fun _ _ => False
  ct : St → Hp → Prop := fun _ _ => False
abbrev TS := Ends → St → Hp → Prop
def EP (X : Cx) (pins : List (Addr × Obj)) (σ : St) (Q : VK) (u : Value) (s' : Shared) : Prop := ∃ v H', Inv X pins σ H' s' ∧ RelV v u ∧ Q v H'
def TP (X : Cx) (pins : List (Addr × Obj)) (σ : St) (Q : Bool → Hp → Prop) (b : Bool) (s' : Shared) : Prop := ∃ H', Inv X pins σ H' s' ∧ Q b H'
def AP (X : Cx) (pins : List (Addr × Obj)) (σ : St) (Q : List V → Hp → Prop) (us : List Value) (s' : Shared) : Prop := ∃ vs H', Inv X pins σ H' s' ∧ Vals vs us ∧ Q vs H'
def SP (X : Cx) (pins : List (Addr × Obj)) (D : Ends) (f : Flow) (s' : Shared) : Prop :=
  match f with
  | .next => ∃ σ' H', Inv X pins σ' H' s' ∧ D.nx σ' H'
  | .brk => ∃ σ' H', Inv X pins σ' H' s' ∧ D.bk σ' H'
  | .cont => ∃ σ' H', Inv X pins σ' H' s' ∧ D.ct σ' H'
  | .ret u => ∃ v σ' H', Inv X pins σ' H' s' ∧ RelV v u ∧ D.rt v H'
def PE (X : Cx) (e : Expr) (t : TE) : Prop :=
  ∀ (pins : List (Addr × Obj)) (s : Shared) (σ : St) (H : Hp) (Q : VK), Inv X pins σ H s → t σ H Q → wpAny (model X.prog X.w) X.A (eval e X.env) (EP X pins σ Q) X.xe s
def PT (X : Cx) (e : Expr) (t : TT) : Prop :=
  ∀ (pins : List (Addr × Obj)) (s : Shared) (σ : St) (H : Hp) (Q : Bool → Hp → Prop), Inv X pins σ H s → t σ H Q → wpAny (model X.prog X.w) X.A (isTrue e X.env (eval e X.env)) (TP X pins σ Q) X.xe s
def PW (X : Cx) (e : Expr) (t : TT) : Prop :=
  ∀ (whole : Sem Value) (pins : List (Addr × Obj)) (s : Shared) (σ : St) (H : Hp) (Q : Bool → Hp → Prop), Inv X pins σ H s → t σ H Q → wpAny (model X.prog X.w) X.A (isTrue e X.env whole) (TP X pins σ Q) X.xe s
theorem PW.pt {X : Cx} {e : Expr} {t : TT} (h : PW X e t) : PT X e t := h _
def PA (X : Cx) (es : List Expr) (t : TA) : Prop :=
  ∀ (pos : Pos) (pins : List (Addr × Obj)) (s : Shared) (σ : St) (H : Hp) (Q : List V → Hp → Prop), Inv X pins σ H s → t σ H Q → wpAny (model X.prog X.w) X.A (spliced (backTo pos (starEach es X.env))) (AP X pins σ Q) X.xe s
def PS (X : Cx) (st : Stmt) (t : TS) : Prop :=
  ∀ (pins : List (Addr × Obj)) (s : Shared) (σ : St) (H : Hp) (D : Ends), Inv X pins σ H s → t D σ H → wpAny (model X.prog X.w) X.A (exec st X.env) (SP X pins D) X.xe s
def PSs (X : Cx) (st : List Stmt) (t : TS) : Prop :=
  ∀ (pins : List (Addr × Obj)) (s : Shared) (σ : St) (H : Hp) (D : Ends), Inv X pins σ H s → t D σ H → wpAny (model X.prog X.w) X.A (execs st X.env) (SP X pins D) X.xe s
theorem thn {α : Type} {t : Sem α} {Q Q' : α → Shared → Prop} {M : Model} {A : Around} {E : Value → Shared → Prop} {s : Shared} (h : wpAny M A t Q E s) (hQ : ∀ a s, Q a s → Q' a s) : wpAny M A t Q' E s := wpAny_mono h hQ fun _ _ x => x
end L2
namespace L2
open PySem PySem.Spec PyProof.Rows
section
variable {X : Cx}
def tVar (i : Nat) : TE := fun σ H Q => ∃ v, σ[i]? = some (some v) ∧ Q v H
def tC (v : V) : TE := fun _ H Q => Q v H
theorem pe_var {i : Nat} {x : Str} {pos : Pos} (hN : X.N[i]? = some x) (hv : Vis X.env.scope x) (hd : (x == ("__debug__" : Str)) = false := by decide) (hcd : (x == ("__classdict__" : Str)) = false := by decide) : PE X (.Name x pos) (tVar i) := by
  intro pins s σ H Q I h
  obtain ⟨v, e, h⟩ := h
  obtain ⟨m, hn, hl⟩ := I.loc
  obtain ⟨u, r, l⟩ := hl i x v hN e hv
  have fin : EP X pins σ Q u s := ⟨v, H, I, r, h⟩
  rcases l with ⟨hk, hm⟩ | ⟨hk, c, hc, hcell⟩
  · exact wpAny_Name (wpAny_loadName_local I.ok.kind hk hn hm fin) hd
  · rcases hk with hk | hk
    · exact wpAny_Name (wpAny_loadName_cell I.ok.kind hk hc hcell fin) hd
    · exact wpAny_Name (wpAny_loadName_free I.ok.kind hk hc hcell fin hcd) hd
theorem pe_int {i j pos} : PE X (.Constant (.int i) j pos) (tC (.int i)) := fun _ _ _ H _ I h => wpAny_Constant_int ⟨.int i, H, I.tok _, ⟨_, rfl⟩, h⟩
theorem pe_bl {b j pos} : PE X (.Constant (.bool b) j pos) (tC (.bl b)) := fun _ _ _ H _ I h => Constant_bool ⟨.bl b, H, I, rfl, h⟩
theorem pe_str {x j pos} : PE X (.Constant (.str x) j pos) (tC (.str x)) := fun _ _ _ H _ I h => Calls.Constant_str ⟨.str x, H, I.tok _, ⟨_, rfl⟩, h⟩
def Gl (X : Cx) (x : Str) : Prop := X.env.kindOf x = some .globalImplicit
theorem ld_glob {E : Value → Shared → Prop} {pins : List (Addr × Obj)} {s : Shared} {σ : St} {H : Hp} {x : Str} {u : Value} {pos : Pos} {Q : Value → Shared → Prop} (I : Inv X pins σ H s) (hg : Gl X x) (hm : X.mg x = some u) (h : Q u s)
    (hd : (x == ("__debug__" : Str)) = false := by decide) : wpAny (model X.prog X.w) X.A (eval (.Name x pos) X.env) Q E s :=
  Calls.Name_function_global I.ok.kind hg (Calls.loadGlobal_global (by rw [I.ok.glob]; exact I.mod.glob.keeps I.bk) hm h) hd
theorem ld_blt {E : Value → Shared → Prop} {pins : List (Addr × Obj)} {s : Shared} {σ : St} {H : Hp} {x : Str} {u : Value} {pos : Pos} {Q : Value → Shared → Prop} (I : Inv X pins σ H s) (hg : Gl X x) (hm : X.mg x = none) (hv : bootBuiltins x = some u) (h : Q u s)
    (hn : x ≠ "__name__" := by decide) (hd : (x == ("__debug__" : Str)) = false := by decide) : wpAny (model X.prog X.w) X.A (eval (.Name x pos) X.env) Q E s := by
  obtain ⟨mb, h1, h2⟩ := I.mod.blt
  exact Calls.Name_function_global I.ok.kind hg (Calls.loadGlobal_builtin (by rw [I.ok.glob]; exact I.mod.glob.keeps I.bk) hm (by rw [I.ok.blt]; exact h1.keeps I.bk) ((h2 x hn).trans hv) h) hd
theorem pe_glob {x : Str} {v : V} {u : Value} {pos : Pos} (hg : Gl X x) (hm : X.mg x = some u) (r : RelV v u) (hd : (x == ("__debug__" : Str)) = false := by decide) : PE X (.Name x pos) (tC v) :=
  fun _ _ _ H _ I h => ld_glob I hg hm ⟨v, H, I, r, h⟩ hd
theorem pe_bltn {x : Str} {v : V} {u : Value} {pos : Pos} (hg : Gl X x) (hm : X.mg x = none) (hv : bootBuiltins x = some u) (r : RelV v u) (hn : x ≠ "__name__" := by decide) (hd : (x == ("__debug__" : Str)) = false := by decide) : PE X (.Name x pos) (tC v) :=
  fun _ _ _ H _ I h => ld_blt I hg hm hv ⟨v, H, I, r, h⟩ hn hd
variable {a b : Expr} {ta tb : TE} {pos : Pos}
def tB (t : TE) : TT := fun σ H Q => t σ H fun x H1 => ∃ c, x = .bl c ∧ Q c H1
theorem pt_val {e : Expr} {t : TE} (h : PE X e t) (he : ∀ whole, isTrue e X.env whole = (do let v ← whole; standAt e.pos; holding [v] (truthy v)) := by intro _; rfl) : PT X e (tB t) := by
  intro pins s σ H Q I hw
  refine isTrue_plain (thn (h pins s σ H _ I hw) fun v s1 ⟨x, H1, I1, r1, q1⟩ => ?_) (he _)
  obtain ⟨d, rfl, q⟩ := q1
  cases r1
  exact wpAny_truthy_bool ⟨H1, I1, q⟩
variable {tA tB' : TT} {rest : List Expr}
def tAnd (t u : TT) : TT := fun σ H Q => t σ H fun c H1 => if c = true then u σ H1 Q else Q false H1
def tOr (t u : TT) : TT := fun σ H Q => t σ H fun c H1 => if c = true then Q true H1 else u σ H1 Q
def tNot (t : TT) : TT := fun σ H Q => t σ H fun c H1 => Q (!c) H1
theorem pw_and1 (ha : PT X a tA) : PW X (.BoolOp .And [a] pos) tA := by
  intro wh pins s σ H Q I h
  refine isTrue_and (thn (ha pins s σ H Q I h) fun c s1 e => ?_)
  cases c with
  | true => exact isTrue_and_nil e
  | false => exact e
theorem pw_or1 (ha : PT X a tA) : PW X (.BoolOp .Or [a] pos) tA := by
  intro wh pins s σ H Q I h
  refine isTrue_or (thn (ha pins s σ H Q I h) fun c s1 e => ?_)
  cases c with
  | false => exact isTrue_or_nil e
  | true => exact e
theorem pw_and (ha : PT X a tA) (hb : PW X (.BoolOp .And (b :: rest) pos) tB') : PW X (.BoolOp .And (a :: b :: rest) pos) (tAnd tA tB') := by
  intro wh pins s σ H Q I h
  refine isTrue_and (thn (ha pins s σ H _ I h) fun c s1 ⟨H1, I1, q1⟩ => ?_)
  cases c with
  | true => exact hb wh pins s1 σ H1 Q I1 q1
  | false => exact ⟨H1, I1, q1⟩
theorem pw_or (ha : PT X a tA) (hb : PW X (.BoolOp .Or (b :: rest) pos) tB') : PW X (.BoolOp .Or (a :: b :: rest) pos) (tOr tA tB') := by
  intro wh pins s σ H Q I h
  refine isTrue_or (thn (ha pins s σ H _ I h) fun c s1 ⟨H1, I1, q1⟩ => ?_)
  cases c with
  | true => exact ⟨H1, I1, q1⟩
  | false => exact hb wh pins s1 σ H1 Q I1 q1
theorem pt_not (ha : PT X a tA) : PT X (.UnaryOp .Not a pos) (tNot tA) := by
  intro pins s σ H Q I h
  exact isTrue_not (ha pins s σ H (fun c H1 => Q (!c) H1) I h)
def tAndV (ta tb : TE) : TE := fun σ H Q => ta σ H fun x H1 => ∃ c, x = .bl c ∧ if c = true then tb σ H1 Q else Q (.bl false) H1
def tNotV (ta : TE) : TE := fun σ H Q => ta σ H fun x H1 => ∃ c, x = .bl c ∧ Q (.bl (!c)) H1
theorem pe_one {op} {t : TE} (h : PE X a t) : PE X (.BoolOp op [a] pos) t := fun pins s σ H Q I hw => BoolOp_one (h pins s σ H Q I hw)
theorem pe_and (ha : PE X a ta) (hb : PE X (.BoolOp .And (b :: rest) pos) tb) : PE X (.BoolOp .And (a :: b :: rest) pos) (tAndV ta tb) := by
  intro pins s σ H Q I h
  refine BoolOp_and (thn (ha pins s σ H _ I h) fun v s1 ⟨x, H1, I1, r1, q1⟩ => ?_)
  obtain ⟨c, rfl, q1⟩ := q1
  cases r1
  refine wpAny_truthy_bool ?_
  cases c with
  | true => exact hb pins s1 σ H1 Q I1 q1
  | false => exact ⟨.bl false, H1, I1, rfl, q1⟩
theorem pe_not (ha : PE X a ta) : PE X (.UnaryOp .Not a pos) (tNotV ta) := by
  intro pins s σ H Q I h
  refine UnaryOp_ (thn (ha pins s σ H _ I h) fun v s1 ⟨x, H1, I1, r1, q1⟩ => ?_)
  obtain ⟨c, rfl, q1⟩ := q1
  cases r1
  exact not_of (wpAny_truthy_bool ⟨.bl (!c), H1, I1, rfl, q1⟩)
end
end L2
namespace L2
open PySem PySem.Spec PyProof.Rows
def SqL (K : PySem.W.Frag) (H : Hp) (a : Addr) (xs : List V) : Prop :=
  Rd H a (.lst xs) ∨
    ∃ (o : Obj) (its : Array Value) (n : Nat), K.lookup a = some o ∧ o.cls = .type "list" ∧ o.dict = none ∧ o.data = .seq its n ∧ its.size ≤ sizeLine ∧ Vals xs its.toList
def SqT (K : PySem.W.Frag) (H : Hp) (a : Addr) (xs : List V) : Prop :=
  Rd H a (.tup xs) ∨
    ∃ (o : Obj) (its : Array Value) (n : Nat), K.lookup a = some o ∧ o.cls = .type "tuple" ∧ o.data = .seq its n ∧ its.size ≤ sizeLine ∧ Vals xs its.toList
def absV : Value → Option V
  | .none => some .non
  | .bool b => some (.bl b)
  | .int i _ => some (.int i)
  | .str x _ => some (.str x)
  | .bytes b _ => some (.byt b)
  | .float b _ => some (.flt b)
  | .ref a => some (.ref a)
  | .type n => some (.ty n)
  | _ => none
theorem RelV.abs {x : V} {u : Value} (r : RelV x u) : absV u = some x := by
  cases x with
  | non => cases r; rfl
  | bl _ => cases r; rfl
  | int _ => obtain ⟨t, rfl⟩ := r; rfl
  | str _ => obtain ⟨t, rfl⟩ := r; rfl
  | byt _ => obtain ⟨t, rfl⟩ := r; rfl
  | flt _ => obtain ⟨t, rfl⟩ := r; rfl
  | ref _ => cases r; rfl
  | ty _ => cases r; rfl
theorem RelV.inj {x y : V} {u : Value} (r : RelV x u) (q : RelV y u) : x = y := Option.some.inj (r.abs.symm.trans q.abs)
theorem Vals.inj : ∀ {xs ys : List V} {us : List Value}, Vals xs us → Vals ys us → xs = ys
  | _, _, _, .nil, .nil => rfl
  | _, _, _, .cons r t, .cons r' t' => by rw [r.inj r', Vals.inj t t']
section
variable {X : Cx} {pins : List (Addr × Obj)} {σ : St} {H : Hp} {s : Shared} {a : Addr} {xs ys : List V}
theorem SqL.of {K : PySem.W.Frag} (h : H a = some (.lst xs)) : SqL K H a xs := .inl (.inl h)
theorem SqT.of {K : PySem.W.Frag} (h : H a = some (.tup xs)) : SqT K H a xs := .inl (.inl h)
theorem Inv.list (I : Inv X pins σ H s) (h : SqL X.K H a xs) : ∃ its : List Value, Vals xs its ∧ PlainL s.heap a its.toArray ∧ xs.length ≤ sizeLine := by
  rcases h with h | ⟨o, its, n, hk, hc, hd, hs, hz, r⟩
  · obtain ⟨z, its, n, r, e⟩ := h.ok I.hok
    exact ⟨its, r, ⟨_, n, e, rfl, rfl, rfl⟩, z⟩
  · refine ⟨its.toList, r, ⟨o, n, I.kIn a o hk, hc, hd, by simpa using hs⟩, ?_⟩
    have e := r.length
    simp only [Array.length_toList] at e
    omega
theorem Inv.tuple (I : Inv X pins σ H s) (h : SqT X.K H a xs) : ∃ its : List Value, Vals xs its ∧ IsTup s.heap a its.toArray ∧ xs.length ≤ sizeLine := by
  rcases h with h | ⟨o, its, n, hk, hc, hs, hz, r⟩
  · obtain ⟨z, its, r, p⟩ := h.ok I.hok
    exact ⟨its, r, p, z⟩
  · refine ⟨its.toList, r, ⟨o, I.kIn a o hk, hc, n, by simpa using hs⟩, ?_⟩
    have e := r.length
    simp only [Array.length_toList] at e
    omega
theorem Inv.list_inj (I : Inv X pins σ H s) (h : SqL X.K H a xs) (h' : SqL X.K H a ys) : xs = ys := by
  obtain ⟨its, r, ⟨o, n, e, _, _, d⟩, _⟩ := I.list h
  obtain ⟨its', r', ⟨o', n', e', _, _, d'⟩, _⟩ := I.list h'
  rw [e] at e'; cases e'
  rw [d] at d'
  injection d' with d1 _
  have : its = its' := by simpa using congrArg Array.toList d1
  subst this
  exact r.inj r'
theorem Inv.tuple_inj (I : Inv X pins σ H s) (h : SqT X.K H a xs) (h' : SqT X.K H a ys) : xs = ys := by
  obtain ⟨its, r, ⟨o, e, _, n, d⟩, _⟩ := I.tuple h
  obtain ⟨its', r', ⟨o', e', _, n', d'⟩, _⟩ := I.tuple h'
  rw [e] at e'; cases e'
  rw [d] at d'
  injection d' with d1 _
  have : its = its' := by simpa using congrArg Array.toList d1
  subst this
  exact r.inj r'
end
abbrev Cx.wish (X : Cx) (E : Value → Shared → Prop) : Cx := { X with xe := E }
abbrev Cx.nox (X : Cx) : Cx := X.wish fun _ _ => False
theorem Cx.Ok.wish {X : Cx} (ok : X.Ok) (E : Value → Shared → Prop) : (X.wish E).Ok :=
  ⟨ok.mod, ok.kind, ok.glob, ok.blt, ok.above, ok.inj, ok.has, ok.cab, ok.hd, ok.frames, ok.stk, ok.exf, ok.bs, ok.bsz, ok.noex, ok.exfs, ok.funs, ok.frf⟩
theorem Cx.Ok.unwish {X : Cx} {E : Value → Shared → Prop} (ok : (X.wish E).Ok) : X.Ok :=
  ⟨ok.mod, ok.kind, ok.glob, ok.blt, ok.above, ok.inj, ok.has, ok.cab, ok.hd, ok.frames, ok.stk, ok.exf, ok.bs, ok.bsz, ok.noex, ok.exfs, ok.funs, ok.frf⟩
section
variable {X : Cx} {pins : List (Addr × Obj)} {σ : St} {H : Hp} {s : Shared} {E : Value → Shared → Prop}
theorem Inv.wish (I : Inv X pins σ H s) (E : Value → Shared → Prop) : Inv (X.wish E) pins σ H s := ⟨I.ok.wish E, I.os, I.bare, I.base, I.loc, I.cell, I.free, I.freeC, I.pin, I.hok, I.len⟩
theorem Inv.unwish (I : Inv (X.wish E) pins σ H s) : Inv X pins σ H s := ⟨I.ok.unwish, I.os, I.bare, I.base, I.loc, I.cell, I.free, I.freeC, I.pin, I.hok, I.len⟩
theorem SP.unwish {D : Ends} {f : Flow} {s' : Shared} (h : SP (X.wish E) pins D f s') : SP X pins D f s' := by
  cases f with
  | next => obtain ⟨σ', H', I, q⟩ := h; exact ⟨σ', H', I.unwish, q⟩
  | brk => obtain ⟨σ', H', I, q⟩ := h; exact ⟨σ', H', I.unwish, q⟩
  | cont => obtain ⟨σ', H', I, q⟩ := h; exact ⟨σ', H', I.unwish, q⟩
  | ret u => obtain ⟨v, σ', H', I, r, q⟩ := h; exact ⟨v, σ', H', I.unwish, r, q⟩
theorem PSs.nox {st : List Stmt} {t : TS} (h : PSs X.nox st t) : PSs X st t := fun pins s σ H D I hw =>
  wpAny_mono (h pins s σ H D (I.wish _) hw) (fun _ _ q => q.unwish) fun _ _ z => False.elim z
end
section
variable {X : Cx} {st : Stmt} {rest : List Stmt} {t u : TS} {e : Expr} {te : TE} {pos : Pos}
def tNext : TS := fun D σ H => D.nx σ H
def tSeq (t u : TS) : TS := fun D σ H => t { D with nx := u D } σ H
theorem pss_nil : PSs X [] tNext := fun _ _ σ H _ I h => wpAny_execs_nil ⟨σ, H, I, h⟩
theorem pss_cons (h1 : PS X st t) (h2 : PSs X rest u) : PSs X (st :: rest) (tSeq t u) := by
  intro pins s σ H D I h
  refine wpAny_execs_cons (thn (h1 pins s σ H { D with nx := u D } I h) fun f s1 q => ?_)
  cases f with
  | next =>
    obtain ⟨σ', H', I', q⟩ := q
    exact h2 pins s1 σ' H' D I' q
  | ret v => exact q
  | brk => exact q
  | cont => exact q
theorem pss_one (h1 : PS X st t) : PSs X [st] t := by
  intro pins s σ H D I h
  refine wpAny_execs_cons (thn (h1 pins s σ H D I h) fun f s1 q => ?_)
  cases f with
  | next => exact wpAny_execs_nil q
  | ret v => exact q
  | brk => exact q
  | cont => exact q
theorem Inv.quiet {pins : List (Addr × Obj)} {σ : St} {H : Hp} {s : Shared} (I : Inv X pins σ H s) : interactive X.env = false := by simp [interactive, I.ok.kind]
def tDrop (te : TE) : TS := fun D σ H => te σ H fun _ H1 => D.nx σ H1
theorem ps_expr (he : PE X e te) (hs : swapsWith e none pos.line X.env = pure false := by rfl) : PS X (.Expr e pos) (tDrop te) := by
  intro pins s σ H D I h
  exact wpAny_Expr_any (thn (he pins s σ H _ I h) fun v s1 ⟨x, H1, I1, r1, q1⟩ => ⟨σ, H1, I1, q1⟩) I.quiet hs
def tRet (te : TE) : TS := fun D σ H => te σ H D.rt
theorem ps_ret (he : PE X e te) : PS X (.Return (some e) pos) (tRet te) := by
  intro pins s σ H D I h
  exact wpAny_Return_some (thn (he pins s σ H _ I h) fun v s1 ⟨x, H1, I1, r1, q1⟩ => ⟨x, σ, H1, I1, r1, q1⟩)
def tIfS (c : TT) (t u : TS) : TS := fun D σ H => c σ H fun b H1 => if b = true then t D σ H1 else u D σ H1
theorem ps_if {c : Expr} {a b : List Stmt} {tc : TT} (hc : PT X c tc) (ha : PSs X a t) (hb : PSs X b u) : PS X (.If c a b pos) (tIfS tc t u) := by
  intro pins s σ H D I h
  refine wpAny_If (thn (hc pins s σ H _ I h) fun d s1 ⟨H1, I1, q1⟩ => ?_)
  cases d with
  | true => exact ha pins s1 σ H1 D I1 q1
  | false => exact hb pins s1 σ H1 D I1 q1
end
abbrev TG := V → St → Hp → (St → Hp → Prop) → Prop
abbrev TGs := List V → St → Hp → (St → Hp → Prop) → Prop
def PG (X : Cx) (target : Expr) (t : TG) : Prop :=
  ∀ (pins : List (Addr × Obj)) (s : Shared) (σ : St) (H : Hp) (v : V) (u : Value) (Q : St → Hp → Prop), Inv X pins σ H s → RelV v u → t v σ H Q →
    wpAny (model X.prog X.w) X.A (assign target X.env u) (fun _ s' => ∃ σ' H', Inv X pins σ' H' s' ∧ Q σ' H') X.xe s
def PGs (X : Cx) (ts : List Expr) (t : TGs) : Prop :=
  ∀ (pins : List (Addr × Obj)) (s : Shared) (σ : St) (H : Hp) (vs : List V) (us : List Value) (Q : St → Hp → Prop), Inv X pins σ H s → Vals vs us → t vs σ H Q →
    wpAny (model X.prog X.w) X.A (assignInOrder ((assignEach ts X.env).map (·.2)) us) (fun _ s' => ∃ σ' H', Inv X pins σ' H' s' ∧ Q σ' H') X.xe s
abbrev TSet := V → V → V → Hp → (Hp → Prop) → Prop
def PSet (X : Cx) (t : TSet) : Prop :=
  ∀ (pins : List (Addr × Obj)) (s : Shared) (σ : St) (H : Hp) (o i v : V) (ov iv u : Value) (Q : Hp → Prop), Inv X pins σ H s → RelV o ov → RelV i iv → RelV v u → t o i v H Q →
    wpAny (model X.prog X.w) X.A (setItem ov iv u) (fun _ s' => ∃ H', Inv X pins σ H' s' ∧ Q H') X.xe s
section
variable {X : Cx} {pos : Pos}
def gName (i : Nat) : TG := fun v σ H Q => Q (σ.set i (some v)) H
theorem pg_name {i : Nat} {x : Str} (hN : X.N.Nodup) (hi : X.N[i]? = some x) (hx : Loc X.env.scope x) (hf : X.fn x = true ∨ X.env.scope.names.lookup x = some .local := by first | exact .inl rfl | exact .inr rfl | assumption) : PG X (.Name x pos) (gName i) := by
  intro pins s σ H v u Q I r h
  exact wpAny_assign_Name (store_ok I hN hi hx r (fun s' I' => ⟨_, H, I', h⟩) hf)
def gNil : TGs := fun vs σ H Q => vs = [] ∧ Q σ H
def gCons (t : TG) (u : TGs) : TGs := fun vs σ H Q => ∃ v r, vs = v :: r ∧ t v σ H fun σ' H' => u r σ' H' Q
theorem pgs_nil : PGs X [] gNil := by
  intro pins s σ H vs us Q I r h
  obtain ⟨e, h⟩ := h
  subst e
  cases r
  exact assignInOrder_nil ⟨σ, H, I, h⟩
theorem pgs_cons {e : Expr} {es : List Expr} {t : TG} {u : TGs} (h1 : PG X e t) (h2 : PGs X es u)
    (hs : (assignEach (e :: es) X.env).map (·.2) = assign e X.env :: (assignEach es X.env).map (·.2) := by rfl) : PGs X (e :: es) (gCons t u) := by
  intro pins s σ H vs us Q I r h
  obtain ⟨v, vr, e1, h⟩ := h
  subst e1
  cases r with
  | cons r rr =>
    rw [hs]
    refine assignInOrder_cons (thn (h1 pins s σ H _ _ _ I r h) fun _ s1 ⟨σ1, H1, I1, q1⟩ => ?_)
    exact h2 pins s1 σ1 H1 _ _ Q I1 rr q1
def gTup (K : PySem.W.Frag) (n : Nat) (t : TGs) : TG := fun v σ H Q => ∃ a xs, v = .ref a ∧ SqT K H a xs ∧ xs.length = n ∧ t xs σ H Q
theorem pg_tup {es : List Expr} {k : Nat} {t : TGs} {n : Nat} (hc : X.calm = true) (h : PGs X es t)
    (hn : (assignEach es X.env).length = n := by rfl) (hst : (assignEach es X.env).findIdx? (·.1) = none := by rfl) : PG X (.Tuple es k pos) (gTup X.K n t) := by
  intro pins s σ H v u Q I r hw
  obtain ⟨a, xs, e1, hq, hl, hw⟩ := hw
  subst e1
  cases r
  obtain ⟨its, rv, ht, hz⟩ := I.tuple hq
  refine assign_Tuple_tuple (I.ok.hd hc) ht (by simp [hn, ← hl, rv.length]) hst fun h' hx => ?_
  have I1 : Inv X pins σ H { s with heap := h' } := I.kept (t' := s.toks) fun b o e => hx b o (Nat.ne_of_lt (Heap.lt_size e)) e
  exact h pins _ σ H xs _ Q I1 (by simpa using rv) hw
def gSub (to ti : TE) (t : TSet) : TG := fun v σ H Q => to σ H fun o H1 => ti σ H1 fun i H2 => t o i v H2 fun H3 => Q σ H3
theorem pg_sub {o i : Expr} {to ti : TE} {t : TSet} (ho : PE X o to) (hi : PE X i ti) (hs : PSet X t)
    (ha : ∀ v, assign (.Subscript o i pos) X.env v = (do
      let ov ← holding [v] (eval o X.env)
      let iv ← holding [v, ov] (eval i X.env)
      standAt pos
      holding [v, ov, iv] (setItem ov iv v)
      release [v, ov, iv] []) := by intro _; rfl) : PG X (.Subscript o i pos) (gSub to ti t) := by
  intro pins s σ H v u Q I r h
  rw [ha]
  refine wpAny_bind (wpAny_holding (thn (ho pins s σ H _ I h) fun ov s1 ⟨x, H1, I1, r1, q1⟩ => ?_))
  refine wpAny_bind (wpAny_holding (thn (hi pins s1 σ H1 _ I1 q1) fun iv s2 ⟨y, H2, I2, r2, q2⟩ => ?_))
  refine wpAny_bind (wpAny_standAt (wpAny_bind (wpAny_holding (thn (hs pins s2 σ H2 x y v ov iv u _ I2 r1 r2 r q2) fun _ s3 ⟨H3, I3, q3⟩ => ?_))))
  exact wpAny_release ⟨σ, H3, I3, q3⟩
def tAsg (te : TE) (g : TG) : TS := fun D σ H => te σ H fun x H1 => g x σ H1 D.nx
theorem ps_asg {tg e : Expr} {te : TE} {g : TG} (he : PE X e te) (hg : PG X tg g) (hs : swapsWithSole [tg] e pos.line X.env = pure false := by rfl) (hw : swappedStores [tg] e X.env = pure none := by rfl)
    (h1 : (assignEach [tg] X.env).map (·.2) = [assign tg X.env] := by rfl) : PS X (.Assign [tg] e pos) (tAsg te g) := by
  intro pins s σ H D I h
  refine wpAny_Assign_stores (thn (he pins s σ H _ I h) fun v s1 ⟨x, H1, I1, r1, q1⟩ => ?_) hs hw
  rw [h1]
  exact thn (hg pins s1 σ H1 x v _ I1 r1 q1) fun _ s2 q => q
theorem ps_set {i : Nat} {x : Str} {e : Expr} {te : TE} {pos' : Pos} (hN : X.N.Nodup) (hi : X.N[i]? = some x) (hx : Loc X.env.scope x) (he : PE X e te) (hs : swapsWith e (some (.Name x pos')) pos.line X.env = pure false := by rfl) (hf : X.fn x = true ∨ X.env.scope.names.lookup x = some .local := by first | exact .inl rfl | exact .inr rfl | assumption) :
    PS X (.Assign [.Name x pos'] e pos) (tAsg te (gName i)) := by
  intro pins s σ H D I h
  refine wpAny_Assign_Name (thn (he pins s σ H _ I h) fun v s1 ⟨y, H1, I1, r1, q1⟩ => ?_) hs
  exact store_ok I1 hN hi hx r1 (fun s2 I2 => ⟨_, H1, I2, q1⟩) hf
end
section
variable {X : Cx} {pos : Pos}
def tWhile (c : TT) (tb : TS) : TS := fun D σ H => ∃ W : Nat → St → Hp → Prop, (∃ m, W m σ H) ∧ ∀ m σ H, W m σ H →
  c σ H fun b H1 => if b = true then ∃ N : St → Hp → Prop, (∀ σ' H', N σ' H' → ∃ m', m' < m ∧ W m' σ' H') ∧ tb { D with nx := N, ct := N, bk := D.nx } σ H1 else D.nx σ H1
theorem ps_while {c : Expr} {body : List Stmt} {tc : TT} {tb : TS} (hp : PassesOwn (model X.prog X.w) X.A X.env X.xe) (hc : PT X c tc) (hb : PSs X body tb) : PS X (.While c body [] pos) (tWhile tc tb) := by
  intro pins s σ H D I h
  obtain ⟨W, ⟨m0, w0⟩, turn⟩ := h
  refine wpAny_While (codeAny_whileLoop (fun n s' => ∃ σ' H', Inv X pins σ' H' s' ∧ W n σ' H') ?_ m0 ⟨σ, H, I, w0⟩)
  rintro n s1 ⟨σ1, H1, I1, w1⟩
  refine wpAny_passesOwn hp (thn (hc pins s1 σ1 H1 _ I1 (turn n σ1 H1 w1)) fun b s2 ⟨H2, I2, q2⟩ => ?_)
  cases b with
  | true =>
    obtain ⟨N, hN, q2⟩ := q2
    rw [if_pos rfl]
    refine wpAny_passesOwn hp (thn (hb pins s2 σ1 H2 _ I2 q2) fun f s3 q3 => ?_)
    cases f with
    | next =>
      obtain ⟨σ3, H3, I3, n3⟩ := q3
      obtain ⟨m', hm, w3⟩ := hN σ3 H3 n3
      exact ⟨m', hm, σ3, H3, I3, w3⟩
    | cont =>
      obtain ⟨σ3, H3, I3, n3⟩ := q3
      obtain ⟨m', hm, w3⟩ := hN σ3 H3 n3
      exact ⟨m', hm, σ3, H3, I3, w3⟩
    | brk => exact q3
    | ret v => exact q3
  | false =>
    rw [if_neg Bool.false_ne_true]
    exact wpAny_execs_nil ⟨σ1, H2, I2, q2⟩
end
structure It where
  go : Nat → Hp → Prop
  yld : Nat → Hp → V → Hp → Prop
  stop : Nat → Hp → Prop
def FpOk (X : Cx) (pins : List (Addr × Obj)) (H : Hp) (b : Addr) : Prop :=
  H b = none ∧ b ≠ X.env.locals ∧ b ∉ X.fs ∧ (b ∈ X.ex ∨ X.s₀.heap.objs.size ≤ b) ∧ (∀ x c, X.env.cells.lookup x = some c → c ≠ b) ∧ ∀ p ∈ X.pn ++ pins, p.1 ≠ b
theorem Inv.fpOk {X : Cx} {pins : List (Addr × Obj)} {σ : St} {H H' : Hp} {s : Shared} {b : Addr} (I : Inv X pins σ H s) (hb : s.heap.objs.size ≤ b) (hn : H' b = none) : FpOk X pins H' b := by
  refine ⟨hn, Nat.ne_of_gt (Nat.lt_of_lt_of_le I.lt hb), I.nofs hb, .inr (Nat.le_trans I.sz hb), fun x c e z => ?_, fun p hp z => ?_⟩
  · obtain ⟨v, q⟩ := I.cell x c e
    exact absurd (Nat.lt_of_lt_of_le q.lt (by rw [z]; exact hb)) (Nat.lt_irrefl _)
  · exact absurd (Nat.lt_of_lt_of_le (Heap.lt_size (I.pin p hp).1) (by rw [z]; exact hb)) (Nat.lt_irrefl _)
structure Turn (P : Program) (w : World) (K : PySem.W.Frag) (tg : Expr) (J : It) (fp : List Addr) (it : Addr) (tn : Nat → Heap → Prop) : Prop where
  mem : it ∈ fp
  obj : ∀ i h, tn i h → ∀ b ∈ fp, ∃ o, h.get? b = some o ∧ ∀ v, o.data ≠ .cell v
  keep : ∀ i h h', tn i h → (∀ b ∈ fp, ∀ o, h.get? b = some o → h'.get? b = some o) → tn i h'
  item : ∀ (X : Cx), X.prog = P → X.w = w → X.K = K → X.calm = true → ∀ (i : Nat) (pins : List (Addr × Obj)) (s : Shared) (σ : St) (H : Hp) (E : Value → Shared → Prop), Inv X pins σ H s → (∀ b ∈ fp, FpOk X pins H b) → tn i s.heap → J.go i H →
    wpAny (model P w) X.A (pyNext (.ref it)) (fun r s1 => ∃ u, r = some u ∧
      wpAny (model P w) X.A (letOwnedTupleGo tg (.ref it) u) (fun _ s2 => ∃ x H', Inv X pins σ H' s2 ∧ RelV x u ∧ J.yld i H x H' ∧ tn (i + 1) s2.heap ∧ ∀ b ∈ fp, H' b = none) E s1) E s
  done : ∀ (X : Cx), X.prog = P → X.w = w → X.K = K → X.calm = true → ∀ (i : Nat) (pins : List (Addr × Obj)) (s : Shared) (σ : St) (H : Hp) (E : Value → Shared → Prop), Inv X pins σ H s → (∀ b ∈ fp, FpOk X pins H b) → tn i s.heap → J.stop i H →
    wpAny (model P w) X.A (pyNext (.ref it)) (fun r s1 => r = none ∧ Inv X pins σ H s1) E s
  self : ∀ (A : Around) (i : Nat) (s : Shared) (Q : Value → Shared → Prop) (E : Value → Shared → Prop), tn i s.heap → Q (.ref it) s → wpAny (model P w) A (pyIter (.ref it)) Q E s
abbrev TI := St → Hp → (It → Hp → Prop) → Prop
def PIE (X : Cx) (pins : List (Addr × Obj)) (σ : St) (tg : Expr) (R : It → Hp → Prop) (itv : Value) (s2 : Shared) : Prop :=
  ∃ (it : Addr) (fp : List Addr) (tn : Nat → Heap → Prop) (J : It) (H' : Hp), itv = .ref it ∧ Inv X pins σ H' s2 ∧ Turn X.prog X.w X.K tg J fp it tn ∧ tn 0 s2.heap ∧ (∀ b ∈ fp, FpOk X pins H' b) ∧ R J H'
def PI (X : Cx) (tg iter : Expr) (wi : TI) : Prop :=
  ∀ (pins : List (Addr × Obj)) (s : Shared) (σ : St) (H : Hp) (R : It → Hp → Prop), Inv X pins σ H s → wi σ H R →
    wpAny (model X.prog X.w) X.A (eval iter X.env) (fun v s1 => wpAny (model X.prog X.w) X.A (pyIter v) (PIE X pins σ tg R) X.xe s1) X.xe s
theorem go_of {M : Model} {A : Around} {E : Value → Shared → Prop} {s : Shared} {tg : Expr} {it : Addr} {u : Value} {o : Obj} {n : String} {vs : Array Value} {Q : Unit → Shared → Prop} (ho : s.heap.get? it = some o) (hc : o.cls = .type n) (hd : o.data = .fields vs)
    (hn : ["enumerate", "zip", "dict_itemiterator", "dict_reverseitemiterator", "odict_iterator", "itertools.zip_longest", "itertools.pairwise"].contains n = false) (hQ : Q () s) : wpAny M A (letOwnedTupleGo tg (.ref it) u) Q E s := by
  unfold letOwnedTupleGo
  cases tg <;> first
    | exact wpAny_pure hQ
    | (cases u <;> first
        | exact wpAny_pure hQ
        | (refine wpAny_bind (wpAny_load ho ?_)
           rw [hc, hd]
           show wpAny M A (if (["enumerate", "zip", "dict_itemiterator", "dict_reverseitemiterator", "odict_iterator", "itertools.zip_longest", "itertools.pairwise"].contains n && vs[0]? == some (rawInt _)) = true then _ else _) Q E s
           rw [if_neg (by intro h; rw [hn, Bool.false_and] at h; cases h)]
           exact wpAny_pure hQ))
def Itl (K : PySem.W.Frag) (a : Addr) : It :=
  ⟨fun i H => ∃ xs x, SqL K H a xs ∧ xs[i]? = some x, fun i H x H' => H' = H ∧ ∀ xs, SqL K H a xs → xs[i]? = some x, fun i H => ∃ xs, SqL K H a xs ∧ xs.length ≤ i⟩
def Itt (K : PySem.W.Frag) (a : Addr) : It :=
  ⟨fun i H => ∃ xs x, SqT K H a xs ∧ xs[i]? = some x, fun i H x H' => H' = H ∧ ∀ xs, SqT K H a xs → xs[i]? = some x, fun i H => ∃ xs, SqT K H a xs ∧ xs.length ≤ i⟩
def Itr (lo : Int) (n : Nat) : It := ⟨fun i _ => i < n, fun i H x H' => H' = H ∧ x = .int (lo + i), fun i _ => n ≤ i⟩
theorem turn_list {P : Program} {w : World} {K : PySem.W.Frag} {tg : Expr} (a it : Addr) : Turn P w K tg (Itl K a) [it] it (fun i h => h.IsListIter it a i) where
  mem := by simp
  obj := fun i h st b hb => by
    have e : b = it := by simpa using hb
    subst e
    obtain ⟨o, e, c, d⟩ := st
    exact ⟨o, e, fun v z => by rw [d] at z; cases z⟩
  keep := fun i h h' st k => st.at fun o e => k it (by simp) o e
  item := by
    intro X hP hw hK hc i pins s σ H E I hf st hg
    subst hP hw hK
    obtain ⟨xs, x, hq, hx⟩ := hg
    obtain ⟨its, rv, p, hz⟩ := I.list hq
    obtain ⟨u, hu, ru⟩ := rv.get hx
    obtain ⟨f0, f1, f2, f3, f4, f5⟩ := hf it (by simp)
    refine wpAny_pyNext_list_item st p.isList (x := u) (by simpa using hu) fun h' st' sb => ?_
    have I1 : Inv X pins σ H { s with heap := h' } := I.turned (t' := s.toks) (fun b o hb e => (sb.2 b hb).trans e) f0 f1 f3 f4 f5
    obtain ⟨o, e, c, d⟩ := id st'
    exact ⟨u, rfl, go_of (s := { s with heap := h' }) e c d (by decide) ⟨x, H, I1, ru, ⟨rfl, fun ys hy => by rw [I.list_inj hy hq]; exact hx⟩, st', fun b hb => (hf b hb).1⟩⟩
  done := by
    intro X hP hw hK hc i pins s σ H E I hf st hg
    subst hP hw hK
    obtain ⟨xs, hq, hx⟩ := hg
    obtain ⟨its, rv, p, hz⟩ := I.list hq
    obtain ⟨f0, f1, f2, f3, f4, f5⟩ := hf it (by simp)
    have hl := rv.length
    exact wpAny_pyNext_list_end (I.ok.hd hc) st p.isList (by simp; omega) fun h' eb => ⟨rfl, I.turned (t' := s.toks) (fun b o hb e => eb b o hb e) f0 f1 f3 f4 f5⟩
  self := fun _ _ _ _ _ st h => wpAny_pyIter_listiter st h
theorem turn_tuple {P : Program} {w : World} {K : PySem.W.Frag} {tg : Expr} (a it : Addr) : Turn P w K tg (Itt K a) [it] it (fun i h => h.IsTupleIter it a i) where
  mem := by simp
  obj := fun i h st b hb => by
    have e : b = it := by simpa using hb
    subst e
    obtain ⟨o, e, c, d⟩ := st
    exact ⟨o, e, fun v z => by rw [d] at z; cases z⟩
  keep := fun i h h' st k => st.at fun o e => k it (by simp) o e
  item := by
    intro X hP hw hK hc i pins s σ H E I hf st hg
    subst hP hw hK
    obtain ⟨xs, x, hq, hx⟩ := hg
    obtain ⟨its, rv, p, hz⟩ := I.tuple hq
    obtain ⟨u, hu, ru⟩ := rv.get hx
    obtain ⟨f0, f1, f2, f3, f4, f5⟩ := hf it (by simp)
    refine wpAny_pyNext_tuple_item st (show s.heap.IsTuple a its.toArray from p) (x := u) (by simpa using hu) fun h' st' sb => ?_
    have I1 : Inv X pins σ H { s with heap := h' } := I.turned (t' := s.toks) (fun b o hb e => (sb.2 b hb).trans e) f0 f1 f3 f4 f5
    obtain ⟨o, e, c, d⟩ := id st'
    exact ⟨u, rfl, go_of (s := { s with heap := h' }) e c d (by decide) ⟨x, H, I1, ru, ⟨rfl, fun ys hy => by rw [I.tuple_inj hy hq]; exact hx⟩, st', fun b hb => (hf b hb).1⟩⟩
  done := by
    intro X hP hw hK hc i pins s σ H E I hf st hg
    subst hP hw hK
    obtain ⟨xs, hq, hx⟩ := hg
    obtain ⟨its, rv, p, hz⟩ := I.tuple hq
    obtain ⟨f0, f1, f2, f3, f4, f5⟩ := hf it (by simp)
    have hl := rv.length
    exact wpAny_pyNext_tuple_end (I.ok.hd hc) st (show s.heap.IsTuple a its.toArray from p) (by simp; omega) fun h' eb => ⟨rfl, I.turned (t' := s.toks) (fun b o hb e => eb b o hb e) f0 f1 f3 f4 f5⟩
  self := fun _ _ _ _ _ st h => wpAny_pyIter_tupleiter st h
theorem turn_range {P : Program} {w : World} {K : PySem.W.Frag} {tg : Expr} (it : Addr) (lo : Int) (n : Nat) : Turn P w K tg (Itr lo n) [it] it (fun i h => IsRangeIter h it (lo + (i : Nat) * 1) ((n : Int) - (i : Nat)) 1) where
  mem := by simp
  obj := fun i h st b hb => by
    have e : b = it := by simpa using hb
    subst e
    exact ⟨_, st, fun v z => by
      have z' : Data.fields _ = Data.cell v := z
      cases z'⟩
  keep := fun i h h' st k => k it (by simp) _ st
  item := by
    intro X hP hw hK hc i pins s σ H E I hf st hg
    subst hP hw hK
    obtain ⟨f0, f1, f2, f3, f4, f5⟩ := hf it (by simp)
    have W := Walks.range (prog := X.prog) (w := X.w) (I.ok.hd hc) it lo 1 n
    refine W.item i s _ _ hg st fun v h' tk hv st' kk => ?_
    obtain ⟨t, rfl⟩ := hv
    have I1 : Inv X pins σ H { s with heap := h', toks := tk } := I.turned (fun b o hb e => kk b o (by simpa using hb) e) f0 f1 f3 f4 f5
    refine ⟨_, rfl, go_of (s := { s with heap := h', toks := tk }) (n := "range_iterator") st' rfl rfl (by decide) ⟨.int (lo + i), H, I1, ⟨t, ?_⟩, ⟨rfl, rfl⟩, st', fun b hb => (hf b hb).1⟩⟩
    rw [Int.mul_one]
  done := by
    intro X hP hw hK hc i pins s σ H E I hf st hg
    subst hP hw hK
    obtain ⟨f0, f1, f2, f3, f4, f5⟩ := hf it (by simp)
    exact wpAny_pyNext_range_end (I.ok.hd hc) st (by have : n ≤ i := hg; omega) fun h' eb => ⟨rfl, I.turned (t' := s.toks) (fun b o hb e => eb b o hb e) f0 f1 f3 f4 f5⟩
  self := fun _ _ _ _ _ st h => wpAny_pyIter_rangeiter st h
end L2
namespace L2
open PySem PySem.Spec PyProof.Rows
section
variable {X : Cx} {tg : Expr}
def iList (K : PySem.W.Frag) (tl : TE) : TI := fun σ H R => tl σ H fun x H1 => ∃ a, x = .ref a ∧ (∃ xs, SqL K H1 a xs) ∧ R (Itl K a) H1
def iTup (K : PySem.W.Frag) (tl : TE) : TI := fun σ H R => tl σ H fun x H1 => ∃ a, x = .ref a ∧ (∃ xs, SqT K H1 a xs) ∧ R (Itt K a) H1
theorem pi_list {l : Expr} {tl : TE} (hl : PE X l tl) : PI X tg l (iList X.K tl) := by
  intro pins s σ H R I h
  refine thn (hl pins s σ H _ I h) fun v s1 ⟨x, H1, I1, r1, q1⟩ => ?_
  obtain ⟨a, e, ⟨xs, hq⟩, q⟩ := q1
  subst e
  cases r1
  obtain ⟨its, rv, p, hz⟩ := I1.list hq
  refine wpAny_pyIter_list p.isList ?_
  refine ⟨s1.heap.objs.size, [s1.heap.objs.size], _, _, H1, rfl, I1.kept (t' := s1.toks) fun b o e => Heap.get?_push_of_some _ e, turn_list a _, ⟨_, Heap.get?_push_size _ rfl, rfl, rfl⟩, fun b hb => ?_, q⟩
  have e : b = s1.heap.objs.size := by simpa using hb
  subst e
  exact I1.fpOk (Nat.le_refl _) (I1.hok.fresh (Nat.le_refl _))
theorem pi_tup {l : Expr} {tl : TE} (hl : PE X l tl) : PI X tg l (iTup X.K tl) := by
  intro pins s σ H R I h
  refine thn (hl pins s σ H _ I h) fun v s1 ⟨x, H1, I1, r1, q1⟩ => ?_
  obtain ⟨a, e, ⟨xs, hq⟩, q⟩ := q1
  subst e
  cases r1
  obtain ⟨its, rv, p, hz⟩ := I1.tuple hq
  refine wpAny_pyIter_tuple (show s1.heap.IsTuple a its.toArray from p) ?_
  refine ⟨s1.heap.objs.size, [s1.heap.objs.size], _, _, H1, rfl, I1.kept (t' := s1.toks) fun b o e => Heap.get?_push_of_some _ e, turn_tuple a _, ⟨_, Heap.get?_push_size _ rfl, rfl, rfl⟩, fun b hb => ?_, q⟩
  have e : b = s1.heap.objs.size := by simpa using hb
  subst e
  exact I1.fpOk (Nat.le_refl _) (I1.hok.fresh (Nat.le_refl _))
theorem range_it {pins : List (Addr × Obj)} {σ : St} {H : Hp} {s : Shared} {R : It → Hp → Prop} {E : Value → Shared → Prop} {lo hi : Int} {t u v : Tok} {tk : Nat} (I : Inv X pins σ H s) (h1 : -(2 ^ 62) ≤ lo) (h2 : lo < 2 ^ 62) (h3 : -(2 ^ 62) ≤ hi) (h4 : hi < 2 ^ 62)
    (q : R (Itr lo (hi - lo).toNat) H) : wpAny (model X.prog X.w) X.A (pyIter (.ref s.heap.objs.size)) (PIE X pins σ tg R) E { s with heap := s.heap.push { cls := .type "range", data := .fields #[.int lo t, .int hi u, .int 1 v] }, toks := tk } := by
  refine wpAny_pyIter_range (IsRange.new ..) (small_one h1 h2 h3 h4) ?_
  have I1 : Inv X pins σ H { s with heap := s.heap.push { cls := .type "range", data := .fields #[.int lo t, .int hi u, .int 1 v] }, toks := tk } := I.kept fun b o e => Heap.get?_push_of_some _ e
  refine ⟨(s.heap.push { cls := .type "range", data := .fields #[.int lo t, .int hi u, .int 1 v] }).objs.size, [(s.heap.push { cls := .type "range", data := .fields #[.int lo t, .int hi u, .int 1 v] }).objs.size], _, _, H, rfl,
    I1.kept (t' := tk) fun b o e => Heap.get?_push_of_some _ e, turn_range _ lo (hi - lo).toNat, ?_, fun b hb => ?_, q⟩
  · have e1 : lo + ((0 : Nat) : Int) * 1 = lo := by simp
    have e2 : (((hi - lo).toNat : Nat) : Int) - ((0 : Nat) : Int) = Builtin.Range.rangeSize lo hi 1 := by rw [rangeSize_one]; split <;> omega
    show IsRangeIter _ _ (lo + ((0 : Nat) : Int) * 1) ((((hi - lo).toNat : Nat) : Int) - ((0 : Nat) : Int)) 1
    rw [e1, e2]
    exact Heap.get?_push_size _ rfl
  · have e : b = (s.heap.push { cls := .type "range", data := .fields #[.int lo t, .int hi u, .int 1 v] }).objs.size := by simpa using hb
    subst e
    exact I1.fpOk (Nat.le_refl _) (I1.hok.fresh (Nat.le_refl _))
def iRng1 (ta : TA) : TI := fun σ H R => ta σ H fun vs H1 => ∃ j : Int, vs = [.int j] ∧ -(2 ^ 62) ≤ j ∧ j < 2 ^ 62 ∧ R (Itr 0 j.toNat) H1
theorem pi_range1 {a : Expr} {ta : TA} {p pos : Pos} (hg : Gl X "range") (hm : X.mg "range" = none) (ha : PA X [a] ta) (hs : starEach [a] X.env = [(false, eval a X.env)] := by rfl) : PI X tg (.Call (.Name "range" p) [a] [] pos) (iRng1 ta) := by
  intro pins s σ H R I h
  refine Call_ (ld_blt I hg hm boot_range (PyProof.Rows.callWith_type1 (thn (ha pos pins s σ H _ I h) fun us s1 ⟨vs, H1, I1, r1, q1⟩ => ?_) hs rfl))
  obtain ⟨j, e, q1, q2, q⟩ := q1
  subst e
  cases r1 with
  | cons r rr =>
    cases rr
    obtain ⟨t, rfl⟩ := r
    exact call_range_1 (range_it I1 (by omega) (by omega) q1 q2 (by simpa using q))
def tFor (wi : TI) (g : TG) (tb : TS) : TS := fun D σ H => wi σ H fun J H1 => ∃ W : Nat → Nat → St → Hp → Prop, (∃ m, W 0 m σ H1) ∧ ∀ i m σ H, W i m σ H →
  (J.stop i H ∧ D.nx σ H) ∨ (J.go i H ∧ ∃ N : St → Hp → Prop, (∀ σ' H', N σ' H' → ∃ m', m' < m ∧ W (i + 1) m' σ' H') ∧ ∀ x H', J.yld i H x H' → g x σ H' fun σ2 H2 => tb { D with nx := N, ct := N, bk := D.nx } σ2 H2)
def pinsAt (fp : List Addr) (h : Heap) : List (Addr × Obj) := fp.filterMap fun b => (h.get? b).map fun o => (b, o)
theorem mem_pinsAt {fp : List Addr} {h : Heap} {b : Addr} {o : Obj} (hb : b ∈ fp) (e : h.get? b = some o) : (b, o) ∈ pinsAt fp h := List.mem_filterMap.mpr ⟨b, hb, by rw [e]; rfl⟩
theorem of_pinsAt {fp : List Addr} {h : Heap} {p : Addr × Obj} (hp : p ∈ pinsAt fp h) : p.1 ∈ fp ∧ h.get? p.1 = some p.2 := by
  obtain ⟨b, hb, e⟩ := List.mem_filterMap.mp hp
  cases q : h.get? b with
  | none => rw [q] at e; cases e
  | some o =>
    rw [q] at e
    have e' : (b, o) = p := Option.some.inj e
    subst e'
    exact ⟨hb, q⟩
theorem Inv.pinned {pins : List (Addr × Obj)} {σ : St} {H : Hp} {s : Shared} {fp : List Addr} (I : Inv X pins σ H s) (hf : ∀ b ∈ fp, FpOk X pins H b) (ho : ∀ b ∈ fp, ∃ o, s.heap.get? b = some o ∧ ∀ v, o.data ≠ .cell v) : Inv X (pins ++ pinsAt fp s.heap) σ H s :=
  I.pins_of fun p hp => (List.mem_append.mp hp).elim (fun z => I.pin p (List.mem_append_right _ z)) fun z => by
    obtain ⟨hb, e⟩ := of_pinsAt z
    obtain ⟨f0, f1, f2, _⟩ := hf p.1 hb
    obtain ⟨o, e', d⟩ := ho p.1 hb
    rw [e] at e'; cases e'
    exact ⟨e, f0, f1, f2, d⟩
theorem Inv.unpinned {pins pl : List (Addr × Obj)} {σ : St} {H : Hp} {s : Shared} (I : Inv X (pins ++ pl) σ H s) : Inv X pins σ H s := I.pins_of fun p hp => I.pin p (List.mem_append_right _ (List.mem_append_left _ hp))
theorem ps_for {iter : Expr} {body : List Stmt} {wi : TI} {g : TG} {tb : TS} {pos : Pos} (hp : PassesOwn (model X.prog X.w) X.A X.env X.xe) (hc : X.calm = true) (hi : PI X tg iter wi) (hg : PG X tg g) (hb : PSs X body tb)
    (hs : ∀ x, foldedSetIterable iter X.env x = pure x := by intro _; rfl) : PS X (.For tg iter body [] pos) (tFor wi g tb) := by
  intro pins s σ H D I h
  refine wpAny_For (thn (hi pins s σ H _ I h) fun v s1 h1 => thn h1 fun itv s2 h2 => ?_) hs
  obtain ⟨it, fp, tn, J, H2, e, I2, T, st2, f2, W, ⟨m0, w0⟩, turn⟩ := h2
  subst e
  have stat : ∀ {H' : Hp}, (∀ b ∈ fp, H' b = none) → ∀ b ∈ fp, FpOk X pins H' b := fun hn b hb => ⟨hn b hb, (f2 b hb).2⟩
  refine codeAny_forLoop_any (fun n s' => ∃ i σ' H', Inv X pins σ' H' s' ∧ tn i s'.heap ∧ (∀ b ∈ fp, H' b = none) ∧ W i n σ' H') ?_ m0 ⟨0, σ, H2, I2, st2, fun b hb => (f2 b hb).1, w0⟩
  rintro n s3 ⟨i, σ3, H3, I3, st3, fr3, w3⟩
  rcases turn i n σ3 H3 w3 with ⟨stop, qn⟩ | ⟨go, N, hN, step⟩
  · refine wpAny_passesOwn hp (thn (T.done X rfl rfl rfl hc i pins s3 σ3 H3 X.xe I3 (stat fr3) st3 stop) fun r s4 ⟨hr, I4⟩ => ?_)
    subst hr
    exact wpAny_execs_nil ⟨σ3, H3, I4, qn⟩
  · refine wpAny_passesOwn hp (thn (T.item X rfl rfl rfl hc i pins s3 σ3 H3 X.xe I3 (stat fr3) st3 go) fun r s4 ⟨u, hr, h4⟩ => ?_)
    subst hr
    refine wpAny_passesOwn hp (thn h4 fun _ s5 ⟨x, H5, I5, r5, y5, st5, fr5⟩ => ?_)
    have I5' := I5.pinned (stat fr5) (T.obj _ _ st5)
    refine wpAny_passesOwn hp (thn (hg _ s5 σ3 H5 x u _ I5' r5 (step x H5 y5)) fun _ s6 ⟨σ6, H6, I6, q6⟩ => ?_)
    refine wpAny_passesOwn hp (thn (hb _ s6 σ6 H6 _ I6 q6) fun f s7 q7 => ?_)
    have again : ∀ {σ7 : St} {H7 : Hp}, Inv X (pins ++ pinsAt fp s5.heap) σ7 H7 s7 → N σ7 H7 → ∃ m, m < n ∧ ∃ i σ' H', Inv X pins σ' H' s7 ∧ tn i s7.heap ∧ (∀ b ∈ fp, H' b = none) ∧ W i m σ' H' := fun {σ7 H7} I7 n7 => by
      obtain ⟨m', hm, w7⟩ := hN σ7 H7 n7
      refine ⟨m', hm, i + 1, σ7, H7, I7.unpinned, T.keep _ _ _ st5 fun b hb o e => (I7.pin (b, o) (List.mem_append_right _ (List.mem_append_right _ (mem_pinsAt hb e)))).1, fun b hb => ?_, w7⟩
      obtain ⟨o, e, d⟩ := T.obj _ _ st5 b hb
      exact (I7.pin (b, o) (List.mem_append_right _ (List.mem_append_right _ (mem_pinsAt hb e)))).2.1
    cases f with
    | next => obtain ⟨σ7, H7, I7, n7⟩ := q7; exact again I7 n7
    | cont => obtain ⟨σ7, H7, I7, n7⟩ := q7; exact again I7 n7
    | brk => obtain ⟨σ7, H7, I7, q7⟩ := q7; exact ⟨σ7, H7, I7.unpinned, q7⟩
    | ret v => obtain ⟨x7, σ7, H7, I7, r7, q7⟩ := q7; exact ⟨x7, σ7, H7, I7.unpinned, r7, q7⟩
end
theorem for_list {K : PySem.W.Frag} {a : Addr} {xs : List V} {g : TG} {tb : TS} {D : Ends} {σ : St} {H : Hp} (Pv : Nat → St → Hp → Prop) (h0 : Pv 0 σ H) (hl : ∀ i σ H, i ≤ xs.length → Pv i σ H → SqL K H a xs)
    (hs : ∀ i x σ H, xs[i]? = some x → Pv i σ H → g x σ H fun σ2 H2 => tb { D with nx := Pv (i + 1), ct := Pv (i + 1), bk := D.nx } σ2 H2) (hd : ∀ σ H, Pv xs.length σ H → D.nx σ H) :
    ∃ W : Nat → Nat → St → Hp → Prop, (∃ m, W 0 m σ H) ∧ ∀ i m σ H, W i m σ H →
      ((Itl K a).stop i H ∧ D.nx σ H) ∨ ((Itl K a).go i H ∧ ∃ N : St → Hp → Prop, (∀ σ' H', N σ' H' → ∃ m', m' < m ∧ W (i + 1) m' σ' H') ∧ ∀ x H', (Itl K a).yld i H x H' → g x σ H' fun σ2 H2 => tb { D with nx := N, ct := N, bk := D.nx } σ2 H2) := by
  refine ⟨fun i m σ H => m = xs.length - i ∧ i ≤ xs.length ∧ Pv i σ H, ⟨xs.length, by simp, Nat.zero_le _, h0⟩, ?_⟩
  rintro i m σ H ⟨rfl, hi, p⟩
  have q := hl i σ H hi p
  by_cases hlt : i < xs.length
  · refine .inr ⟨⟨xs, xs[i], q, by simp [hlt]⟩, Pv (i + 1), fun σ' H' p' => ⟨xs.length - (i + 1), by omega, rfl, hlt, p'⟩, fun x H' y => ?_⟩
    obtain ⟨e, y⟩ := y
    subst e
    exact hs i x σ _ (y xs q) p
  · have e : i = xs.length := by omega
    subst e
    exact .inl ⟨⟨xs, q, Nat.le_refl _⟩, hd σ H p⟩
theorem for_tup {K : PySem.W.Frag} {a : Addr} {xs : List V} {g : TG} {tb : TS} {D : Ends} {σ : St} {H : Hp} (Pv : Nat → St → Hp → Prop) (h0 : Pv 0 σ H) (hl : ∀ i σ H, i ≤ xs.length → Pv i σ H → SqT K H a xs)
    (hs : ∀ i x σ H, xs[i]? = some x → Pv i σ H → g x σ H fun σ2 H2 => tb { D with nx := Pv (i + 1), ct := Pv (i + 1), bk := D.nx } σ2 H2) (hd : ∀ σ H, Pv xs.length σ H → D.nx σ H) :
    ∃ W : Nat → Nat → St → Hp → Prop, (∃ m, W 0 m σ H) ∧ ∀ i m σ H, W i m σ H →
      ((Itt K a).stop i H ∧ D.nx σ H) ∨ ((Itt K a).go i H ∧ ∃ N : St → Hp → Prop, (∀ σ' H', N σ' H' → ∃ m', m' < m ∧ W (i + 1) m' σ' H') ∧ ∀ x H', (Itt K a).yld i H x H' → g x σ H' fun σ2 H2 => tb { D with nx := N, ct := N, bk := D.nx } σ2 H2) := by
  refine ⟨fun i m σ H => m = xs.length - i ∧ i ≤ xs.length ∧ Pv i σ H, ⟨xs.length, by simp, Nat.zero_le _, h0⟩, ?_⟩
  rintro i m σ H ⟨rfl, hi, p⟩
  have q := hl i σ H hi p
  by_cases hlt : i < xs.length
  · refine .inr ⟨⟨xs, xs[i], q, by simp [hlt]⟩, Pv (i + 1), fun σ' H' p' => ⟨xs.length - (i + 1), by omega, rfl, hlt, p'⟩, fun x H' y => ?_⟩
    obtain ⟨e, y⟩ := y
    subst e
    exact hs i x σ _ (y xs q) p
  · have e : i = xs.length := by omega
    subst e
    exact .inl ⟨⟨xs, q, Nat.le_refl _⟩, hd σ H p⟩
theorem for_range {lo : Int} {n : Nat} {g : TG} {tb : TS} {D : Ends} {σ : St} {H : Hp} (Pv : Nat → St → Hp → Prop) (h0 : Pv 0 σ H)
    (hs : ∀ i σ H, i < n → Pv i σ H → g (.int (lo + i)) σ H fun σ2 H2 => tb { D with nx := Pv (i + 1), ct := Pv (i + 1), bk := D.nx } σ2 H2) (hd : ∀ σ H, Pv n σ H → D.nx σ H) :
    ∃ W : Nat → Nat → St → Hp → Prop, (∃ m, W 0 m σ H) ∧ ∀ i m σ H, W i m σ H →
      ((Itr lo n).stop i H ∧ D.nx σ H) ∨ ((Itr lo n).go i H ∧ ∃ N : St → Hp → Prop, (∀ σ' H', N σ' H' → ∃ m', m' < m ∧ W (i + 1) m' σ' H') ∧ ∀ x H', (Itr lo n).yld i H x H' → g x σ H' fun σ2 H2 => tb { D with nx := N, ct := N, bk := D.nx } σ2 H2) := by
  refine ⟨fun i m σ H => m = n - i ∧ i ≤ n ∧ Pv i σ H, ⟨n, by simp, Nat.zero_le _, h0⟩, ?_⟩
  rintro i m σ H ⟨rfl, hi, p⟩
  by_cases hlt : i < n
  · refine .inr ⟨hlt, Pv (i + 1), fun σ' H' p' => ⟨n - (i + 1), by omega, rfl, hlt, p'⟩, fun x H' y => ?_⟩
    obtain ⟨e, y⟩ := y
    subst e y
    exact hs i σ _ hlt p
  · have e : i = n := by omega
    subst e
    exact .inl ⟨Nat.le_refl _, hd σ H p⟩
end L2
namespace L2
open PySem PySem.Spec PyProof.Rows
abbrev R2 := V → V → Hp → VK → Prop
def OpR (X : Cx) (f : Value → Value → Sem Value) (r : R2) : Prop :=
  ∀ (pins : List (Addr × Obj)) (s : Shared) (σ : St) (H : Hp) (x y : V) (v u : Value) (Q : VK), Inv X pins σ H s → RelV x v → RelV y u → r x y H Q →
    wpAny (model X.prog X.w) X.A (f v u) (EP X pins σ Q) X.xe s
def UnR (X : Cx) (f : Value → Sem Value) (r : V → Hp → VK → Prop) : Prop :=
  ∀ (pins : List (Addr × Obj)) (s : Shared) (σ : St) (H : Hp) (x : V) (v : Value) (Q : VK), Inv X pins σ H s → RelV x v → r x H Q →
    wpAny (model X.prog X.w) X.A (f v) (EP X pins σ Q) X.xe s
def CallR (X : Cx) (f : Value) (r : List V → Hp → VK → Prop) : Prop :=
  ∀ (pins : List (Addr × Obj)) (s : Shared) (σ : St) (H : Hp) (xs : List V) (us : List Value) (Q : VK), Inv X pins σ H s → Vals xs us → r xs H Q →
    wpAny (model X.prog X.w) X.A (call f us) (EP X pins σ Q) X.xe s
def tOp (r : R2) (ta tb : TE) : TE := fun σ H Q => ta σ H fun x H1 => tb σ H1 fun y H2 => r x y H2 Q
def tUn (r : V → Hp → VK → Prop) (ta : TE) : TE := fun σ H Q => ta σ H fun x H1 => r x H1 Q
def rI (C : Int → Int → Prop) (g : Int → Int → V) : R2 := fun x y H Q => ∃ i j, x = .int i ∧ y = .int j ∧ C i j ∧ Q (g i j) H
def rI0 (g : Int → Int → V) : R2 := fun x y H Q => ∃ i j, x = .int i ∧ y = .int j ∧ Q (g i j) H
def rU (g : Int → V) : V → Hp → VK → Prop := fun x H Q => ∃ i, x = .int i ∧ Q (g i) H
section
variable {X : Cx} {a b c : Expr} {ta tb tc : TE} {pos : Pos}
theorem binT (ha : PE X a ta) (hb : PE X b tb) {pins : List (Addr × Obj)} {s : Shared} {σ : St} {H : Hp} {R : V → V → Hp → Prop} (I : Inv X pins σ H s)
    (h : ta σ H fun x H1 => tb σ H1 fun y H2 => R x y H2) {Q : Value → Shared → Prop} {f : Value → Value → Sem Value}
    (hf : ∀ v u s2 x y H2, Inv X pins σ H2 s2 → RelV x v → RelV y u → R x y H2 → wpAny (model X.prog X.w) X.A (f v u) Q X.xe s2) :
    wpAny (model X.prog X.w) X.A (eval a X.env) (fun v s₁ => wpAny (model X.prog X.w) X.A (eval b X.env) (fun u s₂ => wpAny (model X.prog X.w) X.A (f v u) Q X.xe s₂) X.xe s₁) X.xe s := by
  refine thn (ha pins s σ H _ I h) fun v s1 ⟨x, H1, I1, r1, q1⟩ => ?_
  refine thn (hb pins s1 σ H1 _ I1 q1) fun u s2 ⟨y, H2, I2, r2, q2⟩ => ?_
  exact hf v u s2 x y H2 I2 r1 r2 q2
theorem pe_op {op : Operator} {r : R2} (ho : OpR X (binaryOp op) r) (ha : PE X a ta) (hb : PE X b tb) : PE X (.BinOp a op b pos) (tOp r ta tb) := by
  intro pins s σ H Q I h
  exact wpAny_BinOp (binT ha hb I h fun v u s2 x y H2 I2 rx ry q => ho pins s2 σ H2 x y v u Q I2 rx ry q)
theorem pe_un {op : UnaryOp} {r : V → Hp → VK → Prop} (ho : UnR X (unaryOp op) r) (ha : PE X a ta) : PE X (.UnaryOp op a pos) (tUn r ta) := by
  intro pins s σ H Q I h
  exact UnaryOp_ (thn (ha pins s σ H _ I h) fun v s1 ⟨x, H1, I1, r1, q1⟩ => ho pins s1 σ H1 x v Q I1 r1 q1)
theorem opI {f : Value → Value → Sem Value} {C : Int → Int → Prop} {g : Int → Int → Int}
    (rule : ∀ (i j : Int) (t u : Tok) (s : Shared) (Q : Value → Shared → Prop) (E : Value → Shared → Prop), C i j → Q (.int (g i j) s.toks) { s with toks := s.toks + 1 } → wpAny (model X.prog X.w) X.A (f (.int i t) (.int j u)) Q E s) :
    OpR X f (rI C fun i j => .int (g i j)) := by
  intro pins s σ H x y v u Q I rx ry h
  obtain ⟨i, j, rfl, rfl, hc, q⟩ := h
  obtain ⟨t, rfl⟩ := rx
  obtain ⟨t', rfl⟩ := ry
  exact rule i j t t' s _ _ hc ⟨.int (g i j), H, I.tok _, ⟨_, rfl⟩, q⟩
theorem opI0 {f : Value → Value → Sem Value} {g : Int → Int → Int}
    (rule : ∀ (i j : Int) (t u : Tok) (s : Shared) (Q : Value → Shared → Prop) (E : Value → Shared → Prop), Q (.int (g i j) s.toks) { s with toks := s.toks + 1 } → wpAny (model X.prog X.w) X.A (f (.int i t) (.int j u)) Q E s) :
    OpR X f (rI0 fun i j => .int (g i j)) := by
  intro pins s σ H x y v u Q I rx ry h
  obtain ⟨i, j, rfl, rfl, q⟩ := h
  obtain ⟨t, rfl⟩ := rx
  obtain ⟨t', rfl⟩ := ry
  exact rule i j t t' s _ _ ⟨.int (g i j), H, I.tok _, ⟨_, rfl⟩, q⟩
theorem opB0 {f : Value → Value → Sem Value} {g : Int → Int → Bool}
    (rule : ∀ (i j : Int) (t u : Tok) (s : Shared) (Q : Value → Shared → Prop) (E : Value → Shared → Prop), Q (.bool (g i j)) s → wpAny (model X.prog X.w) X.A (f (.int i t) (.int j u)) Q E s) :
    OpR X f (rI0 fun i j => .bl (g i j)) := by
  intro pins s σ H x y v u Q I rx ry h
  obtain ⟨i, j, rfl, rfl, q⟩ := h
  obtain ⟨t, rfl⟩ := rx
  obtain ⟨t', rfl⟩ := ry
  exact rule i j t t' s _ _ ⟨.bl (g i j), H, I, rfl, q⟩
def CDiv (i j : Int) : Prop := 0 < j ∧ j < 1073741824
def CPow (i j : Int) : Prop := 0 ≤ j ∧ j ≤ 1000000 ∧ i.natAbs < 2 ^ 64
def CMul (i j : Int) : Prop := (-(2 ^ 64) < i ∧ i < 2 ^ 64) ∨ (-(2 ^ 64) < j ∧ j < 2 ^ 64)
theorem CMul.ok {i j : Int} (h : CMul i j) : IntMulOk i j := by
  rcases h with ⟨h1, h2⟩ | ⟨h1, h2⟩
  · exact .of_left (intBits_le_64 h1 h2)
  · exact .of_right (intBits_le_64 h1 h2)
theorem op_add : OpR X (binaryOp .Add) (rI0 fun i j => .int (i + j)) := opI0 fun _ _ _ _ _ _ _ q => add_int q
theorem op_sub : OpR X (binaryOp .Sub) (rI0 fun i j => .int (i - j)) := opI0 fun _ _ _ _ _ _ _ q => sub_int q
theorem op_mul : OpR X (binaryOp .Mult) (rI CMul fun i j => .int (i * j)) := opI fun _ _ _ _ _ _ _ hc q => mul_int q hc.ok
theorem op_fdiv : OpR X (binaryOp .FloorDiv) (rI CDiv fun i j => .int (i / j)) := opI fun i j _ _ _ _ _ hc q => by
  have h1 : (0 : Int) < j := hc.1
  have h2 : j < 1073741824 := hc.2
  exact floordiv_int (by omega) (by rw [Int.fdiv_eq_ediv_of_nonneg i (by omega)]; exact q) (.inl (PyProof.noPylong_small (by omega)))
theorem op_mod : OpR X (binaryOp .Mod) (rI (fun _ j => 0 < j) fun i j => .int (i % j)) := opI fun i j _ _ _ _ _ hc q => by
  have h1 : (0 : Int) < j := hc
  exact mod_int' (by omega) (by rw [Int.fmod_eq_emod_of_nonneg i (by omega)]; exact q)
theorem op_pow : OpR X (binaryOp .Pow) (rI CPow fun i j => .int (i ^ j.toNat)) := opI fun _ _ _ _ _ _ _ hc q => pow_int_small hc.1 hc.2.1 hc.2.2 q
theorem unI {f : Value → Sem Value} {g : Int → Int}
    (rule : ∀ (i : Int) (t : Tok) (s : Shared) (Q : Value → Shared → Prop) (E : Value → Shared → Prop), Q (.int (g i) s.toks) { s with toks := s.toks + 1 } → wpAny (model X.prog X.w) X.A (f (.int i t)) Q E s) :
    UnR X f (rU fun i => .int (g i)) := by
  intro pins s σ H x v Q I rx h
  obtain ⟨i, rfl, q⟩ := h
  obtain ⟨t, rfl⟩ := rx
  exact rule i t s _ _ ⟨.int (g i), H, I.tok _, ⟨_, rfl⟩, q⟩
theorem un_neg : UnR X (unaryOp .USub) (rU fun i => .int (-i)) := unI fun _ _ _ _ _ q => neg_int q
end
def scal : V → V → Bool
  | .non, .non => true | .non, .int _ => true | .int _, .non => true | .non, .bl _ => true | .bl _, .non => true | .non, .str _ => true | .str _, .non => true
  | .int _, .int _ => true | .bl _, .bl _ => true | .str _, .str _ => true | .byt _, .byt _ => true
  | .int _, .str _ => true | .str _, .int _ => true | .bl _, .str _ => true | .str _, .bl _ => true
  | _, _ => false
def rEq : R2 := fun x y H Q => scal x y = true ∧ Q (.bl (decide (x = y))) H
def rNe : R2 := fun x y H Q => scal x y = true ∧ Q (.bl (!decide (x = y))) H
theorem dec_int {i j : Int} : decide (V.int i = V.int j) = (i == j) := by
  rw [Bool.eq_iff_iff]
  simp
theorem dec_bl {i j : Bool} : decide (V.bl i = V.bl j) = (i == j) := by
  rw [Bool.eq_iff_iff]
  simp
theorem dec_str {i j : Str} : decide (V.str i = V.str j) = (i == j) := by
  rw [Bool.eq_iff_iff]
  simp
theorem dec_byt {i j : Array UInt8} : decide (V.byt i = V.byt j) = (i.toList == j.toList) := by
  rw [Bool.eq_iff_iff]
  cases i
  cases j
  simp
section
variable {X : Cx} {a b c : Expr} {ta tb tc : TE} {pos : Pos}
theorem fin_bl {pins : List (Addr × Obj)} {σ : St} {H : Hp} {s : Shared} {Q : VK} {k k' : Bool} (I : Inv X pins σ H s) (q : Q (.bl k) H) (e : k = k') : EP X pins σ Q (.bool k') s := by
  subst e
  exact ⟨.bl k, H, I, rfl, q⟩
theorem op_eq : OpR X (compareOp .Eq) rEq := by
  intro pins s σ H x y v u Q I rx ry h
  obtain ⟨hs, q⟩ := h
  cases x with
  | non =>
    cases rx
    cases y with
    | non => cases ry; exact PySem.EqNone.eq_none_none (fin_bl I q (by simp))
    | bl j => cases ry; exact PySem.EqNone.eq_none_bool (fin_bl I q (by simp))
    | int j => obtain ⟨t', rfl⟩ := ry; exact PySem.EqNone.eq_none_int (fin_bl I q (by simp))
    | str j => obtain ⟨t', rfl⟩ := ry; exact PySem.EqNone.eq_none_str (fin_bl I q (by simp))
    | _ => exact absurd (show false = true from hs) Bool.false_ne_true
  | bl i =>
    cases rx
    cases y with
    | non => cases ry; exact PySem.EqNone.eq_bool_none (fin_bl I q (by simp))
    | bl j => cases ry; exact eq_bool (fin_bl I q dec_bl)
    | str j => obtain ⟨t', rfl⟩ := ry; exact PySem.EqMixed.eq_bool_str (fin_bl I q (by simp))
    | _ => exact absurd (show false = true from hs) Bool.false_ne_true
  | int i =>
    obtain ⟨t, rfl⟩ := rx
    cases y with
    | non => cases ry; exact PySem.EqNone.eq_int_none (fin_bl I q (by simp))
    | int j => obtain ⟨t', rfl⟩ := ry; exact eq_int (fin_bl I q dec_int)
    | str j => obtain ⟨t', rfl⟩ := ry; exact PySem.EqMixed.eq_int_str (fin_bl I q (by simp))
    | _ => exact absurd (show false = true from hs) Bool.false_ne_true
  | str i =>
    obtain ⟨t, rfl⟩ := rx
    cases y with
    | non => cases ry; exact PySem.EqNone.eq_str_none (fin_bl I q (by simp))
    | bl j => cases ry; exact PySem.EqMixed.eq_str_bool (fin_bl I q (by simp))
    | int j => obtain ⟨t', rfl⟩ := ry; exact PySem.EqMixed.eq_str_int (fin_bl I q (by simp))
    | str j => obtain ⟨t', rfl⟩ := ry; exact eq_str (fin_bl I q dec_str)
    | _ => exact absurd (show false = true from hs) Bool.false_ne_true
  | byt i =>
    obtain ⟨t, rfl⟩ := rx
    cases y with
    | byt j => obtain ⟨t', rfl⟩ := ry; exact PySem.W.eq_bytes (fin_bl I q dec_byt)
    | _ => exact absurd (show false = true from hs) Bool.false_ne_true
  | _ => cases y <;> exact absurd (show false = true from hs) Bool.false_ne_true
theorem op_ne : OpR X (compareOp .NotEq) rNe := by
  intro pins s σ H x y v u Q I rx ry h
  obtain ⟨hs, q⟩ := h
  cases x with
  | non =>
    cases rx
    cases y with
    | non => cases ry; exact PySem.EqNone.ne_none_none (fin_bl I q (by simp))
    | bl j => cases ry; exact PySem.EqNone.ne_none_bool (fin_bl I q (by simp))
    | int j => obtain ⟨t', rfl⟩ := ry; exact PySem.EqNone.ne_none_int (fin_bl I q (by simp))
    | str j => obtain ⟨t', rfl⟩ := ry; exact PySem.EqNone.ne_none_str (fin_bl I q (by simp))
    | _ => exact absurd (show false = true from hs) Bool.false_ne_true
  | bl i =>
    cases rx
    cases y with
    | non => cases ry; exact PySem.EqNone.ne_bool_none (fin_bl I q (by simp))
    | bl j => cases ry; exact ne_bool (fin_bl I q (congrArg not dec_bl))
    | str j => obtain ⟨t', rfl⟩ := ry; exact PySem.EqMixed.ne_bool_str (fin_bl I q (by simp))
    | _ => exact absurd (show false = true from hs) Bool.false_ne_true
  | int i =>
    obtain ⟨t, rfl⟩ := rx
    cases y with
    | non => cases ry; exact PySem.EqNone.ne_int_none (fin_bl I q (by simp))
    | int j => obtain ⟨t', rfl⟩ := ry; exact ne_int (fin_bl I q (congrArg not dec_int))
    | str j => obtain ⟨t', rfl⟩ := ry; exact PySem.EqMixed.ne_int_str (fin_bl I q (by simp))
    | _ => exact absurd (show false = true from hs) Bool.false_ne_true
  | str i =>
    obtain ⟨t, rfl⟩ := rx
    cases y with
    | non => cases ry; exact PySem.EqNone.ne_str_none (fin_bl I q (by simp))
    | bl j => cases ry; exact PySem.EqMixed.ne_str_bool (fin_bl I q (by simp))
    | int j => obtain ⟨t', rfl⟩ := ry; exact PySem.EqMixed.ne_str_int (fin_bl I q (by simp))
    | str j => obtain ⟨t', rfl⟩ := ry; exact ne_str (fin_bl I q (congrArg not dec_str))
    | _ => exact absurd (show false = true from hs) Bool.false_ne_true
  | byt i =>
    obtain ⟨t, rfl⟩ := rx
    cases y with
    | byt j => obtain ⟨t', rfl⟩ := ry; exact PySem.W.ne_bytes (fin_bl I q (congrArg not dec_byt))
    | _ => exact absurd (show false = true from hs) Bool.false_ne_true
  | _ => cases y <;> exact absurd (show false = true from hs) Bool.false_ne_true
theorem op_lt : OpR X (compareOp .Lt) (rI0 fun i j => .bl (decide (i < j))) := opB0 fun _ _ _ _ _ _ _ q => lt_int q
theorem op_gt : OpR X (compareOp .Gt) (rI0 fun i j => .bl (decide (j < i))) := opB0 fun _ _ _ _ _ _ _ q => gt_int q
theorem nomark (b : Expr) {op : CmpOp} (h : op ≠ .In := by decide) (h2 : op ≠ .NotIn := by decide) : behindInMarks op b = false := by
  have e1 : (op == CmpOp.In) = false := by cases op <;> first | rfl | exact absurd rfl h
  have e2 : (op == CmpOp.NotIn) = false := by cases op <;> first | rfl | exact absurd rfl h2
  cases b <;> simp [behindInMarks, e1, e2]
theorem pe_cmpR {op : CmpOp} {r : R2} (ho : OpR X (compareOp op) r) (ha : PE X a ta) (hb : PE X b tb) (hm : behindInMarks op b = false) : PE X (.Compare a [op] [b] pos) (tOp r ta tb) := by
  intro pins s σ H Q I h
  exact wpAny_Compare1 (binT ha hb I h fun v u s2 x y H2 I2 rx ry q => ho pins s2 σ H2 x y v u Q I2 rx ry q) hm
def tTest (t : TE) : TT := fun σ H Q => t σ H fun x H' => ∃ k, x = .bl k ∧ Q k H'
theorem pt_cmpR {op : CmpOp} {r : R2} (ho : OpR X (compareOp op) r) (ha : PE X a ta) (hb : PE X b tb) (hm : behindInMarks op b = false) : PT X (.Compare a [op] [b] pos) (tTest (tOp r ta tb)) := by
  intro pins s σ H Q I h
  refine wpAny_isTrue_Compare1 (thn (ha pins s σ H _ I h) fun v s1 ⟨x, H1, I1, r1, q1⟩ => thn (hb pins s1 σ H1 _ I1 q1) fun u s2 ⟨y, H2, I2, r2, q2⟩ =>
    thn (ho pins s2 σ H2 x y v u _ I2 r1 r2 q2) fun c s3 ⟨z, H3, I3, r3, k, e, q3⟩ => ?_) hm
  subst e
  cases r3
  exact wpAny_truthy_bool ⟨H3, I3, q3⟩
theorem line63 : (sizeLine : Nat) < 2 ^ 63 := by rw [sizeLine_eq]; decide
theorem op_add_str : OpR X (binaryOp .Add) (fun x y H Q => ∃ i j, x = .str i ∧ y = .str j ∧ i.length + j.length ≤ sizeLine ∧ Q (.str (i ++ j)) H) := by
  intro pins s σ H x y v u Q I rx ry h
  obtain ⟨i, j, rfl, rfl, hz, q⟩ := h
  obtain ⟨t, rfl⟩ := rx
  obtain ⟨t', rfl⟩ := ry
  exact add_str (fun t' tk => ⟨.str (i ++ j), H, I.tok _, ⟨_, rfl⟩, q⟩) hz
theorem vals1 {x : V} {us : List Value} (r : Vals [x] us) : ∃ u, us = [u] ∧ RelV x u := by
  cases r with
  | cons r1 r2 => cases r2; exact ⟨_, rfl, r1⟩
theorem vals2 {x y : V} {us : List Value} (r : Vals [x, y] us) : ∃ u w', us = [u, w'] ∧ RelV x u ∧ RelV y w' := by
  cases r with
  | cons r1 r2 =>
    cases r2 with
    | cons r3 r4 => cases r4; exact ⟨_, _, rfl, r1, r3⟩
theorem call_int1 : CallR X (.type "int") (fun xs H Q => (∃ i, xs = [.int i] ∧ Q (.int i) H) ∨ ∃ k, xs = [.bl k] ∧ Q (.int (if k then 1 else 0)) H) := by
  intro pins s σ H xs us Q I r h
  rcases h with ⟨i, rfl, q⟩ | ⟨k, rfl, q⟩
  · obtain ⟨u, rfl, t, rfl⟩ := vals1 r
    exact call_int_int ⟨.int i, H, I, ⟨_, rfl⟩, q⟩
  · obtain ⟨u, rfl, r1⟩ := vals1 r
    cases r1
    exact call_int_bool ⟨.int (if k then 1 else 0), H, I.tok _, ⟨_, rfl⟩, q⟩
end
end L2
namespace L2
open PySem PySem.Spec PyProof.Rows
structure ObjM (h : Heap) (x dx C : Addr) (mA : Str → Option Value) : Prop where
  obj : h.get? x = some (PySem.W.instObj C dx)
  ns : h.Ns1 dx mA
  ne : dx ≠ x
theorem lookIn_ns {h : Heap} {dx : Addr} {mA : Str → Option Value} (n : h.Ns1 dx mA) : ∃ od, h.get? dx = some od ∧ ∀ name, PySem.W.lookIn name od = some (mA name) := by
  obtain ⟨o, es, ep, ho, hd, hk, _, hm⟩ := n
  refine ⟨o, ho, fun name => ?_⟩
  have e := hm name
  unfold nsFind findBy at e
  rw [← Array.find?_toList] at e
  unfold PySem.W.lookIn
  rw [hd]
  dsimp only
  split
  · rename_i y q
    rw [q] at e
    exact congrArg some e
  · rename_i q
    rw [q] at e
    have a : es.toList.any (·.refKey) = false := by
      rw [List.any_eq_false]
      intro y hy
      obtain ⟨z, t, hkey⟩ := hk y (Array.mem_toList_iff.mp hy)
      simp [DictEntry.refKey, hkey]
    have a' : ¬ es.toList.any (·.refKey) = true := by rw [a]; exact Bool.false_ne_true
    rw [if_neg a']
    exact congrArg some e
theorem ObjM.look {h : Heap} {x dx C : Addr} {mA : Str → Option Value} (I : ObjM h x dx C mA) : ∃ od, PySem.W.InstAt h x (PySem.W.instObj C dx) C (some od) ∧ ∀ name, PySem.W.lookIn name od = some (mA name) :=
  let ⟨od, ho, hl⟩ := lookIn_ns I.ns
  ⟨od, ⟨I.obj, rfl, rfl, ho⟩, hl⟩
section
variable {prog : Program} {w : World} {A : Around} {E : Value → Shared → Prop} {s : Shared} {K : PySem.W.Frag} {x dx C f : Addr} {mA : Str → Option Value} {name : Str} {v : Value}
theorem get_map {expr : Bool} {Q : Value → Shared → Prop} (X : K.In s.heap) (I : ObjM s.heap x dx C mA) (hg : PySem.W.plainGet K C name = true) (hh : PySem.W.hasDictIn K C = true)
    (ha : PySem.W.findIn K (.ref C) name = some none) (hv : mA name = some v) (hv' : PySem.W.handedIn v = true) (h : Q v { s with toks := s.toks + 1 }) :
    wpAny (model prog w) A (getAttr (.ref x) name expr) Q E s := by
  obtain ⟨od, J, hl⟩ := I.look
  exact PySem.W.get_value X J (PySem.W.plainGet_of hg).1 (PySem.W.findObj_own hh ha rfl (by rw [hl, hv])) hv' h
theorem get_meth {pl : Sem Bool} {Q : Value × List Value → Shared → Prop} (X : K.In s.heap) (I : ObjM s.heap x dx C mA) (hg : PySem.W.plainGet K C name = true)
    (hf : PySem.W.findIn K (.ref C) name = some (some (.ref f))) (ht : PySem.W.isFn K (.ref f) = true) (hv : mA name = none) (h : Q (.ref f, [.ref x]) s) :
    wpAny (model prog w) A (getMethod (.ref x) name pl) Q E s := by
  obtain ⟨od, J, hl⟩ := I.look
  exact PySem.W.method_fn X J (PySem.W.plainGet_of hg).1 (PySem.W.plainGet_of hg).2 hf (beq_iff_eq.mp ht) (by show (PySem.W.lookIn name od).map (·.isSome) = some false; rw [hl, hv]; rfl) h
theorem set_map {ns : List Str} {Q : Unit → Shared → Prop} (X : K.In s.heap) (I : ObjM s.heap x dx C mA)
    (hs : PySem.W.findIn K (.ref C) "__setattr__" = some (some (.builtin "object.__setattr__"))) (hp : PySem.W.plainOver K C = true) (ht : PySem.W.takerIn K C name = some none) (hh : PySem.W.hasDictIn K C = true)
    (hw : PySem.Within mA ns) (hsz : ns.length ≤ sizeLine)
    (h : ∀ h', ObjM h' x dx C (fun y => if y = name then some v else mA y) → Heap.SameBut dx s.heap h' → Q () { s with heap := h', toks := s.toks + 2 }) :
    wpAny (model prog w) A (setAttr (.ref x) name v) Q E s := by
  obtain ⟨od, J, hl⟩ := I.look
  refine PySem.W.set_plain X J hs (PySem.W.osa_open (s := { s with toks := s.toks + 1 }) (r := none) X J hp ht fun b => ?_)
  obtain ⟨cd, hc, hd'⟩ := PySem.W.any_some hh
  have hx : s.heap.get? x = some ⟨.ref C, some dx, .plain, #[]⟩ := I.obj
  refine wpAny_bind (wpAny_pure (wpAny_bind (wpAny_bind (wpAny_loadPart hx (wpAny_bind (PySem.W.Looks.here (s := { s with toks := s.toks + 1 }) (PySem.W.looks_clsIn X hc) ?_))))))
  rw [hd']
  refine wpAny_pure (a := some dx) (wpAny_bind (wpAny_pure (wpAny_bind ?_)))
  refine wpAny_nsSet1 (s := { s with toks := s.toks + 1 }) I.ns fun h' hn2 hs2 => ?_
  obtain ⟨oD, esD, epD, hoD, hdD, hcD⟩ := hn2.count (PySem.Within.cons name v hw)
  refine wpAny_bind (wpAny_lookBehind hoD (by rw [hdD]; exact pastItsLine_dict (Nat.le_trans hcD (by rw [List.length_cons]; omega))) ?_)
  exact wpAny_pure (h _ ⟨(hs2.2 _ (Ne.symm I.ne)).trans I.obj, hn2, I.ne⟩ hs2)
theorem make_map {R : Result → Shared → Prop} {vs : List Value} {kw : List (Str × Value)} (X : K.In s.heap) (hm : PySem.W.makesIn K C = true)
    (hi : PySem.W.findIn K (.ref C) "__init__" = some (some (.ref f))) (hf : PySem.W.typeIn K (.ref f) = some (.type "function"))
    (h : codeAny (model prog w) (A.under (.builtin "type.__call__" ⟨.ref C :: vs, kw⟩)) (.call (.ref f) ⟨.ref (s.heap.objs.size + 1) :: vs, kw⟩) (PySem.W.InitBack (s.heap.objs.size + 1) R)
      { s with heap := (s.heap.push PySem.W.emptyDict).push (PySem.W.instObj C s.heap.objs.size) }) :
    codeAny (model prog w) A (.call (.ref C) ⟨vs, kw⟩) R s := by
  obtain ⟨hh, g, d, t, os⟩ := s
  exact PySem.W.make_core (PySem.W.makes_of X hm) (PySem.W.looks_findIn X hi) (fun self => PySem.W.bind_fn X self hf) (.inl rfl) h
end
def putF (f : Str) (v : V) : List (Str × V) → List (Str × V)
  | [] => [(f, v)]
  | (g, x) :: r => if g = f then (g, v) :: r else (g, x) :: putF f v r
theorem lookup_putF (f g : Str) (v : V) : ∀ fs : List (Str × V), (putF f v fs).lookup g = if g = f then some v else fs.lookup g
  | [] => by
    show List.lookup g [(f, v)] = _
    by_cases h : g = f
    · have hb : (g == f) = true := beq_iff_eq.mpr h
      simp only [List.lookup, hb, if_pos h]
    · have hb : (g == f) = false := beq_eq_false_iff_ne.mpr h
      simp only [List.lookup, hb, if_neg h]
  | (k, x) :: r => by
    have ih := lookup_putF f g v r
    rw [show putF f v ((k, x) :: r) = (if k = f then (k, v) :: r else (k, x) :: putF f v r) from rfl]
    by_cases hk : k = f
    · rw [if_pos hk]
      by_cases h : g = k
      · have hb : (g == k) = true := beq_iff_eq.mpr h
        simp only [List.lookup, hb, if_pos (h.trans hk)]
      · have hb : (g == k) = false := beq_eq_false_iff_ne.mpr h
        simp only [List.lookup, hb, if_neg (fun e : g = f => h (e.trans hk.symm))]
    · rw [if_neg hk]
      by_cases h : g = k
      · have hb : (g == k) = true := beq_iff_eq.mpr h
        simp only [List.lookup, hb, if_neg (fun e : g = f => hk (h.symm.trans e))]
      · have hb : (g == k) = false := beq_eq_false_iff_ne.mpr h
        simp only [List.lookup, hb]
        exact ih
theorem keys_putF (f : Str) (v : V) : ∀ fs : List (Str × V), f ∈ (putF f v fs).map (·.1) ∧ ∀ g, g ∈ fs.map (·.1) → g ∈ (putF f v fs).map (·.1)
  | [] => ⟨by simp [putF], fun g h => by simp at h⟩
  | (k, x) :: r => by
    obtain ⟨i1, i2⟩ := keys_putF f v r
    rw [show putF f v ((k, x) :: r) = (if k = f then (k, v) :: r else (k, x) :: putF f v r) from rfl]
    by_cases hk : k = f
    · rw [if_pos hk]
      subst hk
      exact ⟨by simp, fun g h => by simpa using h⟩
    · rw [if_neg hk]
      refine ⟨?_, fun g h => ?_⟩
      · rw [List.map_cons]
        exact List.mem_cons_of_mem _ i1
      · rw [List.map_cons] at h ⊢
        rcases List.mem_cons.mp h with e | e
        · exact List.mem_cons.mpr (.inl e)
        · exact List.mem_cons_of_mem _ (i2 g e)
theorem length_putF (f : Str) (v : V) : ∀ fs : List (Str × V), (putF f v fs).length ≤ fs.length + 1
  | [] => by simp [putF]
  | (k, x) :: r => by
    have ih := length_putF f v r
    rw [show putF f v ((k, x) :: r) = (if k = f then (k, v) :: r else (k, x) :: putF f v r) from rfl]
    by_cases hk : k = f
    · rw [if_pos hk, List.length_cons, List.length_cons]; omega
    · rw [if_neg hk, List.length_cons, List.length_cons]; omega
theorem RelO.some_of {v : V} {o : Option Value} (r : RelO (some v) o) : ∃ u, o = some u ∧ RelV v u := by
  cases o with
  | none => exact (show False from r).elim
  | some u => exact ⟨u, rfl, r⟩
theorem RelO.none_of {o : Option Value} (r : RelO none o) : o = none := by
  cases o with
  | none => rfl
  | some u => exact (show False from r).elim
theorem handed_of {v : V} {u : Value} (r : RelV v u) : PySem.W.handedIn u = true := by
  cases v with
  | non => cases (show u = Value.none from r); rfl
  | bl b => cases (show u = Value.bool b from r); rfl
  | int i => obtain ⟨t, e⟩ := (show ∃ t, u = Value.int i t from r); cases e; rfl
  | str x => obtain ⟨t, e⟩ := (show ∃ t, u = Value.str x t from r); cases e; rfl
  | byt b => obtain ⟨t, e⟩ := (show ∃ t, u = Value.bytes b t from r); cases e; rfl
  | flt b => obtain ⟨t, e⟩ := (show ∃ t, u = Value.float b t from r); cases e; rfl
  | ref a => cases (show u = Value.ref a from r); rfl
  | ty n => cases (show u = Value.type n from r); rfl
section
variable {P : Program} {w : World} {H H' : Hp} {h h' : Heap} {a C dx : Addr} {fs fs' : List (Str × V)}
theorem ins_get (hok : HOk P w H h) (e : H a = some (.ins C dx fs)) : ∃ mA, ObjM h a dx C mA ∧ (∀ f, RelO (fs.lookup f) (mA f)) ∧ PySem.Within mA (fs.map (·.1)) ∧ fs.length ≤ 1000 ∧ H dx = some (.own a) := by
  obtain ⟨d, z, ne, ob, mA, n, r, q⟩ := (show ObjOk P w H h a (.ins C dx fs) from hok a _ e)
  exact ⟨mA, ⟨ob, n, ne⟩, r, q, z, d⟩
end
structure Cls (K : PySem.W.Frag) (C : Addr) : Prop where
  pg : PySem.W.plainGet K C Str.empty = true
  hd : PySem.W.hasDictIn K C = true
  po : PySem.W.plainOver K C = true
  sa : PySem.W.findIn K (.ref C) "__setattr__" = some (some (.builtin "object.__setattr__"))
theorem Cls.get {K : PySem.W.Frag} {C : Addr} (c : Cls K C) (f : Str) : PySem.W.plainGet K C f = true := c.pg
def NoAttr (K : PySem.W.Frag) (C : Addr) (f : Str) : Prop := PySem.W.findIn K (.ref C) f = some none
theorem NoAttr.taker {K : PySem.W.Frag} {C : Addr} {f : Str} (n : NoAttr K C f) : PySem.W.takerIn K C f = some none := by
  unfold PySem.W.takerIn
  rw [show PySem.W.findIn K (.ref C) f = some none from n]
  rfl
structure Con (K : PySem.W.Frag) (C : Addr) (f : Str) (v : V) (u : Value) : Prop where
  at_ : PySem.W.findIn K (.ref C) f = some (some u)
  rel : RelV v u
  get : PySem.W.specialIn K u "__get__" = some none
  cp : PySem.W.copiedNames.contains f = false
structure Meth (K : PySem.W.Frag) (C : Addr) (m : Str) (f : Addr) : Prop where
  at_ : PySem.W.findIn K (.ref C) m = some (some (.ref f))
  fn : PySem.W.isFn K (.ref f) = true
  kp : PySem.W.keepIn K (.ref f) = true
section
variable {X : Cx} {pins : List (Addr × Obj)} {σ : St} {H : Hp} {s : Shared} {a C dx : Addr} {fs : List (Str × V)} {f : Str} {v : V} {A : Around} {E : Value → Shared → Prop}
theorem getattr_ok {b : Bool} {Q : Value → Shared → Prop} (I : Inv X pins σ H s) (e : H a = some (.ins C dx fs)) (c : Cls X.K C) (n : NoAttr X.K C f) (l : fs.lookup f = some v)
    (h : ∀ u s', Inv X pins σ H s' → RelV v u → Q u s') : wpAny (model X.prog X.w) A (getAttr (.ref a) f b) Q E s := by
  obtain ⟨mA, O, r, _, _, _⟩ := ins_get I.hok e
  obtain ⟨u, hu, ru⟩ := RelO.some_of (v := v) (o := mA f) (by rw [← l]; exact r f)
  exact get_map I.kIn O (c.get f) c.hd n hu (handed_of ru) (h u _ (I.tok _) ru)
theorem getmeth_ok {m : Str} {g : Addr} {pl : Sem Bool} {Q : Value × List Value → Shared → Prop} (I : Inv X pins σ H s) (e : H a = some (.ins C dx fs)) (c : Cls X.K C) (k : Meth X.K C m g) (l : fs.lookup m = none)
    (h : Q (.ref g, [.ref a]) s) : wpAny (model X.prog X.w) A (getMethod (.ref a) m pl) Q E s := by
  obtain ⟨mA, O, r, _, _, _⟩ := ins_get I.hok e
  have hn : mA m = none := RelO.none_of (by rw [← l]; exact r m)
  exact get_meth I.kIn O (c.get m) k.at_ k.fn hn h
theorem setattr_ok {y : V} {u : Value} {Q : Unit → Shared → Prop} (I : Inv X pins σ H s) (e : H a = some (.ins C dx fs)) (c : Cls X.K C) (n : NoAttr X.K C f) (hl : fs.length < 1000) (ry : RelV y u)
    (h : ∀ s', Inv X pins σ (upd H a (.ins C dx (putF f y fs))) s' → Q () s') : wpAny (model X.prog X.w) A (setAttr (.ref a) f u) Q E s := by
  obtain ⟨mA, O, r, wi, _, ho⟩ := ins_get I.hok e
  have hz : (fs.map (·.1)).length ≤ sizeLine := by rw [List.length_map, sizeLine_eq]; omega
  refine set_map I.kIn O c.sa c.po n.taker c.hd wi hz fun h' O' sb => h _ ?_
  have hd : ∃ o, h'.get? dx = some o := let ⟨o, _, _, e', _⟩ := O'.ns; ⟨o, e'⟩
  refine I.write (x := a) (e := dx) (by rw [e]; exact True.intro) (.inr ho) (fun b q hb z => (sb.2 b hb).trans z) hd ?_
  refine ⟨by rw [upd_ne O.ne]; exact ho, ?_, O.ne, O'.obj, _, O'.ns, fun g => ?_, fun g hg => ?_⟩
  · have := length_putF f y fs; omega
  · show RelO ((putF f y fs).lookup g) (if g = f then some u else mA g)
    rw [lookup_putF]
    by_cases q : g = f
    · rw [if_pos q, if_pos q]; exact ry
    · rw [if_neg q, if_neg q]; exact r g
  · by_cases q : g = f
    · rw [q]; exact (keys_putF f y fs).1
    · refine (keys_putF f y fs).2 g (wi g fun z => hg ?_)
      show (if g = f then some u else mA g) = none
      rw [if_neg q]; exact z
theorem Inv.made (I : Inv X pins σ H s) : Inv X pins σ (upd (upd H s.heap.objs.size (.own (s.heap.objs.size + 1))) (s.heap.objs.size + 1) (.ins C s.heap.objs.size []))
    { s with heap := (s.heap.push PySem.W.emptyDict).push (PySem.W.instObj C s.heap.objs.size) } := by
  have e1 : (s.heap.push PySem.W.emptyDict).get? s.heap.objs.size = some PySem.W.emptyDict := Heap.get?_push_size s.heap rfl
  have e2 : ((s.heap.push PySem.W.emptyDict).push (PySem.W.instObj C s.heap.objs.size)).get? (s.heap.objs.size + 1) = some (PySem.W.instObj C s.heap.objs.size) := by
    have := Heap.get?_push_size (s.heap.push PySem.W.emptyDict) (o := PySem.W.instObj C s.heap.objs.size) rfl
    rwa [Heap.size_push] at this
  have e3 : (s.heap.push PySem.W.emptyDict).Ns s.heap.objs.size (fun _ => none) := ⟨PySem.W.emptyDict, #[], _, e1, rfl, (fun e he => absurd he (by simp)), fun _ => rfl⟩
  have I1 := I.laid (a := s.heap.objs.size) (o := .own (s.heap.objs.size + 1)) (h' := s.heap.push PySem.W.emptyDict) (t' := s.toks) (fun b u q => Heap.get?_push_of_some _ q) (Nat.le_refl _) ⟨_, e1⟩
  refine I1.laid (a := s.heap.objs.size + 1) (o := .ins C s.heap.objs.size []) (t' := s.toks) (fun b u q => Heap.get?_push_of_some _ q) (Nat.le_of_eq (Heap.size_push _ _)) ?_
  have ne : s.heap.objs.size ≠ s.heap.objs.size + 1 := Nat.ne_of_lt (Nat.lt_succ_self _)
  refine ⟨by rw [upd_ne ne, upd_same], Nat.zero_le _, ne, e2, fun _ => none, (Heap.Ns1.of_empty e3).at fun o q => Heap.get?_push_of_some _ q, fun _ => True.intro, fun y hy => absurd rfl hy⟩
theorem attr_of {prog : Program} {w : World} {env : Env} {e : Expr} {f : Str} {pos : Pos} {s : Shared} {Q : Value → Shared → Prop} (hb : attributeBase e f env (eval e env) = eval e env)
    (h : wpAny (model prog w) A (eval e env) (fun o s₁ => wpAny (model prog w) A (getAttr o f true) Q E s₁) E s) : wpAny (model prog w) A (eval (.Attribute e f pos) env) Q E s :=
  Attribute_any_ h (by rw [arm_eval_Attribute, hb])
end
def tFld (K : PySem.W.Frag) (ta : TE) (f : Str) : TE := fun σ H Q => ta σ H fun x H1 => ∃ a C dx fs v, x = .ref a ∧ H1 a = some (.ins C dx fs) ∧ Cls K C ∧ NoAttr K C f ∧ fs.lookup f = some v ∧ Q v H1
def sFld (K : PySem.W.Frag) (ta tv : TE) (f : Str) : TS := fun D σ H => tv σ H fun y H1 => ta σ H1 fun x H2 => ∃ a C dx fs, x = .ref a ∧ H2 a = some (.ins C dx fs) ∧ Cls K C ∧ NoAttr K C f ∧ fs.length < 1000 ∧
  D.nx σ (upd H2 a (.ins C dx (putF f y fs)))
section
variable {X : Cx} {o e value : Expr} {f : Str} {pos pos' tpos : Pos} {ta tv : TE}
theorem pe_fld (he : PE X e ta) (hb : attributeBase e f X.env (eval e X.env) = eval e X.env) : PE X (.Attribute e f pos) (tFld X.K ta f) := by
  intro pins s σ H Q I h
  refine attr_of hb (thn (he pins s σ H _ I h) fun u s1 ⟨x, H1, I1, rx, a, C, dx, fs, v, ex, ea, c, n, l, q⟩ => ?_)
  subst ex
  obtain rfl : u = Value.ref a := rx
  exact getattr_ok I1 ea c n l fun u' s2 I2 ru => ⟨v, H1, I2, ru, q⟩
theorem ps_fld (ha : PE X o ta) (hv : PE X value tv) (hs : swapsWith value (some (.Attribute o f pos')) pos.line X.env = pure false) : PS X (.Assign [.Attribute o f pos'] value pos) (sFld X.K ta tv f) := by
  intro pins s σ H D I h
  refine plainObj_wpAny_Assign_Attribute (thn (hv pins s σ H _ I h) fun u s1 ⟨y, H1, I1, ry, q⟩ => thn (ha pins s1 σ H1 _ I1 q) fun ov s2 ⟨x, H2, I2, rx, a, C, dx, fs, ex, ea, c, n, l, q2⟩ => ?_) hs
  subst ex
  obtain rfl : ov = Value.ref a := rx
  exact setattr_ok I2 ea c n l ry fun s3 I3 => ⟨σ, _, I3, q2⟩
end
section
variable {X : Cx} {pins : List (Addr × Obj)} {σ : St} {H : Hp} {s : Shared} {A : Around} {E : Value → Shared → Prop} {Q : Value → Shared → Prop} {c : Value} {b : Bool}
inductive TyOf (K : PySem.W.Frag) (H : Hp) : V → Value → Prop where
  | non : TyOf K H .non (.type "NoneType")
  | bl (x : Bool) : TyOf K H (.bl x) (.type "bool")
  | int (i : Int) : TyOf K H (.int i) (.type "int")
  | str (x : Str) : TyOf K H (.str x) (.type "str")
  | flt (x : UInt64) : TyOf K H (.flt x) (.type "float")
  | lst {a : Addr} {xs : List V} (e : H a = some (.lst xs)) : TyOf K H (.ref a) (.type "list")
  | frz {a : Addr} {o : Obj} {xs : List V} (e : H a = some (.frz o (.lst xs))) : TyOf K H (.ref a) (.type "list")
  | tup {a : Addr} {xs : List V} (e : H a = some (.tup xs)) : TyOf K H (.ref a) (.type "tuple")
  | dK {a : Addr} {kvs : List (Key × V)} (e : H a = some (.dK kvs)) : TyOf K H (.ref a) (.type "dict")
  | dT {a : Addr} {kvs : List (List Key × V)} (e : H a = some (.dT kvs)) : TyOf K H (.ref a) (.type "dict")
  | ins {a C dx : Addr} {fs : List (Str × V)} (e : H a = some (.ins C dx fs)) (cl : Cls K C) (ha : PySem.W.findIn K (.ref C) "__class__" = some (some (.builtin "object.__class__")))
      (hn : PySem.W.specialIn K (.builtin "object.__class__") "__get__" = some (some (.builtin "getset_descriptor.__get__"))) (htk : PySem.W.takesIn K (.builtin "object.__class__") = some true)
      (hm : PySem.W.mroIn K C (.type "object") = some true) : TyOf K H (.ref a) (.ref C)
theorem isinst_ok {x : V} {u t : Value} (I : Inv X pins σ H s) (rx : RelV x u) (ty : TyOf X.K H x t) (e : PySem.W.kitOne X.K t c = some b) (h : ∀ tk, Q (.bool b) { s with toks := tk }) :
    wpAny (model X.prog X.w) A (call (.builtin "isinstance") [u, c]) Q E s := by
  cases ty with
  | non => cases (show u = Value.none from rx); exact PySem.W.kia_one PySem.W.kitx_none I.kIn True.intro e (fun z => nomatch z) h
  | bl y => cases (show u = Value.bool y from rx); exact PySem.W.kia_one PySem.W.kitx_bool I.kIn True.intro e (fun z => nomatch z) h
  | int i => obtain ⟨t, q⟩ := (show ∃ t, u = Value.int i t from rx); cases q; exact PySem.W.kia_one PySem.W.kitx_int I.kIn True.intro e (fun z => nomatch z) h
  | str y => obtain ⟨t, q⟩ := (show ∃ t, u = Value.str y t from rx); cases q; exact PySem.W.kia_one PySem.W.kitx_str I.kIn True.intro e (fun z => nomatch z) h
  | flt y => obtain ⟨t, q⟩ := (show ∃ t, u = Value.float y t from rx); cases q; exact PySem.W.kia_one PySem.W.kitx_float I.kIn True.intro e (fun z => nomatch z) h
  | @lst a xs ea =>
    cases (show u = Value.ref a from rx)
    obtain ⟨_, _, n, _, h1⟩ := (show ObjOk X.prog X.w H s.heap a (.lst xs) from I.hok a _ ea)
    exact PySem.W.kia_one PySem.W.kitx_list I.kIn ⟨_, h1, rfl⟩ e (fun z => nomatch z) h
  | @frz a ob xs ea =>
    cases (show u = Value.ref a from rx)
    obtain ⟨_, _, _, n, _, h1⟩ := (show ObjOk X.prog X.w H s.heap a (.frz ob (.lst xs)) from I.hok a _ ea)
    exact PySem.W.kia_one PySem.W.kitx_list I.kIn ⟨_, h1, rfl⟩ e (fun z => nomatch z) h
  | @tup a xs ea =>
    cases (show u = Value.ref a from rx)
    obtain ⟨_, _, _, p⟩ := (show ObjOk X.prog X.w H s.heap a (.tup xs) from I.hok a _ ea)
    obtain ⟨o, h1, h2, _⟩ := p
    exact PySem.W.kia_one PySem.W.kitx_tuple I.kIn ⟨o, h1, h2⟩ e (fun z => nomatch z) h
  | @dK a kvs ea =>
    cases (show u = Value.ref a from rx)
    obtain ⟨_, _, vs, _, p⟩ := (show ObjOk X.prog X.w H s.heap a (.dK kvs) from I.hok a _ ea)
    obtain ⟨o, es, ep, h1, h2, _⟩ := p
    exact PySem.W.kia_one PySem.W.kitx_dict I.kIn ⟨o, h1, h2.1⟩ e (fun z => nomatch z) h
  | @dT a kvs ea =>
    cases (show u = Value.ref a from rx)
    obtain ⟨_, _, xs, _, o, es, ep, h1, h2, _⟩ := (show ObjOk X.prog X.w H s.heap a (.dT kvs) from I.hok a _ ea)
    exact PySem.W.kia_one PySem.W.kitx_dict I.kIn ⟨o, h1, h2.1⟩ e (fun z => nomatch z) h
  | @ins a C dx fs ea cl ha hn htk hm =>
    cases (show u = Value.ref a from rx)
    obtain ⟨mA, O, _⟩ := ins_get I.hok ea
    obtain ⟨od, J, _⟩ := O.look
    exact PySem.W.kia_one (PySem.W.kitx_own (cl.get _) cl.hd ha hn htk hm) I.kIn J e (fun z => nomatch z) h
end
end L2
namespace L2
open PySem PySem.Spec PyProof.Rows
structure Room (k : Nat) (A : Around) : Prop where
  hd : A.handled = none
  dp : A.depth + 3 * k + 5 < recursionLimit
  un : A.units + 16 * k + 200 < cLine
theorem Room.mono {j k : Nat} {A : Around} (r : Room k A) (h : j ≤ k) : Room j A := ⟨r.hd, by have := r.dp; omega, by have := r.un; omega⟩
theorem Room.deeper {k : Nat} {A : Around} (r : Room (k + 1) A) (env : Env) : Room k (A.deeper env) :=
  ⟨r.hd, by have := r.dp; show A.depth + 1 + 3 * k + 5 < _; omega, by have := r.un; show A.units + 3 + 16 * k + 200 < _; omega⟩
theorem make_depth {A : Around} {C : Addr} {us : List Value} {kw : List (Str × Value)} : (A.under (.builtin "type.__call__" ⟨.ref C :: us, kw⟩)).depth = A.depth + 1 := by
  first | rfl | simp [Around.under, Code.weight, Code.isCreation, Code.isGuard, Code.isCaller, Code.frames, Code.isFrame, guardIds]
theorem make_units {A : Around} {C : Addr} {us : List Value} {kw : List (Str × Value)} : (A.under (.builtin "type.__call__" ⟨.ref C :: us, kw⟩)).units = A.units + 1 := by
  first | rfl | simp [Around.under, Code.cUnits, Code.frames, Code.isFrame]
theorem Room.make {k : Nat} {A : Around} (r : Room (k + 1) A) (C : Addr) (us : List Value) (kw : List (Str × Value)) : Room k (A.under (.builtin "type.__call__" ⟨.ref C :: us, kw⟩)) :=
  ⟨r.hd, by have := r.dp; rw [make_depth]; omega, by have := r.un; rw [make_units]; omega⟩
theorem Room.depth {k : Nat} {A : Around} (r : Room k A) : A.depth < recursionLimit := by have := r.dp; omega
theorem Room.units {k : Nat} {A : Around} (r : Room k A) : A.units + 64 < cLine := by have := r.un; omega
def tNil : TA := fun _ H Q => Q [] H
def tCons (ta : TE) (tr : TA) : TA := fun σ H Q => ta σ H fun x H1 => tr σ H1 fun xs H2 => Q (x :: xs) H2
section
variable {X : Cx} {e : Expr} {es : List Expr} {te : TE} {t : TA} {pos : Pos}
theorem pa_nil : PA X [] tNil := fun _ _ _ _ H Q I h => Calls.spliced_nil ⟨[], H, I, .nil, h⟩
theorem pa_cons (ha : PE X e te) (hr : PA X es t) (hs : starEach (e :: es) X.env = (false, eval e X.env) :: starEach es X.env := by rfl) : PA X (e :: es) (tCons te t) := by
  intro pos pins s σ H Q I h
  rw [hs]
  show wpAny _ _ (spliced ((false, eval e X.env) :: backTo pos (starEach es X.env))) _ _ s
  refine Calls.spliced_cons (thn (ha pins s σ H _ I h) fun u s1 ⟨x, H1, I1, r1, q1⟩ => ?_)
  exact thn (hr pos pins s1 σ H1 _ I1 q1) fun us s2 ⟨xs, H2, I2, r2, q2⟩ => ⟨x :: xs, H2, I2, .cons r1 r2, q2⟩
def tTup (t : TA) : TE := fun σ H Q => t σ H fun xs H1 => xs.length ≤ sizeLine ∧ ∀ p, H1 p = none → Q (.ref p) (upd H1 p (.tup xs))
def tLst (t : TA) : TE := fun σ H Q => t σ H fun xs H1 => xs.length ≤ sizeLine ∧ ∀ p, H1 p = none → Q (.ref p) (upd H1 p (.lst xs))
theorem pe_tup {x1} (h : PA X es t) : PE X (.Tuple es x1 pos) (tTup t) := by
  intro pins s σ H Q I hq
  refine wpAny_Tuple_spliced (thn (h pos pins s σ H _ I hq) fun us s1 ⟨xs, H1, I1, r, z, q⟩ => ⟨by rw [← r.length]; exact z, ?_⟩)
  have hf : H1 s1.heap.objs.size = none := I1.hok.fresh (Nat.le_refl _)
  refine ⟨.ref s1.heap.objs.size, upd H1 s1.heap.objs.size (.tup xs), I1.laid (t' := s1.toks) (fun b u e => Heap.get?_push_of_some _ e) (Nat.le_refl _) ?_, rfl, q _ hf⟩
  exact ⟨z, us, r, ⟨_, Heap.get?_push_size _ rfl, rfl, _, rfl⟩⟩
theorem pe_lst (h : PA X es t) : PE X (.List es pos) (tLst t) := by
  intro pins s σ H Q I hq
  refine wpAny_List_spliced (thn (h pos pins s σ H _ I hq) fun us s1 ⟨xs, H1, I1, r, z, q⟩ => ⟨by rw [← r.length]; exact z, ?_⟩)
  have hf : H1 s1.heap.objs.size = none := I1.hok.fresh (Nat.le_refl _)
  refine ⟨.ref s1.heap.objs.size, upd H1 s1.heap.objs.size (.lst xs), I1.laid (t' := s1.toks) (fun b u e => Heap.get?_push_of_some _ e) (Nat.le_refl _) ?_, rfl, q _ hf⟩
  exact ⟨z, us, 0, r, Heap.get?_push_size _ rfl⟩
end
abbrev Sp := List V → Hp → VK → XK → Prop
abbrev CXT := List Env → Hp → Shared → XK → Value → Shared → Prop
structure Env0 (P : Program) (w : World) (K : PySem.W.Frag) (mg : Str → Option Value) (base : Heap) (A : Around) (outer : List Env) (s : Shared) (H : Hp) : Prop where
  frames : A.frames = some outer
  mod : Mod K mg base
  bs : ∀ b o, base.get? b = some o → s.heap.get? b = some o ∧ H b = none
  bsz : base.objs.size ≤ s.heap.objs.size
  funs : s.heap.FunFrames base outer
  frf : ∀ b ∈ frs outer, H b = none
  hok : HOk P w H s.heap
  bare : AllBare s.gens
def CE (outer : List Env) (P : Program) (w : World) (H : Hp) (s : Shared) (Q : VK) (u : Value) (s' : Shared) : Prop :=
  ∃ v H', s'.os = s.os ∧ AllBare s'.gens ∧ Un (frs outer) [] H H' s.heap s'.heap ∧ HOk P w H' s'.heap ∧ RelV v u ∧ Q v H'
def CR (CX : CXT) (outer : List Env) (P : Program) (w : World) (H : Hp) (s : Shared) (Q : VK) (E : XK) (r : Result) (s' : Shared) : Prop :=
  match r with
  | .ok (.ret u) => CE outer P w H s Q u s'
  | .ok _ => False
  | .error e => CX outer H s E e s'
structure FnOk (P : Program) (w : World) (K : PySem.W.Frag) (mg : Str → Option Value) (base : Heap) (CX : CXT) (k : Nat) (f : Addr) (fd : FuncData) (ps : List Str) (sp : Sp) : Prop where
  len : ∀ vs H Q E, sp vs H Q E → vs.length = ps.length
  run : ∀ (A : Around) (outer : List Env) (s : Shared) (H : Hp) (args : Args) (us : List Value) (vs : List V) (Q : VK) (E : XK), Room k A → Env0 P w K mg base A outer s H → BindsTo s fd args (ps.zip us) → Vals vs us → sp vs H Q E →
    codeAny (model P w) A (.call (.ref f) args) (CR CX outer P w H s Q E) s
theorem Env0.make {P : Program} {w : World} {K : PySem.W.Frag} {mg : Str → Option Value} {base : Heap} {A : Around} {outer : List Env} {s : Shared} {H : Hp} (e : Env0 P w K mg base A outer s H) (C : Addr) (us : List Value) (kw : List (Str × Value)) :
    Env0 P w K mg base (A.under (.builtin "type.__call__" ⟨.ref C :: us, kw⟩)) outer s H := ⟨by first | exact e.frames | (simpa [Around.under, Code.envs, Code.isFrame, pushEnvs] using e.frames), e.mod, e.bs, e.bsz, e.funs, e.frf, e.hok, e.bare⟩
section
variable {X : Cx} {pins : List (Addr × Obj)} {σ : St} {H : Hp} {s s' : Shared}
theorem Inv.env0 (I : Inv X pins σ H s) : Env0 X.prog X.w X.K X.mg X.base X.A X.stack s H :=
  ⟨I.ok.frames, I.ok.mod, I.bs, Nat.le_trans I.ok.bsz I.sz, I.stack, I.stkFree, I.hok, I.bare⟩
theorem Inv.after {Q : VK} {u : Value} (I : Inv X pins σ H s) (h : CE X.stack X.prog X.w H s Q u s') : EP X pins σ Q u s' := by
  obtain ⟨v, H', os, bare, un, hok, r, q⟩ := h
  obtain ⟨hh, g, d, t, os'⟩ := s'
  obtain rfl : os' = s.os := os
  exact ⟨v, H', I.call (h' := hh) (g' := g) (d' := d) (t' := t) (ch := []) un hok bare (fun b z => absurd z (by simp)), r, q⟩
end
def tCall (sp : Sp) (dvs : List V) (E : XK) (t : TA) : TE := fun σ H Q => t σ H fun vs H1 => sp (vs ++ dvs) H1 Q E
def tMeth (C : Addr) (m : Str) (sp : Sp) (dvs : List V) (E : XK) (ta : TE) (t : TA) : TE := fun σ H Q => ta σ H fun x H1 => ∃ a dx fs, x = .ref a ∧ H1 a = some (.ins C dx fs) ∧ fs.lookup m = none ∧
  t σ H1 fun vs H2 => sp (x :: (vs ++ dvs)) H2 Q E
def tMake (C : Addr) (sp : Sp) (dvs : List V) (E : XK) (t : TA) : TE := fun σ H Q => t σ H fun vs H1 => ∀ x dx, H1 x = none → H1 dx = none → dx ≠ x →
  sp (.ref x :: (vs ++ dvs)) (upd (upd H1 dx (.own x)) x (.ins C dx [])) (fun v H2 => v = .non ∧ Q (.ref x) H2) E
def Binds (K : PySem.W.Frag) (fd : FuncData) (ps : List Str) (ds : List Value) : Prop :=
  ∀ (s : Shared) (us : List Value), K.In s.heap → (us ++ ds).length = ps.length → BindsTo s fd ⟨us, []⟩ (ps.zip (us ++ ds))
theorem Binds.all {K : PySem.W.Frag} {fd : FuncData} {ps : List Str} (h : ∀ us : List Value, us.length = ps.length → bindArgs fd ⟨us, []⟩ = pure (ps.zip us)) : Binds K fd ps [] := fun s us _ hl => by
  rw [List.append_nil] at hl ⊢
  exact .of_eq (h us hl)
def Passes (CX : CXT) (X : Cx) (E : XK) : Prop := ∀ (pins : List (Addr × Obj)) (σ : St) (H : Hp) (s : Shared) (e : Value) (s' : Shared), Inv X pins σ H s → CX X.stack H s E e s' → X.xe e s'
section
variable {X : Cx} {CX : CXT} {k : Nat} {f C : Addr} {fd : FuncData} {ps : List Str} {sp : Sp} {dvs : List V} {ds : List Value} {E : XK} {x m : Str} {p pos apos : Pos} {e o : Expr} {es : List Expr} {ta : TE} {t : TA}
theorem run_fn {pins : List (Addr × Obj)} {σ : St} {H : Hp} {s : Shared} {Q : VK} {us : List Value} {vs : List V} (F : FnOk X.prog X.w X.K X.mg X.base CX k f fd ps sp) (hr : Room k X.A) (hb : Binds X.K fd ps ds) (hd : Vals dvs ds) (hx : Passes CX X E)
    (I : Inv X pins σ H s) (r : Vals vs us) (h : sp (vs ++ dvs) H Q E) : wpAny (model X.prog X.w) X.A (call (.ref f) us) (EP X pins σ Q) X.xe s := by
  have r2 : Vals (vs ++ dvs) (us ++ ds) := r.append hd
  have hl : (us ++ ds).length = ps.length := by rw [← r2.length]; exact F.len _ _ _ _ h
  refine wpAny_call (codeAny_mono (F.run X.A X.stack s H ⟨us, []⟩ (us ++ ds) (vs ++ dvs) Q E hr I.env0 (hb s us I.kIn hl) r2 h) fun r s' hq => ?_)
  cases r with
  | error e => exact hx pins σ H s e s' I hq
  | ok fl =>
    cases fl with
    | ret u => exact I.after hq
    | next => exact False.elim hq
    | brk => exact False.elim hq
    | cont => exact False.elim hq
theorem pe_call (F : FnOk X.prog X.w X.K X.mg X.base CX k f fd ps sp) (hr : Room k X.A) (hg : Gl X x) (hm : X.mg x = some (.ref f)) (hk : PySem.W.keepIn X.K (.ref f) = true) (hb : Binds X.K fd ps ds) (hd : Vals dvs ds) (hx : Passes CX X E)
    (ha : PA X (e :: es) t) (hdb : (x == ("__debug__" : Str)) = false := by decide) (he : starEach (e :: es) X.env = (false, eval e X.env) :: starEach es X.env := by rfl) (hpl : (backTo pos (starEach es X.env)).any (·.1) = false := by rfl) :
    PE X (.Call (.Name x p) (e :: es) [] pos) (tCall sp dvs E t) := by
  intro pins s σ H Q I h
  refine wpAny_Call_Name_kw (ld_glob I hg hm ?_ hdb)
  refine PySem.W.callWith_K (h₀ := X.base) I.ok.mod.kin hk (thn (ha pos pins s σ H _ I h) fun us s1 ⟨vs, H1, I1, r, q⟩ => ⟨I1.kIn, ?_⟩) he hpl
  exact run_fn F hr hb hd hx I1 r q
theorem pe_meth0 {pl : Sem Bool} (he : PE X o ta) (c : Cls X.K C) (hm : Meth X.K C m f) (F : FnOk X.prog X.w X.K X.mg X.base CX k f fd ps sp) (hr : Room k X.A) (hb : Binds X.K fd ps ds) (hd : Vals dvs ds) (hx : Passes CX X E)
    (ht : eval (.Call (.Attribute o m apos) [] [] pos) X.env = (do
      let ov ← eval o X.env
      standAt apos.atName
      let (f, first) ← holding [ov] (getMethod ov m pl)
      callWith pos f first (backTo pos (starEach [] X.env)) (backToKw pos (keywordEach [] X.env))) := by rfl) :
    PE X (.Call (.Attribute o m apos) [] [] pos) (tMeth C m sp dvs E ta tNil) := by
  intro pins s σ H Q I h
  refine PySem.W.methodCall_KW (pl := pl) (thn (he pins s σ H _ I h) fun u s1 ⟨x, H1, I1, rx, a, dx, fs, ex, ea, l, q⟩ => ?_) ht
  subst ex
  obtain rfl : u = Value.ref a := rx
  refine getmeth_ok I1 ea c hm l ?_
  exact PySem.W.callWith_K0 (first := [.ref a]) I1.kIn hm.kp (run_fn (us := [.ref a]) (vs := [.ref a]) F hr hb hd hx I1 (.cons rfl .nil) q)
structure Mk (K : PySem.W.Frag) (C f : Addr) : Prop where
  makes : PySem.W.makesIn K C = true
  init : PySem.W.findIn K (.ref C) "__init__" = some (some (.ref f))
  fn : PySem.W.isFn K (.ref f) = true
  kp : PySem.W.keepIn K (.ref C) = true
theorem run_make {pins : List (Addr × Obj)} {σ : St} {H : Hp} {s : Shared} {Q : VK} {us : List Value} {vs : List V} (M : Mk X.K C f) (F : FnOk X.prog X.w X.K X.mg X.base CX k f fd ps sp) (hr : Room (k + 1) X.A) (hb : Binds X.K fd ps ds) (hd : Vals dvs ds)
    (hx : Passes CX X E) (I : Inv X pins σ H s) (r : Vals vs us)
    (h : ∀ x dx, H x = none → H dx = none → dx ≠ x → sp (.ref x :: (vs ++ dvs)) (upd (upd H dx (.own x)) x (.ins C dx [])) (fun v H2 => v = .non ∧ Q (.ref x) H2) E) :
    wpAny (model X.prog X.w) X.A (call (.ref C) us) (EP X pins σ Q) X.xe s := by
  have hq := h (s.heap.objs.size + 1) s.heap.objs.size (I.hok.fresh (Nat.le_succ _)) (I.hok.fresh (Nat.le_refl _)) (Nat.ne_of_lt (Nat.lt_succ_self _))
  have I2 := Inv.made (C := C) I
  have r2 : Vals (V.ref (s.heap.objs.size + 1) :: (vs ++ dvs)) (Value.ref (s.heap.objs.size + 1) :: (us ++ ds)) := .cons rfl (r.append hd)
  have hl : (Value.ref (s.heap.objs.size + 1) :: us ++ ds).length = ps.length := by
    have e := r2.length
    rw [F.len _ _ _ _ hq] at e
    exact e.symm
  refine wpAny_call (make_map (f := f) I.kIn M.makes M.init (beq_iff_eq.mp M.fn) (codeAny_mono (F.run _ X.stack _ _ ⟨Value.ref (s.heap.objs.size + 1) :: us, []⟩ (Value.ref (s.heap.objs.size + 1) :: (us ++ ds)) _ _ E (hr.make C us [])
    (I2.env0.make C us []) (hb _ (Value.ref (s.heap.objs.size + 1) :: us) I2.kIn hl) r2 hq) fun r s' hq' => ?_))
  cases r with
  | error e => exact hx pins σ _ _ e s' I2 hq'
  | ok fl =>
    cases fl with
    | ret u =>
      obtain ⟨v, H', I3, rv, ev, q3⟩ := I2.after hq'
      subst ev
      exact ⟨rv, ⟨V.ref (s.heap.objs.size + 1), H', I3, rfl, q3⟩⟩
    | next => exact False.elim hq'
    | brk => exact False.elim hq'
    | cont => exact False.elim hq'
theorem pe_make (M : Mk X.K C f) (F : FnOk X.prog X.w X.K X.mg X.base CX k f fd ps sp) (hr : Room (k + 1) X.A) (hg : Gl X x) (hm : X.mg x = some (.ref C)) (hb : Binds X.K fd ps ds) (hd : Vals dvs ds) (hx : Passes CX X E)
    (ha : PA X (e :: es) t) (hdb : (x == ("__debug__" : Str)) = false := by decide) (he : starEach (e :: es) X.env = (false, eval e X.env) :: starEach es X.env := by rfl) (hpl : (backTo pos (starEach es X.env)).any (·.1) = false := by rfl) :
    PE X (.Call (.Name x p) (e :: es) [] pos) (tMake C sp dvs E t) := by
  intro pins s σ H Q I h
  refine wpAny_Call_Name_kw (ld_glob I hg hm ?_ hdb)
  refine PySem.W.callWith_K (h₀ := X.base) I.ok.mod.kin M.kp (thn (ha pos pins s σ H _ I h) fun us s1 ⟨vs, H1, I1, r, q⟩ => ⟨I1.kIn, ?_⟩) he hpl
  exact run_make M F hr hb hd hx I1 r q
end
section
variable {X : Cx} {CX : CXT} {k : Nat} {f C : Addr} {fd : FuncData} {ps ks : List Str} {sp : Sp} {E : XK} {x m : Str} {p pos apos kpos : Pos} {e o : Expr} {es : List Expr} {kws : List Keyword} {te ta : TE} {t tk : TA} {nm : Option Str}
structure KBinds (K : PySem.W.Frag) (fd : FuncData) (ps ks : List Str) (g : List Value → List Value → List Value) (gV : List V → List V → List V) : Prop where
  to : ∀ (s : Shared) (us ws : List Value), K.In s.heap → (g us ws).length = ps.length → BindsTo s fd ⟨us, ks.zip ws⟩ (ps.zip (g us ws))
  rel : ∀ {vs : List V} {us : List Value} {zs : List V} {ws : List Value}, Vals vs us → Vals zs ws → Vals (gV vs zs) (g us ws)
variable {g : List Value → List Value → List Value} {gV : List V → List V → List V}
end
structure FnScope (N P : List Str) (sc : Scope) : Prop where
  kind : sc.kind = .function
  co : sc.isCoroutine = false
  gen : sc.isGenerator = false
  nd : N.Nodup
  pre : N.take P.length = P
  par : ∀ x ∈ P, sc.names.lookup x = some .local ∨ sc.names.lookup x = some .cell
  nofree : ∀ y ∈ sc.names, y.2 ≠ .free
theorem bindL_out {kindOf : Str → Option NameKind} {x : Str} : ∀ {binds : List (Str × Value)} {m : Str → Option Value}, (∀ v, (x, v) ∉ binds) → bindL kindOf binds m x = m x
  | [], _, _ => rfl
  | (n, v) :: r, m, h => by
    unfold bindL
    rw [bindL_out fun w hw => h w (List.mem_cons_of_mem _ hw)]
    split
    · have : x ≠ n := by rintro rfl; exact h v List.mem_cons_self
      simp [this]
    · rfl
theorem bindC_out {kindOf : Str → Option NameKind} {x : Str} : ∀ {binds : List (Str × Value)} {m : Str → Option Value}, (∀ v, (x, v) ∉ binds) → bindC kindOf binds m x = m x
  | [], _, _ => rfl
  | (n, v) :: r, m, h => by
    unfold bindC
    rw [bindC_out fun w hw => h w (List.mem_cons_of_mem _ hw)]
    split
    · rfl
    · have : x ≠ n := by rintro rfl; exact h v List.mem_cons_self
      simp [this]
theorem bindL_get {kindOf : Str → Option NameKind} {x : Str} {v : Value} : ∀ {P : List Str} {vs : List Value} {i : Nat} {m : Str → Option Value}, P.Nodup → P[i]? = some x → vs[i]? = some v → kindOf x = some .local →
    bindL kindOf (P.zip vs) m x = some v
  | [], _, _, _, _, h, _, _ => by simp at h
  | _ :: _, [], _, _, _, _, h, _ => by simp at h
  | p :: P, w :: vs, 0, m, nd, h1, h2, hk => by
    simp at h1 h2; subst h1; subst h2
    show bindL kindOf ((p, w) :: P.zip vs) m p = _
    unfold bindL
    rw [bindL_out fun v hv => (List.nodup_cons.mp nd).1 (List.of_mem_zip hv).1, if_pos hk]
    simp
  | p :: P, w :: vs, i + 1, m, nd, h1, h2, hk => by
    show bindL kindOf ((p, w) :: P.zip vs) m x = _
    unfold bindL
    exact bindL_get (i := i) (List.nodup_cons.mp nd).2 (by simpa using h1) (by simpa using h2) hk
theorem bindC_get {kindOf : Str → Option NameKind} {x : Str} {v : Value} : ∀ {P : List Str} {vs : List Value} {i : Nat} {m : Str → Option Value}, P.Nodup → P[i]? = some x → vs[i]? = some v → kindOf x ≠ some .local →
    bindC kindOf (P.zip vs) m x = some v
  | [], _, _, _, _, h, _, _ => by simp at h
  | _ :: _, [], _, _, _, _, h, _ => by simp at h
  | p :: P, w :: vs, 0, m, nd, h1, h2, hk => by
    simp at h1 h2; subst h1; subst h2
    show bindC kindOf ((p, w) :: P.zip vs) m p = _
    unfold bindC
    rw [bindC_out fun v hv => (List.nodup_cons.mp nd).1 (List.of_mem_zip hv).1, if_neg hk]
    simp
  | p :: P, w :: vs, i + 1, m, nd, h1, h2, hk => by
    show bindC kindOf ((p, w) :: P.zip vs) m x = _
    unfold bindC
    exact bindC_get (i := i) (List.nodup_cons.mp nd).2 (by simpa using h1) (by simpa using h2) hk
def start (N : List Str) (vs : List V) : St := vs.map some ++ List.replicate (N.length - vs.length) none
def cxOf (CX : CXT) (P : Program) (w : World) (K : PySem.W.Frag) (mg : Str → Option Value) (base : Heap) (N : List Str) (qual : Str) (scope : Scope) (f : Addr) (cd : Value) (A : Around) (outer : List Env) (s : Shared) (H : Hp) (E : XK) : Cx where
  prog := P
  w := w
  K := K
  mg := mg
  base := base
  A := A.deeper (envOfC qual scope s.heap.objs.size f cd)
  N := N
  s₀ := s
  H₀ := H
  env := envOfC qual scope s.heap.objs.size f cd
  outer := outer
  stack := envOfC qual scope s.heap.objs.size f cd :: outer
  ex := []
  calm := true
  fn := fun _ => true
  pn := []
  xe := fun e s' => wpAny (model P w) (A.deeper (envOfC qual scope s.heap.objs.size f cd)) (leaving (envOfC qual scope s.heap.objs.size f cd) e) (fun _ s'' => CX outer H s E e s'') (fun e' s'' => CX outer H s E e' s'') s'
theorem cell_has {sc : Scope} {n : Nat} {x : Str} (h : sc.names.lookup x = some .cell) : ∃ c, (cellsFrom n sc.names []).lookup x = some c := by
  have q := PySem.W.cellsFrom_some sc.names n [] (.inl h)
  exact Option.isSome_iff_exists.mp q
theorem inv_start {CX : CXT} {P : Program} {w : World} {K : PySem.W.Frag} {mg : Str → Option Value} {base : Heap} {N ps : List Str} {qual : Str} {scope : Scope} {f : Addr} {cd : Value} {A : Around} {outer : List Env} {s s1 : Shared} {H : Hp} {E : XK} {us : List Value} {vs : List V}
    (S : FnScope N ps scope) (hd : A.handled = none) (e0 : Env0 P w K mg base A outer s H) (hl : vs.length = ps.length) (r : Vals vs us)
    (x : InCallC s s.heap.objs.size (bindL (envOfC qual scope s.heap.objs.size f cd).kindOf (ps.zip us) fun _ => none) (cellsFrom (s.heap.objs.size + 1) scope.names []) (bindC (envOfC qual scope s.heap.objs.size f cd).kindOf (ps.zip us) fun _ => none) s1) :
    Inv (cxOf CX P w K mg base N qual scope f cd A outer s H E) [] (start N vs) H s1 := by
  have hpl : ps.length ≤ N.length := by have := congrArg List.length S.pre; rw [List.length_take] at this; omega
  obtain ⟨h1, tk, rfl, hk⟩ := x.done
  have noA : ∀ b : Addr, b ∉ (cxOf CX P w K mg base N qual scope f cd A outer s H E).ex := fun b z => absurd (show b ∈ ([] : List Addr) from z) (by simp)
  refine ⟨⟨e0.mod, S.kind, rfl, rfl, Nat.le_refl _, fun y z c h1 h2 => ?_, fun y hy => ?_, fun y c _ h => ?_, fun _ => hd, Around.frames_deeper e0.frames, .inr ⟨rfl, rfl⟩, fun b z => absurd z (noA b), e0.bs, e0.bsz, fun b _ _ => noA b, fun b z => absurd z (noA b), e0.funs, e0.frf⟩,
    rfl, e0.bare, Un.kept hk, ⟨_, x.toInCall.ns, fun i y v h1 h2 h3 => ?_⟩, fun y c h => ⟨_, x.cell y c h⟩, e0.hok.fresh (Nat.le_refl _), fun y c h => ?_, fun p hp => absurd (show p ∈ ([] : List (Addr × Obj)) from hp) (by simp), e0.hok.kept hk, ?_⟩
  · exact name_of_addr x.apart (PySem.mem_of_lookup h1) (PySem.mem_of_lookup h2)
  · have hy : scope.names.lookup y = some .cell ∨ scope.names.lookup y = some .free := hy
    rcases hy with hy | hy
    · exact cell_has hy
    · exact absurd rfl (S.nofree _ (PySem.mem_of_lookup hy))
  · exact Nat.le_of_lt (x.above y c (PySem.mem_of_lookup h))
  · have hi : i < vs.length := by
      unfold start at h2
      by_cases hi : i < vs.length
      · exact hi
      · rw [List.getElem?_append_right (by simpa using hi)] at h2
        rw [List.getElem?_replicate] at h2
        split at h2 <;> cases h2
    have ha : vs[i]? = some v := by
      unfold start at h2
      rw [List.getElem?_append_left (by simpa using hi), List.getElem?_map] at h2
      cases e : vs[i]? with
      | none => rw [e] at h2; cases h2
      | some a => rw [e] at h2; cases h2; rfl
    obtain ⟨u, hu, rv⟩ := r.get ha
    have hp : ps[i]? = some y := by
      rw [← S.pre, List.getElem?_take_of_lt (by omega)]; exact h1
    have ndP : ps.Nodup := by rw [← S.pre]; exact S.nd.sublist (List.take_sublist _ _)
    refine ⟨u, rv, ?_⟩
    rcases S.par y (List.mem_of_getElem? hp) with k | k
    · exact .inl ⟨k, bindL_get ndP hp hu k⟩
    · obtain ⟨c, e⟩ := cell_has (n := s.heap.objs.size + 1) k
      refine .inr ⟨.inl k, c, e, ?_⟩
      have q := x.cell y c e
      rw [bindC_get ndP hp hu (by show scope.names.lookup y ≠ _; rw [k]; decide)] at q
      exact q
  · exact e0.hok.fresh (Nat.le_of_lt (x.above y c (PySem.mem_of_lookup h)))
  · unfold start
    show _ = N.length
    rw [List.length_append, List.length_map, List.length_replicate]
    omega
theorem fn_of {CX : CXT} {P : Program} {w : World} {K : PySem.W.Frag} {mg : Str → Option Value} {base : Heap} {k : Nat} {f : Addr} {name qual : Str} {params : Arguments} {body : List Stmt} {scope : Scope} {dV kV doc pm cdv ct oc : Value} {an od : Option Addr}
    {osl : Array (Option Value)} {N ps : List Str} {sp : Sp} (lk : K.lookup f = some ⟨oc, od, .func (PySem.W.fnOf name qual params body scope dV kV doc pm an cdv ct), osl⟩) (hcd : PySem.W.codeIn K cdv qual = true) (S : FnScope N ps scope)
    (len : ∀ vs H Q E, sp vs H Q E → vs.length = ps.length)
    (hbody : ∀ (A : Around) (outer : List Env) (s : Shared) (H : Hp) (vs : List V) (Q : VK) (E : XK), Room k (A.deeper (envOfC qual scope s.heap.objs.size f cdv)) → sp vs H Q E →
      ∃ t, PSs (cxOf CX P w K mg base N qual scope f cdv A outer s H E) body t ∧ t { nx := fun _ H' => Q .non H', rt := Q } (start N vs) H) :
    FnOk P w K mg base CX (k + 1) f (PySem.W.fnOf name qual params body scope dV kV doc pm an cdv ct) ps sp := by
  refine ⟨len, fun A outer s H args us vs Q E hr e0 hb r hsp => ?_⟩
  have hl := len _ _ _ _ hsp
  have KX : K.In s.heap := e0.mod.kin.keeps fun b o e => (e0.bs b o e).1
  have lim : s.heap.NoLimit := e0.mod.nolimit.keeps fun b o e => (e0.bs b o e).1
  have hkind : ∀ y ∈ ps.zip us, scope.names.lookup y.1 = some .local ∨ (scope.names.lookup y.1 = some .cell ∧ ((cellsFrom (s.heap.objs.size + 1) scope.names []).lookup y.1).isSome = true) := fun ⟨n, v⟩ hy => by
    rcases S.par n (List.of_mem_zip hy).1 with q | q
    · exact .inl q
    · exact .inr ⟨q, PySem.W.cellsFrom_some _ _ _ (.inl q)⟩
  refine codeAny_call_function hr.depth (KX _ _ lk) rfl S.co S.gen rfl (PySem.W.codeRec_of KX hcd) (hb _ _ _ _ ?_)
  refine wpAny_newFunctionEnv_cells S.kind hkind fun env he s1 x => ?_
  subst he
  refine ⟨lim.keeps x.toInCall.keep, codeAny_func ?_⟩
  obtain ⟨t, ht, hq⟩ := hbody A outer s H vs Q E (hr.deeper _) hsp
  have I : Inv (cxOf CX P w K mg base N qual scope f cdv A outer s H E) [] (start N vs) H s1 := inv_start S hr.hd e0 hl r x
  refine wpAny_mono (ht [] s1 (start N vs) H _ I hq) (fun fl s' hs => ?_) fun e s' hs => hs
  have fin : ∀ {σ' : St} {H' : Hp} {v : V} {u : Value}, Inv (cxOf CX P w K mg base N qual scope f cdv A outer s H E) [] σ' H' s' → RelV v u → Q v H' → CE outer P w H s Q u s' :=
    fun {σ' H' v u} J rv q => ⟨v, H', J.os, J.bare, J.base, J.hok, rv, q⟩
  cases fl with
  | ret u =>
    obtain ⟨v, σ', H', J, rv, q⟩ := hs
    exact fin J rv q
  | next =>
    obtain ⟨σ', H', J, q⟩ := hs
    exact fin (v := V.non) (u := Value.none) J rfl q
  | brk =>
    obtain ⟨_, _, _, q⟩ := hs
    exact False.elim q
  | cont =>
    obtain ⟨_, _, _, q⟩ := hs
    exact False.elim q
end L2
namespace L2
open PySem PySem.Spec PyProof.Rows
section
variable {X : Cx} {x : Str} {p pos : Pos} {e : Expr} {es : List Expr} {t : TA} {id T : String} {r : List V → Hp → VK → Prop}
def tCB (r : List V → Hp → VK → Prop) (t : TA) : TE := fun σ H Q => t σ H fun vs H1 => r vs H1 Q
theorem pe_callB (hc : CallR X (.builtin id) r) (hg : Gl X x) (hm : X.mg x = none) (hv : bootBuiltins x = some (.builtin id)) (ha : PA X (e :: es) t) (hn : x ≠ "__name__" := by decide) (hdb : (x == ("__debug__" : Str)) = false := by decide)
    (he : starEach (e :: es) X.env = (false, eval e X.env) :: starEach es X.env := by rfl) (hpl : (backTo pos (starEach es X.env)).any (·.1) = false := by rfl) : PE X (.Call (.Name x p) (e :: es) [] pos) (tCB r t) := by
  intro pins s σ H Q I h
  refine wpAny_Call_Name_kw (ld_blt I hg hm hv ?_ hn hdb)
  exact PyProof.Rows.callWith_builtin1 (thn (ha pos pins s σ H _ I h) fun us s1 ⟨vs, H1, I1, r1, q1⟩ => hc pins s1 σ H1 vs us Q I1 r1 q1) he hpl
theorem pe_callTy (hc : CallR X (.type T) r) (hg : Gl X x) (hm : X.mg x = none) (hv : bootBuiltins x = some (.type T)) (ha : PA X (e :: es) t) (hn : x ≠ "__name__" := by decide) (hdb : (x == ("__debug__" : Str)) = false := by decide)
    (he : starEach (e :: es) X.env = (false, eval e X.env) :: starEach es X.env := by rfl) (hpl : (backTo pos (starEach es X.env)).any (·.1) = false := by rfl) : PE X (.Call (.Name x p) (e :: es) [] pos) (tCB r t) := by
  intro pins s σ H Q I h
  refine wpAny_Call_Name_kw (ld_blt I hg hm hv ?_ hn hdb)
  exact PyProof.Rows.callWith_type1 (thn (ha pos pins s σ H _ I h) fun us s1 ⟨vs, H1, I1, r1, q1⟩ => hc pins s1 σ H1 vs us Q I1 r1 q1) he hpl
end
end L2
namespace HT
open PySem PyProof.Rows
def lexLt : List Int → List Int → Bool
  | [], [] => false
  | [], _ :: _ => true
  | _ :: _, [] => false
  | x :: xs, y :: ys => if x = y then lexLt xs ys else decide (x < y)
theorem lexLt_cons (x y : Int) (xs ys : List Int) : lexLt (x :: xs) (y :: ys) = if x = y then lexLt xs ys else decide (x < y) := rfl
section
open PySem.SeqAt
open PySem.AutoSeq1 (wpAny_loadPart')
open PySem.MeetsSeq PySem.MeetsSeq2 PySem.MeetsSeq3
end
section
variable {prog : Program} {w : World} {A : Around} {E : Value → Shared → Prop} {s : Shared}
theorem cat_tup {t b : Addr} {vs ws : List Value} {Q : Value → Shared → Prop} (ht : IsTup s.heap t vs.toArray) (hb : IsTup s.heap b ws.toArray) (hv : vs ≠ [])
    (h1 : ws = [] → Q (.ref t) s) (h2 : ws ≠ [] → Q (.ref s.heap.objs.size) { s with heap := s.heap.push { cls := .type "tuple", data := .seq (vs ++ ws).toArray } })
    (hsz : vs.length + ws.length ≤ sizeLine) : wpAny (model prog w) A (binaryOp .Add (.ref t) (.ref b)) Q E s := by
  obtain ⟨⟨cls, dd, data, sl⟩, ho, hc, n, hd⟩ := id ht
  obtain ⟨⟨cls2, dd2, data2, sl2⟩, ho2, hc2, n2, hd2⟩ := id hb
  simp only at hc hd hc2 hd2
  subst hc hd hc2 hd2
  have e : vs.toArray ++ ws.toArray = (vs ++ ws).toArray := by simp
  by_cases hw : ws = []
  · exact concat_meets ⟨_, ho, rfl⟩ ⟨_, ho2, rfl⟩ noFill_tuple_add seq_tuple_add PySem.F.slot_tuple_add PySem.F.entry_tuple_add (PySem.F.args_tuple_add_2 _ _)
      (tuple_addW1 t b vs.toArray ws.toArray n n2 dd dd2 sl sl2 (by simpa using hv) (by simp [hw])) ⟨ho, ho2, h1 hw⟩
  · refine concat_meets ⟨_, ho, rfl⟩ ⟨_, ho2, rfl⟩ noFill_tuple_add seq_tuple_add PySem.F.slot_tuple_add PySem.F.entry_tuple_add (PySem.F.args_tuple_add_2 _ _)
      (tuple_addW2 t b vs.toArray ws.toArray n n2 dd dd2 sl sl2 (by simpa using hv) (by simpa using hw) (by rw [List.size_toArray, List.size_toArray]; exact hsz)) ⟨ho, ho2, ?_⟩
    rw [e]
    exact h2 hw
def sIx (n d : Nat) : Option Int → Nat
  | none => d
  | some v => if v < 0 then (v + (n : Int)).toNat else min v.toNat n
theorem sIx_none (n d : Nat) : sIx n d none = d := rfl
theorem sIx_nat (n d k : Nat) : sIx n d (some (k : Int)) = min k n := by
  show (if (k : Int) < 0 then ((k : Int) + (n : Int)).toNat else min (k : Int).toNat n) = min k n
  rw [if_neg (by omega), Int.toNat_natCast]
end
end HT
namespace L2
open PySem PySem.Spec PyProof.Rows
abbrev TO := St → Hp → (Option Int → Hp → Prop) → Prop
def PO (X : Cx) (e : Option Expr) (t : TO) : Prop :=
  ∀ (pins : List (Addr × Obj)) (s : Shared) (σ : St) (H : Hp) (Q : Option Int → Hp → Prop), Inv X pins σ H s → t σ H Q →
    wpAny (model X.prog X.w) X.A (evalPart e X.env) (fun u s' => ∃ o H', Inv X pins σ H' s' ∧ IsPart u o ∧ Q o H') X.xe s
def tNoPart : TO := fun _ H Q => Q none H
def tPart (t : TE) : TO := fun σ H Q => t σ H fun x H1 => ∃ i, x = .int i ∧ Q (some i) H1
section
variable {X : Cx} {e : Expr} {te : TE} {lo hi : Option Expr} {tl th : TO} {pos p2 : Pos}
theorem po_none : PO X none tNoPart := by
  intro pins s σ H Q I h
  rw [evalPart_none]
  exact wpAny_pure ⟨none, H, I, .none, h⟩
theorem po_some (h : PE X e te) : PO X (some e) (tPart te) := by
  intro pins s σ H Q I hw
  rw [evalPart_some]
  refine thn (h pins s σ H _ I hw) fun u s1 ⟨x, H1, I1, r1, q1⟩ => ?_
  obtain ⟨i, rfl, q⟩ := q1
  obtain ⟨t, rfl⟩ := r1
  exact ⟨some i, H1, I1, .int i t, q⟩
def SlR (X : Cx) (r : V → Option Int → Option Int → Hp → VK → Prop) : Prop :=
  ∀ (pins : List (Addr × Obj)) (s : Shared) (σ : St) (H : Hp) (x : V) (v vl vu : Value) (lo hi : Option Int) (sl : Addr) (Q : VK), Inv X pins σ H s → RelV x v → s.heap.IsSliceOf sl vl vu .none → IsPart vl lo → IsPart vu hi → r x lo hi H Q →
    ∃ T id, typeLookup (.type T) "__getitem__" = pure (some (.builtin id)) ∧ s.TypeIs v T ∧ wpAny (model X.prog X.w) X.A (getItem v (.ref sl)) (EP X pins σ Q) X.xe s
def tSl (r : V → Option Int → Option Int → Hp → VK → Prop) (te : TE) (tl th : TO) : TE := fun σ H Q => te σ H fun x H1 => tl σ H1 fun l H2 => th σ H2 fun u H3 => r x l u H3 Q
theorem pe_slice {r : V → Option Int → Option Int → Hp → VK → Prop} (hr : SlR X r) (he : PE X e te) (hl : PO X lo tl) (hu : PO X hi th) : PE X (.Subscript e (.Slice lo hi none p2) pos) (tSl r te tl th) := by
  intro pins s σ H Q I h
  refine Subscript_ (thn (he pins s σ H _ I h) fun v s1 ⟨x, H1, I1, r1, q1⟩ => ?_)
  refine wpAny_Slice (thn (hl pins s1 σ H1 _ I1 q1) fun vl s2 ⟨l, H2, I2, pl, q2⟩ => thn (hu pins s2 σ H2 _ I2 q2) fun vu s3 ⟨u, H3, I3, pu, q3⟩ => ?_)
  rw [evalPart_none]
  refine wpAny_pure ?_
  have I4 : Inv X pins σ H3 { s3 with heap := s3.heap.push { cls := .type "slice", data := .fields #[vl, vu, .none] } } := I3.kept (t' := s3.toks) fun b ob q => Heap.get?_push_of_some _ q
  obtain ⟨T, id, hT, ht, hg⟩ := hr pins { s3 with heap := s3.heap.push { cls := .type "slice", data := .fields #[vl, vu, .none] } } σ H3 x v vl vu l u s3.heap.objs.size Q I4 r1 (Heap.IsSliceOf.new ..) pl pu q3
  show wpAny (model X.prog X.w) X.A (subscriptTail e (.Slice lo hi none p2) v (.ref s3.heap.objs.size)) (EP X pins σ Q) X.xe { s3 with heap := s3.heap.push { cls := .type "slice", data := .fields #[vl, vu, .none] } }
  exact tail_any (ops := [.ref s3.heap.objs.size, v]) ht hT hg (by with_unfolding_all rfl)
def cutV (xs : List V) (lo hi : Option Int) : List V := (xs.drop (HT.sIx xs.length 0 lo)).take (HT.sIx xs.length xs.length hi - HT.sIx xs.length 0 lo)
theorem cutV_length (xs : List V) (lo hi : Option Int) : (cutV xs lo hi).length ≤ xs.length := by
  unfold cutV
  rw [List.length_take, List.length_drop]
  omega
def rCatT (K : PySem.W.Frag) : R2 := fun x y H Q => ∃ a b xs ys, x = .ref a ∧ y = .ref b ∧ SqT K H a xs ∧ SqT K H b ys ∧ xs ≠ [] ∧ xs.length + ys.length ≤ sizeLine ∧
  (ys = [] → Q (.ref a) H) ∧ (ys ≠ [] → ∀ p, H p = none → Q (.ref p) (upd H p (.tup (xs ++ ys))))
theorem Vals.nil_iff {xs : List V} {us : List Value} (r : Vals xs us) : us = [] ↔ xs = [] := by
  cases r with
  | nil => simp
  | cons _ _ => simp
theorem op_catT : OpR X (binaryOp .Add) (rCatT X.K) := by
  intro pins s σ H x y v u Q I rx ry h
  obtain ⟨a, b, xs, ys, rfl, rfl, ha, hb, hx, hz, q1, q2⟩ := h
  cases rx
  cases ry
  obtain ⟨its, r1, p1, _⟩ := I.tuple ha
  obtain ⟨its2, r2, p2, _⟩ := I.tuple hb
  refine HT.cat_tup p1 p2 (fun z => hx (r1.nil_iff.mp z)) (fun z => ⟨.ref a, H, I, rfl, q1 (r2.nil_iff.mp z)⟩) (fun z => ?_) (by rw [← r1.length, ← r2.length]; exact hz)
  refine ⟨.ref s.heap.objs.size, _, I.laid (t' := s.toks) (o := .tup (xs ++ ys)) (fun b ob q => Heap.get?_push_of_some _ q) (Nat.le_refl _) ?_, rfl, q2 (fun w => z (r2.nil_iff.mpr w)) _ (I.hok.fresh (Nat.le_refl _))⟩
  exact ⟨by rw [List.length_append]; exact hz, _, r1.append r2, IsTup.new _ _⟩
end
end L2
namespace L2
open PySem PySem.Spec PyProof.Rows
def ixN (n : Nat) (i : Int) : Option Nat := if 0 ≤ i then (if i < n then some i.toNat else none) else if -(n : Int) ≤ i then some (i + n).toNat else none
def atI {α : Type} (xs : List α) (i : Int) : Option α := (ixN xs.length i).bind fun j => xs[j]?
theorem ixN_seq {n : Nat} {i : Int} {j : Nat} (h : ixN n i = some j) : seqIndex? i n = some j ∧ j < n ∧ -(n : Int) ≤ i ∧ i < n := by
  unfold ixN at h
  by_cases h0 : 0 ≤ i
  · rw [if_pos h0] at h
    by_cases h1 : i < n
    · rw [if_pos h1] at h
      have e : i.toNat = j := Option.some.inj h
      exact ⟨by rw [seqIndex_of h0 h1, e], by omega, by omega, h1⟩
    · rw [if_neg h1] at h; cases h
  · rw [if_neg h0] at h
    by_cases h1 : -(n : Int) ≤ i
    · rw [if_pos h1] at h
      have e : (i + n).toNat = j := Option.some.inj h
      exact ⟨by rw [seqIndex_neg (by omega) h1, e], by omega, h1, by omega⟩
    · rw [if_neg h1] at h; cases h
theorem atI_get {α : Type} {xs : List α} {i : Int} {v : α} (h : atI xs i = some v) : ∃ j, seqIndex? i xs.length = some j ∧ xs[j]? = some v ∧ j < xs.length ∧ -(xs.length : Int) ≤ i ∧ i < xs.length := by
  unfold atI at h
  cases e : ixN xs.length i with
  | none => rw [e] at h; cases h
  | some j =>
    rw [e] at h
    obtain ⟨h1, h2, h3, h4⟩ := ixN_seq e
    exact ⟨j, h1, h, h2, h3, h4⟩
theorem atI_nat {α : Type} {xs : List α} {j : Nat} {v : α} (h : xs[j]? = some v) : atI xs (j : Int) = some v := by
  have hj : j < xs.length := (List.getElem?_eq_some_iff.mp h).1
  have e : ixN xs.length (j : Int) = some j := by
    unfold ixN
    rw [if_pos (by omega), if_pos (by omega)]; simp
  unfold atI; rw [e]; exact h
theorem atI_last {α : Type} (xs : List α) (v : α) : atI (xs ++ [v]) (-1) = some v := by
  have hl : (xs ++ [v]).length = xs.length + 1 := by simp
  have e : ixN (xs ++ [v]).length (-1) = some xs.length := by
    unfold ixN
    rw [hl, if_neg (by decide), if_pos (by omega)]
    congr 1
    omega
  unfold atI
  rw [e]
  show (xs ++ [v])[xs.length]? = some v
  simp
def PlainIx (b : Expr) : Prop := ∀ o i, subscripted b false o i = operate [o, i] (getItem o i)
def IxR (X : Cx) (r : R2) : Prop :=
  ∀ (value slice : Expr) (pins : List (Addr × Obj)) (s : Shared) (σ : St) (H : Hp) (x y : V) (v u : Value) (Q : VK), Inv X pins σ H s → RelV x v → RelV y u → r x y H Q →
    subscripted slice false v u = operate [v, u] (getItem v u) → wpAny (model X.prog X.w) X.A (subscriptTail value slice v u) (EP X pins σ Q) X.xe s
def MtR (X : Cx) (id : String) (r : V → List V → Hp → VK → Prop) : Prop :=
  ∀ (pins : List (Addr × Obj)) (s : Shared) (σ : St) (H : Hp) (x : V) (xs : List V) (v : Value) (us : List Value) (Q : VK), Inv X pins σ H s → RelV x v → Vals xs us → r x xs H Q →
    wpAny (model X.prog X.w) X.A (call (.builtin id) (v :: us)) (EP X pins σ Q) X.xe s
section
variable {X : Cx} {a b : Expr} {ta tb : TE} {pos : Pos}
theorem pe_ix {r : R2} (hr : IxR X r) (ha : PE X a ta) (hb : PE X b tb) (hs : PlainIx b) : PE X (.Subscript a b pos) (tOp r ta tb) := by
  intro pins s σ H Q I h
  exact Subscript_ (binT ha hb I h fun v u s2 x y H2 I2 rx ry q => hr a b pins s2 σ H2 x y v u Q I2 rx ry q (hs _ _))
def rIxL (K : PySem.W.Frag) : R2 := fun x y H Q => ∃ p xs i v, x = .ref p ∧ y = .int i ∧ SqL K H p xs ∧ atI xs i = some v ∧ Q v H
def rIxT (K : PySem.W.Frag) : R2 := fun x y H Q => ∃ p xs i v, x = .ref p ∧ y = .int i ∧ SqT K H p xs ∧ atI xs i = some v ∧ Q v H
def rIxS : R2 := fun x y H Q => ∃ z i c, x = .str z ∧ y = .int i ∧ z.length ≤ sizeLine ∧ atI z.cps.toList i = some c ∧ Q (.str ⟨#[c]⟩) H
theorem ix_list : IxR X (rIxL X.K) := by
  intro value slice pins s σ H x y v u Q I rx ry h hs
  obtain ⟨p, xs, i, z, rfl, rfl, hq, he, q⟩ := h
  cases rx
  obtain ⟨t, rfl⟩ := ry
  obtain ⟨its, r, pl, hz⟩ := I.list hq
  obtain ⟨j, h1, h2, h3, h4, h5⟩ := atI_get he
  obtain ⟨w, ew, rw'⟩ := r.get h2
  have hl := r.length
  have hn := line63
  have fin : EP X pins σ Q w s := ⟨z, H, I, rw', q⟩
  by_cases h0 : 0 ≤ i
  · have hj : i.toNat = j := by
      rw [seqIndex_of h0 h5] at h1
      exact Option.some.inj h1
    exact item_listR pl.isList h0 (by omega) (by rw [hj]; simpa using ew) fin hs
  · have hj : (i + (its.toArray.size : Int)).toNat = j := by
      rw [seqIndex_neg (by omega) h4] at h1
      rw [List.size_toArray, ← hl]
      exact Option.some.inj h1
    exact subscriptTail_builtinR (x := w) pl.isList.typeIs slot_list_getitem.lookup
      (wpAny_getItem_list_neg (Q := fun r s' => r = w ∧ EP X pins σ Q r s') pl.isList (by omega) (by rw [List.size_toArray] <;> omega) (by omega) (by rw [hj]; simpa using ew) ⟨rfl, fin⟩) hs
theorem ix_tup : IxR X (rIxT X.K) := by
  intro value slice pins s σ H x y v u Q I rx ry h hs
  obtain ⟨p, xs, i, z, rfl, rfl, hq, he, q⟩ := h
  cases rx
  obtain ⟨t, rfl⟩ := ry
  obtain ⟨its, r, pl, hz⟩ := I.tuple hq
  obtain ⟨j, h1, h2, h3, h4, h5⟩ := atI_get he
  obtain ⟨w, ew, rw'⟩ := r.get h2
  have hl := r.length
  have hn := line63
  have fin : EP X pins σ Q w s := ⟨z, H, I, rw', q⟩
  exact subscriptTail_builtinR (x := w) pl.typeIs slot_tuple_getitem.lookup
    (getItem_tuple (j := j) (Q := fun r s' => r = w ∧ EP X pins σ Q r s') pl (by omega) (by omega) (by rw [List.size_toArray, ← hl]; exact h1) (by simpa using ew) ⟨rfl, fin⟩) hs
theorem ix_str : IxR X rIxS := by
  intro value slice pins s σ H x y v u Q I rx ry h hs
  obtain ⟨z, i, c, rfl, rfl, hz, he, q⟩ := h
  obtain ⟨t, rfl⟩ := rx
  obtain ⟨t', rfl⟩ := ry
  obtain ⟨j, h1, h2, h3, h4, h5⟩ := atI_get he
  have hl : z.cps.toList.length = z.length := by simp [Str.length]
  rw [hl] at h1 h4 h5
  have hn := line63
  exact tail_any (typeIs_str s z t) slot_str_getitem.lookup (getItem_str (c := c) (by
    have e1 : decide (i < -(2 ^ 63 : Int)) = false := decide_eq_false (by omega)
    have e2 : decide (i ≥ 2 ^ 63) = false := decide_eq_false (by omega)
    rw [e1, e2, Bool.or_false]) (by rw [h1]; simpa using h2) ⟨.str ⟨#[c]⟩, H, I.tok _, ⟨_, rfl⟩, q⟩) hs
theorem mapSeq_set (its : List Value) (n j : Nat) (u : Value) : Obj.mapSeq (·.setIfInBounds j u) { cls := .type "list", data := .seq its.toArray n } = { cls := .type "list", data := .seq (its.set j u).toArray n } := by
  simp [Obj.mapSeq]
theorem Inv.lst {pins : List (Addr × Obj)} {σ : St} {H : Hp} {s : Shared} {p : Addr} {xs : List V} (I : Inv X pins σ H s) (h : H p = some (.lst xs)) :
    ∃ (its : List Value) (n : Nat), Vals xs its ∧ s.heap.get? p = some { cls := .type "list", data := .seq its.toArray n } ∧ xs.length ≤ sizeLine := by
  obtain ⟨z, its, n, r, e⟩ := I.hok p _ h
  exact ⟨its, n, r, e, z⟩
theorem Inv.lstUpd {pins : List (Addr × Obj)} {σ : St} {H : Hp} {s : Shared} {p : Addr} {xs ys : List V} {its its' : List Value} {n n' : Nat} {f : Obj → Obj} (I : Inv X pins σ H s) (h : H p = some (.lst xs))
    (ho : s.heap.get? p = some { cls := .type "list", data := .seq its.toArray n }) (hf : f { cls := .type "list", data := .seq its.toArray n } = { cls := .type "list", data := .seq its'.toArray n' }) (r : Vals ys its') (hz : ys.length ≤ sizeLine) (t : Nat) :
    Inv X pins σ (upd H p (.lst ys)) { s with heap := s.heap.update p f, toks := t } := by
  have e : (s.heap.update p f).get? p = some { cls := .type "list", data := .seq its'.toArray n' } := by
    rw [Heap.get?_update_self f ho (by rw [hf] <;> rfl), hf]
  refine I.write (x := p) (e := p) (by rw [h]; trivial) (.inl rfl) (fun b u hb q => (Heap.get?_update_other _ _ (Ne.symm hb)).trans q) ⟨_, e⟩ ?_
  exact ⟨hz, its', n', r, e⟩
def rSetL : V → V → V → Hp → (Hp → Prop) → Prop := fun o i v H Q => ∃ p xs k j, o = .ref p ∧ i = .int k ∧ H p = some (.lst xs) ∧ ixN xs.length k = some j ∧ Q (upd H p (.lst (xs.set j v)))
theorem set_list : PSet X rSetL := by
  intro pins s σ H o i v ov iv u Q I ro ri rv h
  obtain ⟨p, xs, k, j, rfl, rfl, hp, hj, q⟩ := h
  cases ro
  obtain ⟨t, rfl⟩ := ri
  obtain ⟨its, n, r, ho, hz⟩ := I.lst hp
  obtain ⟨h1, h2, h3, h4⟩ := ixN_seq hj
  have hl := r.length
  have hn := line63
  have I' : Inv X pins σ (upd H p (.lst (xs.set j v))) { s with heap := s.heap.update p (Obj.mapSeq (·.setIfInBounds j u)) } :=
    I.lstUpd hp ho (mapSeq_set its n j u) (r.set rv j) (by rw [List.length_set]; exact hz) s.toks
  by_cases h0 : 0 ≤ k
  · have hk : k.toNat = j := by
      rw [seqIndex_of h0 h4] at h1
      exact Option.some.inj h1
    exact PySem.W.ki_setAt ho h0 (by omega) (by rw [List.size_toArray, ← hl]; exact h4) (by rw [hk]; exact ⟨_, I', q⟩)
  · have hk : (k + (its.toArray.size : Int)).toNat = j := by
      rw [seqIndex_neg (by omega) h3] at h1
      rw [List.size_toArray, ← hl]
      exact Option.some.inj h1
    exact PySem.W.ki_setBack ho (by omega) (by rw [List.size_toArray, ← hl]; exact h3) (by omega) (by rw [hk]; exact ⟨_, I', q⟩)
theorem slice_bounds (lo hi : Option Int) (n : Nat) : (sliceBounds lo hi none n).1 = ((HT.sIx n 0 lo : Nat) : Int) ∧ (sliceBounds lo hi none n).2.1 = ((HT.sIx n n hi : Nat) : Int) ∧ (sliceBounds lo hi none n).2.2 = 1 := by
  refine ⟨?_, ?_, rfl⟩
  · cases lo with
    | none => simp [sliceBounds, HT.sIx]
    | some i =>
      simp only [sliceBounds, HT.sIx, Option.getD_none, show (1 : Int) > 0 by decide, if_true]
      by_cases h : i < 0
      · simp only [h, if_true] <;> omega
      · simp only [h, if_false] <;> omega
  · cases hi with
    | none => simp [sliceBounds, HT.sIx]
    | some i =>
      simp only [sliceBounds, HT.sIx, Option.getD_none, show (1 : Int) > 0 by decide, if_true]
      by_cases h : i < 0
      · simp only [h, if_true] <;> omega
      · simp only [h, if_false] <;> omega
theorem slicePick_cut (its : List Value) (lo hi : Option Int) : slicePick its.toArray lo hi none = ((its.drop (HT.sIx its.length 0 lo)).take (HT.sIx its.length its.length hi - HT.sIx its.length 0 lo)).toArray := by
  obtain ⟨h1, h2, h3⟩ := slice_bounds lo hi its.toArray.size
  unfold slicePick
  rw [h1, h2, h3]
  simp only [sliceRange_one, pick_run, List.size_toArray] <;> rfl
def rSlL (K : PySem.W.Frag) : V → Option Int → Option Int → Hp → VK → Prop := fun x lo hi H Q => ∃ a xs, x = .ref a ∧ SqL K H a xs ∧ ∀ p, H p = none → Q (.ref p) (upd H p (.lst (cutV xs lo hi)))
theorem sl_list : SlR X (rSlL X.K) := by
  intro pins s σ H x v vl vu lo hi sl Q I rx hs pl pu h
  obtain ⟨a, xs, rfl, hx, q⟩ := h
  cases rx
  obtain ⟨its, r, ht, hz⟩ := I.list hx
  have hlen := r.length
  refine ⟨"list", _, slot_list_getitem.lookup, ht.isList.typeIs, ?_⟩
  refine wpAny_getItem_list_slice ht.isList hs pl pu .none (by simp) ?_ (by rw [List.size_toArray] <;> omega)
  rw [slicePick_cut, ← hlen]
  refine ⟨.ref s.heap.objs.size, _, I.laid (t' := s.toks) (o := .lst (cutV xs lo hi)) (fun b ob q => Heap.get?_push_of_some _ q) (Nat.le_refl _) ?_, rfl, q _ (I.hok.fresh (Nat.le_refl _))⟩
  exact ⟨Nat.le_trans (cutV_length xs lo hi) hz, _, 0, (r.drop (HT.sIx xs.length 0 lo)).take (HT.sIx xs.length xs.length hi - HT.sIx xs.length 0 lo), Heap.get?_push_size _ rfl⟩
theorem call_len_seq : CallR X (.builtin "len") (fun xs H Q => ∃ p ys, xs = [.ref p] ∧ (SqL X.K H p ys ∨ SqT X.K H p ys) ∧ Q (.int ys.length) H) := by
  intro pins s σ H xs us Q I r h
  obtain ⟨p, ys, rfl, hq, q⟩ := h
  obtain ⟨u, rfl, rx⟩ := vals1 r
  cases rx
  have hn := line63
  rcases hq with hq | hq
  · obtain ⟨its, r', pl, hz⟩ := I.list hq
    have hlen := r'.length
    exact Calls.call_len_list pl.isList (by simp only [List.size_toArray] <;> omega) ⟨.int ys.length, H, I.tok _, ⟨s.toks + 1, by rw [List.size_toArray, hlen]⟩, q⟩
  · obtain ⟨its, r', pl, hz⟩ := I.tuple hq
    have hlen := r'.length
    exact len_tuple pl (by simp only [List.size_toArray] <;> omega) ⟨.int ys.length, H, I.tok _, ⟨s.toks + 1, by rw [List.size_toArray, hlen]⟩, q⟩
theorem call_list_of : CallR X (.type "list") (fun xs H Q => ∃ p ys, xs = [.ref p] ∧ (SqL X.K H p ys ∨ SqT X.K H p ys) ∧ ∀ l, H l = none → Q (.ref l) (upd H l (.lst ys))) := by
  intro pins s σ H xs us Q I r h
  obtain ⟨p, ys, rfl, hq, q⟩ := h
  obtain ⟨u, rfl, rx⟩ := vals1 r
  cases rx
  have fin : ∀ (its : List Value), Vals ys its → ys.length ≤ sizeLine → ∀ (h' : Heap) (c' : Nat), (∀ b o', s.heap.get? b = some o' → h'.get? b = some o') →
      h'.get? s.heap.objs.size = some { cls := .type "list", dict := none, data := .seq its.toArray c', slots := #[] } → EP X pins σ Q (.ref s.heap.objs.size) { s with heap := h' } := fun its r' hz h' c' kp e =>
    ⟨.ref s.heap.objs.size, _, I.laid (t' := s.toks) kp (Nat.le_refl _) (show ObjOk X.prog X.w _ h' _ (.lst ys) from ⟨hz, its, c', r', e⟩), rfl, q _ (I.hok.fresh (Nat.le_refl _))⟩
  rcases hq with hq | hq
  · obtain ⟨its, r', pl, hz⟩ := I.list hq
    have hlen := r'.length
    obtain ⟨o, ho, hc, n, hd⟩ := pl.isList
    exact call_list_seq p (.inl rfl) ho hc hd (fun h' c' kp e => fin its r' hz h' c' kp e) (by simp only [List.size_toArray] <;> omega)
  · obtain ⟨its, r', pl, hz⟩ := I.tuple hq
    have hlen := r'.length
    obtain ⟨o, ho, hc, n, hd⟩ := pl
    exact call_list_seq p (.inr rfl) ho hc hd (fun h' c' kp e => fin its r' hz h' c' kp e) (by simp only [List.size_toArray] <;> omega)
theorem call_tuple_of : CallR X (.type "tuple") (fun xs H Q => ∃ p ys, xs = [.ref p] ∧ ((SqL X.K H p ys ∧ ∀ l, H l = none → Q (.ref l) (upd H l (.tup ys))) ∨ (SqT X.K H p ys ∧ Q (.ref p) H))) := by
  intro pins s σ H xs us Q I r h
  obtain ⟨p, ys, rfl, h⟩ := h
  obtain ⟨u, rfl, rx⟩ := vals1 r
  cases rx
  rcases h with ⟨hq, q⟩ | ⟨hq, q⟩
  · obtain ⟨its, r', pl, hz⟩ := I.list hq
    have hlen := r'.length
    refine call_tuple_list pl.isList (fun h' kp => ?_) (by simp only [List.size_toArray] <;> omega)
    have I1 : Inv X pins σ H { s with heap := h' } := I.kept (t' := s.toks) kp
    have I2 : Inv X pins σ (upd H h'.objs.size (.tup ys)) { s with heap := h'.push { cls := .type "tuple", data := .seq its.toArray } } :=
      I1.laid (t' := s.toks) (fun b o e => Heap.get?_push_of_some _ e) (Nat.le_refl _) (show ObjOk X.prog X.w _ _ _ (.tup ys) from ⟨hz, its, r', IsTup.new _ _⟩)
    exact ⟨.ref h'.objs.size, _, I2, rfl, q _ (I1.hok.fresh (Nat.le_refl _))⟩
  · obtain ⟨its, r', pl, hz⟩ := I.tuple hq
    exact call_tuple_same pl ⟨.ref p, H, I, rfl, q⟩
def tyV (K : PySem.W.Frag) (T : String) (x : V) (H : Hp) : Prop := match x with
  | .str _ => T = "str"
  | .int _ => T = "int"
  | .ref p => (T = "list" ∧ ∃ xs, SqL K H p xs) ∨ (T = "tuple" ∧ ∃ o, K.lookup p = some o ∧ o.cls = .type "tuple" ∧ o.dict = none) ∨
      (T = "dict" ∧ ((∃ kvs, H p = some (.dK kvs)) ∨ ∃ kvs, H p = some (.dT kvs))) ∨ (T = "set" ∧ ∃ S n, H p = some (.set S n))
  | _ => False
theorem tyV_is {pins : List (Addr × Obj)} {σ : St} {H : Hp} {s : Shared} {T : String} {x : V} {v : Value} (I : Inv X pins σ H s) (r : RelV x v) (ty : tyV X.K T x H) :
    s.TypeIs v T ∧ ∀ a, v = .ref a → ∃ ob, s.heap.get? a = some ob ∧ ob.dict = none := by
  cases x with
  | str z =>
    obtain ⟨t, rfl⟩ := r
    cases (show T = "str" from ty)
    exact ⟨typeIs_str s z t, fun _ e => nomatch e⟩
  | int i =>
    obtain ⟨t, rfl⟩ := r
    cases (show T = "int" from ty)
    exact ⟨typeIs_int s i t, fun _ e => nomatch e⟩
  | ref p =>
    cases r
    rcases ty with ⟨rfl, xs, hq⟩ | ⟨rfl, o, hk, hc, hd⟩ | ⟨rfl, hk⟩ | ⟨rfl, S, n, hk⟩
    · obtain ⟨its, _, pl, _⟩ := I.list hq
      refine ⟨pl.isList.typeIs, fun a e => ?_⟩
      cases e
      obtain ⟨o, n, e, c, hd, _⟩ := pl
      exact ⟨o, e, hd⟩
    · refine ⟨⟨o, I.kIn p o hk, hc⟩, fun a e => ?_⟩
      cases e
      exact ⟨o, I.kIn _ o hk, hd⟩
    · have z : ∃ o, s.heap.get? p = some o ∧ o.ExactDict := by
        rcases hk with ⟨kvs, hk⟩ | ⟨kvs, hk⟩
        · obtain ⟨_, _, _, _, o, _, _, e, ex, _⟩ := I.hok p _ hk
          exact ⟨o, e, ex⟩
        · obtain ⟨_, _, _, _, o, _, _, e, ex, _⟩ := I.hok p _ hk
          exact ⟨o, e, ex⟩
      obtain ⟨o, e, ex⟩ := z
      refine ⟨⟨o, e, ex.1⟩, fun a e2 => ?_⟩
      cases e2
      exact ⟨o, e, ex.2.1⟩
    · obtain ⟨o, _, _, _, e, ex, _⟩ := I.hok p _ hk
      refine ⟨⟨o, e, ex.1⟩, fun a e2 => ?_⟩
      cases e2
      exact ⟨o, e, ex.2.1⟩
  | _ => exact False.elim ty
def tBM0 (K : PySem.W.Frag) (T : String) (r : V → List V → Hp → VK → Prop) (to : TE) : TE := fun σ H Q => to σ H fun x H1 => tyV K T x H1 ∧ r x [] H1 Q
def tBM (K : PySem.W.Frag) (T : String) (r : V → List V → Hp → VK → Prop) (to : TE) (t : TA) : TE := fun σ H Q => to σ H fun x H1 => tyV K T x H1 ∧ t σ H1 fun xs H2 => r x xs H2 Q
variable {o e : Expr} {es : List Expr} {to : TE} {t : TA} {name : Str} {apos cpos : Pos} {T id : String} {r : V → List V → Hp → VK → Prop}
theorem pe_bm0 (pa : PlainAttrs T) (slot : Slot T name id) (hty : typeOf (.builtin id) = pure (.type "method_descriptor")) (hm : MtR X id r) (ho : PE X o to)
    (hbase : attributeBase o name X.env (eval o X.env) = eval o X.env := by rfl) (hline : (apos.endLine == cpos.line) = true := by rfl) : PE X (.Call (.Attribute o name apos) [] [] cpos) (tBM0 X.K T r to) := by
  intro pins s σ H Q I h
  refine wpAny_Call_method0_late hbase hline (thn (ho pins s σ H _ I h) fun v s1 ⟨x, H1, I1, r1, ty, q1⟩ => ?_)
  obtain ⟨h1, h2⟩ := tyV_is I1 r1 ty
  exact ⟨T, id, pa, slot, hty, h1, h2, Calls.callWith_builtin rfl (PySem.evalArgs_none (hm pins s1 σ H1 x [] v [] Q I1 r1 .nil q1))⟩
theorem pe_bm (pa : PlainAttrs T) (slot : Slot T name id) (hty : typeOf (.builtin id) = pure (.type "method_descriptor")) (hm : MtR X id r) (ho : PE X o to) (ha : PA X (e :: es) t)
    (hbase : attributeBase o name X.env (eval o X.env) = eval o X.env := by rfl)
    (hfew : ((backTo cpos (starEach (e :: es) X.env)).all (fun x => !x.1) && (backToKw cpos (keywordEach [] X.env)).all (fun x => x.1.isSome)
      && decide ((e :: es).length + ([] : List Keyword).length + (if ([] : List Keyword).isEmpty then 0 else 1) < 30)) = true := by rfl)
    (hline : (apos.endLine == cpos.line) = true := by rfl) (hs : starEach (e :: es) X.env = (false, eval e X.env) :: starEach es X.env := by rfl) (hplain : (backTo cpos (starEach es X.env)).any (·.1) = false := by rfl) :
    PE X (.Call (.Attribute o name apos) (e :: es) [] cpos) (tBM X.K T r to t) := by
  intro pins s σ H Q I h
  refine wpAny_Call_method_late hbase hfew hline rfl (thn (ho pins s σ H _ I h) fun v s1 ⟨x, H1, I1, r1, ty, q1⟩ => ?_)
  obtain ⟨h1, h2⟩ := tyV_is I1 r1 ty
  refine ⟨T, id, pa, slot, hty, h1, h2, ?_⟩
  have hA := ha cpos pins s1 σ H1 _ I1 q1
  rw [hs] at hA ⊢
  refine Calls.callWith_builtin (by show (false || (backTo cpos (starEach es X.env)).any (·.1)) = false; rw [hplain] <;> rfl) (Calls.evalArgs_plain ?_)
  exact thn hA fun us s2 ⟨vs, H2, I2, r2, q2⟩ => hm pins s2 σ H2 x vs v us Q I2 r1 r2 q2
/- xs.append(e), list.index on a module's tuple .. are MtR facts of 06m -/
end
end L2
namespace L2
open PySem PySem.Spec PyProof.Rows
def MtM (X : Cx) (id : String) (r : V → List V → Hp → VK → Prop) : Prop :=
  ∀ (pins : List (Addr × Obj)) (s : Shared) (σ : St) (H : Hp) (x : V) (xs : List V) (v : Value) (us : List Value) (Q : VK), Inv X pins σ H s → RelV x v → Vals xs us → r x xs H Q →
    wpAny (model X.prog X.w) X.A (call (.builtin id) (v :: us)) (EP X pins σ Q) X.xe s
theorem Vals.one : ∀ {x : V} {us : List Value}, Vals [x] us → ∃ u, us = [u] ∧ RelV x u
  | _, _, .cons r .nil => ⟨_, rfl, r⟩
theorem Vals.two : ∀ {x y : V} {us : List Value}, Vals [x, y] us → ∃ u v, us = [u, v] ∧ RelV x u ∧ RelV y v
  | _, _, _, .cons r (.cons q .nil) => ⟨_, _, rfl, r, q⟩
theorem Vals.zero : ∀ {us : List Value}, Vals [] us → us = []
  | _, .nil => rfl
theorem Vals.dropLast {xs : List V} {us : List Value} (h : Vals xs us) : Vals xs.dropLast us.dropLast := by
  induction h with
  | nil => exact .nil
  | cons r t ih =>
    cases t with
    | nil => exact .nil
    | cons q t' => exact .cons r ih
theorem Vals.reverse {xs : List V} {us : List Value} (h : Vals xs us) : Vals xs.reverse us.reverse := by
  induction h with
  | nil => exact .nil
  | cons r t ih => rw [List.reverse_cons, List.reverse_cons]; exact Vals.append ih (.cons r .nil)
theorem erase_last {α : Type} (l : List α) : l.eraseIdx (l.length - 1) = l.dropLast := by
  induction l with
  | nil => rfl
  | cons a r ih =>
    cases r with
    | nil => rfl
    | cons b r =>
      have e : (a :: b :: r).length - 1 = ((b :: r).length - 1) + 1 := by
        have h1 : (a :: b :: r).length = r.length + 2 := rfl
        have h2 : (b :: r).length = r.length + 1 := rfl
        omega
      rw [e, List.eraseIdx_cons_succ, ih]
      all_goals rfl
section
variable {X : Cx} {pins : List (Addr × Obj)} {σ : St} {H : Hp} {s : Shared} {l b : Addr} {xs ys zs : List V}
theorem Inv.lset {its its' : List Value} {n : Nat} {f : Array Value → Array Value} {t' : Nat} (I : Inv X pins σ H s) (hH : H l = some (.lst xs))
    (e : s.heap.get? l = some { cls := .type "list", data := .seq its.toArray n }) (hf : f its.toArray = its'.toArray) (hv : Vals ys its') (hz : ys.length ≤ sizeLine) :
    Inv X pins σ (upd H l (.lst ys)) { s with heap := s.heap.update l (Obj.mapSeq f), toks := t' } := by
  have q := PySem.IsL.update e f
  rw [hf] at q
  refine I.write (x := l) (e := l) (by rw [hH]; exact trivial) (.inl rfl) (fun b' u hb hu => (Heap.get?_update_other s.heap (Obj.mapSeq f) (Ne.symm hb)).trans hu) ⟨_, q⟩ ?_
  exact ⟨hz, its', _, hv, q⟩
theorem Inv.lnew {its : List Value} {t' : Nat} (I : Inv X pins σ H s) (hv : Vals ys its) (hz : ys.length ≤ sizeLine) :
    Inv X pins σ (upd H s.heap.objs.size (.lst ys)) { s with heap := s.heap.push { cls := .type "list", data := .seq its.toArray }, toks := t' } :=
  I.laid (fun _ _ q => Heap.get?_push_of_some _ q) (Nat.le_refl _) ⟨hz, its, 0, hv, Heap.get?_push_size _ rfl⟩
theorem Inv.fresh (I : Inv X pins σ H s) : H s.heap.objs.size = none := I.hok.fresh (Nat.le_refl _)
theorem Inv.lstM (I : Inv X pins σ H s) (hH : H l = some (.lst xs)) : xs.length ≤ sizeLine ∧ ∃ (its : List Value) (n : Nat), Vals xs its ∧ xs.length = its.length ∧ s.heap.get? l = some { cls := .type "list", data := .seq its.toArray n } := by
  obtain ⟨z, its, n, r, e⟩ := I.hok l _ hH
  exact ⟨z, its, n, r, r.length, e⟩
theorem notLongL {n : Nat} (h : n ≤ sizeLine) : Builtin.List.listTooLong n = false := by
  unfold Builtin.List.listTooLong
  exact decide_eq_false (by omega)
end
section
variable {X : Cx}
def rAppend : V → List V → Hp → VK → Prop := fun x vs H Q => ∃ l xs y, x = .ref l ∧ vs = [y] ∧ H l = some (.lst xs) ∧ xs.length < sizeLine ∧ Q .non (upd H l (.lst (xs ++ [y])))
theorem mt_append : MtM X "list.append" rAppend := by
  intro pins s σ H x vs v us Q I rx rv h
  obtain ⟨l, xs, y, rfl, rfl, hH, hz, q⟩ := h
  cases rx
  obtain ⟨u, rfl, ru⟩ := rv.one
  obtain ⟨z, its, n, r, hl, e⟩ := I.lstM hH
  refine call_meets F.slot_list_append ⟨_, e, rfl⟩ F.entry_list_append (F.args_list_append_2 _ _) (PySem.list_append l its.toArray n u (by rw [List.size_toArray]; omega)) ⟨e, ?_⟩
  refine ⟨.non, _, I.lset (its' := its ++ [u]) hH e (by simp) (r.append (.cons ru .nil)) ?_, rfl, q⟩
  rw [List.length_append, List.length_singleton]
  omega
def rExtend : V → List V → Hp → VK → Prop := fun x vs H Q => ∃ l b xs zs, x = .ref l ∧ vs = [.ref b] ∧ H l = some (.lst xs) ∧ H b = some (.lst zs) ∧ xs.length + zs.length ≤ sizeLine ∧ Q .non (upd H l (.lst (xs ++ zs)))
theorem mt_extend : MtM X "list.extend" rExtend := by
  intro pins s σ H x vs v us Q I rx rv h
  obtain ⟨l, b, xs, zs, rfl, rfl, hH, hB, hz, q⟩ := h
  cases rx
  obtain ⟨u, rfl, ru⟩ := rv.one
  cases ru
  obtain ⟨z, its, n, r, hl, e⟩ := I.lstM hH
  obtain ⟨z2, its2, n2, r2, hl2, e2⟩ := I.lstM hB
  have hsz : its.toArray.size + its2.toArray.size ≤ sizeLine := by rw [List.size_toArray, List.size_toArray]; omega
  have hlong : ¬ (!its.toArray.isEmpty && Builtin.List.listTooLong (its.toArray.size + its2.toArray.size)) = true := by
    rw [notLongL hsz, Bool.and_false]
    exact Bool.false_ne_true
  refine call_meets F.slot_list_extend ⟨_, e, rfl⟩ F.entry_list_extend (F.args_list_extend_2 _ _)
    (AutoSeq1.list_extend_list_list_0 l its.toArray n b its2.toArray n2 hlong (by rw [List.size_toArray]; omega) (by omega)) ⟨e, e2, ?_⟩
  refine ⟨.non, _, I.lset (its' := its ++ its2) hH e (by simp) (r.append r2) ?_, rfl, q⟩
  rw [List.length_append]
  omega
def rPop : V → List V → Hp → VK → Prop := fun x vs H Q => ∃ l xs y, x = .ref l ∧ vs = [] ∧ H l = some (.lst xs) ∧ xs[xs.length - 1]? = some y ∧ Q y (upd H l (.lst xs.dropLast))
theorem mt_pop : MtM X "list.pop" rPop := by
  intro pins s σ H x vs v us Q I rx rv h
  obtain ⟨l, xs, y, rfl, rfl, hH, hy, q⟩ := h
  cases rx
  have hus := rv.zero
  subst hus
  obtain ⟨z, its, n, r, hl, e⟩ := I.lstM hH
  obtain ⟨u, hu, ru⟩ := r.get hy
  have hy' : its.toArray[its.toArray.size - 1]? = some u := by
    show its.toArray[its.length - 1]? = some u
    rw [← Array.getElem?_toList, ← hl]
    exact hu
  refine call_meets F.slot_list_pop ⟨_, e, rfl⟩ F.entry_list_pop (F.args_list_pop_1 _) (MeetsSeq.list_pop_last l its.toArray n u hy' (by rw [List.size_toArray]; omega)) ⟨e, ?_⟩
  refine ⟨y, _, I.lset (its' := its.dropLast) hH e ?_ r.dropLast ?_, ru, q⟩
  · show its.toArray.eraseIdxIfInBounds (its.toArray.size - 1) = its.dropLast.toArray
    rw [List.size_toArray, List.eraseIdxIfInBounds_toArray, erase_last]
  · rw [List.length_dropLast]
    omega
def rReverse : V → List V → Hp → VK → Prop := fun x vs H Q => ∃ l xs, x = .ref l ∧ vs = [] ∧ H l = some (.lst xs) ∧ Q .non (upd H l (.lst xs.reverse))
theorem mt_reverse : MtM X "list.reverse" rReverse := by
  intro pins s σ H x vs v us Q I rx rv h
  obtain ⟨l, xs, rfl, rfl, hH, q⟩ := h
  cases rx
  have hus := rv.zero
  subst hus
  obtain ⟨z, its, n, r, hl, e⟩ := I.lstM hH
  refine call_meets F.slot_list_reverse ⟨_, e, rfl⟩ F.entry_list_reverse (F.args_list_reverse_1 _) (AutoSeq1.list_reverse_list_0 l its.toArray n (by rw [List.size_toArray]; omega)) ⟨e, ?_⟩
  refine ⟨.non, _, I.lset (its' := its.reverse) hH e (by simp) r.reverse ?_, rfl, q⟩
  rw [List.length_reverse]
  omega
end
section
variable {prog : Program} {w : World} {A : Around} {E : Value → Shared → Prop} {s : Shared}
set_option maxRecDepth 100000 in
end
section
variable {X : Cx}
end
end L2
namespace Att
open PySem PySem.W PySem.Calls PyProof.Rows
theorem ints_of_wellAll {P : Params} {h : Heap} : ∀ (ns : List Int) (vs : List Value), WellAll P h vs (ns.map WData.int) → IntsAre vs ns := by
  intro ns
  induction ns with
  | nil =>
    intro vs w
    rw [List.map_nil] at w
    cases w
    exact .nil
  | cons n ns ih =>
    intro vs w
    rw [List.map_cons] at w
    cases w with
    | cons a b =>
      cases a
      exact .cons _ _ (ih _ b)
theorem script_of {l : OpenLaw} {n : Nat} (hn : l.most = some n) {P : Params} {h : Heap} {args : List WData} {vals : List Value}
    (hpre : l.row.toRowW.claim.pre args = true) (hwl : WellAll P h vals args) :
    ∃ a vs ns, vals = [Value.ref a] ∧ args = [WData.list (ns.map WData.int)] ∧ h.get? a = some { cls := .type "list", data := .seq vs.toArray } ∧ IntsAre vs ns ∧ ns.length ≤ n := by
  have hsh : WShape.hasAll [] args [.list .int] = true := (pre_splitW hpre).1
  have hc : l.pre.holds [] { args := args } = true := (pre_splitW hpre).2
  obtain ⟨d, r, rfl, h1, h2⟩ := hasAllW_cons hsh
  obtain rfl := hasAllW_nil h2
  obtain ⟨xs, rfl, h3⟩ := hasW_list h1
  obtain ⟨ns, rfl⟩ := items_int h3
  have hlen : ns.length ≤ n := by
    unfold OpenLaw.pre at hc
    have h4 : (WTm.not (.lt (.lit (.int (n : Int))) (.len (.arg 0)))).holds [] { args := [.list (ns.map .int)] } = true := by
      have h4 := (holds_andW hc).1
      rw [hn] at h4
      exact h4
    have h5 := condW_of h4 (w_not (w_lt w_lit (w_len_list (w_arg rfl))))
    rw [List.length_map] at h5
    refine Nat.le_of_not_lt fun q => ?_
    have q' : (n : Int) < ((ns.length : Nat) : Int) := by omega
    first
      | (rw [decide_eq_true q'] at h5; exact absurd h5 (by decide))
      | (simp at h5; omega)
  cases hwl with
  | cons w1 w2 =>
    cases w2
    cases w1 with
    | list ho hall => exact ⟨_, _, ns, rfl, rfl, ho, ints_of_wellAll ns _ hall, hlen⟩
theorem post_true (l : OpenLaw) (args : List WData) : l.row.toRowW.claim.post args (.bool true) args = true :=
  postW_of (r := l.row.toRowW) (X := (true == true))
    (show WShape.has [] (.bool true) .bool = true by first | rfl | decide | simp [WShape.has, WShape.arms, WShape.armsAll])
    (show (WTm.eq .res (.lit (.bool true))).value [] { args := args, res := some (.bool true), after := args } = some (.bool (true == true)) from w_eq_bool (w_res rfl) w_lit) rfl
theorem attach_call {l : OpenLaw} {n : Nat} {q : Program} {loose : List Str} {XP : (Str → Option Value) → Heap → Prop} {YP : World → Heap → Prop} {d : DefRec}
    (hn : l.most = some n) (hdf : d.params.defaults = [])
    (call : ∀ (w : World) (s₀ s₁ : Shared) (mg mb : Str → Option Value) (fa : Addr) (o : Obj) (pm cd doc : Value) (a : Addr) (vs : List Value) (ns : List Int),
      Ground q loose [] XP w s₀ mg mb s₁.heap → YP w s₁.heap →
      s₁.heap.get? fa = some o → o.data = .func (docDef d.name d.params d.body d.scope pm cd doc) → s₁.heap.CodeRec cd d.name → mg d.name = some (.ref fa) →
      s₁.heap.get? a = some { cls := .type "list", data := .seq vs.toArray } → IntsAre vs ns → ns.length ≤ n → s₁.gens = #[] →
      codeAny (model l.prog w) callerA (.call (.ref fa) ⟨[.ref a], []⟩) (fun r s' => r = .ok (.ret (.bool true)) ∧ OldK s₁.heap s'.heap ∧ s'.os = s₁.os ∧ AllBare s'.gens) s₁) :
    WalkO q loose XP YP l.row.toRowW d [] (fun f vs => PySem.call f vs) := by
  intro w s₀ s₁ mg mb G Y fa o pm cd doc dV kV ho hd hcd hD hmg hg args vals as hpre hlay hrd hwl hlo
  obtain rfl : dV = .none := Dflts.none hD hdf
  obtain rfl : kV = .none := Dflts.noKw hD
  obtain ⟨a, vs, ns, rfl, rfl, hobj, hints, hlen⟩ := script_of hn hpre hwl
  refine enter_call (codeAny_mono (call w s₀ s₁ mg mb fa o pm cd doc a vs ns G Y ho (fd_plain hd) hcd hmg hobj hints hlen hg) fun r s' hq => ?_)
  obtain ⟨rfl, h2, h3, h4⟩ := hq
  exact ⟨.inl ⟨.bool true, .bool true, [], rfl, fun _ => rfl, .bool true, post_true l _, fun _ => ⟨List.Pairwise.nil, fun _ hm => (nomatch hm)⟩⟩, h2, h3, h4⟩
section
variable {prog : Program} {w : World} {A : Around} {E : Value → Shared → Prop} {s : Shared} {K : Frag}
def ledger (h : Heap) (L d : Addr) : List (Addr × Obj) := (List.range h.objs.size).filterMap fun a => if a = L ∨ a = d then none else (h.get? a).map fun o => (a, o)
end
end Att
namespace L2
open PySem PySem.Spec PyProof.Rows
theorem vals_ints : ∀ {vs : List Value} {ns : List Int}, IntsAre vs ns → Vals (ns.map V.int) vs
  | _, _, .nil => .nil
  | _, _, .cons n t h => .cons ⟨t, rfl⟩ (vals_ints h)
def Only (H : Hp) : Prop := ∀ b, H b = none ∨ ∃ o xs, H b = some (.frz o (.lst xs))
theorem law_call {P : Program} {w : World} {K : PySem.W.Frag} {mg mb : Str → Option Value} {CX : CXT} {k : Nat} {fa a : Addr} {fd : FuncData} {x : Str} {sp : Sp} {s₁ : Shared} {vs : List Value} {ns : List Int}
    (KX : K.In s₁.heap) (hns : s₁.heap.Ns mainGlobals mg) (hb : s₁.heap.Ns builtinsNs mb) (hbb : ∀ x : Str, x ≠ "__name__" → mb x = bootBuiltins x) (hlim : s₁.heap.NoLimit) (hg : s₁.gens = #[])
    (ha : s₁.heap.get? a = some { cls := .type "list", data := .seq vs.toArray }) (hi : IntsAre vs ns) (hl : ns.length ≤ sizeLine) (hr : Room k callerA)
    (F : ∀ base : Heap, K.In base → base.Ns mainGlobals mg → FnOk P w K mg base CX k fa fd [x] sp) (hbind : ∀ (s : Shared) (u : Value), BindsTo s fd ⟨[u], []⟩ [(x, u)])
    (hsp : ∀ H : Hp, Only H → SqL K H a (ns.map V.int) → sp [.ref a] H (fun v _ => v = .bl true) fun _ _ _ => False)
    (hCX : ∀ H e s', CX [] H s₁ (fun _ _ _ => False) e s' → False) :
    codeAny (model P w) callerA (.call (.ref fa) ⟨[.ref a], []⟩) (fun r s' => r = .ok (.ret (.bool true)) ∧ OldK s₁.heap s'.heap ∧ s'.os = s₁.os ∧ AllBare s'.gens) s₁ := by
  have rv := vals_ints hi
  have lenV := hi.length
  have core : ∀ H : Hp, Only H → SqL K H a (ns.map V.int) → HOk P w H s₁.heap → (∀ b, H b ≠ none → b = a) → (H a ≠ none → K.lookup a = none) →
      codeAny (model P w) callerA (.call (.ref fa) ⟨[.ref a], []⟩) (fun r s' => r = .ok (.ret (.bool true)) ∧ OldK s₁.heap s'.heap ∧ s'.os = s₁.os ∧ AllBare s'.gens) s₁ := by
    intro H hO hS hok hA hK
    have base_of : ∀ {b : Addr} {o : Obj}, s₁.heap.get? b = some o → H b = none → (hidT s₁.heap H).get? b = some o := fun e n => hidT_get e n
    have noA : ∀ {b : Addr} {o : Obj} {es : Array DictEntry} {ep : Nat}, s₁.heap.get? b = some o → o.data = .dict es ep → H b = none := fun {b o es ep} e d => by
      cases q : H b with
      | none => rfl
      | some u =>
        have e' : b = a := hA b (by rw [q]; simp)
        subst e'
        rw [ha] at e; cases e
        have d' : Data.seq vs.toArray _ = Data.dict es ep := d
        cases d'
    have nsK : ∀ {b : Addr} {m : Str → Option Value}, s₁.heap.Ns b m → (hidT s₁.heap H).Ns b m := fun {b m} ⟨o, es, ep, e, d, r⟩ => ⟨o, es, ep, base_of e (noA e d), d, r⟩
    have hKb : K.In (hidT s₁.heap H) := fun b o e => base_of (KX b o e) (by
      cases q : H b with
      | none => rfl
      | some u =>
        have e' : b = a := hA b (by rw [q]; simp)
        subst e'
        rw [hK (by rw [q]; simp)] at e; cases e)
    have hM : Mod K mg (hidT s₁.heap H) := ⟨hKb, nsK hns, ⟨mb, nsK hb, hbb⟩, let ⟨mc, h1, h2⟩ := hlim; ⟨mc, nsK h1, h2⟩⟩
    have e0 : Env0 P w K mg (hidT s₁.heap H) callerA [] s₁ H := ⟨rfl, hM, fun b o e => of_hidT e, Nat.le_of_eq (hidT_size _ _), trivial, fun b hb => absurd (show b ∈ ([] : List Addr) from hb) (by simp), hok, .of_eq hg⟩
    refine codeAny_mono ((F _ hKb (nsK hns)).run callerA [] s₁ H ⟨[.ref a], []⟩ [.ref a] [.ref a] _ _ hr e0 (hbind s₁ (.ref a)) (.cons rfl .nil) (hsp H hO hS)) fun r s' h => ?_
    cases r with
    | error e => exact (hCX H e s' h).elim
    | ok fl =>
      cases fl with
      | next => exact False.elim h
      | brk => exact False.elim h
      | cont => exact False.elim h
      | ret u =>
        obtain ⟨v, H', os, bare, un, hok', r', q⟩ := h
        have q' : v = .bl true := q
        subst q'
        obtain rfl : u = Value.bool true := r'
        refine ⟨rfl, OldK.of_keep fun b o e => ?_, os, bare⟩
        cases q : H b with
        | none => exact un.keep b o e q (by intro z; exact absurd (show b ∈ ([] : List Addr) from z) (by simp)) (by simp)
        | some u =>
          rcases hO b with z | ⟨ob, xs, z⟩
          · rw [q] at z; cases z
          · have z2 := un.frzs b ob _ z
            obtain ⟨e1, _⟩ := hok b _ z
            obtain ⟨e2, _⟩ := hok' b _ z2
            rw [e] at e1; cases e1
            exact e2
  cases hk : K.lookup a with
  | some o =>
    have e := KX a o hk
    rw [ha] at e
    cases e
    refine core (fun _ => none) (fun _ => .inl rfl) (.inr ⟨_, vs.toArray, _, hk, rfl, rfl, rfl, by rw [List.size_toArray, lenV]; exact hl, by simpa using rv⟩) (fun b u z => by have z' : (none : Option HO) = some u := z; cases z') (fun b z => absurd rfl z) fun z => absurd rfl z
  | none =>
    refine core (fun b => if b = a then some (.frz { cls := .type "list", data := .seq vs.toArray } (.lst (ns.map V.int))) else none) (fun b => ?_) (.inl (.inr ⟨{ cls := .type "list", data := .seq vs.toArray }, if_pos rfl⟩)) (fun b u z => ?_) (fun b z => ?_) fun _ => hk
    · by_cases hb : b = a
      · exact .inr ⟨_, _, if_pos hb⟩
      · exact .inl (if_neg hb)
    · by_cases hb : b = a
      · have z' := (if_pos hb).symm.trans z
        cases z'
        subst hb
        exact ⟨ha, by rw [List.length_map]; exact hl, vs, _, rv, ha⟩
      · have z' := (if_neg hb).symm.trans z
        cases z'
    · by_cases hb : b = a
      · exact hb
      · exact absurd (if_neg hb) z
end L2
namespace L2
open PySem PySem.Spec PyProof.Rows
abbrev KOf {K : PySem.W.Frag} {h : Heap} (_ : K.In h) : PySem.W.Frag := K
theorem walk_of {l : PySem.W.OpenLaw} {n k : Nat} {q : Program} {loose : List Str} {XP : (Str → Option Value) → Heap → Prop} {YP : World → Heap → Prop} {d : DefRec} {K : Params → PySem.W.Frag} {CX : World → CXT} {sp : World → Sp} {x : Str}
    (hn : l.most = some n) (hn2 : n ≤ sizeLine) (hdf : d.params.defaults = []) (hr : Room k callerA)
    (hY : ∀ (w : World) (h : Heap), YP w h → (K w.params).In h)
    (F : ∀ (w : World) (mg : Str → Option Value) (fa : Addr) (h : Heap), (K w.params).In h → h.Ns mainGlobals mg → mg d.name = some (.ref fa) →
      ∃ fd : FuncData, (∀ (s : Shared) (u : Value), BindsTo s fd ⟨[u], []⟩ [(x, u)]) ∧
        ∀ base : Heap, (K w.params).In base → base.Ns mainGlobals mg → FnOk l.prog w (K w.params) mg base (CX w) k fa fd [x] (sp w))
    (hsp : ∀ (w : World) (H : Hp) (a : Addr) (ns : List Int), ns.length ≤ n → Only H → SqL (K w.params) H a (ns.map V.int) → sp w [.ref a] H (fun v _ => v = .bl true) fun _ _ _ => False)
    (hCX : ∀ (w : World) (H : Hp) (s : Shared) (e : Value) (s' : Shared), CX w [] H s (fun _ _ _ => False) e s' → False) :
    PySem.W.WalkO q loose XP YP l.row.toRowW d [] (fun f vs => PySem.call f vs) := by
  refine Att.attach_call hn hdf fun w s₀ s₁ mg mb fa o pm cd doc a vs ns G Y ho hd hcd hmg hobj hints hlen hg => ?_
  have KX := hY w _ Y
  obtain ⟨fd, hb, hF⟩ := F w mg fa _ KX G.T.g hmg
  exact law_call KX G.T.g G.T.b G.T.builtins G.T.nolimit hg hobj hints (Nat.le_trans hlen hn2) hr hF hb (fun H hO hS => hsp w H a ns hlen hO hS) fun H e s' => hCX w H s₁ e s'
end L2
/- THE LAST THEOREM (shape; LID, My.* are yours):
   My.Adr: a structure of the addresses that your layer names (classes, functions); My.Txt K t: a structure (Prop) of the equations over K;
   My.txt_mk : {K} {implicit addresses ..} (e1 : nsIn K mainGlobals "law" = some (some (.ref f))) (e2 : K.lookup f = some ⟨oc, od, .func (fnOf "law" "law" params body scope dV kV doc pm an cdv ct), sl⟩) (e3 : codeIn K cdv "law" = true) .. : ∃ t, My.Txt K t
set_option maxRecDepth 100000 in
set_option maxHeartbeats 0 in
theorem PySem.Challenge.cw_LID_holds : PySem.Challenge.rw_LID.Holds := by
  w_on; o_law; k_head; (case hw => w_witness2)
  k_fill
  refine L2.walk_of (l := PySem.Challenge.rw_LID) (n := 63) (k := 40) (x := "script") (CX := fun w => ..) (sp := fun _ => My.sp_law) rfl (by decide) rfl ⟨rfl, by decide, by decide⟩ (fun w h Y => PySem.W.kIn_of Y) ?F ?S ?C
  case F =>
    intro w mg fa h KX G hmg
    have T : ∃ t, My.Txt (L2.KOf KX) t := by
      dsimp only [L2.KOf]                          -- K must stand as «<heap const> w.params» for k_is
      refine' My.txt_mk ?e1 ?e2 ?e3 ..
      (case e1 => PySem.W.k_is)                    -- in the order: a name -> its address -> its object -> its parts
      (case e2 => PySem.W.k_is)
      ..
    obtain ⟨t, T⟩ := T
    have e0 := hmg.symm.trans (PySem.W.mg_of KX G T.law)
    cases e0                                       -- fa is the law's own address
    exact ⟨_, fun s u => .of_eq rfl, fun base kb nb => My.law_fn T kb nb⟩     -- if «.of_eq rfl» comes too early: refine' ⟨_, ?b, fun base kb nb => My.law_fn T kb nb⟩; exact fun s u => .of_eq rfl
  case S => exact fun w H a ns hl hO hS => ..
  case C => exact ..
(the tactic k_is has no namespace: write k_is) -/
namespace L2
open PySem PySem.Spec PyProof.Rows
def inClass (s : Stmt) (j : Nat) : Stmt := match s with
  | .ClassDef _ _ _ body _ _ _ _ _ _ _ => body.getD j (.Pass ⟨0, 0, 0, 0⟩)
  | _ => .Pass ⟨0, 0, 0, 0⟩
def defArgs (s : Stmt) : Arguments := match s with
  | .FunctionDef _ a _ _ _ _ _ _ _ _ => a
  | _ => { posonlyargs := [], args := [], vararg := none, kwonlyargs := [], kw_defaults := [], kwarg := none, defaults := [] }
def defBody (s : Stmt) : List Stmt := match s with
  | .FunctionDef _ _ b _ _ _ _ _ _ _ => b
  | _ => []
def defScope (s : Stmt) : Scope := match s with
  | .FunctionDef _ _ _ _ _ _ sc _ _ _ => sc
  | _ => { kind := .function, names := [], isGenerator := false, isCoroutine := false }
abbrev CX0 : CXT := fun _ _ _ _ _ _ => False
abbrev E0 : XK := fun _ _ _ => False
theorem pass0 {X : Cx} : Passes CX0 X E0 := fun _ _ _ _ _ _ _ h => h.elim
structure Fun (K : PySem.W.Frag) (x qual : Str) (st : Stmt) (f : Addr) (fd : FuncData) : Prop where
  ex : ∃ (oc : Value) (od : Option Addr) (kV doc pm : Value) (an : Option Addr) (cdv ct : Value) (osl : Array (Option Value)),
    fd = PySem.W.fnOf x qual (defArgs st) (defBody st) (defScope st) .none kV doc pm an cdv ct ∧ K.lookup f = some ⟨oc, od, .func fd, osl⟩ ∧ PySem.W.codeIn K cdv qual = true
  kp : PySem.W.keepIn K (.ref f) = true
section
variable {P : Program} {w : World} {K : PySem.W.Frag} {mg : Str → Option Value} {base : Heap}
theorem Fun.ok {x qual : Str} {st : Stmt} {f : Addr} {fd : FuncData} {N ps : List Str} {k : Nat} {sp : Sp} (F : Fun K x qual st f fd) (S : FnScope N ps (defScope st)) (len : ∀ vs H Q E, sp vs H Q E → vs.length = ps.length)
    (hbody : ∀ (cdv : Value) (A : Around) (outer : List Env) (s : Shared) (H : Hp) (vs : List V) (Q : VK) (E : XK), Room k (A.deeper (envOfC qual (defScope st) s.heap.objs.size f cdv)) → sp vs H Q E →
      ∃ t, PSs (cxOf CX0 P w K mg base N qual (defScope st) f cdv A outer s H E).nox (defBody st) t ∧ t { nx := fun _ H' => Q .non H', rt := Q } (start N vs) H) : FnOk P w K mg base CX0 (k + 1) f fd ps sp := by
  obtain ⟨oc, od, kV, doc, pm, an, cdv, ct, osl, rfl, lk, hcd⟩ := F.ex
  refine fn_of lk hcd S len fun A outer s H vs Q E hr hsp => ?_
  obtain ⟨t, h, q⟩ := hbody cdv A outer s H vs Q E hr hsp
  exact ⟨t, h.nox, q⟩
theorem Fun.binds {x qual : Str} {st : Stmt} {f : Addr} {fd : FuncData} {ps : List Str} (F : Fun K x qual st f fd)
    (h : ∀ (kV doc pm : Value) (an : Option Addr) (cdv ct : Value) (us : List Value), us.length = ps.length → bindArgs (PySem.W.fnOf x qual (defArgs st) (defBody st) (defScope st) .none kV doc pm an cdv ct) ⟨us, []⟩ = pure (ps.zip us)) : Binds K fd ps [] := by
  obtain ⟨oc, od, kV, doc, pm, an, cdv, ct, osl, rfl, lk, hcd⟩ := F.ex
  exact .all (h kV doc pm an cdv ct)
theorem fun_mk {x qual : Str} {st : Stmt} {f : Addr} {oc : Value} {od an : Option Addr} {osl : Array (Option Value)} {kV doc pm cdv ct : Value} (l : K.lookup f = some ⟨oc, od, .func (PySem.W.fnOf x qual (defArgs st) (defBody st) (defScope st) .none kV doc pm an cdv ct), osl⟩)
    (c : PySem.W.codeIn K cdv qual = true) (k : PySem.W.keepIn K (.ref f) = true) : Fun K x qual st f (PySem.W.fnOf x qual (defArgs st) (defBody st) (defScope st) .none kV doc pm an cdv ct) := ⟨⟨oc, od, kV, doc, pm, an, cdv, ct, osl, rfl, l, c⟩, k⟩
end
theorem hu_of {A : Around} {k : Nat} (hr : Room k A) : A.units + 1 < cLine := Nat.lt_of_le_of_lt (Nat.add_le_add_left (by decide : 1 ≤ 64) _) hr.units
section
variable {X : Cx}
theorem pv (i : Nat) {x : Str} {pos : Pos} (hN : X.N[i]? = some x := by rfl) (hv : Vis X.env.scope x := by first | exact Or.inl rfl | exact Or.inr (Or.inl rfl) | exact Or.inr (Or.inr rfl)) (hd : (x == ("__debug__" : Str)) = false := by decide)
    (hcd : (x == ("__classdict__" : Str)) = false := by decide) : PE X (.Name x pos) (tVar i) := pe_var hN hv hd hcd
end
theorem iteF {A B : Prop} (h : B) : if false = true then A else B := by
  rw [if_neg Bool.false_ne_true]
  exact h
theorem iteT {A B : Prop} (h : A) : if true = true then A else B := by
  rw [if_pos rfl]
  exact h
theorem ite2 {c A B : Prop} [Decidable c] (h1 : c → A) (h2 : ¬ c → B) : if c then A else B := by
  by_cases h : c
  · rw [if_pos h]
    exact h1 h
  · rw [if_neg h]
    exact h2 h
theorem iteNS {c A B : Prop} [Decidable c] (hc : c) (h : B) : if (!decide c) = true then A else B := by
  rw [decide_eq_true hc]
  exact iteF h
def Same (H H' : Hp) : Prop := ∀ b o, H b = some o → H' b = some o
theorem Same.refl (H : Hp) : Same H H := fun _ _ h => h
theorem Same.trans {H H1 H2 : Hp} (a : Same H H1) (b : Same H1 H2) : Same H H2 := fun c o h => b c o (a c o h)
theorem Same.free {H H' : Hp} (e : Same H H') {l : Addr} (h : H' l = Option.none) : H l = Option.none := by
  cases q : H l with
  | none => rfl
  | some o =>
    rw [e l o q] at h
    cases h
theorem Same.seq {K : PySem.W.Frag} {H H' : Hp} {a : Addr} {xs : List V} (e : Same H H') (h : SqL K H a xs) : SqL K H' a xs := by
  rcases h with (h | ⟨o, h⟩) | h
  · exact .inl (.inl (e _ _ h))
  · exact .inl (.inr ⟨o, e _ _ h⟩)
  · exact .inr h
end L2
set_option maxHeartbeats 4000000
namespace L2
open PySem PySem.Spec PyProof.Rows
section
variable {X : Cx}
theorem call_isinst : CallR X (.builtin "isinstance") (fun xs H Q => ∃ x T t b, xs = [x, .ty T] ∧ TyOf X.K H x t ∧ PySem.W.kitOne X.K t (.type T) = some b ∧ Q (.bl b) H) := by
  intro pins s σ H xs us Q I r h
  obtain ⟨x, T, t, b, rfl, ty, e, q⟩ := h
  obtain ⟨u, c, rfl, rx, rc⟩ := vals2 r
  cases (show c = Value.type T from rc)
  exact isinst_ok I rx ty e fun tk => ⟨.bl b, H, I.tok tk, rfl, q⟩
end
section
variable {X : Cx}
end
mutual
inductive RdV (K : PySem.W.Frag) (H : Hp) : V → PyData → Prop where
  | non : RdV K H .non .none
  | bl (b : Bool) : RdV K H (.bl b) (.bool b)
  | int (i : Int) : RdV K H (.int i) (.int i)
  | str (x : Str) : RdV K H (.str x) (.str x)
  | lst {a : Addr} {xs : List V} {ds : List PyData} : SqL K H a xs → RdAll K H xs ds → RdV K H (.ref a) (.list ds)
  | tup {a : Addr} {xs : List V} {ds : List PyData} : SqT K H a xs → RdAll K H xs ds → RdV K H (.ref a) (.tuple ds)
inductive RdAll (K : PySem.W.Frag) (H : Hp) : List V → List PyData → Prop where
  | nil : RdAll K H [] []
  | cons {v : V} {vs : List V} {d : PyData} {ds : List PyData} : RdV K H v d → RdAll K H vs ds → RdAll K H (v :: vs) (d :: ds)
end
section
variable {X : Cx} {pins : List (Addr × Obj)} {σ : St} {H : Hp} {s : Shared}
mutual
theorem RdV.reads (I : Inv X pins σ H s) : ∀ {v : V} {d : PyData} {u : Value}, RdV X.K H v d → RelV v u → ∃ as, Reads s.heap u d as
  | _, _, u, .non, r => by cases (show u = Value.none from r); exact ⟨_, .none⟩
  | _, _, u, .bl b, r => by cases (show u = Value.bool b from r); exact ⟨_, .bool b⟩
  | _, _, u, .int i, r => by obtain ⟨t, e⟩ := (show ∃ t, u = Value.int i t from r); cases e; exact ⟨_, .int i t⟩
  | _, _, u, .str x, r => by obtain ⟨t, e⟩ := (show ∃ t, u = Value.str x t from r); cases e; exact ⟨_, .str x t⟩
  | _, _, u, @RdV.lst _ _ a xs ds hq hr, r => by
    cases (show u = Value.ref a from r)
    obtain ⟨its, rv, ⟨o, n, e, c, _, dt⟩, _⟩ := I.list hq
    obtain ⟨as, q⟩ := RdAll.reads I hr rv
    exact ⟨_, .list e c dt (by simpa using q)⟩
  | _, _, u, @RdV.tup _ _ a xs ds hq hr, r => by
    cases (show u = Value.ref a from r)
    obtain ⟨its, rv, ⟨o, e, c, n, dt⟩, _⟩ := I.tuple hq
    obtain ⟨as, q⟩ := RdAll.reads I hr rv
    exact ⟨_, .tuple e c dt (by simpa using q)⟩
theorem RdAll.reads (I : Inv X pins σ H s) : ∀ {vs : List V} {ds : List PyData} {us : List Value}, RdAll X.K H vs ds → Vals vs us → ∃ as, ReadsAll s.heap us ds as
  | _, _, _, .nil, r => by cases r; exact ⟨_, .nil⟩
  | _, _, _, .cons h t, r => by
    cases r with
    | cons r1 r2 =>
      obtain ⟨as, q⟩ := RdV.reads I h r1
      obtain ⟨bs, q2⟩ := RdAll.reads I t r2
      exact ⟨_, .cons q q2⟩
end
end
section
variable {X : Cx}
def rEqD (K : PySem.W.Frag) (A : Around) (neg : Bool) : R2 := fun x y H Q => ∃ d e : PyData, RdV K H x d ∧ RdV K H y e ∧ d.canLay0 = true ∧ e.canLay0 = true ∧ A.units + min d.depth e.depth < cLine ∧ Q (.bl (if neg then !PyData.eqv d e else PyData.eqv d e)) H
theorem op_eqD : OpR X (compareOp .Eq) (rEqD X.K X.A false) := by
  intro pins s σ H x y v u Q I rx ry h
  obtain ⟨d, e, hd, he, cd, ce, hu, q⟩ := h
  obtain ⟨as, q1⟩ := hd.reads I rx
  obtain ⟨bs, q2⟩ := he.reads I ry
  exact SeqAt.compareEq_reads q1 q2 cd ce hu ⟨.bl _, H, I, rfl, q⟩
theorem op_neD : OpR X (compareOp .NotEq) (rEqD X.K X.A true) := by
  intro pins s σ H x y v u Q I rx ry h
  obtain ⟨d, e, hd, he, cd, ce, hu, q⟩ := h
  obtain ⟨as, q1⟩ := hd.reads I rx
  obtain ⟨bs, q2⟩ := he.reads I ry
  exact SeqAt.compareNe_reads q1 q2 cd ce hu ⟨.bl _, H, I, rfl, q⟩
end
mutual
theorem eqv_self : ∀ d : PyData, d.canLay0 = true → PyData.eqv d d = true
  | .none, _ => by simp [PyData.eqv]
  | .bool _, _ => by simp [PyData.eqv]
  | .int _, _ => by simp [PyData.eqv]
  | .str _, _ => by simp [PyData.eqv]
  | .list xs, h => by
    simp only [PyData.eqv]
    exact eqvAll_self xs (by simpa [PyData.canLay0] using h)
  | .tuple xs, h => by
    simp only [PyData.eqv]
    exact eqvAll_self xs (by simpa [PyData.canLay0] using h)
  | .dict _, h => by simp [PyData.canLay0] at h
theorem eqvAll_self : ∀ ds : List PyData, PyData.canLayAll0 ds = true → PyData.eqvAll ds ds = true
  | [], _ => by simp [PyData.eqvAll]
  | d :: ds, h => by
    simp only [PyData.canLayAll0, Bool.and_eq_true] at h
    simp only [PyData.eqvAll, Bool.and_eq_true]
    exact ⟨eqv_self d h.1, eqvAll_self ds h.2⟩
end
end L2
namespace L2
open PySem PySem.Spec PyProof.Rows
structure Fn (P : Program) (w : World) (K : PySem.W.Frag) (mg : Str → Option Value) (base : Heap) (k : Nat) (x : Str) (ps : List Str) (sp : Sp) : Prop where
  ex : ∃ (f : Addr) (fd : FuncData), FnOk P w K mg base CX0 k f fd ps sp ∧ Binds K fd ps [] ∧ PySem.W.keepIn K (.ref f) = true ∧ mg x = some (.ref f)
theorem pe_fn {X : Cx} {k k' : Nat} {x : Str} {ps : List Str} {sp : Sp} {p pos : Pos} {e : Expr} {es : List Expr} {t : TA} (F : Fn X.prog X.w X.K X.mg X.base k x ps sp) (hr : Room k' X.A) (ha : PA X (e :: es) t) (hk : k ≤ k' := by decide) (hg : Gl X x := by rfl)
    (hdb : (x == ("__debug__" : Str)) = false := by decide) (he : starEach (e :: es) X.env = (false, eval e X.env) :: starEach es X.env := by rfl) (hpl : (backTo pos (starEach es X.env)).any (·.1) = false := by rfl) :
    PE X (.Call (.Name x p) (e :: es) [] pos) (tCall sp [] E0 t) := by
  obtain ⟨f, fd, h1, h2, h3, h4⟩ := F.ex
  exact pe_call h1 (hr.mono hk) hg h4 h3 h2 .nil pass0 ha hdb he hpl
theorem iteP {c A B : Prop} [Decidable c] (hc : c) (h : A) : if decide c = true then A else B := by
  rw [decide_eq_true hc]
  exact iteT h
theorem iteN {c A B : Prop} [Decidable c] (hc : ¬ c) (h : B) : if decide c = true then A else B := by
  rw [decide_eq_false hc]
  exact iteF h
theorem iteB {b : Bool} {A B : Prop} (h1 : b = true → A) (h2 : b = false → B) : if b = true then A else B := by
  cases b with
  | true => exact iteT (h1 rfl)
  | false => exact iteF (h2 rfl)
theorem same_new {H : Hp} {p : Addr} (h : H p = Option.none) (o : HO) : Same H (upd H p o) := fun b u q => by rw [upd_ne (ne_of_none q h)]; exact q
def S (l : List Nat) : Str := ⟨l.toArray⟩
theorem S_list (l : List Nat) : (S l).cps.toList = l := by simp [S]
theorem S_len (l : List Nat) : (S l).length = l.length := by simp [S, Str.length]
theorem S_inj {a b : List Nat} (h : S a = S b) : a = b := by
  have := congrArg (fun z : Str => z.cps.toList) h
  simpa [S_list] using this
theorem S_app (a b : List Nat) : S a ++ S b = S (a ++ b) := by
  show Str.append (S a) (S b) = S (a ++ b)
  simp [Str.append, S]
end L2
namespace L2
open PySem PySem.Spec PyProof.Rows
def tCut (t : TS) : TS := fun D σ H => ∃ R : St → Hp → Prop, t { D with nx := R } σ H ∧ ∀ σ' H', R σ' H' → D.nx σ' H'
theorem ps_cut {X : Cx} {st : Stmt} {t : TS} (h : PS X st t) : PS X st (tCut t) := by
  intro pins s σ H D I hw
  obtain ⟨R, h1, h2⟩ := hw
  refine thn (h pins s σ H { D with nx := R } I h1) fun f s1 q => ?_
  cases f with
  | next =>
    obtain ⟨σ', H', I', q⟩ := q
    exact ⟨σ', H', I', h2 _ _ q⟩
  | brk => exact q
  | cont => exact q
  | ret v => exact q
theorem depth_strs : ∀ xs : List Str, PyData.depthAll (xs.map PyData.str) = 0
  | [] => by simp [PyData.depthAll]
  | x :: r => by simp [PyData.depthAll, PyData.depth, depth_strs r]
end L2
namespace L2
open PySem PySem.Spec PyProof.Rows
structure DefAt (K : PySem.W.Frag) (x : Str) (st : Stmt) : Prop where
  ex : ∃ (f : Addr) (oc : Value) (od : Option Addr) (kV doc pm : Value) (an : Option Addr) (cdv ct : Value) (osl : Array (Option Value)),
    PySem.W.nsIn K mainGlobals x = some (some (.ref f)) ∧ K.lookup f = some ⟨oc, od, .func (PySem.W.fnOf x x (defArgs st) (defBody st) (defScope st) .none kV doc pm an cdv ct), osl⟩ ∧ PySem.W.codeIn K cdv x = true ∧ PySem.W.keepIn K (.ref f) = true
theorem DefAt.mk' {K : PySem.W.Frag} {x : Str} {st : Stmt} {f : Addr} {oc : Value} {od : Option Addr} {kV doc pm : Value} {an : Option Addr} {cdv ct : Value} {osl : Array (Option Value)}
    (a : PySem.W.nsIn K mainGlobals x = some (some (.ref f))) (l : K.lookup f = some ⟨oc, od, .func (PySem.W.fnOf x x (defArgs st) (defBody st) (defScope st) .none kV doc pm an cdv ct), osl⟩) (c : PySem.W.codeIn K cdv x = true) (k : PySem.W.keepIn K (.ref f) = true) : DefAt K x st :=
  ⟨f, oc, od, kV, doc, pm, an, cdv, ct, osl, a, l, c, k⟩
theorem DefAt.fn {P : Program} {w : World} {K : PySem.W.Frag} {mg : Str → Option Value} {base h : Heap} {k : Nat} {x : Str} {st : Stmt} {ps : List Str} {sp : Sp} (D : DefAt K x st) (X : K.In h) (G : h.Ns mainGlobals mg)
    (ok : ∀ (f : Addr) (fd : FuncData), Fun K x x st f fd → FnOk P w K mg base CX0 k f fd ps sp)
    (hb : ∀ (kV doc pm : Value) (an : Option Addr) (cdv ct : Value) (us : List Value), us.length = ps.length → bindArgs (PySem.W.fnOf x x (defArgs st) (defBody st) (defScope st) .none kV doc pm an cdv ct) ⟨us, []⟩ = pure (ps.zip us)) : Fn P w K mg base k x ps sp := by
  obtain ⟨f, oc, od, kV, doc, pm, an, cdv, ct, osl, a, l, c, kp⟩ := D.ex
  have F := fun_mk (st := st) l c kp
  exact ⟨f, _, ok f _ F, F.binds hb, kp, PySem.W.mg_of X G a⟩
end L2
namespace L2
open PySem PySem.Spec PyProof.Rows
section
variable {X : Cx}
def rCatG (K : PySem.W.Frag) : R2 := fun x y H Q => ∃ a b xs ys, x = .ref a ∧ y = .ref b ∧ SqT K H a xs ∧ SqT K H b ys ∧ xs.length + ys.length ≤ sizeLine ∧
  ∀ p H', Same H H' → SqT K H' p (xs ++ ys) → Q (.ref p) H'
theorem op_catG : OpR X (binaryOp .Add) (rCatG X.K) := by
  intro pins s σ H x y v u Q I rx ry h
  obtain ⟨a, b, xs, ys, e1, e2, ha, hb, hz, q⟩ := h
  by_cases hx : xs = []
  · subst e1; subst e2; subst hx
    cases (show v = Value.ref a from rx)
    cases (show u = Value.ref b from ry)
    obtain ⟨its, r1, p1, _⟩ := I.tuple ha
    obtain ⟨its2, r2, p2, _⟩ := I.tuple hb
    cases r1
    obtain ⟨⟨cls, dd, data, sl⟩, ho, hc, n, hd⟩ := id p1
    obtain ⟨⟨cls2, dd2, data2, sl2⟩, ho2, hc2, n2, hd2⟩ := id p2
    simp only at hc hd hc2 hd2
    subst hc hd hc2 hd2
    exact concat_meets ⟨_, ho, rfl⟩ ⟨_, ho2, rfl⟩ noFill_tuple_add seq_tuple_add PySem.F.slot_tuple_add PySem.F.entry_tuple_add (PySem.F.args_tuple_add_2 _ _)
      (tuple_addW0 a b _ its2.toArray n n2 dd dd2 sl sl2 rfl) ⟨ho, ho2, ⟨.ref b, H, I, rfl, q b H (Same.refl H) (by simpa using hb)⟩⟩
  · refine op_catT pins s σ H x y v u Q I rx ry ⟨a, b, xs, ys, e1, e2, ha, hb, hx, hz, fun hy => ?_, fun hy p hp => ?_⟩
    · subst hy
      exact q a H (Same.refl H) (by simpa using ha)
    · exact q p _ (same_new hp _) (SqT.of upd_same)
theorem Same.seqT {K : PySem.W.Frag} {H H' : Hp} {a : Addr} {xs : List V} (e : Same H H') (h : SqT K H a xs) : SqT K H' a xs := by
  rcases h with (h | ⟨o, h⟩) | h
  · exact .inl (.inl (e _ _ h))
  · exact .inl (.inr ⟨o, e _ _ h⟩)
  · exact .inr h
end
section
variable {X : Cx} {tg : Expr}
end
end L2
namespace L2
open PySem PySem.Spec PyProof.Rows
def rCatL (K : PySem.W.Frag) : R2 := fun x y H Q => ∃ l b xs zs, x = .ref l ∧ y = .ref b ∧ SqL K H l xs ∧ SqL K H b zs ∧ xs.length + zs.length ≤ sizeLine ∧ ∀ p, H p = none → Q (.ref p) (upd H p (.lst (xs ++ zs)))
theorem op_catL {X : Cx} : OpR X (binaryOp .Add) (rCatL X.K) := by
  intro pins s σ H x y v u Q I rx ry h
  obtain ⟨l, b, xs, zs, rfl, rfl, ha, hb, hz, q⟩ := h
  cases rx
  cases ry
  obtain ⟨its, r1, ⟨⟨c1, d1, t1, s1⟩, n1, g1, e1, f1, k1⟩, _⟩ := I.list ha
  obtain ⟨its2, r2, ⟨⟨c2, d2, t2, s2⟩, n2, g2, e2, f2, k2⟩, _⟩ := I.list hb
  simp only at e1 f1 k1 e2 f2 k2
  subst e1 f1 k1 e2 f2 k2
  have l1 := r1.length
  have l2 := r2.length
  refine concat_meets ⟨_, g1, rfl⟩ ⟨_, g2, rfl⟩ noFill_list_add seq_list_add PySem.F.slot_list_add PySem.F.entry_list_add (PySem.F.args_list_add_2 _ _) (list_addW l b _ _ n1 n2 none none s1 s2 (by rw [List.size_toArray, List.size_toArray]; omega)) ⟨g1, g2, ?_⟩
  have ea : its.toArray ++ its2.toArray = (its ++ its2).toArray := by simp
  rw [ea]
  exact ⟨.ref _, _, I.lnew (t' := s.toks) (r1.append r2) (by rw [List.length_append]; omega), rfl, q _ I.fresh⟩
theorem cutTo (xs : List V) (k : Nat) : cutV xs none (some (k : Int)) = xs.take k := by
  unfold cutV
  rw [HT.sIx_none, HT.sIx_nat, List.drop_zero, Nat.sub_zero]
  by_cases h : k ≤ xs.length
  · rw [Nat.min_eq_left h]
  · rw [Nat.min_eq_right (by omega), List.take_of_length_le (Nat.le_refl _), List.take_of_length_le (by omega)]
theorem ixN_nat {n k : Nat} (h : k < n) : ixN n (k : Int) = some k := by
  unfold ixN
  rw [if_pos (by omega), if_pos (by omega)]; simp
theorem size_line : sizeLine = 16777216 := by decide
theorem line_of {n : Nat} (h : n ≤ 5000) : n ≤ sizeLine := by rw [size_line]; omega
end L2
namespace L2
open PySem PySem.Spec PyProof.Rows
def compX (X : Cx) (N' : List Str) (scope : Scope) (cl : List (Str × Addr)) (C : Addr) (fp : List Addr) (s₀ : Shared) (H₀ : Hp) : Cx :=
  { X with N := N', s₀ := s₀, H₀ := H₀, env := compEnvC scope cl C X.env, outer := X.stack, ex := fp, fn := fun _ => false, pn := [], xe := fun _ _ => False }
def PF (X : Cx) (ifs : List Expr) (t : TT) : Prop :=
  ∀ (pins : List (Addr × Obj)) (s : Shared) (σ : St) (H : Hp) (Q : Bool → Hp → Prop), Inv X pins σ H s → t σ H Q →
    wpAny (model X.prog X.w) X.A (forIn ifs true fun c r => if r = true then do let ok ← isTrue c X.env (eval c X.env); pure (ForInStep.yield ok) else pure (ForInStep.yield r)) (TP X pins σ Q) X.xe s
theorem pf_nil {X : Cx} : PF X [] (fun _ H Q => Q true H) := by
  intro pins s σ H Q I h
  rw [List.forIn_nil]
  exact wpAny_pure ⟨H, I, h⟩
theorem pf_one {X : Cx} {c : Expr} {t : TT} (hc : PT X c t) : PF X [c] t := by
  intro pins s σ H Q I h
  rw [List.forIn_cons]
  refine wpAny_bind ?_
  rw [if_pos rfl]
  refine wpAny_bind (thn (hc pins s σ H Q I h) fun ok s1 q => wpAny_pure ?_)
  dsimp only
  rw [List.forIn_nil]
  exact wpAny_pure q
structure CompOk (X : Cx) (x : Str) (caps : List Str) (cap : List Nat) (scope : Scope) (cl : List (Str × Addr)) : Prop where
  clos : closureFor scope X.env = pure cl
  cell : ∀ y ∈ scope.names, y.2 ≠ .cell
  kind : scope.kind = .function
  names : ∀ y ∈ scope.names, y.2 = .local → scope.names.lookup y.1 = some .local
  lx : scope.names.lookup x = some .local
  nd : (x :: caps).Nodup
  from_ : ∀ y c, cl.lookup y = some c → X.env.cells.lookup y = some c
  has : ∀ y, ((relabel scope X.env).names.lookup y = some .cell ∨ (relabel scope X.env).names.lookup y = some .free) → ∃ c, cl.lookup y = some c
  len : cap.length = caps.length
  cps : ∀ (i : Nat) (y : Str), caps[i]? = some y → ∃ j, cap[i]? = some j ∧ X.N[j]? = some y ∧ X.env.scope.names.lookup y = some .cell ∧ (relabel scope X.env).names.lookup y = some .cell
structure OwnAt (X : Cx) (pins : List (Addr × Obj)) (H : Hp) (s : Shared) (C : Addr) : Prop where
  ns : ∃ m, s.heap.Ns C m
  free : H C = none
  loc : C ≠ X.env.locals
  above : X.s₀.heap.objs.size ≤ C
  cells : ∀ x c, X.env.cells.lookup x = some c → c ≠ C
  pins : ∀ p ∈ X.pn ++ pins, p.1 ≠ C
theorem OwnAt.go {X : Cx} {pins : List (Addr × Obj)} {σ : St} {H : Hp} {s : Shared} {C : Addr} {h' : Heap} (I : Inv X pins σ H s) (o : OwnAt X pins H s C) (hb : Heap.SameBut C s.heap h') : Inv X pins σ H { s with heap := h' } :=
  I.turned (t' := s.toks) (fun b u hb' e => (hb.2 b hb').trans e) o.free o.loc (.inr o.above) o.cells o.pins
def compW (n : Nat) (Pv : Nat → List V → Hp → Prop) : Nat → Nat → Hp → Prop := fun i m H => m = n - i ∧ i ≤ n ∧ ∃ ys, Pv i ys H
def compN (n : Nat) (Pv : Nat → List V → Hp → Prop) (acc : Addr) (i m : Nat) : VK := fun y H5 => ∃ ys, H5 acc = some (.lst ys) ∧ ys.length < sizeLine ∧ ∃ m', m' < m ∧ compW n Pv (i + 1) m' (upd H5 acc (.lst (ys ++ [y])))
theorem comp_next {n : Nat} {Pv : Nat → List V → Hp → Prop} {acc : Addr} {i : Nat} {y : V} {H5 : Hp} {ys : List V} (hi : i < n) (hacc : H5 acc = some (.lst ys)) (hl : ys.length < 5000) (hP : Pv (i + 1) (ys ++ [y]) (upd H5 acc (.lst (ys ++ [y])))) : compN n Pv acc i (n - i) y H5 :=
  ⟨ys, hacc, Nat.lt_trans hl (by decide), n - (i + 1), by omega, rfl, hi, _, hP⟩
theorem comp_skip {n : Nat} {Pv : Nat → List V → Hp → Prop} {i : Nat} {H : Hp} {ys : List V} (hi : i < n) (hP : Pv (i + 1) ys H) : ∃ m', m' < n - i ∧ compW n Pv (i + 1) m' H := ⟨n - (i + 1), by omega, rfl, hi, ys, hP⟩
end L2
namespace L2
open PySem PySem.Spec PyProof.Rows
end L2
namespace L2
open PySem PySem.Spec PyProof.Rows
section
variable {X : Cx}
theorem call_isinstT : CallR X (.builtin "isinstance") (fun xs H Q => ∃ a ys T b, xs = [.ref a, .ty T] ∧ SqT X.K H a ys ∧ PySem.W.kitOne X.K (.type "tuple") (.type T) = some b ∧ Q (.bl b) H) := by
  intro pins s σ H xs us Q I r h
  obtain ⟨a, ys, T, b, rfl, ht, e, q⟩ := h
  obtain ⟨u, c, rfl, rx, rc⟩ := vals2 r
  cases (show c = Value.type T from rc)
  cases (show u = Value.ref a from rx)
  obtain ⟨its, r1, p, _⟩ := I.tuple ht
  obtain ⟨o, h1, h2, _⟩ := p
  exact PySem.W.kia_one PySem.W.kitx_tuple I.kIn ⟨o, h1, h2⟩ e (fun z => nomatch z) fun tk => ⟨.bl b, H, I.tok tk, rfl, q⟩
def tCutT (t : TT) : TT := fun σ H Q => ∃ R : Bool → Hp → Prop, t σ H R ∧ ∀ b H', R b H' → Q b H'
theorem pt_cut {e : Expr} {t : TT} (h : PT X e t) : PT X e (tCutT t) := by
  intro pins s σ H Q I hw
  obtain ⟨R, h1, h2⟩ := hw
  refine thn (h pins s σ H R I h1) fun b s1 q => ?_
  obtain ⟨H', I', q⟩ := q
  exact ⟨H', I', h2 _ _ q⟩
end
theorem rd_ints {K : PySem.W.Frag} {H : Hp} : ∀ p : List Int, RdAll K H (p.map V.int) (p.map PyData.int)
  | [] => .nil
  | i :: r => .cons (.int i) (rd_ints r)
theorem lay_ints : ∀ p : List Int, PyData.canLayAll0 (p.map PyData.int) = true
  | [] => by simp [PyData.canLayAll0]
  | i :: r => by simp only [List.map_cons, PyData.canLayAll0, PyData.canLay0, lay_ints r, Bool.and_self]
end L2
namespace L2
open PySem PySem.Spec PyProof.Rows
section
variable {X : Cx} {pins : List (Addr × Obj)} {σ : St} {H : Hp} {s : Shared} {h' : Heap}
theorem Inv.turnedL {ch : List Addr} {t' : Nat} (I : Inv X pins σ H s) (k : ∀ b o, b ∉ ch → s.heap.get? b = some o → h'.get? b = some o) (hf : ∀ b ∈ ch, FpOk X pins H b) : Inv X pins σ H { s with heap := h', toks := t' } := by
  have nch : ∀ b u, H b = some u → b ∉ ch := fun b u e z => by rw [(hf b z).1] at e; cases e
  refine I.step (g' := s.gens) (d' := s.drawn) (ch := ch) (fun b hb => ?_) (fun b o _ _ hc e _ => k b o hc e) (fun b o _ _ hc e _ => ⟨o.slots, k b o hc e⟩) (fun _ _ _ _ n => n)
    (fun b o hc e => ⟨o, k b o hc e⟩) (fun _ _ e => e) (fun _ _ _ e => e) (fun b ps e => ⟨#[], by rw [e]; simp⟩) (fun m hm => ?_) (fun b u e => ?_) I.bare
  · obtain ⟨f0, f1, f2, f3, f4, f5⟩ := hf b hb
    exact ⟨f3, f1, f4, f5⟩
  · obtain ⟨o, es, ep, ho, r⟩ := hm
    exact ⟨o, es, ep, k _ o (fun z => (hf _ z).2.1 rfl) ho, r⟩
  · refine (I.hok b u e).stay (fun c v hc q => k c v ?_ q) (fun _ q => q) fun _ _ q => q
    rcases hc with z | z
    · rw [z]; exact nch b u e
    · exact nch c _ z
theorem Inv.turnedNew {ch : List Addr} {t' : Nat} {a : Addr} {o : HO} (I : Inv X pins σ H s) (k : ∀ b o, b ∉ ch → s.heap.get? b = some o → h'.get? b = some o) (hf : ∀ b ∈ ch, FpOk X pins H b)
    (hp : s.heap.objs.size ≤ a) (new : ObjOk X.prog X.w (upd H a o) h' a o) : Inv X pins σ (upd H a o) { s with heap := h', toks := t' } := by
  have hn : H a = none := I.hok.fresh hp
  have nch : ∀ b u, H b = some u → b ∉ ch := fun b u e z => by rw [(hf b z).1] at e; cases e
  have lt : ∀ b u, s.heap.get? b = some u → b ≠ a := fun b u e => Nat.ne_of_lt (Nat.lt_of_lt_of_le (Heap.lt_size e) hp)
  refine I.step (g' := s.gens) (d' := s.drawn) (ch := ch) (fun b hb => ?_) (fun b o _ _ hc e _ => k b o hc e) (fun b o _ _ hc e _ => ⟨o.slots, k b o hc e⟩) (fun b u _ e n => by rw [upd_ne (lt b u e)]; exact n)
    (fun b o hc e => ⟨o, k b o hc e⟩) (fun b xs e => by rw [upd_ne (ne_of_none e hn)]; exact e) (fun b u xs e => by rw [upd_ne (ne_of_none e hn)]; exact e) (fun b ps e => ⟨#[], by rw [upd_ne (ne_of_none e hn), e]; simp⟩) (fun m hm => ?_) (fun b u e => ?_) I.bare
  · obtain ⟨f0, f1, f2, f3, f4, f5⟩ := hf b hb
    exact ⟨f3, f1, f4, f5⟩
  · obtain ⟨o, es, ep, ho, r⟩ := hm
    exact ⟨o, es, ep, k _ o (fun z => (hf _ z).2.1 rfl) ho, r⟩
  · by_cases hb : b = a
    · subst hb
      rw [upd_same] at e; cases e
      exact new
    · rw [upd_ne hb] at e
      refine (I.hok b u e).stay (fun c v hc q => k c v ?_ q) (fun c q => by rw [upd_ne (ne_of_none q hn)]; exact q) fun c xs q => by rw [upd_ne (ne_of_none q hn)]; exact q
      rcases hc with z | z
      · rw [z]; exact nch b u e
      · exact nch c _ z
end
def Itz (K : PySem.W.Frag) (a b : Addr) (xs ys : List V) : It :=
  ⟨fun i H => SqL K H a xs ∧ SqL K H b ys ∧ i < xs.length ∧ i < ys.length,
   fun i H x H' => ∃ p u v, H p = none ∧ x = .ref p ∧ H' = upd H p (.tup [u, v]) ∧ xs[i]? = some u ∧ ys[i]? = some v,
   fun i H => SqL K H a xs ∧ SqL K H b ys ∧ (xs.length ≤ i ∨ ys.length ≤ i)⟩
theorem turn_zip {P : Program} {w : World} {K : PySem.W.Frag} {elts : List Expr} {k1 : Nat} {pos : Pos} (a b z : Addr) (xs ys : List V) (TI TO i1 i2 : Addr) (Ap : ZipApart z TI TO i1 i2 a b) :
    Turn P w K (.Tuple elts k1 pos) (Itz K a b xs ys) [z, TI, TO, i1, i2] z (fun i h => IsZip h z TI TO .none ∧ IsPair h TI (.ref i1) (.ref i2) ∧ (∃ u v, IsPair h TO u v) ∧ h.IsListIter i1 a i ∧ h.IsListIter i2 b i) where
  mem := by simp
  obj := fun i h st c hc => by
    obtain ⟨hz, hTI, ⟨u, v, hTO⟩, h1, h2⟩ := st
    simp only [List.mem_cons, List.mem_nil_iff, or_false] at hc
    rcases hc with rfl | rfl | rfl | rfl | rfl
    · exact ⟨_, hz, fun v z => by have z' : Data.fields _ = Data.cell v := z; cases z'⟩
    · exact ⟨_, hTI, fun v z => by have z' : Data.seq _ _ = Data.cell v := z; cases z'⟩
    · exact ⟨_, hTO, fun v z => by have z' : Data.seq _ _ = Data.cell v := z; cases z'⟩
    · obtain ⟨o, e, c, d⟩ := h1; exact ⟨o, e, fun v z => by rw [d] at z; cases z⟩
    · obtain ⟨o, e, c, d⟩ := h2; exact ⟨o, e, fun v z => by rw [d] at z; cases z⟩
  keep := fun i h h' st k => by
    obtain ⟨hz, hTI, ⟨u, v, hTO⟩, h1, h2⟩ := st
    exact ⟨k z (by simp) _ hz, k TI (by simp) _ hTI, ⟨u, v, k TO (by simp) _ hTO⟩, h1.at fun o e => k i1 (by simp) o e, h2.at fun o e => k i2 (by simp) o e⟩
  item := by
    intro X hP hw hK hc i pins s σ H E I hf st hg
    subst hP hw hK
    obtain ⟨hz, hTI, ⟨u0, v0, hTO⟩, h1, h2⟩ := st
    obtain ⟨qa, qb, lx, ly⟩ := hg
    obtain ⟨its, rv, p, _⟩ := I.list qa
    obtain ⟨its2, rv2, p2, _⟩ := I.list qb
    have ex : xs[i]? = some xs[i] := List.getElem?_eq_getElem lx
    have ey : ys[i]? = some ys[i] := List.getElem?_eq_getElem ly
    obtain ⟨u, hu, ru⟩ := rv.get ex
    obtain ⟨v, hv, rv'⟩ := rv2.get ey
    refine wpAny_pyNext_zip_item Ap hz hTI hTO h1 h2 p.isList p2.isList (x := u) (y := v) (by simpa using hu) (by simpa using hv) fun h' a1 a2 a3 a4 a5 a6 hk => ?_
    refine ⟨.ref s.heap.objs.size, rfl, wpAny_letOwnedTupleGo_zip (s := { s with heap := h' }) a1 fun h'' hz' hs' => ?_⟩
    have lt : ∀ {c o}, s.heap.get? c = some o → c ≠ s.heap.objs.size := fun e => Nat.ne_of_lt (Heap.lt_size e)
    have e5 : IsPair h'' s.heap.objs.size u v := (hs'.2 _ (Ne.symm (lt hz))).trans a5
    have hch : ∀ c ∈ [z, TO, i1, i2], FpOk X pins H c := fun c hc => hf c (by
      simp only [List.mem_cons, List.mem_nil_iff, or_false] at hc ⊢
      rcases hc with rfl | rfl | rfl | rfl <;> simp)
    have I2 : Inv X pins σ (upd H s.heap.objs.size (.tup [xs[i], ys[i]])) { s with heap := h'', toks := s.toks } := by
      refine I.turnedNew (ch := [z, TO, i1, i2]) (fun c o hc e => ?_) hch (Nat.le_refl _) ⟨by show 2 ≤ sizeLine; decide, [u, v], .cons ru (.cons rv' .nil), ⟨_, e5, rfl, _, rfl⟩⟩
      simp only [List.mem_cons, List.mem_nil_iff, or_false, not_or] at hc
      exact (hs'.2 c hc.1).trans (hk c o hc.1 hc.2.1 hc.2.2.1 hc.2.2.2 e)
    have hfr : ∀ c ∈ [z, TI, TO, i1, i2], upd H s.heap.objs.size (.tup [xs[i], ys[i]]) c = none := fun c hc => by
      have hc2 := hf c hc
      have : c ≠ s.heap.objs.size := by
        simp only [List.mem_cons, List.mem_nil_iff, or_false] at hc
        rcases hc with rfl | rfl | rfl | rfl | rfl
        · exact lt hz
        · exact lt hTI
        · exact lt hTO
        · obtain ⟨o, e, _⟩ := h1; exact lt e
        · obtain ⟨o, e, _⟩ := h2; exact lt e
      rw [upd_ne this]; exact hc2.1
    exact ⟨.ref s.heap.objs.size, _, I2, rfl, ⟨s.heap.objs.size, _, _, I.fresh, rfl, rfl, ex, ey⟩, ⟨hz', hs'.extBut _ _ Ap.TIz (hk _ _ Ap.TIz Ap.TITO Ap.TIi1 Ap.TIi2 hTI), ⟨_, _, hs'.extBut _ _ Ap.TOz a2⟩, a3.extBut hs'.extBut Ap.i1z, a4.extBut hs'.extBut Ap.i2z⟩, hfr⟩
  done := by
    intro X hP hw hK hc i pins s σ H E I hf st hg
    subst hP hw hK
    obtain ⟨hz, hTI, ⟨u0, v0, hTO⟩, h1, h2⟩ := st
    obtain ⟨qa, qb, hl⟩ := hg
    obtain ⟨its, rv, p, _⟩ := I.list qa
    obtain ⟨its2, rv2, p2, _⟩ := I.list qb
    have l1 := rv.length
    have l2 := rv2.length
    have hch : ∀ c ∈ [z, TO, i1, i2], FpOk X pins H c := fun c hc => hf c (by
      simp only [List.mem_cons, List.mem_nil_iff, or_false] at hc ⊢
      rcases hc with rfl | rfl | rfl | rfl <;> simp)
    refine wpAny_pyNext_zip_end (I.ok.hd hc) Ap hz hTI hTO h1 h2 p.isList p2.isList ?_ fun h' hk => ⟨rfl, I.turnedL (t' := s.toks) (ch := [z, TO, i1, i2]) (fun c o hc e => ?_) hch⟩
    · rcases hl with q | q
      · exact .inl (by simp; omega)
      · exact .inr (by simp; omega)
    · simp only [List.mem_cons, List.mem_nil_iff, or_false, not_or] at hc
      exact hk c o hc.1 hc.2.1 hc.2.2.1 hc.2.2.2 e
  self := fun _ _ _ _ _ st h => wpAny_pyIter_zip st.1 h
theorem nne {x y : Nat} (h : x < y ∨ y < x) : x ≠ y := by omega
section
variable {X : Cx} {elts : List Expr} {k1 : Nat} {tpos : Pos}
def iZip (K : PySem.W.Frag) (ta : TA) : TI := fun σ H R => ta σ H fun vs H1 => ∃ a b xs ys, vs = [.ref a, .ref b] ∧ SqL K H1 a xs ∧ SqL K H1 b ys ∧ R (Itz K a b xs ys) H1
theorem pi_zip {e1 e2 : Expr} {ta : TA} {p pos : Pos} (hg : Gl X "zip") (hm : X.mg "zip" = none) (ha : PA X [e1, e2] ta) (hs : starEach [e1, e2] X.env = [(false, eval e1 X.env), (false, eval e2 X.env)] := by rfl) (hs2 : starEach [e2] X.env = [(false, eval e2 X.env)] := by rfl) :
    PI X (.Tuple elts k1 tpos) (.Call (.Name "zip" p) [e1, e2] [] pos) (iZip X.K ta) := by
  intro pins s σ H R I h
  refine Call_ (ld_blt I hg hm PyProof.Rows.boot_zip (PyProof.Rows.callWith_type1 (thn (ha pos pins s σ H _ I h) fun us s1 ⟨vs, H1, I1, r1, q1⟩ => ?_) (by rw [hs, hs2]) (by rw [hs2]; rfl)))
  obtain ⟨a, b, xs, ys, e, qa, qb, q⟩ := q1
  subst e
  obtain ⟨u1, u2, e3, r3, r4⟩ := r1.two
  subst e3
  cases (show u1 = Value.ref a from r3)
  cases (show u2 = Value.ref b from r4)
  obtain ⟨its, rv, pl, _⟩ := I1.list qa
  obtain ⟨its2, rv2, pl2, _⟩ := I1.list qb
  have la : @LT.lt Nat _ a s1.heap.objs.size := by obtain ⟨o, n, e, _⟩ := pl; exact Heap.lt_size e
  have lb : @LT.lt Nat _ b s1.heap.objs.size := by obtain ⟨o, n, e, _⟩ := pl2; exact Heap.lt_size e
  refine call_zip_2 pl.isList pl2.isList fun h' hz hTI hTO h1 h2 hsz hk => ?_
  refine wpAny_pyIter_zip hz ?_
  have I2 : Inv X pins σ H1 { s1 with heap := h' } := I1.kept (t' := s1.toks) hk
  refine ⟨s1.heap.objs.size + 4, [s1.heap.objs.size + 4, s1.heap.objs.size + 2, s1.heap.objs.size + 3, s1.heap.objs.size, s1.heap.objs.size + 1], _, _, H1, rfl, I2,
    turn_zip a b (s1.heap.objs.size + 4) xs ys (s1.heap.objs.size + 2) (s1.heap.objs.size + 3) s1.heap.objs.size (s1.heap.objs.size + 1) ?_, ⟨hz, hTI, ⟨_, _, hTO⟩, h1, h2⟩, fun c hc => ?_, q⟩
  · constructor <;> (refine nne ?_; omega)
  · have hle : @LE.le Nat _ s1.heap.objs.size c := by
      simp only [List.mem_cons, List.mem_nil_iff, or_false] at hc
      rcases hc with rfl | rfl | rfl | rfl | rfl <;> omega
    exact I1.fpOk hle (I1.hok.fresh hle)
end
end L2
namespace L2
open PySem PySem.Spec PyProof.Rows
theorem vals_items : ∀ {ns : List Int} {us : List Value}, Vals (ns.map V.int) us → ∃ xs : List (Int × Tok), us = xs.map (fun p => Value.int p.1 p.2) ∧ xs.map (·.1) = ns
  | [], _, .nil => ⟨[], rfl, rfl⟩
  | n :: ns, _, .cons r rr => by
    obtain ⟨t, e⟩ := r
    obtain ⟨xs, e1, e2⟩ := vals_items rr
    exact ⟨(n, t) :: xs, by rw [e, e1]; rfl, by rw [List.map_cons, e2]⟩
theorem items_arr (xs : List (Int × Tok)) : intItems xs.toArray = (xs.map (fun p => Value.int p.1 p.2)).toArray := by
  simp [intItems]
theorem pre_sum (xs : List (Int × Tok)) (j : Nat) : preSum (numAt xs.toArray) j = ((xs.map (·.1)).take j).sum := by rw [preSum_eq]
section
variable {X : Cx}
end
section
variable {prog : Program} {w : World} {A : Around} {R : Result → Shared → Prop} {I : Addr} {fp wr : List Addr} {n : Nat} {P : Nat → Value → Prop} {St : Nat → Heap → Prop}
end
section
variable {prog : Program} {w : World} {A : Around} {E : Value → Shared → Prop} {s : Shared}
end
end L2
namespace L2
open PySem PySem.Spec PyProof.Rows
section
variable {X : Cx} {x : Str} {p pos : Pos} {e : Expr} {es : List Expr} {kws : List Keyword} {t tk : TA} {id : String} {ks : List Str} {r : List V → List V → Hp → VK → Prop}
end
end L2
namespace L2
open PySem PySem.Spec PyProof.Rows
structure CompG (X : Cx) (xs caps : List Str) (cap : List Nat) (scope : Scope) (cl : List (Str × Addr)) : Prop where
  clos : closureFor scope X.env = pure cl
  cell : ∀ y ∈ scope.names, y.2 ≠ .cell
  kind : scope.kind = .function
  names : ∀ y ∈ scope.names, y.2 = .local → scope.names.lookup y.1 = some .local
  lx : ∀ x ∈ xs, scope.names.lookup x = some .local
  nd : (xs ++ caps).Nodup
  from_ : ∀ y c, cl.lookup y = some c → X.env.cells.lookup y = some c
  has : ∀ y, ((relabel scope X.env).names.lookup y = some .cell ∨ (relabel scope X.env).names.lookup y = some .free) → ∃ c, cl.lookup y = some c
  len : cap.length = caps.length
  cps : ∀ (i : Nat) (y : Str), caps[i]? = some y → ∃ j, cap[i]? = some j ∧ X.N[j]? = some y ∧ X.env.scope.names.lookup y = some .cell ∧ (relabel scope X.env).names.lookup y = some .cell
def capV (cap : List Nat) (σ : St) : St := cap.map fun j => (σ[j]?).getD none
def tCompG (n : Nat) (wi : TI) (cap : List Nat) (g : TG) (tt : TT) (te : TE) : TE := fun σ H Q => wi σ H fun J H1 => ∀ acc, H1 acc = none → ∃ W : Nat → Nat → Hp → Prop, (∃ m, W 0 m (upd H1 acc (.lst []))) ∧ ∀ i m H2, W i m H2 →
  (J.stop i H2 ∧ Q (.ref acc) H2) ∨ (J.go i H2 ∧ ∀ x H3, J.yld i H2 x H3 → ∀ as : St, as.length = n → g x (as ++ capV cap σ) H3 fun σ4 H4 => (∃ bs : St, bs.length = n ∧ σ4 = bs ++ capV cap σ) ∧ tt σ4 H4 fun ok H5 => if ok = true then
    te σ4 H5 (fun y H6 => ∃ ys, H6 acc = some (.lst ys) ∧ ys.length < sizeLine ∧ ∃ m', m' < m ∧ W (i + 1) m' (upd H6 acc (.lst (ys ++ [y]))))
    else ∃ m', m' < m ∧ W (i + 1) m' H5)
theorem compG_core {X : Cx} {elt iter tg : Expr} {xs : List Str} {ifs : List Expr} {scope : Scope} {pos pos' : Pos} {wi : TI} {g : TG} {tt : TT} {te : TE} {cl : List (Str × Addr)} {caps : List Str} {cap : List Nat}
    (O : CompG X xs caps cap scope cl) (hc : X.calm = true) (hi : PI X tg iter wi) (hg : ∀ C fp s₀ H₀, PG (compX X (xs ++ caps) scope cl C fp s₀ H₀) tg g)
    (ht : ∀ C fp s₀ H₀, PF (compX X (xs ++ caps) scope cl C fp s₀ H₀) ifs tt) (he : ∀ C fp s₀ H₀, PE (compX X (xs ++ caps) scope cl C fp s₀ H₀) elt te)
    (hs : ∀ x, foldedSetIterable iter X.env x = pure x) {pins : List (Addr × Obj)} {s : Shared} {σ : St} {H : Hp} {Q : VK} {use : Option (Value → Sem Unit)} {QQ : Value → Shared → Prop} (I : Inv X pins σ H s)
    (h : tCompG xs.length wi cap g tt te σ H Q)
    (hfin : ∀ D C H' s', Inv X pins σ H' s' → OwnAt X pins H' s' C → Q (.ref D) H' → compPost (model X.prog X.w) X.A X.xe use QQ (.ref D) C (.ok .next) s') :
    wpAny (model X.prog X.w) X.A (comprehension (.ListComp elt [⟨tg, iter, ifs, 0⟩] scope pos) scope X.env pos' (newList []) false (eval iter X.env) use) QQ X.xe s := by
  refine wpAny_comprehension_free rfl hs O.clos O.kind O.names (thn (hi pins s σ H _ I h) fun v s1 h1 => thn h1 fun itv s2 h2 => ?_)
  obtain ⟨it, fp, tn, J, H1, e, I2, T, t0, f2, hR⟩ := h2
  subst e
  refine wpAny_newObj_type (wpAny_newFunctionEnv O.cell (by intro y hy; simp at hy) (fun h₁ hns hsb => ?_) O.kind)
  have hacc : H1 s2.heap.objs.size = none := I2.fresh
  obtain ⟨W, ⟨m0, w0⟩, turn⟩ := hR s2.heap.objs.size hacc
  have I3 : Inv X pins σ (upd H1 s2.heap.objs.size (.lst [])) { s2 with heap := s2.heap.push { cls := .type "list", data := .seq ([] : List Value).toArray } } := I2.lnew (t' := s2.toks) (ys := []) (its := []) .nil (Nat.zero_le _)
  generalize hs3 : ({ s2 with heap := s2.heap.push { cls := .type "list", data := .seq ([] : List Value).toArray } } : Shared) = s3 at hns hsb I3 ⊢
  generalize hD : s2.heap.objs.size = D at I3 w0 turn hacc ⊢
  generalize hH3 : upd H1 D (.lst []) = H3 at I3 w0
  have keep3 : ∀ b o, s3.heap.get? b = some o → h₁.get? b = some o := fun b o e => (hsb.2 b (Nat.ne_of_lt (Heap.lt_size e))).trans (Heap.get?_push_of_some _ e)
  have hfp3 : ∀ b ∈ fp, H3 b = none := fun b hb => by
    rw [← hH3, upd_ne]
    · exact (f2 b hb).1
    · intro z
      obtain ⟨o, e, _⟩ := T.obj _ _ t0 b hb
      exact absurd (Heap.lt_size e) (by rw [z, hD]; exact Nat.lt_irrefl _)
  have hCfresh : H3 s3.heap.objs.size = none := I3.fresh
  have hCfp : ∀ b ∈ fp, b ≠ s3.heap.objs.size := fun b hb z => by
    obtain ⟨o, e, _⟩ := T.obj _ _ t0 b hb
    have h2 : s3.heap.objs.size = s2.heap.objs.size + 1 := by rw [← hs3]; exact Heap.size_push ..
    exact absurd (Heap.lt_size e) (by rw [z, h2]; exact Nat.not_lt.mpr (Nat.le_succ _))
  have t3 : tn 0 h₁ := T.keep _ _ _ t0 fun b hb o e => keep3 b o (by rw [← hs3]; exact Heap.get?_push_of_some _ e)
  have ok' : (compX X (xs ++ caps) scope cl s3.heap.objs.size fp s3 H3).Ok := by
    refine ⟨I3.ok.mod, O.kind, I3.ok.glob, I3.ok.blt, Nat.le_refl _, fun y z c e1 e2 => I3.ok.inj y z c (O.from_ y c e1) (O.from_ z c e2), fun y hy => O.has y hy, fun y c z _ => (nomatch z), I3.ok.hd, I3.ok.frames, .inl rfl, fun b hb => ⟨hCfp b hb, fun y c e => ?_⟩, I3.bs, Nat.le_trans I3.ok.bsz I3.sz, fun b o e hb => ?_, fun b hb z => ?_, I3.stack, I3.stkFree⟩
    · exact (f2 b hb).2.2.2.2.1 y c (O.from_ y c e)
    · rcases (f2 b hb).2.2.2.1 with q | q
      · exact I3.ok.noex b o e q
      · exact absurd (Nat.lt_of_lt_of_le (Heap.lt_size e) (Nat.le_trans I3.ok.bsz q)) (Nat.lt_irrefl _)
    · rcases List.mem_cons.mp (I3.stkSub b z) with q | q
      · exact (f2 b hb).2.1 q
      · exact (f2 b hb).2.2.1 q
  have I4 : Inv (compX X (xs ++ caps) scope cl s3.heap.objs.size fp s3 H3) [] (List.replicate xs.length none ++ capV cap σ) H3 { s3 with heap := h₁, toks := s3.toks + ([] : List (Str × Value)).length } := by
    obtain ⟨m, hn, hl⟩ := id I3.loc
    refine ⟨ok', rfl, I3.bare, Un.kept keep3, ⟨_, hns, fun i y v e1 e2 e3 => ?_⟩, fun y c e => ?_, hCfresh, fun y c e => I3.freeC y c (O.from_ y c e), fun p hp => (nomatch hp), I3.hok.kept keep3, ?_⟩
    · by_cases hix : i < xs.length
      · rw [List.getElem?_append_left (by rw [List.length_replicate]; exact hix), List.getElem?_replicate, if_pos hix] at e2
        cases e2
      · have e1' : caps[i - xs.length]? = some y := by
          have e1'' : (xs ++ caps)[i]? = some y := e1
          rwa [List.getElem?_append_right (by omega)] at e1''
        obtain ⟨j, hj, hN, hk, hk'⟩ := O.cps _ y e1'
        have e2' : (σ[j]?).getD none = some v := by
          rw [List.getElem?_append_right (by rw [List.length_replicate]; omega), List.length_replicate] at e2
          unfold capV at e2
          simpa [hj] using e2
        have e2'' : σ[j]? = some (some v) := by
          cases q : σ[j]? with
          | none => rw [q] at e2'; cases e2'
          | some a => rw [q] at e2'; exact congrArg some e2'
        obtain ⟨u, r, l⟩ := hl j y v hN e2'' (.inr (.inl hk))
        refine ⟨u, r, ?_⟩
        rcases l with ⟨k, _⟩ | ⟨k, c, e, z⟩
        · have k' : X.env.scope.names.lookup y = some .local := k
          rw [hk] at k'; cases k'
        · obtain ⟨c', hc'⟩ := O.has y (.inl hk')
          have : c' = c := Option.some.inj ((O.from_ y c' hc').symm.trans e)
          subst this
          refine .inr ⟨.inl hk', c', hc', ?_⟩
          obtain ⟨o, ho, hd⟩ := z
          exact ⟨o, keep3 _ _ ho, hd⟩
    · obtain ⟨v, o, ho, hd⟩ := I3.cell y c (O.from_ y c e)
      exact ⟨v, o, keep3 _ _ ho, hd⟩
    · show (List.replicate xs.length none ++ capV cap σ).length = (xs ++ caps).length
      simp [capV, O.len]
  have fin : ∀ (H' : Hp) (σ' : St) (s' : Shared), Inv (compX X (xs ++ caps) scope cl s3.heap.objs.size fp s3 H3) [] σ' H' s' → Q (.ref D) H' →
      compPost (model X.prog X.w) X.A X.xe use QQ (.ref D) s3.heap.objs.size (.ok .next) s' := fun H' σ' s' I' q => by
    obtain ⟨m, hn, _⟩ := id I'.loc
    have hU : Un (frs X.stack) fp H3 H' s3.heap s'.heap := I'.base
    have hok2 : HOk X.prog X.w H' s'.heap := I'.hok
    have os' : s'.os = s3.os := I'.os
    have I6 : Inv X pins σ H' s' := I3.call' (ch := fp) os' hU hok2 I'.bare (fun b hb => ⟨(f2 b hb).2.2.2.1, (f2 b hb).2.1, (f2 b hb).2.2.2.2⟩)
    refine hfin D _ H' s' I6 ⟨⟨m, hn⟩, I'.free, Nat.ne_of_gt I3.lt, I3.sz, fun y c e z => ?_, fun p hp z => ?_⟩ q
    · obtain ⟨v, hv⟩ := I3.cell y c e
      exact absurd hv.lt (by rw [z]; exact Nat.lt_irrefl _)
    · exact absurd (Heap.lt_size (I3.pin p hp).1) (by rw [z]; exact Nat.lt_irrefl _)
  have stat : ∀ {H' : Hp}, (∀ b ∈ fp, H' b = none) → ∀ b ∈ fp, FpOk (compX X (xs ++ caps) scope cl s3.heap.objs.size fp s3 H3) [] H' b := fun hn b hb =>
    ⟨hn b hb, hCfp b hb, ok'.exfs b hb, .inl hb, fun y c e => (f2 b hb).2.2.2.2.1 y c (O.from_ y c e), fun p hp => (nomatch hp)⟩
  have loop : codeAny (model X.prog X.w) X.A (.compLoop (.ListComp elt [⟨tg, iter, ifs, 0⟩] scope pos) 0 (.ref it) (.ref D) (compEnvC scope cl s3.heap.objs.size X.env))
      (compPost (model X.prog X.w) X.A X.xe use QQ (.ref D) s3.heap.objs.size) { s3 with heap := h₁, toks := s3.toks + ([] : List (Str × Value)).length } := by
    refine codeAny_loop rfl (fun n s' => ∃ i as H', as.length = xs.length ∧ Inv (compX X (xs ++ caps) scope cl s3.heap.objs.size fp s3 H3) [] (as ++ capV cap σ) H' s' ∧ tn i s'.heap ∧ (∀ b ∈ fp, H' b = none) ∧ W i n H') ?_ m0 ⟨0, _, H3, List.length_replicate, I4, t3, hfp3, w0⟩
    rintro n s5 ⟨i, as, H5, has, I5, st5, fr5, w5⟩
    show wpAny _ _ ((compTurn (.ListComp elt [⟨tg, iter, ifs, 0⟩] scope pos) 0 (.ref it) (.ref D) (compEnvC scope cl s3.heap.objs.size X.env)).onRaise (fun x => do noteFrame x (compEnvC scope cl s3.heap.objs.size X.env); theTreesLotGoes x)) _ _ s5
    refine wpAny_noted ?_
    rw [compTurn_list]
    refine wpAny_bind (wpAny_standAt (wpAny_bind ?_))
    have bad : ∀ {M : Model} {A : Around} {α : Type} {t : Sem α} {P : α → Shared → Prop} {E' : Value → Shared → Prop} {s' : Shared}, wpAny M A t P (fun _ _ => False) s' → wpAny M A t P E' s' := fun h => wpAny_mono h (fun _ _ q => q) fun _ _ z => z.elim
    rcases turn i n H5 w5 with ⟨stop, qn⟩ | ⟨go, step⟩
    · refine bad (thn (T.done (compX X (xs ++ caps) scope cl s3.heap.objs.size fp s3 H3) rfl rfl rfl hc i [] s5 _ H5 (fun _ _ => False) I5 (stat fr5) st5 stop) fun r s6 ⟨hr, I6⟩ => ?_)
      subst hr
      exact wpAny_pure (fin H5 _ s6 I6 qn)
    · refine bad (thn (T.item (compX X (xs ++ caps) scope cl s3.heap.objs.size fp s3 H3) rfl rfl rfl hc i [] s5 _ H5 (fun _ _ => False) I5 (stat fr5) st5 go) fun r s6 ⟨u, hr, h6⟩ => ?_)
      subst hr
      refine wpAny_bind (bad (thn h6 fun _ s7 ⟨y, H7, I7, r7, y7, st7, fr7⟩ => ?_))
      have I7' := I7.pinned (stat fr7) (T.obj _ _ st7)
      have goal := step y H7 y7 as has
      refine wpAny_bind (bad (thn (hg s3.heap.objs.size fp s3 H3 _ s7 _ H7 y _ _ I7' r7 goal) fun _ s8 ⟨σ8, H8, I8, ⟨bs, hbs, eσ⟩, goal8⟩ => ?_))
      subst eσ
      refine wpAny_bind (bad (thn (ht s3.heap.objs.size fp s3 H3 _ s8 _ H8 _ I8 goal8) fun okb s9 ⟨H9, I9, q9⟩ => ?_))
      have again : ∀ {H10 : Hp} {s10 : Shared} {m' : Nat}, Inv (compX X (xs ++ caps) scope cl s3.heap.objs.size fp s3 H3) ([] ++ pinsAt fp s7.heap) (bs ++ capV cap σ) H10 s10 → m' < n → W (i + 1) m' H10 →
          ∃ m, m < n ∧ ∃ i as H', as.length = xs.length ∧ Inv (compX X (xs ++ caps) scope cl s3.heap.objs.size fp s3 H3) [] (as ++ capV cap σ) H' s10 ∧ tn i s10.heap ∧ (∀ b ∈ fp, H' b = none) ∧ W i m H' := fun {H10 s10 m'} I10 hm w10 => by
        refine ⟨m', hm, i + 1, bs, H10, hbs, I10.unpinned, T.keep _ _ _ st7 fun b hb o e => (I10.pin (b, o) (List.mem_append_right _ (List.mem_append_right _ (mem_pinsAt hb e)))).1, fun b hb => ?_, w10⟩
        obtain ⟨o, e, d⟩ := T.obj _ _ st7 b hb
        exact (I10.pin (b, o) (List.mem_append_right _ (List.mem_append_right _ (mem_pinsAt hb e)))).2.1
      cases okb with
      | false =>
        rw [if_neg Bool.false_ne_true] at q9
        obtain ⟨m', hm, w9⟩ := q9
        exact wpAny_pure ⟨rfl, again I9 hm w9⟩
      | true =>
        rw [if_pos rfl] at q9
        refine wpAny_bind (wpAny_bind (bad (thn (he s3.heap.objs.size fp s3 H3 _ s9 _ H9 _ I9 q9) fun yv s10 ⟨yy, H10, I10, r10, ys, hys, hlen, m', hm, w10⟩ => ?_)))
        refine wpAny_bind (bad (thn (mt_append (X := compX X (xs ++ caps) scope cl s3.heap.objs.size fp s3 H3) _ s10 _ H10 (.ref D) [yy] (.ref D) [yv] (fun _ H11 => W (i + 1) m' H11) I10 rfl (.cons r10 .nil) ⟨D, ys, yy, rfl, rfl, hys, hlen, w10⟩) fun _ s11 ⟨_, H11, I11, _, q11⟩ => ?_))
        exact wpAny_pure (wpAny_pure ⟨rfl, again I11 hm q11⟩)
  refine codeAny_compStart_list loop (T.self _ 0 _ _ _ t3 loop)
theorem pe_lcompG {X : Cx} {elt iter tg : Expr} {xs : List Str} {ifs : List Expr} {scope : Scope} {pos : Pos} {wi : TI} {g : TG} {tt : TT} {te : TE} {cl : List (Str × Addr)} {caps : List Str} {cap : List Nat}
    (O : CompG X xs caps cap scope cl) (hc : X.calm = true) (hi : PI X tg iter wi) (hg : ∀ C fp s₀ H₀, PG (compX X (xs ++ caps) scope cl C fp s₀ H₀) tg g)
    (ht : ∀ C fp s₀ H₀, PF (compX X (xs ++ caps) scope cl C fp s₀ H₀) ifs tt) (he : ∀ C fp s₀ H₀, PE (compX X (xs ++ caps) scope cl C fp s₀ H₀) elt te)
    (hs : ∀ x, foldedSetIterable iter X.env x = pure x := by intro _; rfl) :
    PE X (.ListComp elt [⟨tg, iter, ifs, 0⟩] scope pos) (tCompG xs.length wi cap g tt te) := by
  intro pins s σ H Q I h
  rw [eval_ListComp]
  exact compG_core (use := none) O hc hi hg ht he hs I h fun D C H' s' I' o q => by
    obtain ⟨m, hn⟩ := o.ns
    exact ⟨m, hn, fun h' hb => ⟨.ref D, H', o.go I' hb, rfl, q⟩⟩
theorem ps_setG {X : Cx} {elt iter tg : Expr} {xs : List Str} {y : Str} {py : Pos} {ifs : List Expr} {scope : Scope} {pos spos : Pos} {wi : TI} {g : TG} {tt : TT} {te : TE} {cl : List (Str × Addr)} {caps : List Str} {cap : List Nat} {i : Nat}
    (O : CompG X xs caps cap scope cl) (hc : X.calm = true) (hi : PI X tg iter wi) (hg : ∀ C fp s₀ H₀, PG (compX X (xs ++ caps) scope cl C fp s₀ H₀) tg g)
    (ht : ∀ C fp s₀ H₀, PF (compX X (xs ++ caps) scope cl C fp s₀ H₀) ifs tt) (he : ∀ C fp s₀ H₀, PE (compX X (xs ++ caps) scope cl C fp s₀ H₀) elt te)
    (hN : X.N.Nodup) (hy : X.N[i]? = some y) (hl : X.env.scope.names.lookup y = some .local)
    (hsw : swapsWith (.ListComp elt [⟨tg, iter, ifs, 0⟩] scope pos) (some (.Name y py)) spos.line X.env = pure true := by rfl)
    (hs : ∀ x, foldedSetIterable iter X.env x = pure x := by intro _; rfl) :
    PS X (.Assign [.Name y py] (.ListComp elt [⟨tg, iter, ifs, 0⟩] scope pos) spos) (tAsg (tCompG xs.length wi cap g tt te) (gName i)) := by
  intro pins s σ H D I h
  rw [exec_Assign_Name_used _ _ _ _ hsw]
  refine wpAny_bind (wpAny_standAt (wpAny_bind ?_))
  show wpAny _ X.A (do let _ ← comprehension (.ListComp elt [⟨tg, iter, ifs, 0⟩] scope pos) scope X.env _ (newList []) false (eval iter X.env) (some (assign (.Name y py) X.env))) _ _ s
  refine wpAny_bind (thn (compG_core (use := some (assign (.Name y py) X.env)) (QQ := fun _ s' => SP X pins D .next s') O hc hi hg ht he hs I h fun Dd C H' s' I' o q => ?_) fun _ s' hq => wpAny_pure (wpAny_pure hq))
  obtain ⟨m, hn⟩ := o.ns
  show wpAny _ X.A (assign (.Name y py) X.env (.ref Dd)) _ _ s'
  refine wpAny_assign_Name (store_ok2 (v := .ref Dd) I' hN hy (.inl hl) rfl (fun s2 I2 sb => ?_) (.inr hl))
  obtain ⟨a, sb, ha⟩ := sb
  have hCa : C ≠ a := by
    rcases ha with z | z
    · rw [z]; exact o.loc
    · exact Ne.symm (o.cells y a z)
  have o2 : OwnAt X pins H' s2 C := ⟨⟨m, hn.sameBut sb hCa⟩, o.free, o.loc, o.above, o.cells, o.pins⟩
  refine ⟨m, hn.sameBut sb hCa, fun h' hb => ?_⟩
  exact ⟨_, H', o2.go I2 hb, q⟩
section
variable {X : Cx} {xs caps : List Str} {cap : List Nat} {scope : Scope} {cl : List (Str × Addr)}
theorem pg_c1 {x : Str} {px : Pos} (O : CompG X [x] caps cap scope cl) : ∀ C fp s₀ H₀, PG (compX X ([x] ++ caps) scope cl C fp s₀ H₀) (.Name x px) (gName 0) := fun C fp s₀ H₀ =>
  pg_name (X := compX X ([x] ++ caps) scope cl C fp s₀ H₀) (i := 0) O.nd rfl (.inl (lookup_relabel_local (O.lx x (by simp)))) (.inr (lookup_relabel_local (O.lx x (by simp))))
theorem pg_c2 {x y : Str} {px py pos : Pos} {k : Nat} (O : CompG X [x, y] caps cap scope cl) (hc : X.calm = true) : ∀ C fp s₀ H₀, PG (compX X ([x, y] ++ caps) scope cl C fp s₀ H₀) (.Tuple [.Name x px, .Name y py] k pos) (gTup X.K 2 (gCons (gName 0) (gCons (gName 1) gNil))) := fun C fp s₀ H₀ =>
  pg_tup (X := compX X ([x, y] ++ caps) scope cl C fp s₀ H₀) hc (pgs_cons (pg_name (i := 0) O.nd rfl (.inl (lookup_relabel_local (O.lx x (by simp)))) (.inr (lookup_relabel_local (O.lx x (by simp)))))
    (pgs_cons (pg_name (i := 1) O.nd rfl (.inl (lookup_relabel_local (O.lx y (by simp)))) (.inr (lookup_relabel_local (O.lx y (by simp))))) pgs_nil))
end
theorem lookup_in {k : NameKind} {y : Str} : ∀ {l : List (Str × NameKind)}, l.lookup y = some k → (y, k) ∈ l
  | [], h => by simp at h
  | (n, j) :: r, h => by
    cases hx : y == n with
    | true =>
      simp only [List.lookup_cons, hx] at h
      have : y = n := by simpa using hx
      cases h
      rw [this]; exact List.mem_cons_self
    | false =>
      simp only [List.lookup_cons, hx] at h
      exact List.mem_cons_of_mem _ (lookup_in h)
theorem lookupA_in {y : Str} {c : Addr} : ∀ {l : List (Str × Addr)}, l.lookup y = some c → (y, c) ∈ l
  | [], h => by simp at h
  | (n, j) :: r, h => by
    cases hx : y == n with
    | true =>
      simp only [List.lookup_cons, hx] at h
      have : y = n := by simpa using hx
      cases h
      rw [this]; exact List.mem_cons_self
    | false =>
      simp only [List.lookup_cons, hx] at h
      exact List.mem_cons_of_mem _ (lookupA_in h)
theorem in_lookupA {y : Str} {c : Addr} : ∀ {l : List (Str × Addr)}, (y, c) ∈ l → ∃ c', l.lookup y = some c'
  | [], h => by cases h
  | (n, j) :: r, h => by
    cases hx : y == n with
    | true => exact ⟨j, by simp only [List.lookup_cons, hx]⟩
    | false =>
      simp only [List.lookup_cons, hx]
      rcases List.mem_cons.mp h with z | z
      · have : y = n := congrArg Prod.fst z
        rw [this] at hx
        simp at hx
      · exact in_lookupA z
theorem relabel_free {env : Env} {y : Str} (hf : env.scope.kind = .function) (hy : env.kindOf y = some .cell) : ∀ {names : List (Str × NameKind)}, names.lookup y = some .free →
    (names.map fun (n, k) => if (k == NameKind.free && env.scope.kind == .function && env.kindOf n == some .cell) then (n, NameKind.cell) else (n, k)).lookup y = some .cell
  | [], h => by simp at h
  | (n, k) :: r, h => by
    show List.lookup y ((if (k == NameKind.free && env.scope.kind == .function && env.kindOf n == some .cell) = true then (n, NameKind.cell) else (n, k)) :: _) = _
    cases hx : y == n with
    | true =>
      simp only [List.lookup_cons, hx] at h
      have e : y = n := by simpa using hx
      cases h
      rw [← e, hf, hy]
      simp
    | false =>
      simp only [List.lookup_cons, hx] at h
      have ih := relabel_free hf hy h
      split
      · simp only [List.lookup_cons, hx]; exact ih
      · simp only [List.lookup_cons, hx]; exact ih
def frees (names : List (Str × NameKind)) : List Str := names.filterMap fun z => if z.2 == NameKind.free then some z.1 else none
theorem closure_go {env : Env} : ∀ (names : List (Str × NameKind)) (caps : List Str) (cs : List Addr) (acc : List (Str × Addr)), frees names = caps → caps.map (fun y => env.cells.lookup y) = cs.map some →
    (forIn names acc fun (x : Str × NameKind) (r : List (Str × Addr)) => (if (x.2 == NameKind.free) = true then do let a ← cellOf env x.1; pure (ForInStep.yield ((x.1, a) :: r)) else pure (ForInStep.yield r) : Sem (ForInStep (List (Str × Addr))))) = (pure ((caps.zip cs).reverse ++ acc) : Sem (List (Str × Addr)))
  | [], caps, cs, acc, h1, h2 => by
    have : caps = [] := h1.symm
    subst this
    simp
  | (n, k) :: r, caps, cs, acc, h1, h2 => by
    rw [List.forIn_cons]
    by_cases hk : (k == NameKind.free) = true
    · have e1 : caps = n :: frees r := by
        rw [← h1]; unfold frees
        rw [List.filterMap_cons]
        simp only [hk, if_true]
      subst e1
      cases cs with
      | nil => simp at h2
      | cons c cs =>
        simp only [List.map_cons, List.cons.injEq] at h2
        have hcell : cellOf env n = pure c := by unfold cellOf; rw [h2.1]
        simp only [hk, if_true, hcell, pure_bind]
        rw [closure_go r _ cs ((n, c) :: acc) rfl h2.2]
        simp
    · have e1 : caps = frees r := by
        rw [← h1]; unfold frees
        rw [List.filterMap_cons]
        simp only [hk]
        rfl
      subst e1
      simp only [hk, if_false, pure_bind]
      exact closure_go r _ cs acc rfl h2
theorem closureFor_many {env : Env} {scope : Scope} {caps : List Str} {cs : List Addr} (hf : frees scope.names = caps) (hc : caps.map (fun y => env.cells.lookup y) = cs.map some) : closureFor scope env = pure (caps.zip cs).reverse := by
  have h := closure_go (env := env) scope.names caps cs [] hf hc
  rw [List.append_nil] at h
  unfold closureFor
  simp only [bind_pure]
  exact h
theorem CompG.many {X : Cx} {xs caps : List Str} {cap : List Nat} {cs : List Addr} {scope : Scope} (hk : scope.kind = .function) (hf : X.env.scope.kind = .function) (hfr : frees scope.names = caps)
    (hnc : ∀ z ∈ scope.names, z.2 ≠ .cell) (hl : ∀ y ∈ scope.names, y.2 = .local → scope.names.lookup y.1 = some .local) (hlx : ∀ x ∈ xs, scope.names.lookup x = some .local) (hnd : (xs ++ caps).Nodup)
    (hfl : ∀ y ∈ caps, scope.names.lookup y = some .free) (hce : caps.map (fun y => X.env.scope.names.lookup y) = caps.map fun _ => some .cell) (hcs : caps.map (fun y => X.env.cells.lookup y) = cs.map some)
    (hN : cap.map (fun j => X.N[j]?) = caps.map some) : CompG X xs caps cap scope (caps.zip cs).reverse := by
  have hlen : caps.length = cs.length := by simpa using congrArg List.length hcs
  have at_cs : ∀ (i : Nat) (y : Str), caps[i]? = some y → ∃ c, cs[i]? = some c ∧ X.env.cells.lookup y = some c := fun i y h => by
    have e := congrArg (fun l => l[i]?) hcs
    simp only [List.getElem?_map, h] at e
    cases q : cs[i]? with
    | none => rw [q] at e; simp at e
    | some c => rw [q] at e; exact ⟨c, rfl, by simpa using e⟩
  refine ⟨closureFor_many hfr hcs, hnc, hk, hl, hlx, hnd, fun y c h => ?_, fun y h => ?_, ?_, fun i y h => ?_⟩
  · have hm := lookupA_in h
    rw [List.mem_reverse] at hm
    obtain ⟨i, hi, e⟩ := List.getElem_of_mem hm
    have hi1 : i < caps.length := by rw [List.length_zip] at hi; omega
    have hi2 : i < cs.length := by rw [List.length_zip] at hi; omega
    rw [List.getElem_zip] at e
    obtain ⟨c', e1, e2⟩ := at_cs i caps[i] (List.getElem?_eq_getElem hi1)
    have e3 : caps[i] = y := congrArg Prod.fst e
    have e4 : cs[i] = c := congrArg Prod.snd e
    rw [List.getElem?_eq_getElem hi2, e4] at e1
    cases e1
    rw [← e3]; exact e2
  · have hm : y ∈ caps := by
      have aux : ∀ k : NameKind, (k = .cell ∨ k = .free) → (relabel scope X.env).names.lookup y = some k → y ∈ caps := fun k hk h => by
        have h1 := lookup_in h
        obtain ⟨z, hz, e⟩ := List.mem_map.mp h1
        obtain ⟨n, kk⟩ := z
        have hfree : kk = .free ∧ n = y := by
          dsimp only at e
          split at e
          · rename_i q
            simp only [Bool.and_eq_true] at q
            exact ⟨by simpa using q.1.1, congrArg Prod.fst e⟩
          · have e2 : kk = k := congrArg Prod.snd e
            refine ⟨?_, congrArg Prod.fst e⟩
            rcases hk with z | z
            · exact absurd (e2.trans z) (hnc _ hz)
            · exact e2.trans z
        rw [← hfr]
        refine List.mem_filterMap.mpr ⟨(n, kk), hz, ?_⟩
        rw [hfree.1, hfree.2]; rfl
      rcases h with h | h
      · exact aux _ (.inl rfl) h
      · exact aux _ (.inr rfl) h
    obtain ⟨i, hi, e⟩ := List.getElem_of_mem hm
    have hi2 : i < cs.length := by omega
    refine in_lookupA (c := cs[i]) ?_
    rw [List.mem_reverse]
    have hiz : i < (caps.zip cs).length := by rw [List.length_zip]; omega
    have := List.getElem_mem hiz
    rw [List.getElem_zip, e] at this
    exact this
  · have := congrArg List.length hN
    simpa using this
  · have e := congrArg (fun l => l[i]?) hN
    simp only [List.getElem?_map, h] at e
    have hm := List.mem_of_getElem? h
    cases q : cap[i]? with
    | none => rw [q] at e; simp at e
    | some j =>
      rw [q] at e
      have hcell : X.env.scope.names.lookup y = some .cell := by
        have e2 := congrArg (fun l => l[i]?) hce
        simpa only [List.getElem?_map, h, Option.map_some, Option.some.injEq] using e2
      exact ⟨j, rfl, by simpa using e, hcell, relabel_free hf hcell (hfl y hm)⟩
theorem compG_drive {J : It} {n N : Nat} {cs : St} {g : TG} {tt : TT} {te : TE} {H1 : Hp} {acc : Addr} {Q : Hp → Prop} (Pv : Nat → List V → Hp → Prop) (h0 : Pv 0 [] (upd H1 acc (.lst [])))
    (hstop : ∀ ys H, Pv N ys H → J.stop N H ∧ Q H)
    (hstep : ∀ i ys H, i < N → Pv i ys H → J.go i H ∧ ∀ x H3, J.yld i H x H3 → ∀ as : St, as.length = n → g x (as ++ cs) H3 fun σ4 H4 => (∃ bs : St, bs.length = n ∧ σ4 = bs ++ cs) ∧ tt σ4 H4 fun ok H5 => if ok = true then te σ4 H5 (compN N Pv acc i (N - i)) else ∃ m', m' < N - i ∧ compW N Pv (i + 1) m' H5) :
    ∃ W : Nat → Nat → Hp → Prop, (∃ m, W 0 m (upd H1 acc (.lst []))) ∧ ∀ i m H2, W i m H2 →
      (J.stop i H2 ∧ Q H2) ∨ (J.go i H2 ∧ ∀ x H3, J.yld i H2 x H3 → ∀ as : St, as.length = n → g x (as ++ cs) H3 fun σ4 H4 => (∃ bs : St, bs.length = n ∧ σ4 = bs ++ cs) ∧ tt σ4 H4 fun ok H5 => if ok = true then
        te σ4 H5 (fun y H6 => ∃ ys, H6 acc = some (.lst ys) ∧ ys.length < sizeLine ∧ ∃ m', m' < m ∧ W (i + 1) m' (upd H6 acc (.lst (ys ++ [y]))))
        else ∃ m', m' < m ∧ W (i + 1) m' H5) := by
  refine ⟨compW N Pv, ⟨N - 0, rfl, Nat.zero_le _, [], h0⟩, ?_⟩
  rintro i m H2 ⟨rfl, hi, ys, p⟩
  by_cases h : i < N
  · exact .inr (hstep i ys H2 h p)
  · have e : i = N := by omega
    subst e
    exact .inl (hstop ys H2 p)
abbrev CKon (N : Nat) (Pv : Nat → List V → Hp → Prop) (acc : Addr) (i : Nat) (te : TE) (σ : St) : Bool → Hp → Prop := fun ok H5 => if ok = true then te σ H5 (compN N Pv acc i (N - i)) else ∃ m', m' < N - i ∧ compW N Pv (i + 1) m' H5
abbrev CGoal (J : It) (n : Nat) (cs : St) (g : TG) (tt : TT) (te : TE) (H1 : Hp) (acc : Addr) (Q : Hp → Prop) : Prop :=
  ∃ W : Nat → Nat → Hp → Prop, (∃ m, W 0 m (upd H1 acc (.lst []))) ∧ ∀ i m H2, W i m H2 →
      (J.stop i H2 ∧ Q H2) ∨ (J.go i H2 ∧ ∀ x H3, J.yld i H2 x H3 → ∀ as : St, as.length = n → g x (as ++ cs) H3 fun σ4 H4 => (∃ bs : St, bs.length = n ∧ σ4 = bs ++ cs) ∧ tt σ4 H4 fun ok H5 => if ok = true then
        te σ4 H5 (fun y H6 => ∃ ys, H6 acc = some (.lst ys) ∧ ys.length < sizeLine ∧ ∃ m', m' < m ∧ W (i + 1) m' (upd H6 acc (.lst (ys ++ [y]))))
        else ∃ m', m' < m ∧ W (i + 1) m' H5)
section
variable {K : PySem.W.Frag} {a b acc : Addr} {xs zs : List V} {tt : TT} {te : TE} {cs : St} {H1 : Hp} {Q : Hp → Prop}
theorem c1_list (Pv : Nat → List V → Hp → Prop) (h0 : Pv 0 [] (upd H1 acc (.lst []))) (hl : ∀ i ys H, i ≤ xs.length → Pv i ys H → SqL K H a xs)
    (hs : ∀ i x ys H, i < xs.length → xs[i]? = some x → Pv i ys H → tt (some x :: cs) H (CKon xs.length Pv acc i te (some x :: cs))) (hd : ∀ ys H, Pv xs.length ys H → Q H) : CGoal (Itl K a) 1 cs (gName 0) tt te H1 acc Q := by
  refine compG_drive Pv h0 (fun ys H p => ⟨⟨xs, hl _ _ _ (Nat.le_refl _) p, Nat.le_refl _⟩, hd ys H p⟩) fun i ys H hi p => ⟨⟨xs, xs[i], hl _ _ _ (Nat.le_of_lt hi) p, List.getElem?_eq_getElem hi⟩, ?_⟩
  rintro x H3 ⟨rfl, hx⟩ as has
  obtain ⟨a0, rfl⟩ : ∃ a0, as = [a0] := List.length_eq_one_iff.mp has
  exact ⟨⟨[some x], rfl, rfl⟩, hs i x ys _ hi (hx xs (hl _ _ _ (Nat.le_of_lt hi) p)) p⟩
theorem c1_tup (Pv : Nat → List V → Hp → Prop) (h0 : Pv 0 [] (upd H1 acc (.lst []))) (hl : ∀ i ys H, i ≤ xs.length → Pv i ys H → SqT K H a xs)
    (hs : ∀ i x ys H, i < xs.length → xs[i]? = some x → Pv i ys H → tt (some x :: cs) H (CKon xs.length Pv acc i te (some x :: cs))) (hd : ∀ ys H, Pv xs.length ys H → Q H) : CGoal (Itt K a) 1 cs (gName 0) tt te H1 acc Q := by
  refine compG_drive Pv h0 (fun ys H p => ⟨⟨xs, hl _ _ _ (Nat.le_refl _) p, Nat.le_refl _⟩, hd ys H p⟩) fun i ys H hi p => ⟨⟨xs, xs[i], hl _ _ _ (Nat.le_of_lt hi) p, List.getElem?_eq_getElem hi⟩, ?_⟩
  rintro x H3 ⟨rfl, hx⟩ as has
  obtain ⟨a0, rfl⟩ : ∃ a0, as = [a0] := List.length_eq_one_iff.mp has
  exact ⟨⟨[some x], rfl, rfl⟩, hs i x ys _ hi (hx xs (hl _ _ _ (Nat.le_of_lt hi) p)) p⟩
theorem c1_range {lo : Int} {n : Nat} (Pv : Nat → List V → Hp → Prop) (h0 : Pv 0 [] (upd H1 acc (.lst [])))
    (hs : ∀ i ys H, i < n → Pv i ys H → tt (some (.int (lo + i)) :: cs) H (CKon n Pv acc i te (some (.int (lo + i)) :: cs))) (hd : ∀ ys H, Pv n ys H → Q H) : CGoal (Itr lo n) 1 cs (gName 0) tt te H1 acc Q := by
  refine compG_drive Pv h0 (fun ys H p => ⟨Nat.le_refl _, hd ys H p⟩) fun i ys H hi p => ⟨hi, ?_⟩
  rintro x H3 ⟨rfl, rfl⟩ as has
  obtain ⟨a0, rfl⟩ : ∃ a0, as = [a0] := List.length_eq_one_iff.mp has
  exact ⟨⟨[some _], rfl, rfl⟩, hs i ys _ hi p⟩
theorem len_two {as : St} (h : as.length = 2) : ∃ a0 a1, as = [a0, a1] := by
  match as, h with
  | [a0, a1], _ => exact ⟨a0, a1, rfl⟩
theorem c2_list (Pv : Nat → List V → Hp → Prop) (h0 : Pv 0 [] (upd H1 acc (.lst []))) (hl : ∀ i ys H, i ≤ xs.length → Pv i ys H → SqL K H a xs)
    (hs : ∀ i x ys H, i < xs.length → xs[i]? = some x → Pv i ys H → ∃ p u v, x = .ref p ∧ SqT K H p [u, v] ∧ tt (some u :: some v :: cs) H (CKon xs.length Pv acc i te (some u :: some v :: cs))) (hd : ∀ ys H, Pv xs.length ys H → Q H) : CGoal (Itl K a) 2 cs (gTup K 2 (gCons (gName 0) (gCons (gName 1) gNil))) tt te H1 acc Q := by
  refine compG_drive Pv h0 (fun ys H p => ⟨⟨xs, hl _ _ _ (Nat.le_refl _) p, Nat.le_refl _⟩, hd ys H p⟩) fun i ys H hi p => ⟨⟨xs, xs[i], hl _ _ _ (Nat.le_of_lt hi) p, List.getElem?_eq_getElem hi⟩, ?_⟩
  rintro x H3 ⟨rfl, hx⟩ as has
  obtain ⟨a0, a1, rfl⟩ := len_two has
  obtain ⟨q, u, v, rfl, hq, h⟩ := hs i x ys _ hi (hx xs (hl _ _ _ (Nat.le_of_lt hi) p)) p
  exact ⟨q, [u, v], rfl, hq, rfl, u, [v], rfl, v, [], rfl, rfl, ⟨[some u, some v], rfl, rfl⟩, h⟩
theorem c2_zip (hlen : xs.length = zs.length) (Pv : Nat → List V → Hp → Prop) (h0 : Pv 0 [] (upd H1 acc (.lst []))) (hl : ∀ i ys H, i ≤ xs.length → Pv i ys H → SqL K H a xs ∧ SqL K H b zs)
    (hs : ∀ i u v p ys H, i < xs.length → xs[i]? = some u → zs[i]? = some v → H p = none → Pv i ys H → tt (some u :: some v :: cs) (upd H p (.tup [u, v])) (CKon xs.length Pv acc i te (some u :: some v :: cs))) (hd : ∀ ys H, Pv xs.length ys H → Q H) : CGoal (Itz K a b xs zs) 2 cs (gTup K 2 (gCons (gName 0) (gCons (gName 1) gNil))) tt te H1 acc Q := by
  refine compG_drive (N := xs.length) Pv h0 (fun ys H p => ?_) fun i ys H hi p => ?_
  · obtain ⟨qa, qb⟩ := hl _ _ _ (Nat.le_refl _) p
    exact ⟨⟨qa, qb, .inl (Nat.le_refl _)⟩, hd ys H p⟩
  · obtain ⟨qa, qb⟩ := hl _ _ _ (Nat.le_of_lt hi) p
    refine ⟨⟨qa, qb, hi, by omega⟩, ?_⟩
    rintro x H3 ⟨q, u, v, hq, rfl, rfl, hu, hv⟩ as has
    obtain ⟨a0, a1, rfl⟩ := len_two has
    exact ⟨q, [u, v], rfl, SqT.of upd_same, rfl, u, [v], rfl, v, [], rfl, rfl, ⟨[some u, some v], rfl, rfl⟩, hs i u v q ys _ hi hu hv hq p⟩
end
end L2
namespace L2
open PySem PySem.Spec PyProof.Rows
section
variable {κ : Type} [DecidableEq κ]
def valV (kvs : List (κ × V)) (k : κ) : Option V := (kvs.find? fun kv => decide (kv.1 = k)).map (·.2)
def putK (kvs : List (κ × V)) (k : κ) (v : V) : List (κ × V) :=
  if (kvs.any fun kv => decide (kv.1 = k)) = true then kvs.map (fun kv => if kv.1 = k then (kv.1, v) else kv) else kvs ++ [(k, v)]
theorem valV_pos {p : κ × V} {r : List (κ × V)} {k : κ} (e : p.1 = k) : valV (p :: r) k = some p.2 := by simp [valV, List.find?_cons, e]
theorem valV_neg {p : κ × V} {r : List (κ × V)} {k : κ} (e : ¬ p.1 = k) : valV (p :: r) k = valV r k := by simp [valV, List.find?_cons, e]
theorem valV_any (k : κ) : ∀ kvs : List (κ × V), (kvs.any fun kv => decide (kv.1 = k)) = (valV kvs k).isSome
  | [] => rfl
  | p :: r => by
    rw [List.any_cons]
    by_cases e : p.1 = k
    · simp only [valV_pos e, decide_eq_true e, Bool.true_or, Option.isSome_some]
    · rw [valV_neg e, decide_eq_false e, Bool.false_or]; exact valV_any k r
theorem length_putK (kvs : List (κ × V)) (k : κ) (v : V) : (putK kvs k v).length ≤ kvs.length + 1 := by
  unfold putK
  split
  · rw [List.length_map]; omega
  · rw [List.length_append, List.length_cons, List.length_nil]; omega
theorem RelO.isSome_eq {o : Option V} {u : Option Value} (r : RelO o u) : o.isSome = u.isSome := by
  cases o with
  | none => cases u with
    | none => rfl
    | some _ => exact (show False from r).elim
  | some _ => cases u with
    | none => exact (show False from r).elim
    | some _ => rfl
theorem RelO.getD {o : Option V} {u : Option Value} {d : V} {d' : Value} (r : RelO o u) (rd : RelV d d') : RelV (o.getD d) (u.getD d') := by
  cases o with
  | none => cases u with
    | none => exact rd
    | some _ => exact (show False from r).elim
  | some _ => cases u with
    | none => exact (show False from r).elim
    | some _ => exact r
theorem KV.val {kvs : List (κ × V)} {vs : List (κ × Value)} (r : KV kvs vs) (k : κ) : RelO (valV kvs k) (valueAt vs k) := by
  unfold KV at r
  induction r with
  | nil => exact True.intro
  | @cons p q ps qs h t ih =>
    obtain ⟨h1, h2⟩ := h
    by_cases e : p.1 = k
    · have e' : q.1 = k := h1.symm.trans e
      have b : valueAt (q :: qs) k = some q.2 := by simp [valueAt, List.find?_cons, e']
      rw [valV_pos e, b]; exact h2
    · have e' : ¬ q.1 = k := fun z => e (h1.trans z)
      have b : valueAt (q :: qs) k = valueAt qs k := by simp [valueAt, List.find?_cons, e']
      rw [valV_neg e, b]; exact ih
theorem KV.any {kvs : List (κ × V)} {vs : List (κ × Value)} (r : KV kvs vs) (k : κ) : (kvs.any fun kv => decide (kv.1 = k)) = vs.any fun kv => decide (kv.1 = k) := by
  unfold KV at r
  induction r with
  | nil => rfl
  | cons h t ih => rw [List.any_cons, List.any_cons, ih, h.1]
theorem KV.repl {kvs : List (κ × V)} {vs : List (κ × Value)} (r : KV kvs vs) (k : κ) {y : V} {u : Value} (ry : RelV y u) :
    KV (kvs.map fun kv => if kv.1 = k then (kv.1, y) else kv) (vs.map fun kv => if kv.1 = k then (kv.1, u) else kv) := by
  unfold KV at r ⊢
  induction r with
  | nil => exact .nil
  | @cons p q ps qs h t ih =>
    rw [List.map_cons, List.map_cons]
    refine .cons ?_ ih
    obtain ⟨h1, h2⟩ := h
    by_cases e : p.1 = k
    · rw [if_pos e, if_pos (h1.symm.trans e)]; exact ⟨h1, ry⟩
    · rw [if_neg e, if_neg (fun z => e (h1.trans z))]; exact ⟨h1, h2⟩
theorem KV.put {kvs : List (κ × V)} {vs : List (κ × Value)} (r : KV kvs vs) (k : κ) {y : V} {u : Value} (ry : RelV y u) : KV (putK kvs k y) (stored vs k u) := by
  unfold putK stored
  rw [r.any k]
  by_cases e : (vs.any fun kv => decide (kv.1 = k)) = true
  · rw [if_pos e, if_pos e]; exact r.repl k ry
  · rw [if_neg e, if_neg e]; exact Paired.snoc r ⟨rfl, ry⟩
theorem KV.length {kvs : List (κ × V)} {vs : List (κ × Value)} (r : KV kvs vs) : kvs.length = vs.length := Paired.length r
end
theorem kV_is {P : Program} {w : World} {k : Key} {u : Value} (r : RelV (kV k) u) : (mixKind P w).is k u = true := by
  cases k with
  | inl i => obtain ⟨t, e⟩ := (show ∃ t, u = Value.int i t from r); subst e; exact mixKind_int P w i t
  | inr x => obtain ⟨t, e⟩ := (show ∃ t, u = Value.str x t from r); subst e; exact mixKind_str P w x t
theorem items_are {P : Program} {w : World} : ∀ {ks : List Key} {us : List Value}, Vals (ks.map kV) us → ItemsAre (mixKind P w) ks us
  | [], _, r => by rw [List.map_nil] at r; cases r; exact .nil
  | k :: ks, _, r => by
    rw [List.map_cons] at r
    cases r with
    | cons h t => exact .cons (kV_is h) (items_are t)
abbrev KT (H : Hp) : List (List Key × V) → List (List Key × Addr × Value) → Prop := Paired fun p q => p.1 = q.1 ∧ H q.2.1 = some (.tup (p.1.map kV)) ∧ RelV p.2 q.2.2
theorem KT.val {H : Hp} {kvs : List (List Key × V)} {xs : List (List Key × Addr × Value)} (r : KT H kvs xs) (k : List Key) : RelO (valV kvs k) ((atKey xs k).map (·.2)) := by
  induction r with
  | nil => exact True.intro
  | @cons p q ps qs h t ih =>
    obtain ⟨h1, _, h2⟩ := h
    by_cases e : p.1 = k
    · have e' : q.1 = k := h1.symm.trans e
      have b : atKey (q :: qs) k = some q.2 := by simp [atKey, List.find?_cons, e']
      rw [valV_pos e, b]; exact h2
    · have e' : ¬ q.1 = k := fun z => e (h1.trans z)
      have b : atKey (q :: qs) k = atKey qs k := by simp [atKey, List.find?_cons, e']
      rw [valV_neg e, b]; exact ih
theorem KT.repl {H : Hp} {kvs : List (List Key × V)} {xs : List (List Key × Addr × Value)} (r : KT H kvs xs) (k : List Key) {y : V} {u : Value} (ry : RelV y u) :
    KT H (kvs.map fun kv => if kv.1 = k then (kv.1, y) else kv) (xs.map (putAt k u)) := by
  induction r with
  | nil => exact .nil
  | @cons p q ps qs h t ih =>
    rw [List.map_cons, List.map_cons]
    refine .cons ?_ ih
    obtain ⟨h1, h2, h3⟩ := h
    unfold putAt
    by_cases e : p.1 = k
    · rw [if_pos e, if_pos (h1.symm.trans e)]; exact ⟨h1, h2, ry⟩
    · rw [if_neg e, if_neg (fun z => e (h1.trans z))]; exact ⟨h1, h2, h3⟩
theorem KT.put {H : Hp} {kvs : List (List Key × V)} {xs : List (List Key × Addr × Value)} (r : KT H kvs xs) (k : List Key) {b : Addr} {y : V} {u : Value} (hb : H b = some (.tup (k.map kV))) (ry : RelV y u) :
    KT H (putK kvs k y) (storedH xs k b u) := by
  have e : (kvs.any fun kv => decide (kv.1 = k)) = (atKey xs k).isSome := by
    rw [valV_any, (r.val k).isSome_eq, Option.isSome_map]
  unfold putK storedH
  rw [e]
  by_cases q : (atKey xs k).isSome = true
  · rw [if_pos q, if_pos q]; exact r.repl k ry
  · rw [if_neg q, if_neg q]; exact Paired.snoc r ⟨rfl, hb, ry⟩
theorem KT.keeps {H H' : Hp} {kvs : List (List Key × V)} {xs : List (List Key × Addr × Value)} (r : KT H kvs xs) (ht : ∀ b ys, H b = some (.tup ys) → H' b = some (.tup ys)) : KT H' kvs xs :=
  Paired.mapP r fun _ _ z => ⟨z.1, ht _ _ z.2.1, z.2.2⟩
section
variable {P : Program} {w : World} {H : Hp} {h : Heap} {a : Addr}
theorem rd_of {u : HO} (ok : HOk P w H h) (e : Rd H a u) : ObjOk P w H h a u := e.ok ok
theorem dk_rd {kvs : List (Key × V)} (ok : HOk P w H h) (e : Rd H a (.dK kvs)) : kvs.length ≤ sizeLine ∧ (a == sysModules) = false ∧ ∃ vs, KV kvs vs ∧ h.DictOf (mixKind P w) a vs :=
  show ObjOk P w H h a (.dK kvs) from rd_of ok e
theorem dk_of {kvs : List (Key × V)} (ok : HOk P w H h) (e : H a = some (.dK kvs)) : kvs.length ≤ sizeLine ∧ (a == sysModules) = false ∧ ∃ vs, KV kvs vs ∧ h.DictOf (mixKind P w) a vs := dk_rd ok (.inl e)
theorem key_of {ks : List Key} (ok : HOk P w H h) (e : H a = some (.tup (ks.map kV))) : (tupleKind (mixKind P w)).is h ks a := by
  obtain ⟨_, its, r, o, h1, h2, n, h3⟩ := (show ObjOk P w H h a (.tup (ks.map kV)) from ok a _ e)
  exact ⟨o, its.toArray, n, h1, h2, h3, by simpa using items_are r⟩
theorem dt_rd {kvs : List (List Key × V)} (ok : HOk P w H h) (e : Rd H a (.dT kvs)) : kvs.length ≤ sizeLine ∧ (a == sysModules) = false ∧
    ∃ xs, KT H kvs xs ∧ h.DictOfH (tupleKind (mixKind P w)) a xs := by
  obtain ⟨z, y, xs, r, o, es, ep, h1, h2, h3, h4, h5⟩ := (show ObjOk P w H h a (.dT kvs) from rd_of ok e)
  refine ⟨z, y, xs, r, o, es, ep, h1, h2, h3, h4, fun x hx => ?_, h5⟩
  have all : ∀ {l : List (List Key × V)} {m : List (List Key × Addr × Value)}, KT H l m → ∀ x ∈ m, (tupleKind (mixKind P w)).is h x.1 x.2.1 := by
    intro l m q
    induction q with
    | nil => intro x hx; exact nomatch hx
    | @cons p q ps qs hq t ih =>
      intro x hx
      rcases List.mem_cons.mp hx with e | hx
      · subst e
        exact key_of ok (by rw [← hq.1]; exact hq.2.1)
      · exact ih x hx
  exact all r x hx
theorem dt_of {kvs : List (List Key × V)} (ok : HOk P w H h) (e : H a = some (.dT kvs)) : kvs.length ≤ sizeLine ∧ (a == sysModules) = false ∧
    ∃ xs, KT H kvs xs ∧ h.DictOfH (tupleKind (mixKind P w)) a xs := dt_rd ok (.inl e)
end
def DGet (H : Hp) (a : Addr) (y : V) (r : Option V) : Prop :=
  (∃ kvs k, Rd H a (.dK kvs) ∧ y = kV k ∧ r = valV kvs k) ∨ ∃ kvs k b, Rd H a (.dT kvs) ∧ y = .ref b ∧ H b = some (.tup (k.map kV)) ∧ r = valV kvs k
def DPut (H : Hp) (a : Addr) (y v : V) (H' : Hp) : Prop :=
  (∃ kvs k, H a = some (.dK kvs) ∧ y = kV k ∧ kvs.length < sizeLine ∧ H' = upd H a (.dK (putK kvs k v))) ∨
  ∃ kvs k b, H a = some (.dT kvs) ∧ y = .ref b ∧ H b = some (.tup (k.map kV)) ∧ kvs.length < sizeLine ∧ H' = upd H a (.dT (putK kvs k v))
theorem DGet.k {H : Hp} {a : Addr} {kvs : List (Key × V)} {k : Key} (e : H a = some (.dK kvs)) : DGet H a (kV k) (valV kvs k) := .inl ⟨kvs, k, .inl e, rfl, rfl⟩
theorem DPut.t {H : Hp} {a b : Addr} {kvs : List (List Key × V)} {k : List Key} {v : V} (e : H a = some (.dT kvs)) (eb : H b = some (.tup (k.map kV))) (hl : kvs.length < sizeLine) :
    DPut H a (.ref b) v (upd H a (.dT (putK kvs k v))) := .inr ⟨kvs, k, b, e, rfl, eb, hl, rfl⟩
section
variable {X : Cx} {pins : List (Addr × Obj)} {σ : St} {H : Hp} {s : Shared} {a : Addr} {y v : V} {u r : Value} {o : Option V} {A : Around} {E : Value → Shared → Prop}
theorem Inv.big (I : Inv X pins σ H s) : sysModules < s.heap.objs.size := by
  have h : mainGlobals < s.heap.objs.size := (I.mod.glob.keeps I.bk).lt
  exact Nat.lt_trans (by decide) h
theorem d_write {h' : Heap} {t' : Nat} {ob : HO} (I : Inv X pins σ H s) (mu : Mut (H a)) (hs : Heap.SameBut a s.heap h') (he : ∃ q, h'.get? a = some q) (new : ObjOk X.prog X.w (upd H a ob) h' a ob) :
    Inv X pins σ (upd H a ob) { s with heap := h', toks := t' } :=
  I.write (x := a) (e := a) mu (.inl rfl) (fun b q hb z => (hs.2 b hb).trans z) he new
theorem dk_new {P : Program} {w : World} {H' : Hp} {h' : Heap} {kvs : List (Key × V)} {vs : List (Key × Value)} (z : kvs.length ≤ sizeLine) (hd : (a == sysModules) = false) (rel : KV kvs vs) (dd : h'.DictOf (mixKind P w) a vs) :
    ObjOk P w H' h' a (.dK kvs) := ⟨z, hd, vs, rel, dd⟩
theorem d_setItem {H' : Hp} {Q : Unit → Shared → Prop} (hu : A.units + 1 < cLine) (I : Inv X pins σ H s) (g : DPut H a y v H') (ry : RelV y u) (rv : RelV v r) (h : ∀ s', Inv X pins σ H' s' → Q () s') :
    wpAny (model X.prog X.w) A (setItem (.ref a) u r) Q E s := by
  rcases g with ⟨kvs, k, e, ey, l, eH⟩ | ⟨kvs, k, b, e, ey, eb, l, eH⟩
  · subst ey eH
    obtain ⟨z, hd, vs, rel, dd⟩ := dk_of I.hok e
    have hz : vs.length ≤ sizeLine := by rw [← rel.length]; exact z
    have hl : (putK kvs k v).length ≤ sizeLine := by have := length_putK kvs k v; omega
    refine wpAny_setItem_pairs (hsz := hz) (kV_is ry) dd fun h' dd' hs => h _ ?_
    have he : ∃ q, h'.get? a = some q := let ⟨q, _, _, hq, _⟩ := dd'; ⟨q, hq⟩
    exact d_write I (by rw [e]; exact True.intro) hs he (dk_new hl hd (rel.put k rv) dd')
  · subst ey eH
    cases (show u = Value.ref b from ry)
    obtain ⟨z, hd, xs, rel, dd⟩ := dt_of I.hok e
    have hz : xs.length ≤ sizeLine := by rw [← Paired.length rel]; exact z
    have hl : (putK kvs k v).length ≤ sizeLine := by have := length_putK kvs k v; omega
    refine wpAny_setItem_heap (hsz := hz) (tupleKind_room_in1 hu) (key_of I.hok eb) dd fun h' dd' hs => h _ ?_
    obtain ⟨q, es, ep, hq, h2, h3, h4, _, h5⟩ := dd'
    refine d_write I (by rw [e]; exact True.intro) hs ⟨q, hq⟩ ⟨hl, hd, _, (rel.put k eb rv).keeps fun c ys ec => ?_, q, es, ep, hq, h2, h3, h4, h5⟩
    rw [upd_ne (ne_of ec e (fun z => nomatch z))]
    exact ec
end
section
variable {X : Cx} {pins : List (Addr × Obj)} {σ : St} {H : Hp} {s : Shared} {a : Addr} {kvs : List (Key × V)} {k : Key} {u : Value} {A : Around} {E : Value → Shared → Prop}
end
def sDPut (td ty tv : TE) : TS := fun D σ H => tv σ H fun v H1 => td σ H1 fun x H2 => ty σ H2 fun y H3 => ∃ a H4, x = .ref a ∧ DPut H3 a y v H4 ∧ D.nx σ H4
section
variable {X : Cx} {o i e value : Expr} {pos pos' tpos : Pos} {td ty tv : TE}
theorem ps_dput (hu : X.A.units + 1 < cLine) (ho : PE X o td) (hi : PE X i ty) (hv : PE X value tv) (hs : swapsWith value (some (.Subscript o i pos')) pos.line X.env = pure false) :
    PS X (.Assign [.Subscript o i pos'] value pos) (sDPut td ty tv) := by
  intro pins s σ H D I h
  refine wpAny_Assign_Subscript (thn (hv pins s σ H _ I h) fun r s1 ⟨v, H1, I1, rv, q1⟩ => thn (ho pins s1 σ H1 _ I1 q1) fun u s2 ⟨x, H2, I2, rx, q2⟩ => thn (hi pins s2 σ H2 _ I2 q2) fun iv s3 ⟨y, H3, I3, ry, a, H4, ex, g, q3⟩ => ?_) hs
  subst ex
  obtain rfl : u = Value.ref a := rx
  exact d_setItem hu I3 g ry rv fun s4 I4 => ⟨σ, H4, I4, q3⟩
end
theorem dt_empty {P : Program} {w : World} {H : Hp} (h : Heap) (hb : sysModules < h.objs.size) : ObjOk P w H (h.push { cls := .type "dict", data := .dict #[] }) h.objs.size (.dT []) :=
  ⟨Nat.zero_le _, beq_eq_false_iff_ne.mpr (Ne.symm (Nat.ne_of_lt hb)), [], .nil, _, #[], 0, Heap.get?_push_size _ rfl, ⟨rfl, rfl, rfl⟩, rfl, rfl, List.nodup_nil⟩
def tDNewT : TE := fun _ H Q => ∀ p, H p = none → Q (.ref p) (upd H p (.dT []))
section
variable {X : Cx} {pos : Pos}
theorem pe_dnewT : PE X (.Dict [] [] pos) tDNewT := fun pins s σ H Q I h =>
  wpAny_Dict_empty ⟨.ref s.heap.objs.size, _, I.laid (a := s.heap.objs.size) (o := .dT []) (t' := s.toks) (fun _ _ q => Heap.get?_push_of_some _ q) (Nat.le_refl _) (dt_empty s.heap I.big), rfl, h _ (I.hok.fresh (Nat.le_refl _))⟩
end
structure M1 (X : Cx) (o : Expr) (m : Str) (apos : Pos) (e : Expr) (cpos : Pos) : Prop where
  base : attributeBase o m X.env (eval o X.env) = eval o X.env
  few : ((backTo cpos (starEach [e] X.env)).all (fun x => !x.1) && (backToKw cpos (keywordEach [] X.env)).all (fun x => x.1.isSome)
    && decide (([e] : List Expr).length + ([] : List Keyword).length + (if ([] : List Keyword).isEmpty then 0 else 1) < 30)) = true
  line : (apos.endLine == cpos.line) = true
  trees : backTo cpos (starEach [e] X.env) = [(false, eval e X.env)]
structure M2 (X : Cx) (o : Expr) (m : Str) (apos : Pos) (e f : Expr) (cpos : Pos) : Prop where
  base : attributeBase o m X.env (eval o X.env) = eval o X.env
  few : ((backTo cpos (starEach [e, f] X.env)).all (fun x => !x.1) && (backToKw cpos (keywordEach [] X.env)).all (fun x => x.1.isSome)
    && decide (([e, f] : List Expr).length + ([] : List Keyword).length + (if ([] : List Keyword).isEmpty then 0 else 1) < 30)) = true
  line : (apos.endLine == cpos.line) = true
  trees : backTo cpos (starEach [e, f] X.env) = [(false, eval e X.env), (false, eval f X.env)]
def IsD (H : Hp) (a : Addr) : Prop := (∃ kvs, Rd H a (.dK kvs)) ∨ ∃ kvs, Rd H a (.dT kvs)
theorem isD_at {X : Cx} {pins : List (Addr × Obj)} {σ : St} {H : Hp} {s : Shared} {a : Addr} (I : Inv X pins σ H s) (d : IsD H a) :
    s.TypeIs (.ref a) "dict" ∧ (∀ b, Value.ref a = .ref b → ∃ ob, s.heap.get? b = some ob ∧ ob.dict = none) ∧ (a == sysModules) = false := by
  rcases d with ⟨kvs, e⟩ | ⟨kvs, e⟩
  · obtain ⟨_, hd, vs, _, dd⟩ := dk_rd I.hok e
    refine ⟨dd.typeIs, fun b q => ?_, hd⟩
    cases q
    obtain ⟨ob, _, _, h1, h2, _⟩ := dd
    exact ⟨ob, h1, h2.2.1⟩
  · obtain ⟨_, hd, xs, _, dd⟩ := dt_rd I.hok e
    refine ⟨dd.typeIs, fun b q => ?_, hd⟩
    cases q
    obtain ⟨ob, _, _, h1, h2, _⟩ := dd
    exact ⟨ob, h1, h2.2.1⟩
section
variable {X : Cx} {pins : List (Addr × Obj)} {σ : St} {H : Hp} {s : Shared} {a : Addr} {y d : V} {u r : Value} {o : Option V} {A : Around} {E : Value → Shared → Prop}
theorem d_get2 {Q : Value → Shared → Prop} (hu : A.units + 1 < cLine) (I : Inv X pins σ H s) (g : DGet H a y o) (ry : RelV y u) (rd : RelV d r) (h : ∀ w' s', Inv X pins σ H s' → RelV (o.getD d) w' → Q w' s') :
    wpAny (model X.prog X.w) A (call (.builtin "dict.get") [.ref a, u, r]) Q E s := by
  rcases g with ⟨kvs, k, e, ey, l⟩ | ⟨kvs, k, b, e, ey, eb, l⟩
  · subst ey
    obtain ⟨z, hd, vs, rel, dd⟩ := dk_rd I.hok e
    refine call_meetsIn PySem.F.slot_dict_get dd.typeIs PySem.F.entry_dict_get (PySem.F.args_dict_get_3 _ _ _) (meets_dict_get_default (mixKind X.prog X.w) a (kV_is ry) hd r) ⟨_, dd.mapOf, h _ _ (I.tok _) ?_⟩
    rw [l]
    exact (rel.val k).getD rd
  · subst ey
    cases (show u = Value.ref b from ry)
    obtain ⟨z, hd, xs, rel, dd⟩ := dt_rd I.hok e
    refine call_meetsIn PySem.F.slot_dict_get dd.typeIs PySem.F.entry_dict_get (PySem.F.args_dict_get_3 _ _ _) (meetsH_dict_get_default (tupleKind (mixKind X.prog X.w)) a b hd r) ⟨tupleKind_room_in1 hu, k, xs, key_of I.hok eb, dd, h _ _ (I.tok _) ?_⟩
    rw [l]
    exact (rel.val k).getD rd
end
def tDGet2 (td ty tx : TE) : TE := fun σ H Q => td σ H fun x H1 => ∃ a, x = .ref a ∧ IsD H1 a ∧ ty σ H1 fun y H2 => tx σ H2 fun z H3 => ∃ o, DGet H3 a y o ∧ Q (o.getD z) H3
section
variable {X : Cx} {o e f : Expr} {apos cpos : Pos} {td ty tx : TE}
theorem pe_dget2 (hu : X.A.units + 1 < cLine) (ho : PE X o td) (he : PE X e ty) (hf : PE X f tx) (m : M2 X o "get" apos e f cpos) : PE X (.Call (.Attribute o "get" apos) [e, f] [] cpos) (tDGet2 td ty tx) := by
  intro pins s σ H Q I h
  refine wpAny_Call_method m.base m.few m.line PySem.F.plainAttrs_dict PySem.F.slot_dict_get PySem.F.type_dict_get (thn (ho pins s σ H _ I h) fun u s1 ⟨x, H1, I1, rx, a, ex, d, q1⟩ => ?_)
  subst ex
  obtain rfl : u = Value.ref a := rx
  obtain ⟨t1, t2, _⟩ := isD_at I1 d
  refine ⟨t1, t2, ?_⟩
  rw [m.trees]
  refine Calls.callWith_builtin rfl (Calls.evalArgs_plain (Calls.spliced_cons (thn (he pins s1 σ H1 _ I1 q1) fun iv s2 ⟨y, H2, I2, ry, q2⟩ =>
    Calls.spliced_cons (thn (hf pins s2 σ H2 _ I2 q2) fun fv s3 ⟨z, H3, I3, rz, ov, g, q3⟩ => Calls.spliced_nil ?_))))
  exact d_get2 hu I3 g ry rz fun w' s4 I4 rw' => ⟨_, H3, I4, rw', q3⟩
end
section
variable {X : Cx} {pins : List (Addr × Obj)} {σ : St} {H : Hp} {s : Shared} {a : Addr} {kvs : List (Key × V)} {A : Around} {E : Value → Shared → Prop}
end
section
variable {X : Cx} {pins : List (Addr × Obj)} {σ : St} {H : Hp} {s : Shared} {a : Addr} {y : V} {u : Value} {A : Around} {E : Value → Shared → Prop}
end
end L2
namespace Srt
open PySem PySem.W PyProof.Rows
variable {α β : Type} {O : KeyOrd} {key : Nat → O.α} {n : Nat}
def Ok (O : KeyOrd) (key : Nat → O.α) (n : Nat) (Q : α → Prop) : KasT α → Prop
  | .ret a => Q a
  | .ask i j k => i < n ∧ j < n ∧ Ok O key n Q (k (O.blt (key i) (key j)))
theorem Ok.bind {t : KasT α} {f : α → KasT β} {Q : β → Prop} : Ok O key n (fun a => Ok O key n Q (f a)) t → Ok O key n Q (t.bind f) := by
  induction t with
  | ret a => exact id
  | ask i j k ih => exact fun h => ⟨h.1, h.2.1, ih _ h.2.2⟩
theorem Ok.wp {cmp : Nat → Nat → (Bool → Shared → Prop) → Shared → Prop} {s : Shared} (hc : ∀ i j C, i < n → j < n → C (O.blt (key i) (key j)) s → cmp i j C s) {G : α → Shared → Prop} {Q : α → Prop} (hq : ∀ a, Q a → G a s) {t : KasT α} : Ok O key n Q t → t.kasWp cmp G s := by
  induction t with
  | ret a => exact hq a
  | ask i j k ih => exact fun h => hc i j _ h.1 h.2.1 (ih _ h.2.2)
def Pm (n : Nat) (p : Array Nat) : Prop := p.toList.Perm (List.range n)
theorem Pm.size {p : Array Nat} (h : Pm n p) : p.size = n := by
  have := h.length_eq
  simpa using this
theorem Pm.lt {p : Array Nat} (h : Pm n p) {i : Nat} (hi : i < n) : p.getD i 0 < n := by
  have hs : i < p.size := by rw [h.size]; exact hi
  have e : p.getD i 0 = p[i] := by simp [Array.getD, hs]
  rw [e]
  have : p[i] ∈ p.toList := by simp
  exact List.mem_range.mp (h.mem_iff.mp this)
theorem Pm.of {p q : Array Nat} (h : Pm n p) (e : q.Perm p) : Pm n q := (Array.perm_iff_toList_perm.mp e).trans h
variable (key) in
def kk (p : Array Nat) (i : Nat) : O.α := key (p.getD i 0)
theorem kk_congr {p q : Array Nat} {i j : Nat} (h : p[i]? = q[j]?) : kk key p i = kk key q j := by
  unfold kk
  rw [Array.getD_eq_getD_getElem?, Array.getD_eq_getD_getElem?, h]
variable (key) in
def Up (p : Array Nat) (k : Nat) : Prop := ∀ i j, i ≤ j → j < k → O.kle (kk key p i) (kk key p j)
variable (key) in
def Down (p : Array Nat) (k : Nat) : Prop := ∀ i j, i ≤ j → j < k → O.kle (kk key p j) (kk key p i)
theorem rev_kk {p : Array Nat} {i j : Nat} (hj : j ≤ p.size) (k : Nat) : kk key (kas_rev p i j) k = if i ≤ k ∧ k < j then kk key p (i + j - 1 - k) else kk key p k := by
  have e := getElem?_mirror_all (xs := p) (i := i) hj k
  unfold kas_rev
  by_cases h : i ≤ k ∧ k < j
  · rw [if_pos h] at e ⊢; exact kk_congr e
  · rw [if_neg h] at e ⊢; exact kk_congr e
theorem rev_same {p : Array Nat} {i j : Nat} (hj : j ≤ p.size) (heq : ∀ k, i ≤ k → k < j → kk key p k = kk key p (j - 1)) (k : Nat) : kk key (kas_rev p i j) k = kk key p k := by
  rw [rev_kk hj]
  by_cases h : i ≤ k ∧ k < j
  · rw [if_pos h, heq _ (by omega) (by omega), heq k h.1 h.2]
  · rw [if_neg h]
theorem Pm.rev {p : Array Nat} (h : Pm n p) (i j : Nat) : Pm n (kas_rev p i j) := h.of (mirror_perm _ _ _ _)
theorem grow_up {p : Array Nat} {m : Nat} (h1 : 1 ≤ m) (hs : Up key p m) (h : O.kle (kk key p (m - 1)) (kk key p m)) : Up key p (m + 1) := fun i j hij hj => by
  by_cases hjm : j < m
  · exact hs i j hij hjm
  · have : j = m := by omega
    subst this
    by_cases hi : i = j
    · subst hi; exact KeyOrd.kle_refl _
    · exact KeyOrd.kle_trans (hs i (j - 1) (by omega) (by omega)) h
theorem grow_down {p : Array Nat} {m : Nat} (h1 : 1 ≤ m) (hs : Down key p m) (h : O.kle (kk key p m) (kk key p (m - 1))) : Down key p (m + 1) := fun i j hij hj => by
  by_cases hjm : j < m
  · exact hs i j hij hjm
  · have : j = m := by omega
    subst this
    by_cases hi : i = j
    · subst hi; exact KeyOrd.kle_refl _
    · exact KeyOrd.kle_trans h (hs i (j - 1) (by omega) (by omega))
theorem asc_ok {p : Array Nat} (hP : Pm n p) {Q : Nat → Prop} : ∀ (f m : Nat), 1 ≤ m → m + f ≤ n → Up key p m → (∀ m', m ≤ m' → m' ≤ m + f → Up key p m' → (m' = m + f ∨ O.klt (kk key p m') (kk key p (m' - 1))) → Q m') → Ok O key n Q (kas_asc p f m)
  | 0, m, _, _, hs, h => h m (Nat.le_refl _) (Nat.le_refl _) hs (.inl rfl)
  | f + 1, m, h1, hn, hs, h => by
    refine ⟨hP.lt (by omega), hP.lt (by omega), ?_⟩
    show Ok O key n Q (if O.blt (kk key p m) (kk key p (m - 1)) = true then .ret m else kas_asc p f (m + 1))
    cases hb : O.blt (kk key p m) (kk key p (m - 1)) with
    | true =>
      rw [if_pos rfl]
      exact h m (Nat.le_refl _) (by omega) hs (.inr hb)
    | false =>
      rw [if_neg Bool.false_ne_true]
      exact asc_ok hP f (m + 1) (by omega) (by omega) (grow_up h1 hs hb) fun m' a b c d => h m' (by omega) (by omega) c (by rcases d with d | d; exact .inl (by omega); exact .inr d)
variable (key) in
def Tail (p : Array Nat) (m q : Nat) : Prop := q + 1 ≤ m ∧ ∀ i, m - (q + 1) ≤ i → i < m → kk key p i = kk key p (m - 1)
theorem desc_ok {Q : Array Nat × Nat × Nat → Prop} : ∀ (f : Nat) (p : Array Nat) (m q : Nat), Pm n p → 1 ≤ m → m + f ≤ n → Down key p m → Tail key p m q →
    (∀ p' m' q', Pm n p' → m ≤ m' → m' ≤ m + f → Down key p' m' → Tail key p' m' q' → Q (p', m', q')) → Ok O key n Q (kas_desc f p m q)
  | 0, p, m, q, hP, _, _, hs, ht, h => h p m q hP (Nat.le_refl _) (Nat.le_refl _) hs ht
  | f + 1, p, m, q, hP, h1, hn, hs, ht, h => by
    have hsz := hP.size
    refine ⟨hP.lt (by omega), hP.lt (by omega), ?_⟩
    show Ok O key n Q (if O.blt (kk key p m) (kk key p (m - 1)) = true then (if q > 0 then kas_desc f (kas_rev p (m - (q + 1)) m) (m + 1) 0 else kas_desc f p (m + 1) 0)
      else .ask (p.getD (m - 1) 0) (p.getD m 0) fun d => if d = true then .ret (p, m, q) else kas_desc f p (m + 1) (q + 1))
    have one : ∀ p' : Array Nat, Tail key p' (m + 1) 0 := fun p' => ⟨by omega, fun i a b => by congr 1; omega⟩
    cases hb : O.blt (kk key p m) (kk key p (m - 1)) with
    | true =>
      rw [if_pos rfl]
      have hd := grow_down h1 hs (KeyOrd.kle_of_klt hb)
      by_cases hq : q > 0
      · rw [if_pos hq]
        have e := rev_same (key := key) (p := p) (i := m - (q + 1)) (j := m) (by omega) ht.2
        refine desc_ok f _ (m + 1) 0 (hP.rev _ _) (by omega) (by omega) (fun i j a b => by rw [e, e]; exact hd i j a b) (one _) fun p' m' q' a b c d g => h p' m' q' a (by omega) (by omega) d g
      · rw [if_neg hq]
        exact desc_ok f p (m + 1) 0 hP (by omega) (by omega) hd (one _) fun p' m' q' a b c d g => h p' m' q' a (by omega) (by omega) d g
    | false =>
      rw [if_neg Bool.false_ne_true]
      refine ⟨hP.lt (by omega), hP.lt (by omega), ?_⟩
      show Ok O key n Q (if O.blt (kk key p (m - 1)) (kk key p m) = true then .ret (p, m, q) else kas_desc f p (m + 1) (q + 1))
      cases hc : O.blt (kk key p (m - 1)) (kk key p m) with
      | true =>
        rw [if_pos rfl]
        exact h p m q hP (Nat.le_refl _) (by omega) hs ht
      | false =>
        rw [if_neg Bool.false_ne_true]
        have he : kk key p m = kk key p (m - 1) := KeyOrd.kle_antisymm hc hb
        refine desc_ok f p (m + 1) (q + 1) hP (by omega) (by omega) (grow_down h1 hs hc) ⟨by have := ht.1; omega, fun i a b => ?_⟩ fun p' m' q' a b c d g => h p' m' q' a (by omega) (by omega) d g
        rw [Nat.add_sub_cancel]
        by_cases hi : i = m
        · rw [hi]
        · rw [he]; exact ht.2 i (by omega) (by omega)
theorem tail_ok {p : Array Nat} {m : Nat} (hP : Pm n p) (h1 : 1 ≤ m) (hm : m ≤ n) (hs : Down key p m) {Q : Nat × Array Nat → Prop} (h : ∀ m' p', Pm n p' → 1 ≤ m' → m' ≤ n → Up key p' m' → Q (m', p')) : Ok O key n Q (kas_tail3 m n p) := by
  have hsz := hP.size
  refine Ok.bind (asc_ok (hP.rev 0 m) (n - m) m h1 (by omega) (fun i j hij hj => ?_) fun m' a b c _ => h m' _ (hP.rev 0 m) (by omega) (by omega) c)
  rw [rev_kk (by omega), rev_kk (by omega), if_pos (by omega), if_pos (by omega)]
  exact hs _ _ (by omega) (by omega)
theorem descPart_ok {p : Array Nat} {m : Nat} (hP : Pm n p) (h1 : 1 ≤ m) (hm : m + 1 ≤ n) (hs : Down key p (m + 1)) {Q : Nat × Array Nat → Prop} (h : ∀ m' p', Pm n p' → 1 ≤ m' → m' ≤ n → Up key p' m' → Q (m', p')) : Ok O key n Q (kas_descPart m n p) := by
  refine Ok.bind (desc_ok (n - (m + 1)) p (m + 1) 0 hP (by omega) (by omega) hs ⟨by omega, fun i a b => by congr 1; omega⟩ fun p' m' q' a b c d g => ?_)
  have hsz := a.size
  show Ok O key n Q (if q' > 0 then kas_tail3 m' n (kas_rev p' (m' - (q' + 1)) m') else kas_tail3 m' n p')
  by_cases hq : q' > 0
  · rw [if_pos hq]
    have e := rev_same (key := key) (p := p') (i := m' - (q' + 1)) (j := m') (by omega) g.2
    exact tail_ok (a.rev _ _) (by omega) (by omega) (fun i j x y => by rw [e, e]; exact d i j x y) h
  · rw [if_neg hq]
    exact tail_ok a (by omega) (by omega) d h
theorem count_ok {p : Array Nat} (hP : Pm n p) (h1 : 1 ≤ n) {Q : Nat × Array Nat → Prop} (h : ∀ m' p', Pm n p' → 1 ≤ m' → m' ≤ n → Up key p' m' → Q (m', p')) : Ok O key n Q (kas_count n p) := by
  have hsz := hP.size
  refine Ok.bind (asc_ok hP (n - 1) 1 (Nat.le_refl _) (by omega) (fun i j a b => ?_) fun m a b c d => ?_)
  · have : i = j := by omega
    subst this; exact KeyOrd.kle_refl _
  · show Ok O key n Q (if (m == n) = true then .ret (m, p) else if m > 1 then .ask (p.getD 0 0) (p.getD (m - 1) 0) fun c => if c = true then .ret (m, p) else kas_descPart m n (kas_rev p 0 m) else kas_descPart m n p)
    by_cases hm : m = n
    · rw [if_pos (by simpa using hm)]
      exact h m p hP a (by omega) c
    · rw [if_neg (by simpa using hm)]
      have hlt : O.klt (kk key p m) (kk key p (m - 1)) := by
        rcases d with d | d
        · exact absurd (by omega) hm
        · exact d
      by_cases hg : m > 1
      · rw [if_pos hg]
        refine ⟨hP.lt (by omega), hP.lt (by omega), ?_⟩
        show Ok O key n Q (if O.blt (kk key p 0) (kk key p (m - 1)) = true then .ret (m, p) else kas_descPart m n (kas_rev p 0 m))
        cases hb : O.blt (kk key p 0) (kk key p (m - 1)) with
        | true =>
          rw [if_pos rfl]
          exact h m p hP a (by omega) c
        | false =>
          rw [if_neg Bool.false_ne_true]
          have hall : ∀ k, 0 ≤ k → k < m → kk key p k = kk key p (m - 1) := fun k _ hk =>
            KeyOrd.kle_antisymm (c k (m - 1) (by omega) (by omega)) (KeyOrd.kle_trans hb (c 0 k (by omega) hk))
          have e := rev_same (key := key) (p := p) (i := 0) (j := m) (by omega) hall
          refine descPart_ok (hP.rev _ _) (by omega) (by omega) (grow_down (by omega) (fun i j x y => ?_) ?_) h
          · rw [e, e, hall i (by omega) (by omega), hall j (by omega) y]; exact KeyOrd.kle_refl _
          · rw [e, e]; exact KeyOrd.kle_of_klt hlt
      · rw [if_neg hg]
        have : m = 1 := by omega
        subst this
        refine descPart_ok hP (Nat.le_refl _) (by omega) (grow_down (Nat.le_refl _) (fun i j x y => ?_) (KeyOrd.kle_of_klt hlt)) h
        have : i = j := by omega
        subst this; exact KeyOrd.kle_refl _
theorem place_ok {p : Array Nat} {k : Nat} (hP : Pm n p) (hk : k < n) (hs : Up key p k) {Q : Nat → Prop}
    (h : ∀ l, l ≤ k → (∀ i, i < l → O.kle (kk key p i) (kk key p k)) → (∀ i, l ≤ i → i < k → O.klt (kk key p k) (kk key p i)) → Q l) : ∀ (f l r : Nat), l ≤ r → r ≤ k → r - l ≤ f →
      (∀ i, i < l → O.kle (kk key p i) (kk key p k)) → (∀ i, r ≤ i → i < k → O.klt (kk key p k) (kk key p i)) → Ok O key n Q (kas_place p k f l r)
  | 0, l, r, a, b, c, d, e => by
    have : l = r := by omega
    subst this
    exact h l b d e
  | f + 1, l, r, a, b, c, d, e => by
    show Ok O key n Q (if l ≥ r then .ret l else .ask (p.getD k 0) (p.getD ((l + r) / 2) 0) fun c => if c = true then kas_place p k f l ((l + r) / 2) else kas_place p k f ((l + r) / 2 + 1) r)
    by_cases hge : l ≥ r
    · rw [if_pos hge]
      have : l = r := by omega
      subst this
      exact h l b d e
    · rw [if_neg hge]
      refine ⟨hP.lt hk, hP.lt (by omega), ?_⟩
      show Ok O key n Q (if O.blt (kk key p k) (kk key p ((l + r) / 2)) = true then kas_place p k f l ((l + r) / 2) else kas_place p k f ((l + r) / 2 + 1) r)
      cases hb : O.blt (kk key p k) (kk key p ((l + r) / 2)) with
      | true =>
        rw [if_pos rfl]
        exact place_ok hP hk hs h f l ((l + r) / 2) (by omega) (by omega) (by omega) d fun i x y => KeyOrd.klt_of_klt_of_kle hb (hs _ _ x y)
      | false =>
        rw [if_neg Bool.false_ne_true]
        exact place_ok hP hk hs h f ((l + r) / 2 + 1) r (by omega) b (by omega) (fun i x => KeyOrd.kle_trans (hs i ((l + r) / 2) (by omega) (by omega)) hb) e
theorem bubble_kk {p : Array Nat} {k d : Nat} (hs : k < p.size) (hd : d ≤ k) (i : Nat) : kk key (bubble p k d) i = if i = k - d then kk key p k else if k - d < i ∧ i ≤ k then kk key p (i - 1) else kk key p i := by
  have e := getElem?_bubble hs d hd i
  by_cases h1 : i = k - d
  · rw [if_pos h1] at e ⊢; exact kk_congr e
  · rw [if_neg h1] at e ⊢
    by_cases h2 : k - d < i ∧ i ≤ k
    · rw [if_pos h2] at e ⊢; exact kk_congr e
    · rw [if_neg h2] at e ⊢; exact kk_congr e
theorem bin_ok {Q : Array Nat → Prop} : ∀ (f : Nat) (p : Array Nat) (k : Nat), Pm n p → 1 ≤ k → k + f = n → Up key p k → (∀ p', Pm n p' → Up key p' n → Q p') → Ok O key n Q (kas_bin f p k)
  | 0, p, k, hP, _, hn, hs, h => h p hP (by rw [← hn]; exact hs)
  | f + 1, p, k, hP, h1, hn, hs, h => by
    have hsz := hP.size
    have hk : k < n := by omega
    refine Ok.bind (place_ok hP hk hs (fun l a b c => ?_) k 0 k (Nat.zero_le _) (Nat.le_refl _) (by omega) (fun i x => by omega) fun i x y => by omega)
    refine bin_ok f _ (k + 1) (hP.of (bubble_perm _ _ _)) (by omega) (by omega) (fun i j hij hj => ?_) h
    rw [bubble_kk (by omega) (by omega), bubble_kk (by omega) (by omega), show k - (k - l) = l by omega]
    repeat' split
    all_goals first
      | (exfalso; omega)
      | exact KeyOrd.kle_refl _
      | exact b _ (by omega)
      | exact KeyOrd.kle_of_klt (c _ (by omega) (by omega))
      | exact hs _ _ (by omega) (by omega)
theorem sort_ok (h1 : 1 ≤ n) {Q : Array Nat → Prop} (h : ∀ p, Pm n p → Up key p n → Q p) : Ok O key n Q (kas_sort n) := by
  have hP : Pm n (List.toArray (List.range n)) := List.Perm.refl _
  refine Ok.bind (count_ok hP h1 fun m p a b c d => ?_)
  show Ok O key n Q (if m < n then kas_bin (n - max m 1) p (max m 1) else .ret p)
  have hm : max m 1 = m := by omega
  by_cases hlt : m < n
  · rw [if_pos hlt, hm]
    exact bin_ok (n - m) p m a b (by omega) d h
  · rw [if_neg hlt]
    have : m = n := by omega
    subst this
    exact h p a d
end Srt
namespace L2
open PySem PySem.Spec PyProof.Rows PySem.W
theorem lex_irrefl : ∀ a : List Int, HT.lexLt a a = false
  | [] => rfl
  | x :: r => by rw [HT.lexLt_cons, if_pos rfl]; exact lex_irrefl r
theorem lex_trans : ∀ a b c : List Int, HT.lexLt a b = true → HT.lexLt b c = true → HT.lexLt a c = true
  | [], [], c, h, _ => by cases h
  | [], _ :: _, [], _, h => by cases h
  | [], _ :: _, _ :: _, _, _ => rfl
  | _ :: _, [], _, h, _ => by cases h
  | _ :: _, _ :: _, [], _, h => by cases h
  | x :: a, y :: b, z :: c, h1, h2 => by
    rw [HT.lexLt_cons] at h1 h2 ⊢
    by_cases e1 : x = y
    · subst e1
      rw [if_pos rfl] at h1
      by_cases e2 : x = z
      · subst e2
        rw [if_pos rfl] at h2 ⊢
        exact lex_trans a b c h1 h2
      · rw [if_neg e2] at h2 ⊢; exact h2
    · rw [if_neg e1] at h1
      have l1 : x < y := of_decide_eq_true h1
      by_cases e2 : y = z
      · subst e2
        rw [if_neg e1]; exact h1
      · rw [if_neg e2] at h2
        have l2 : y < z := of_decide_eq_true h2
        rw [if_neg (by omega)]
        exact decide_eq_true (by omega)
theorem lex_neg : ∀ a b c : List Int, HT.lexLt a c = true → HT.lexLt a b = true ∨ HT.lexLt b c = true
  | _, [], [], h => by
    rename_i a
    cases a <;> cases h
  | [], [], _ :: _, _ => .inr rfl
  | _ :: _, [], _ :: _, _ => .inr rfl
  | [], _ :: _, _, _ => .inl rfl
  | _ :: _, _ :: _, [], h => by cases h
  | x :: a, y :: b, z :: c, h => by
    rw [HT.lexLt_cons] at h ⊢
    rw [HT.lexLt_cons]
    by_cases e1 : x = y
    · subst e1
      rw [if_pos rfl]
      by_cases e2 : x = z
      · subst e2
        rw [if_pos rfl] at h ⊢
        exact lex_neg a b c h
      · rw [if_neg e2] at h ⊢; exact .inr h
    · rw [if_neg e1]
      by_cases l1 : x < y
      · exact .inl (decide_eq_true l1)
      · right
        by_cases e2 : x = z
        · subst e2
          rw [if_neg (by omega)]
          exact decide_eq_true (by omega)
        · rw [if_neg e2] at h
          have l2 : x < z := of_decide_eq_true h
          rw [if_neg (by omega)]
          exact decide_eq_true (by omega)
theorem lex_total : ∀ a b : List Int, HT.lexLt a b = false → HT.lexLt b a = false → a = b
  | [], [], _, _ => rfl
  | [], _ :: _, h, _ => by cases h
  | _ :: _, [], _, h => by cases h
  | x :: a, y :: b, h1, h2 => by
    rw [HT.lexLt_cons] at h1 h2
    by_cases e : x = y
    · subst e
      rw [if_pos rfl] at h1 h2
      rw [lex_total a b h1 h2]
    · rw [if_neg e] at h1
      rw [if_neg (Ne.symm e)] at h2
      have := of_decide_eq_false h1
      have := of_decide_eq_false h2
      omega
@[reducible] def lexOrd : KeyOrd := ⟨List Int, HT.lexLt, lex_irrefl, lex_trans, lex_neg, lex_total⟩
section
variable {prog : Program} {w : World} {A : Around} {E : Value → Shared → Prop} {s : Shared}
end
section
variable {X : Cx}
end
end L2
namespace L2
open PySem PySem.Spec PyProof.Rows PySem.W
section
variable {prog : Program} {w : World} {A : Around} {E : Value → Shared → Prop} {s : Shared}
theorem sort_gen {a : Addr} {vs : List Value} {n : Nat} {P : PySem.Fin → Shared → Prop} (O : KeyOrd) (key : Nat → O.α) (κ : SortKind) (ho : s.heap.get? a = some (seqObj "list" vs.toArray n)) (h64 : vs.length < 64)
    (hk : ∀ (s' : Shared) (Q : SortKind → Shared → Prop), (∀ b o, b ≠ a → s.heap.get? b = some o → s'.heap.get? b = some o) → 2 ≤ vs.length → Q κ s' → wpAny (model prog w) A (keyKind' vs.toArray) Q E s')
    (hc : ∀ (s' : Shared) (i j : Nat) (C : Bool → Shared → Prop), (∀ b o, b ≠ a → s.heap.get? b = some o → s'.heap.get? b = some o) → i < vs.length → j < vs.length → C (O.blt (key i) (key j)) s' → wpAny (model prog w) A (keyLt' κ (vs.getD i Value.none) (vs.getD j Value.none)) C (fun _ _ => False) s')
    (h : ∀ p : Array Nat, Srt.Pm vs.length p → Srt.Up (O := O) key p vs.length → P (.done (.ret .none)) { s with heap := sortedHeap s.heap a vs (p.toList.map fun i => vs.getD i Value.none).toArray }) :
    wpAny (model prog w) A (Builtin.«list.sort» ⟨[.ref a], []⟩) P E s := by
  have hal : a < s.heap.objs.size := Heap.lt_size ho
  rw [list_sort_plain]
  refine wpAny_bind (listItems_at ho rfl ?_)
  refine wpAny_bind (listUpdate_at ho rfl ?_ (by rw [List.size_toArray, sizeLine_eq]; omega) (Nat.zero_le _))
  obtain ⟨e1, ho1⟩ : ∃ e1, (s.heap.update a (Obj.mapSeq fun _ => (#[] : Array Value))).get? a = some (seqObj "list" #[] e1) := ⟨_, get?_update_seq ho fun _ => #[]⟩
  refine wpAny_bind (seqEpoch_at ho1 rfl (wpAny_bind (wpAny_newTuple ?_ (by show vs.length ≤ _; rw [sizeLine_eq]; omega))))
  refine wpAny_bind (wpAny_newList (wpAny_holding ?_) (Nat.zero_le _))
  have keep : ∀ b o, b ≠ a → s.heap.get? b = some o → (((s.heap.update a (Obj.mapSeq fun _ => (#[] : Array Value))).push (seqObj "tuple" vs.toArray 0)).push (seqObj "list" #[] 0)).get? b = some o := fun b o hb e =>
    Heap.get?_push_of_some _ (Heap.get?_push_of_some _ ((Heap.get?_update_ne _ _ _ _ hb).trans e))
  have ho6 : (((s.heap.update a (Obj.mapSeq fun _ => (#[] : Array Value))).push (seqObj "tuple" vs.toArray 0)).push (seqObj "list" #[] 0)).get? a = some (seqObj "list" #[] e1) := Heap.get?_push_of_some _ (Heap.get?_push_of_some _ ho1)
  show wpAny (model prog w) A _ P E { s with heap := ((s.heap.update a (Obj.mapSeq fun _ => (#[] : Array Value))).push (seqObj "tuple" vs.toArray 0)).push (seqObj "list" #[] 0) }
  dsimp only
  have hz : vs.toArray.size = vs.length := List.size_toArray
  by_cases h2 : vs.toArray.size < 2
  · rw [if_pos h2, if_pos h2]
    refine wpAny_bind (wpAny_pure ?_)
    rw [StateT.run_pure]
    refine wpAny_bind (wpAny_pure ?_)
    dsimp only
    refine wpAny_bind (seqEpoch_at ho6 rfl ?_)
    have e2 : (arrOf (SortSt.mk' general' (vs.toArray.zip vs.toArray) #[] 7 none)).map (·.2) = vs.toArray := by
      show (vs.toArray.zip vs.toArray).map (·.2) = vs.toArray
      apply Array.toList_inj.mp
      rw [Array.toList_map, Array.toList_zip]
      exact List.map_snd_zip (Nat.le_refl _)
    rw [e2]
    refine wpAny_bind (listUpdate_at ho6 rfl ?_ (hsz2 := by show vs.toArray.size ≤ _; rw [sizeLine_eq]; omega))
    simp only [bne_self_eq_false, Bool.false_eq_true, if_false]
    have := h (List.range vs.length).toArray (List.Perm.refl _) (fun i j hij hj => by
      have : i = j := by omega
      subst this
      exact O.irrefl _)
    have e3 : ((List.range vs.length).toArray.toList.map fun i => vs.getD i Value.none) = vs := by
      apply List.ext_getElem (by simp)
      intro i a b
      simp at a
      simp [a]
    rw [e3] at this
    exact wpAny_pure this
  · rw [if_neg h2, if_neg h2]
    refine wpAny_bind ?_
    refine hk { s with heap := ((s.heap.update a (Obj.mapSeq fun _ => (#[] : Array Value))).push (seqObj "tuple" vs.toArray 0)).push (seqObj "list" #[] 0) } _ keep (by omega) ?_
    refine wpAny_bind (wpAny_mono (kat_run (Q := fun st' s' => ∃ p : Array Nat, Srt.Pm vs.length p ∧ Srt.Up (O := O) key p vs.length ∧ (arrOf st').map (·.2) = (p.toList.map fun i => vs.getD i Value.none).toArray ∧ failedOf st' = none ∧
        s' = { s with heap := ((s.heap.update a (Obj.mapSeq fun _ => (#[] : Array Value))).push (seqObj "tuple" vs.toArray 0)).push (seqObj "list" #[] 0) })
      (G := fun p s' => Srt.Pm vs.length p ∧ Srt.Up (O := O) key p vs.length ∧ s' = { s with heap := ((s.heap.update a (Obj.mapSeq fun _ => (#[] : Array Value))).push (seqObj "tuple" vs.toArray 0)).push (seqObj "list" #[] 0) })
      (vs := vs) (ks := vs) rfl (by omega) (by omega) (fun p st' s' hsz har hfl hg => ?_) ?_) (fun r s' hq => ?_) fun _ _ e => e)
    · obtain ⟨hP, hU, es⟩ := hg
      exact ⟨p, hP, hU, kat_snds rfl har, hfl, es⟩
    · refine Srt.Ok.wp (O := O) (key := key) (n := vs.length) (fun i j C hi hj hC => ?_) (Q := fun p => Srt.Pm vs.length p ∧ Srt.Up (O := O) key p vs.length) (fun p hp => ⟨hp.1, hp.2, rfl⟩) (Srt.sort_ok (by omega) fun p a b => ⟨a, b⟩)
      exact hc { s with heap := ((s.heap.update a (Obj.mapSeq fun _ => (#[] : Array Value))).push (seqObj "tuple" vs.toArray 0)).push (seqObj "list" #[] 0) } i j C keep hi hj hC
    · obtain ⟨p, o1, o2, o3, o4, rfl⟩ := hq
      obtain ⟨⟨⟩, st'⟩ := r
      dsimp only at o3 o4 ⊢
      refine wpAny_bind (seqEpoch_at ho6 rfl ?_)
      rw [o3]
      refine wpAny_bind (listUpdate_at ho6 rfl ?_ (hsz2 := by show (p.toList.map fun i => vs.getD i Value.none).toArray.size ≤ _; rw [List.size_toArray, List.length_map, o1.length_eq, List.length_range, sizeLine_eq]; omega))
      rw [o4]
      simp only [bne_self_eq_false, Bool.false_eq_true, if_false]
      exact wpAny_pure (h p o1 o2)
theorem sorted_gen {l : Addr} {vs : List Value} {Q : Value → Shared → Prop} (O : KeyOrd) (key : Nat → O.α) (κ : SortKind) (hl : s.heap.IsList l vs.toArray) (h64 : vs.length < 64)
    (hk : ∀ (s' : Shared) (E' : Value → Shared → Prop) (Q : SortKind → Shared → Prop), (∀ b o, s.heap.get? b = some o → s'.heap.get? b = some o) → 2 ≤ vs.length → Q κ s' → wpAny (model prog w) A.in1.in1 (keyKind' vs.toArray) Q E' s')
    (hc : ∀ (s' : Shared) (i j : Nat) (C : Bool → Shared → Prop), (∀ b o, s.heap.get? b = some o → s'.heap.get? b = some o) → i < vs.length → j < vs.length → C (O.blt (key i) (key j)) s' → wpAny (model prog w) A.in1.in1 (keyLt' κ (vs.getD i Value.none) (vs.getD j Value.none)) C (fun _ _ => False) s')
    (h : ∀ p : Array Nat, Srt.Pm vs.length p → Srt.Up (O := O) key p vs.length → Q (.ref (s.heap.objs.size + 1)) { s with heap := sortedAll s.heap vs (p.toList.map fun i => vs.getD i Value.none).toArray }) :
    wpAny (model prog w) A (call (.builtin "sorted") [.ref l]) Q E s := by
  refine Calls.call_function_entry kind_sorted plain_sorted entry_sorted (args_sorted1 _) ?_
  unfold Builtin.«sorted»
  refine wpAny_bind (m := checkCount "sorted" 1 1 _) (wpAny_pure ?_)
  refine wpAny_bind (collect_list hl ?_ (by rw [sizeLine_eq]; omega))
  refine wpAny_bind (wpAny_newList ?_ (by rw [sizeLine_eq]; omega))
  have hsz : ((s.heap.push (seqObj "list" #[] 0)).update s.heap.objs.size (Obj.mapSeq (· ++ vs.toArray))).objs.size = s.heap.objs.size + 1 := by rw [Heap.size_update, size_push']
  have hoL : (((s.heap.push (seqObj "list" #[] 0)).update s.heap.objs.size (Obj.mapSeq (· ++ vs.toArray))).push (seqObj "list" vs.toArray 0)).get? (s.heap.objs.size + 1) = some (seqObj "list" vs.toArray 0) := by
    rw [← hsz]; exact Heap.get?_push_size _ rfl
  have keep : ∀ b o, s.heap.get? b = some o → (((s.heap.push (seqObj "list" #[] 0)).update s.heap.objs.size (Obj.mapSeq (· ++ vs.toArray))).push (seqObj "list" vs.toArray 0)).get? b = some o := fun b o e => by
    have hlt : b < s.heap.objs.size := Heap.lt_size e
    exact Heap.get?_push_of_some _ ((Heap.get?_update_ne _ _ _ _ (Nat.ne_of_lt hlt)).trans (Heap.get?_push_of_some _ e))
  show wpAny _ _ _ _ _ { s with heap := ((s.heap.push (seqObj "list" #[] 0)).update s.heap.objs.size (Obj.mapSeq (· ++ vs.toArray))).push (seqObj "list" vs.toArray 0) }
  rw [hsz]
  refine wpAny_bind (wpAny_holding (wpAny_call_entry slot_list_sort ⟨_, hoL, rfl⟩ entry_list_sort ?_ (args_list_sort _)))
  have old : ∀ (s' : Shared), (∀ b o, b ≠ s.heap.objs.size + 1 → (((s.heap.push (seqObj "list" #[] 0)).update s.heap.objs.size (Obj.mapSeq (· ++ vs.toArray))).push (seqObj "list" vs.toArray 0)).get? b = some o → s'.heap.get? b = some o) → ∀ b o, s.heap.get? b = some o → s'.heap.get? b = some o := fun s' h b o e => by
    have hlt : b < s.heap.objs.size := Heap.lt_size e
    exact h b o (fun z => by rw [z] at hlt; exact absurd hlt (Nat.not_lt.mpr (Nat.le_succ _))) (keep b o e)
  refine sort_gen (A := A.in1.in1) O key κ hoL h64 (fun s' Q' hs h2 hq => hk s' _ Q' (old s' hs) h2 hq) (fun s' i j C hs hi hj hC => hc s' i j C (old s' hs) hi hj hC) fun p o1 o2 => ⟨_, rfl, wpAny_pure ⟨_, rfl, h p o1 o2⟩⟩
theorem pair_lt {x y : Addr} {fx sx fy sy : Value} {b : Bool} {C : Bool → Shared → Prop} (hx : s.heap.IsTuple x [fx, sx].toArray) (hy : s.heap.IsTuple y [fy, sy].toArray)
    (hne : x ≠ y → SeqAt.EqAt A s fx fy false ∧ wpAny (model prog w) A (oneLt' b fx fy) C (fun _ _ => False) s) (heq : x = y → SeqAt.EqAt A s fx fx true ∧ SeqAt.EqAt A s sx sx true ∧ C false s) :
    wpAny (model prog w) A (keyLt' (tuples' b) (.ref x) (.ref y)) C E s := by
  obtain ⟨ox, gx, cx, nx, dx⟩ := hx
  obtain ⟨oy, gy, cy, ny, dy⟩ := hy
  refine kat_lt gx dx gy dy ?_
  by_cases h : x = y
  · subst h
    obtain rfl := Option.some.inj (gx.symm.trans gy)
    rw [dx] at dy
    injection dy with e1 e2
    have e3 : [fx, sx] = [fy, sy] := by simpa using congrArg Array.toList e1
    injection e3 with e4 e5
    injection e5 with e6 e7
    subst e4 e6
    obtain ⟨q1, q2, q3⟩ := heq rfl
    show KatLex prog w A b _ C [(fx, fx), (sx, sx)] 0 s
    refine kat_cons (q1 _ _ _ _ (kat_yes (kat_cons (q2 _ _ _ _ (kat_yes (kat_nil ?_))))))
    exact q3
  · obtain ⟨q1, q2⟩ := hne h
    show KatLex prog w A b _ C [(fx, fy), (sx, sy)] 0 s
    refine kat_cons (q1 _ _ _ _ (kat_no ?_))
    have : (b && (0 : Nat) == 0) = b := by simp
    rw [this]
    exact q2
end
theorem out_gen {α : Type} {O : KeyOrd} {ts : List α} {d : α} {key : α → O.α} {p : Array Nat} (hP : Srt.Pm ts.length p) (hU : Srt.Up (O := O) (fun i => key (ts.getD i d)) p ts.length) :
    (p.toList.map fun i => ts.getD i d).Perm ts ∧ (p.toList.map fun i => ts.getD i d).Pairwise fun x y => O.blt (key y) (key x) = false := by
  constructor
  · have h1 := List.Perm.map (fun i => ts.getD i d) hP
    have e : (List.range ts.length).map (fun i => ts.getD i d) = ts := by
      apply List.ext_getElem (by simp)
      intro i a b
      simp at a
      simp [a]
    rwa [e] at h1
  · rw [List.pairwise_iff_getElem]
    intro i j hi hj hij
    have hsz := hP.size
    simp only [List.length_map, Array.length_toList] at hi hj
    have := hU i j (Nat.le_of_lt hij) (by omega)
    unfold KeyOrd.kle Srt.kk at this
    have ei : p.getD i 0 = p[i] := by simp [Array.getD, hi]
    have ej : p.getD j 0 = p[j] := by simp [Array.getD, hj]
    rw [ei, ej] at this
    simpa using this
theorem IsTuple.keeps {h h' : Heap} {a : Addr} {xs : Array Value} (k : ∀ b o, h.get? b = some o → h'.get? b = some o) (x : h.IsTuple a xs) : h'.IsTuple a xs := by
  obtain ⟨o, e, r⟩ := x
  exact ⟨o, k _ _ e, r⟩
section
variable {prog : Program} {w : World} {A : Around} {E : Value → Shared → Prop} {s : Shared}
end
section
variable {X : Cx}
theorem vals_mapF {α : Type} {f : α → Addr} : ∀ {ts : List α} {us : List Value}, Vals (ts.map fun t => V.ref (f t)) us → us = ts.map fun t => Value.ref (f t)
  | [], _, .nil => rfl
  | t :: ts, _, .cons r rr => by
    have e : _ = Value.ref (f t) := r
    rw [List.map_cons, ← vals_mapF rr, ← e]
theorem mapF_vals {α : Type} {f : α → Addr} : ∀ ts : List α, Vals (ts.map fun t => V.ref (f t)) (ts.map fun t => Value.ref (f t))
  | [] => .nil
  | t :: ts => .cons rfl (mapF_vals ts)
end
end L2
namespace L2
open PySem PySem.Spec PyProof.Rows
theorem plain_upd_loop : plainId "dict.update.loop" = true := by decide +kernel
theorem entry_upd_loop : entryFor table "dict.update.loop" = some Builtin.«dict.update.loop» := entryFor_of_tree (by kernel_rfl)
theorem list_keys_none : typeLookup (.type "list") "keys" = pure none := by rw [typeLookup_type, builtinLookup_eq_fast]; kernel_rfl
section
variable {prog : Program} {w : World} {A : Around} {E : Value → Shared → Prop} {s : Shared}
theorem keys_none {a : Addr} {xs : Array Value} {k : Nat} {sl : Array (Option Value)} {Q : Option Value → Shared → Prop} (hx : s.heap.get? a = some { cls := .type "list", dict := none, data := .seq xs k, slots := sl }) (hA : A.handled = none)
    (h : ∀ h' tk, (∀ b o, s.heap.get? b = some o → h'.get? b = some o) → Q none { s with heap := h', toks := tk }) : wpAny (model prog w) A (getAttr? (.ref a) "keys") Q E s := by
  obtain ⟨hp, g, d, tk, os⟩ := s
  have hT : ∀ tk', (⟨hp, g, d, tk', os⟩ : Shared).TypeIs (.ref a) "list" := fun _ => ⟨_, hx, rfl⟩
  have f1 := sub_AttributeError
  have f3 := F.slot_list_getattribute.lookup
  have f4 := F.slot_list_getattribute.bind (.ref a)
  have f5 := am_list_getattr_none
  unfold getAttr? getAttrBy? getAttrBy
  repeat (any_goals (first | assumption | exact hT _ | ((with_reducible show wpAny _ _ (call (Value.builtin "list.__getattribute__") _ _) _ _ _); refine call_meets F.slot_list_getattribute (hT _) am_entry_list_getattribute (F.args_list_getattribute_2 _ _) (meets_getattribute_miss_list a xs k sl "keys" _ list_keys_none (by decide +kernel)) ⟨hx, hA, fun h' tk' e hx' => ?_⟩) | wp_step))
  obtain ⟨t', u', he⟩ := hx'.there
  show wpAny _ _ (getattributeRaised _ _ _ _ _ _ _) _ _ _
  unfold getattributeRaised
  repeat (any_goals (first | assumption | wp_step))
  exact h _ _ hx'.keeps
theorem ne_cls {h : Heap} {a b : Addr} {o u : Obj} (ha : h.get? a = some o) (hb : h.get? b = some u) (hc : o.cls ≠ u.cls) : a ≠ b := fun e => by
  subst e
  rw [ha] at hb
  exact hc (congrArg Obj.cls (Option.some.inj hb))
def storeAll (kvs : List (Key × Value)) : List (Key × Value) → List (Key × Value)
  | [] => kvs
  | p :: r => storeAll (stored kvs p.1 p.2) r
theorem upd_loop {R : Result → Shared → Prop} {l d it : Addr} {items : Array Value} (hA : A.handled = none) (hli : l ≠ it) (hd0 : (d == sysModules) = false) : ∀ (ps : List (Key × Value)) (i : Nat) (s : Shared) (kvs : List (Key × Value)), i + ps.length = items.size → s.heap.IsListIter it l i → s.heap.IsList l items → s.heap.DictOf (mixKind prog w) d kvs → kvs.length + ps.length ≤ sizeLine →
    (∀ (j : Nat) (q : Key × Value), ps[j]? = some q → ∃ p u, items[i + j]? = some (.ref p) ∧ (mixKind prog w).is q.1 u = true ∧ s.heap.IsTuple p #[u, q.2]) →
    (∀ h' tk, h'.DictOf (mixKind prog w) d (storeAll kvs ps) → (∀ b o, b ≠ it → b ≠ d → s.heap.get? b = some o → h'.get? b = some o) → R (.ok (.ret .none)) { s with heap := h', toks := tk }) →
    codeAny (model prog w) A (.builtin "dict.update.loop" ⟨[.ref d, .ref it, rawInt (i : Int), .none], []⟩) R s
  | [], i, s, kvs, hk, hit, hL, hD, hz, hp, hR => by
    have W := Walks.list (prog := prog) (w := w) (A := A.in1) hA it l hli items
    have hin : i = items.size := by simpa using hk
    subst hin
    refine codeAny_builtin entry_upd_loop ?_
    rw [Around.under_plainId plain_upd_loop _]
    show wpAny _ A.in1 (pyNext (.ref it) >>= _) _ _ s
    refine wpAny_bind (W.done s _ _ ⟨hit, hL⟩ fun h' tk hk' => ?_)
    show wpAny _ A.in1 (Builtin.Dict.addKeywords d [] >>= _) _ _ _
    refine wpAny_bind (wpAny_pure (wpAny_pure ?_))
    have hdi : d ≠ it := by
      obtain ⟨o, es, ep, ho, hc, _⟩ := hD
      obtain ⟨o2, ho2, hc2, _⟩ := hit
      exact ne_cls ho ho2 (by rw [hc.1, hc2]; intro z; injection z with z; exact absurd z (by decide))
    exact hR h' tk (hD.extBut (b := it) (fun a o hne e => hk' a o (by simpa using hne) e) hdi) (fun b o h1 _ e => hk' b o (by simpa using h1) e)
  | q :: ps, i, s, kvs, hk, hit, hL, hD, hz, hp, hR => by
    have W := Walks.list (prog := prog) (w := w) (A := A.in1) hA it l hli items
    obtain ⟨p, u, hip, hku, hpt⟩ := hp 0 q rfl
    rw [Nat.add_zero] at hip
    have hlt : i < items.size := by rw [List.length_cons] at hk; omega
    have hdi : d ≠ it := by
      obtain ⟨o, es, ep, ho, hc, _⟩ := hD
      obtain ⟨o2, ho2, hc2, _⟩ := hit
      exact ne_cls ho ho2 (by rw [hc.1, hc2]; intro z; injection z with z; exact absurd z (by decide))
    have hdl : d ≠ l := by
      obtain ⟨o, es, ep, ho, hc, _⟩ := hD
      obtain ⟨o2, ho2, hc2, _⟩ := hL
      exact ne_cls ho ho2 (by rw [hc.1, hc2]; intro z; injection z with z; exact absurd z (by decide))
    have hpi : ∀ {p : Addr} {xs : Array Value}, s.heap.IsTuple p xs → p ≠ it ∧ p ≠ d := fun {p xs} ht => by
      obtain ⟨o, ho, hc, _⟩ := ht
      obtain ⟨o2, ho2, hc2, _⟩ := id hit
      obtain ⟨o3, es, ep, ho3, hc3, _⟩ := id hD
      exact ⟨ne_cls ho ho2 (by rw [hc, hc2]; intro z; injection z with z; exact absurd z (by decide)), ne_cls ho ho3 (by rw [hc, hc3.1]; intro z; injection z with z; exact absurd z (by decide))⟩
    refine codeAny_builtin entry_upd_loop ?_
    rw [Around.under_plainId plain_upd_loop _]
    show wpAny _ A.in1 (pyNext (.ref it) >>= _) _ _ s
    refine wpAny_bind (W.item i s _ _ hlt ⟨hit, hL⟩ fun v h' tk hP hst' hk' => ?_)
    obtain rfl : v = .ref p := Option.some.inj ((show items[i]? = some v from hP).symm.trans hip)
    have hk2 : ∀ b o, b ≠ it → s.heap.get? b = some o → h'.get? b = some o := fun b o hb e => hk' b o (by simpa using hb) e
    have hpt' : h'.IsTuple p #[u, q.2] := by
      obtain ⟨o, ho, r⟩ := id hpt
      exact ⟨o, hk2 _ _ (hpi hpt).1 ho, r⟩
    obtain ⟨o, ho, hc, n, hdat⟩ := id hpt'
    refine wpAny_bind (wpAny_holding ?_)
    refine wpAny_bind (wpAny_tryCatch ?_)
    unfold Builtin.Dict.pairItems
    refine wpAny_bind (wpAny_typeOf (T := "tuple") (s := { s with heap := h', toks := tk }) ⟨o, ho, hc⟩ ?_)
    rw [if_pos (by decide +kernel)]
    refine wpAny_bind ?_
    show wpAny _ A.in1 (load p >>= _) _ _ _
    refine wpAny_bind (wpAny_load ho ?_)
    rw [hdat]
    refine wpAny_pure (wpAny_pure ?_)
    have hD' : h'.DictOf (mixKind prog w) d kvs := hD.extBut (b := it) (fun a o hne e => hk2 a o hne e) hdi
    refine wpAny_holding (wpAny_dictSet_pairs (s := { s with heap := h', toks := tk }) hku hD' (fun h'' hD'' hs => ?_) (by rw [List.length_cons] at hz; omega))
    have hit2 : h''.IsListIter it l (i + 1) := by
      obtain ⟨o, ho, r⟩ := hst'.1
      exact ⟨o, (hs.2 it (Ne.symm hdi)).trans ho, r⟩
    have hL2 : h''.IsList l items := by
      obtain ⟨o, ho, r⟩ := hst'.2
      exact ⟨o, (hs.2 l (Ne.symm hdl)).trans ho, r⟩
    have keep2 : ∀ b o, b ≠ it → b ≠ d → s.heap.get? b = some o → h''.get? b = some o := fun b o h1 h2 e => (hs.2 b h2).trans (hk2 b o h1 e)
    have hlen : (stored kvs q.1 q.2).length ≤ kvs.length + 1 := by
      unfold stored
      split
      · rw [List.length_map]; omega
      · rw [List.length_append]; simp
    refine wpAny_pure ⟨plainId_quiet plain_upd_loop _, ?_⟩
    refine upd_loop hA hli hd0 ps (i + 1) _ (stored kvs q.1 q.2) (by rw [List.length_cons] at hk; omega) hit2 hL2 hD'' (by rw [List.length_cons] at hz; omega) (fun j r hj => ?_) fun h3 tk3 hD3 hk3 => ?_
    · obtain ⟨p', u', e1, e2, e3⟩ := hp (j + 1) r (by simpa using hj)
      refine ⟨p', u', by rw [← e1]; congr 1; omega, e2, ?_⟩
      obtain ⟨o, ho, rr⟩ := id e3
      exact ⟨o, keep2 _ _ (hpi e3).1 (hpi e3).2 ho, rr⟩
    · exact hR h3 tk3 hD3 fun b o h1 h2 e => hk3 b o h1 h2 (keep2 b o h1 h2 e)
theorem dict_pairs {l : Addr} {items : Array Value} {ps : List (Key × Value)} {Q : Value → Shared → Prop} (hA : A.handled = none) (hb : sysModules < s.heap.objs.size) {ol : Obj} {nl : Nat} (hl : s.heap.get? l = some ol) (hlc : ol.cls = .type "list") (hld : ol.dict = none) (hlt : ol.data = .seq items nl) (hz : ps.length ≤ sizeLine) (hn : ps.length = items.size)
    (hp : ∀ (j : Nat) (q : Key × Value), ps[j]? = some q → ∃ p u, items[j]? = some (.ref p) ∧ (mixKind prog w).is q.1 u = true ∧ s.heap.IsTuple p #[u, q.2])
    (h : ∀ h' tk, h'.DictOf (mixKind prog w) s.heap.objs.size (storeAll [] ps) → (∀ b o, s.heap.get? b = some o → h'.get? b = some o) → Q (.ref s.heap.objs.size) { s with heap := h', toks := tk }) :
    wpAny (model prog w) A (call (.type "dict") [.ref l]) Q E s := by
  refine callType_codes (Q₁ := fun obj s₁ => obj = .ref s.heap.objs.size ∧ s₁ = { s with heap := s.heap.push { cls := .type "dict", data := .dict #[] } }) F.kt_called_dict (F.kt_typeCall_dict_1 _) F.entry_dict_init (kt_code_dict_new _ ⟨rfl, rfl⟩) ?_
  rintro obj s₁ ⟨rfl, rfl⟩
  have hnew : (s.heap.push { cls := .type "dict", data := .dict #[] }).DictOf (mixKind prog w) s.heap.objs.size [] := Heap.DictOf.new s.heap
  have hl1 : (s.heap.push { cls := .type "dict", data := .dict #[] }).get? l = some ol := Heap.get?_push_of_some _ hl
  have hT : ({ s with heap := s.heap.push { cls := .type "dict", data := .dict #[] } } : Shared).TypeIs (.ref l) "list" := ⟨_, hl1, hlc⟩
  obtain ⟨c1, d1, t1, s1⟩ := ol
  simp only at hlc hld hlt
  subst hlc hld hlt
  refine ⟨hnew.typeIs, F.args_dict_init_2 _ _, ?_⟩
  unfold Builtin.«dict.__init__»
  refine wpAny_bind ?_
  unfold Builtin.Dict.selfAndRest
  refine wpAny_bind (wpAny_notOrdered_dict hnew.typeIs ?_)
  show wpAny _ _ (pure (s.heap.objs.size, [Value.ref l])) _ _ _
  refine wpAny_pure ?_
  show wpAny _ _ (Builtin.Dict.updateFrom "dict.__init__" s.heap.objs.size (.ref l) [] .none) _ _ _
  unfold Builtin.Dict.updateFrom
  refine wpAny_bind (wpAny_typeOf hT ?_)
  rw [if_pos (by decide)]
  refine wpAny_bind (keys_none hl1 hA fun h2 tk2 hk2 => ?_)
  simp only [Option.isNone_none, if_true]
  refine wpAny_bind (wpAny_rule ?_)
  have hL2 : h2.IsList l items := ⟨_, hk2 _ _ hl1, rfl, nl, rfl⟩
  refine wpAny_bind (wpAny_pyIter_list (s := { s with heap := h2, toks := tk2 }) hL2 ?_)
  have hlt2 : l < h2.objs.size := Heap.lt_size (hk2 _ _ hl1)
  have hsz2 : s.heap.objs.size < h2.objs.size := by
    obtain ⟨o, es, ep, ho, _⟩ := id hnew
    exact Heap.lt_size (hk2 _ _ ho)
  have hD2 : h2.DictOf (mixKind prog w) s.heap.objs.size [] := by
    obtain ⟨o, es, ep, ho, r⟩ := id hnew
    exact ⟨o, es, ep, hk2 _ _ ho, r⟩
  have old : ∀ b o, s.heap.get? b = some o → h2.get? b = some o := fun b o e => hk2 b o (Heap.get?_push_of_some _ e)
  refine wpAny_pure ⟨plainId_quiet plain_upd_loop _, upd_loop (A := A.in1) (it := h2.objs.size) (l := l) (items := items) hA (Nat.ne_of_lt hlt2) (beq_eq_false_iff_ne.mpr (Ne.symm (Nat.ne_of_lt hb))) ps 0 _ [] (by simpa using hn) ⟨_, Heap.get?_push_size _ rfl, rfl, rfl⟩ (hL2.push _) (hD2.push _) (by simpa using hz) (fun j q hq => ?_) fun h' tk hD hk => ⟨rfl, ?_⟩⟩
  · obtain ⟨p, u, e1, e2, o, ho, r⟩ := hp j q hq
    exact ⟨p, u, by rw [Nat.zero_add]; exact e1, e2, o, Heap.get?_push_of_some _ (old _ _ ho), r⟩
  · refine h h' tk hD fun b o e => hk b o ?_ ?_ (Heap.get?_push_of_some _ (old b o e))
    · exact Nat.ne_of_lt (Heap.lt_size (old b o e))
    · exact Nat.ne_of_lt (Heap.lt_size e)
end
theorem stored_new {kvs : List (Key × Value)} {k : Key} {v : Value} (h : k ∉ kvs.map (·.1)) : stored kvs k v = kvs ++ [(k, v)] := by
  unfold stored
  rw [if_neg]
  intro z
  obtain ⟨kv, h1, h2⟩ := List.any_eq_true.mp z
  exact h (List.mem_map.mpr ⟨kv, h1, of_decide_eq_true h2⟩)
theorem storeAll_new : ∀ (ps kvs : List (Key × Value)), ((kvs ++ ps).map (·.1)).Nodup → storeAll kvs ps = kvs ++ ps
  | [], kvs, _ => by simp [storeAll]
  | p :: r, kvs, h => by
    have hn : p.1 ∉ kvs.map (·.1) := fun hm => by
      rw [List.map_append, List.nodup_append] at h
      exact h.2.2 _ hm _ (by simp) rfl
    show storeAll (stored kvs p.1 p.2) r = _
    rw [stored_new hn]
    have e : kvs ++ [(p.1, p.2)] ++ r = kvs ++ p :: r := by simp
    rw [storeAll_new r _ (by rw [e]; exact h), e]
theorem pairs_of {X : Cx} {pins : List (Addr × Obj)} {σ : St} {H : Hp} {s : Shared} (I : Inv X pins σ H s) : ∀ ts : List (Addr × Str × V), (∀ t ∈ ts, SqT X.K H t.1 [.str t.2.1, t.2.2]) →
    ∃ ps : List (Key × Value), KV (ts.map fun t => ((Sum.inr t.2.1 : Key), t.2.2)) ps ∧ ∀ (j : Nat) (q : Key × Value), ps[j]? = some q → ∃ p u, (ts.map fun t => Value.ref t.1)[j]? = some (.ref p) ∧ (mixKind X.prog X.w).is q.1 u = true ∧ s.heap.IsTuple p #[u, q.2]
  | [], _ => ⟨[], .nil, fun j q h => by simp at h⟩
  | t :: r, h => by
    obtain ⟨ps, h1, h2⟩ := pairs_of I r fun u hu => h u (List.mem_cons_of_mem _ hu)
    obtain ⟨its, rv, p, _⟩ := I.tuple (h t List.mem_cons_self)
    obtain ⟨u, v, rfl, ru, rv'⟩ := rv.two
    refine ⟨(Sum.inr t.2.1, v) :: ps, .cons ⟨rfl, rv'⟩ h1, fun j q hj => ?_⟩
    cases j with
    | zero =>
      have : q = (Sum.inr t.2.1, v) := by simpa using hj.symm
      subst this
      exact ⟨t.1, u, rfl, kV_is (k := Sum.inr t.2.1) ru, p⟩
    | succ j =>
      obtain ⟨p', u', e1, e2, e3⟩ := h2 j q (by simpa using hj)
      exact ⟨p', u', by simpa using e1, e2, e3⟩
theorem KV.keys' {kvs : List (Key × V)} {ps : List (Key × Value)} (r : KV kvs ps) : ps.map (·.1) = kvs.map (·.1) := by
  induction r with
  | nil => rfl
  | cons h _ ih => rw [List.map_cons, List.map_cons, ih, h.1]
section
variable {X : Cx}
theorem call_dictP (hc : X.calm = true) : CallR X (.type "dict") (fun xs H Q => ∃ (l : Addr) (ts : List (Addr × Str × V)), xs = [.ref l] ∧ SqL X.K H l (ts.map fun t => V.ref t.1) ∧ (∀ t ∈ ts, SqT X.K H t.1 [.str t.2.1, t.2.2]) ∧ (ts.map fun t => t.2.1).Nodup ∧ ts.length ≤ 1000 ∧
    ∀ d, H d = none → Q (.ref d) (upd H d (.dK (ts.map fun t => ((Sum.inr t.2.1 : Key), t.2.2))))) := by
  intro pins s σ H xs us Q I r h
  obtain ⟨l, ts, rfl, hl, ht, hnd, hz, q⟩ := h
  cases r with
  | cons r rr =>
    cases rr
    obtain rfl : _ = Value.ref l := r
    obtain ⟨its, rv, ⟨o, n, e, c, dn, dt⟩, _⟩ := I.list hl
    obtain rfl := vals_mapF rv
    obtain ⟨ps, hkv, hps⟩ := pairs_of I ts ht
    have hlen : ps.length = ts.length := by have := hkv.length; rw [List.length_map] at this; exact this.symm
    have hz1 : ps.length ≤ sizeLine := by rw [hlen, sizeLine_eq]; omega
    refine dict_pairs (I.ok.hd hc) I.big e c dn dt hz1 (by rw [List.size_toArray, List.length_map]; exact hlen) (fun j q hq => by simpa using hps j q hq) fun h' tk hD hk => ?_
    have hk1 : ((([] : List (Key × Value)) ++ ps).map (·.1)).Nodup := by
      rw [List.nil_append, KV.keys' hkv, List.map_map]
      have e2 : (ts.map ((fun x : Key × V => x.1) ∘ fun t => ((Sum.inr t.2.1 : Key), t.2.2))) = (ts.map fun t => t.2.1).map (Sum.inr : Str → Key) := by rw [List.map_map]; rfl
      rw [e2]
      exact List.Pairwise.map _ (fun a b hne z => hne (by injection z)) hnd
    rw [storeAll_new ps [] hk1, List.nil_append] at hD
    have hfr := I.hok.fresh (Nat.le_refl s.heap.objs.size)
    refine ⟨.ref s.heap.objs.size, _, I.laid (a := s.heap.objs.size) (o := .dK (ts.map fun t => ((Sum.inr t.2.1 : Key), t.2.2))) (t' := tk) hk (Nat.le_refl _) (dk_new (by rw [List.length_map, sizeLine_eq]; omega) (beq_eq_false_iff_ne.mpr (Ne.symm (Nat.ne_of_lt I.big))) hkv hD), rfl, q _ hfr⟩
end
end L2
namespace L2
open PySem PySem.Spec PyProof.Rows
section
variable {X : Cx} {tg : Expr}
end
end L2
namespace L2
open PySem PySem.Spec PyProof.Rows
section
variable {prog : Program} {w : World} {A : Around} {E : Value → Shared → Prop} {s : Shared} {it t : Addr} {i : Nat} {its : Array Value} {x : Value} {Q : Value → Shared → Prop}
theorem tupNext_item (hi : s.heap.IsTupleIter it t i) (ht : s.heap.IsTuple t its) (hx : its[i]? = some x) (q : ∀ h', h'.IsTupleIter it t (i + 1) → Heap.SameBut it s.heap h' → Q x { s with heap := h' }) :
    wpAny (model prog w) A (Builtin.SmallTypes.nextOf (.ref it)) Q E s := by
  obtain ⟨oi, gi, ci, di⟩ := id hi
  obtain ⟨ot, gt, _, nt, dt⟩ := ht
  unfold Builtin.SmallTypes.nextOf
  refine wpAny_bind (wpAny_callSpecial?_slot (name := Str.ofString "__next__") hi.typeIs F.slot_tuple_iterator_next (wpAny_call_entry F.slot_tuple_iterator_next hi.typeIs F.entry_tuple_iterator_next ?_ (F.args_tuple_iterator_next_1 _)))
  show wpAny _ _ (field (.ref it) 0 >>= _) _ _ s
  refine wpAny_bind (wpAny_field gi di (x := .ref t) rfl ?_)
  show wpAny _ _ (if (Value.ref t == Value.none) = true then _ else _) _ _ s
  rw [if_neg (show ¬ ((Value.ref t == Value.none) = true) from Bool.false_ne_true)]
  show wpAny _ _ (field (.ref it) 1 >>= _) _ _ s
  refine wpAny_bind (wpAny_field gi di (x := .int i 0) rfl ?_)
  show wpAny _ _ (seqItems? (.ref t) >>= _) _ _ s
  refine wpAny_bind (wpAny_seqItems gt dt ?_)
  simp only [Int.toNat_natCast, hx]
  refine wpAny_bind (wpAny_setField gi di (by simp) (wpAny_pure ⟨x, rfl, wpAny_pure (q _ ⟨_, Heap.get?_update_self _ gi (Obj.isFreed_of_fields (Obj.data_mapFields di _)), (Obj.cls_mapFields ..).trans ci, ?_⟩ (Heap.SameBut.update ..))⟩))
  rw [Obj.data_mapFields di]; simp [rawInt]
theorem tupNext_end (hh : A.handled = none) (hi : s.heap.IsTupleIter it t i) (ht : s.heap.IsTuple t its) (hx : its[i]? = none)
    (q : ∀ h' e, Heap.ExtBut it s.heap h' → (∃ o, h'.get? e = some o ∧ o.cls = .type "StopIteration") → E (.ref e) { s with heap := h' }) : wpAny (model prog w) A (Builtin.SmallTypes.nextOf (.ref it)) Q E s := by
  obtain ⟨oi, gi, ci, di⟩ := id hi
  obtain ⟨ot, gt, _, nt, dt⟩ := ht
  unfold Builtin.SmallTypes.nextOf
  refine wpAny_bind (wpAny_callSpecial?_slot (name := Str.ofString "__next__") hi.typeIs F.slot_tuple_iterator_next (wpAny_call_entry F.slot_tuple_iterator_next hi.typeIs F.entry_tuple_iterator_next ?_ (F.args_tuple_iterator_next_1 _)))
  show wpAny _ _ (field (.ref it) 0 >>= _) _ _ s
  refine wpAny_bind (wpAny_field gi di (x := .ref t) rfl ?_)
  show wpAny _ _ (if (Value.ref t == Value.none) = true then _ else _) _ _ s
  rw [if_neg (show ¬ ((Value.ref t == Value.none) = true) from Bool.false_ne_true)]
  show wpAny _ _ (field (.ref it) 1 >>= _) _ _ s
  refine wpAny_bind (wpAny_field gi di (x := .int i 0) rfl ?_)
  show wpAny _ _ (seqItems? (.ref t) >>= _) _ _ s
  refine wpAny_bind (wpAny_seqItems gt dt ?_)
  simp only [Int.toNat_natCast, hx]
  refine wpAny_bind (wpAny_rule (wpAny_bind (wpAny_setField gi di (by simp) ?_)))
  show wpAny _ _ (newExc (.type "StopIteration") [] >>= _) _ _ _
  simp only [newExc, newTuple]
  refine wpAny_bind (wpAny_bind (wpAny_newObj_type (wpAny_bind (m := firstArgMember _ _) (wpAny_of_eq (a := Value.none) (by first | rfl | (simp only [firstArgMember]; rfl)) (wpAny_newObj_type ?_ (by size_fits)))) (by size_fits)))
  simp only [raiseNew]
  refine wpAny_bind (wpAny_handled ?_)
  first | rw [show A.in1.handled = none from hh] | rw [hh]
  exact wpAny_bind (wpAny_pure (wpAny_throw (q _ _ (((Heap.SameBut.update ..).extBut.push _).push _) ⟨_, Heap.get?_push_size _ rfl, rfl⟩)))
end
section
variable {X : Cx} {elts : List Expr} {k1 : Nat} {tpos : Pos}
end
end L2
namespace L2
open PySem PySem.Spec PyProof.Rows
section
variable {prog : Program} {w : World} {A : Around} {E : Value → Shared → Prop} {s : Shared}
theorem zipT_item {zp ti tu j1 j2 t1 t2 : Addr} {n1 n2 : Nat} {us vs : Array Value} {p q c d : Value} {Q : Value → Shared → Prop} (Ap : ZipApart zp ti tu j1 j2 t1 t2)
    (gz : IsZip s.heap zp ti tu .none) (gi : IsPair s.heap ti (.ref j1) (.ref j2)) (gu : IsPair s.heap tu c d)
    (w1 : s.heap.IsTupleIter j1 t1 n1) (w2 : s.heap.IsTupleIter j2 t2 n2) (l1 : s.heap.IsTuple t1 us) (l2 : s.heap.IsTuple t2 vs) (ep : us[n1]? = some p) (eq : vs[n2]? = some q)
    (k : ∀ h', IsZip h' zp ti tu (rawInt s.heap.objs.size) → IsPair h' tu p q → h'.IsTupleIter j1 t1 (n1 + 1) → h'.IsTupleIter j2 t2 (n2 + 1) → IsPair h' s.heap.objs.size p q →
      (∀ b o, b ≠ zp → b ≠ tu → b ≠ j1 → b ≠ j2 → s.heap.get? b = some o → h'.get? b = some o) → Q (.ref s.heap.objs.size) { s with heap := h' }) :
    wpAny (model prog w) A (Builtin.«zip.__next__» ⟨[.ref zp], []⟩) (fun fin s' => ∃ v, fin = .done (.ret v) ∧ Q v s') E s := by
  show wpAny _ _ (field (.ref zp) 2 >>= _) _ _ _
  refine wpAny_bind (wpAny_field gz rfl (x := .bool false) rfl ?_)
  show wpAny _ _ (field (.ref zp) 3 >>= _) _ _ _
  refine wpAny_bind (wpAny_field gz rfl (x := .ref ti) rfl ?_)
  refine wpAny_bind (wpAny_seqItems gi rfl ?_)
  show wpAny _ _ (Builtin.SmallTypes.ownedTupleIsFree (.ref zp) >>= _) _ _ _
  refine wpAny_bind ?_; (unfold Builtin.SmallTypes.ownedTupleIsFree); refine wpAny_bind (wpAny_field gz rfl (x := .none) rfl (wpAny_pure ?_))
  simp only [if_true]
  refine wpAny_bind (wpAny_rule (wpAny_bind (wpAny_field gz rfl (x := .ref tu) rfl ?_)))
  refine wpAny_bind (wpAny_setField_rec gz (by simp) fun ha gza sa => ?_)
  replace gza : IsZip ha zp ti tu .ellipsis := gza
  refine wpAny_bind ?_
  simp only [List.forIn_cons, List.forIn_nil, List.zipIdx_cons, List.zipIdx_nil]
  refine wpAny_bind (wpAny_bind (wpAny_onRaise ?_))
  show wpAny _ _ (Builtin.SmallTypes.nextOf (.ref j1) >>= _) _ _ _
  refine wpAny_bind (tupNext_item (w1.extBut sa.extBut Ap.i1z) (l1.extBut sa.extBut Ap.l1z) ep fun hb w1b sb => wpAny_pure ?_)
  have gub : IsPair hb tu c d := sb.extBut _ _ Ap.TOi1 (sa.extBut _ _ Ap.TOz gu)
  refine wpAny_bind (wpAny_seqItems gub rfl (wpAny_bind (wpAny_updateSeq_pair gub fun hc guc sc => ?_)))
  replace guc : IsPair hc tu p d := guc
  refine wpAny_bind (wpAny_letGo (wpAny_pure (wpAny_bind (wpAny_bind (wpAny_onRaise ?_)))))
  show wpAny _ _ (Builtin.SmallTypes.nextOf (.ref j2) >>= _) _ _ _
  refine wpAny_bind (tupNext_item (((w2.extBut sa.extBut Ap.i2z).extBut sb.extBut Ap.i12.symm).extBut sc.extBut Ap.TOi2.symm) (((l2.extBut sa.extBut Ap.l2z).extBut sb.extBut Ap.l2i1).extBut sc.extBut Ap.l2TO) eq fun hd w2d sd => wpAny_pure ?_)
  have gud : IsPair hd tu p d := sd.extBut _ _ Ap.TOi2 guc
  refine wpAny_bind (wpAny_seqItems gud rfl (wpAny_bind (wpAny_updateSeq_pair gud fun he gue se => ?_)))
  replace gue : IsPair he tu p q := gue
  refine wpAny_bind (wpAny_letGo (wpAny_pure (wpAny_pure (wpAny_bind (wpAny_seqItems gue rfl (wpAny_bind (wpAny_newTuple ?_)))))))
  have size5 : he.objs.size = s.heap.objs.size := by rw [se.1, sd.1, sc.1, sb.1, sa.1]
  have gze : IsZip he zp ti tu .ellipsis := se.extBut _ _ Ap.TOz.symm (sd.extBut _ _ Ap.i2z.symm (sc.extBut _ _ Ap.TOz.symm (sb.extBut _ _ Ap.i1z.symm gza)))
  have kept5 : ∀ b o, b ≠ zp → b ≠ tu → b ≠ j1 → b ≠ j2 → s.heap.get? b = some o → he.get? b = some o := fun b o b1 b2 b3 b4 e => se.extBut _ _ b2 (sd.extBut _ _ b4 (sc.extBut _ _ b2 (sb.extBut _ _ b3 (sa.extBut _ _ b1 e))))
  have w1e : he.IsTupleIter j1 t1 (n1 + 1) := ((w1b.extBut sc.extBut Ap.TOi1.symm).extBut sd.extBut Ap.i12).extBut se.extBut Ap.TOi1.symm
  have w2e : he.IsTupleIter j2 t2 (n2 + 1) := w2d.extBut se.extBut Ap.TOi2.symm
  have lz : zp < he.objs.size := Heap.lt_size gze
  show wpAny _ _ (Builtin.SmallTypes.ownedTupleHandOut (.ref zp) (.ref he.objs.size) >>= _) _ _ _
  refine wpAny_bind ?_; (unfold Builtin.SmallTypes.ownedTupleHandOut)
  have gzf : IsZip (he.push { cls := .type "tuple", data := .seq #[p, q] }) zp ti tu .ellipsis := Heap.get?_push_of_some _ gze
  refine wpAny_bind (wpAny_setField_rec gzf (by simp) fun hg gzg sg => ?_)
  replace gzg : IsZip hg zp ti tu (rawInt he.objs.size) := gzg
  refine wpAny_setField_rec gzg (by simp) fun hh gzh sh => ?_
  replace gzh : IsZip hh zp ti tu (rawInt he.objs.size) := gzh
  have upw : ∀ b o, b ≠ zp → he.get? b = some o → hh.get? b = some o := fun b o b1 e => sh.extBut _ _ b1 (sg.extBut _ _ b1 (Heap.get?_push_of_some _ e))
  have gnew : IsPair hh he.objs.size p q := sh.extBut _ _ (Nat.ne_of_gt lz) (sg.extBut _ _ (Nat.ne_of_gt lz) (Heap.get?_push_size _ rfl))
  rw [size5] at gzh gnew
  refine wpAny_pure ⟨_, rfl, ?_⟩
  show Q (.ref he.objs.size) _
  rw [size5]
  exact k hh gzh (upw _ _ Ap.TOz gue) (w1e.at fun o e => upw _ o Ap.i1z e) (w2e.at fun o e => upw _ o Ap.i2z e) gnew fun b o b1 b2 b3 b4 e => upw b o b1 (kept5 b o b1 b2 b3 b4 e)
theorem zipT_end {zp ti tu j1 j2 t1 t2 : Addr} {n1 n2 : Nat} {us vs : Array Value} {c d : Value} {Q : Fin → Shared → Prop} (hh : A.handled = none) (Ap : ZipApart zp ti tu j1 j2 t1 t2)
    (gz : IsZip s.heap zp ti tu .none) (gi : IsPair s.heap ti (.ref j1) (.ref j2)) (gu : IsPair s.heap tu c d)
    (w1 : s.heap.IsTupleIter j1 t1 n1) (l1 : s.heap.IsTuple t1 us) (ep : us[n1]? = none)
    (k : ∀ h' e, (∀ b o, b ≠ zp → b ≠ tu → b ≠ j1 → b ≠ j2 → s.heap.get? b = some o → h'.get? b = some o) → (∃ o, h'.get? e = some o ∧ o.cls = .type "StopIteration") → E (.ref e) { s with heap := h' }) :
    wpAny (model prog w) A (Builtin.«zip.__next__» ⟨[.ref zp], []⟩) Q E s := by
  show wpAny _ _ (field (.ref zp) 2 >>= _) _ _ _
  refine wpAny_bind (wpAny_field gz rfl (x := .bool false) rfl ?_)
  show wpAny _ _ (field (.ref zp) 3 >>= _) _ _ _
  refine wpAny_bind (wpAny_field gz rfl (x := .ref ti) rfl ?_)
  refine wpAny_bind (wpAny_seqItems gi rfl ?_)
  show wpAny _ _ (Builtin.SmallTypes.ownedTupleIsFree (.ref zp) >>= _) _ _ _
  refine wpAny_bind ?_; (unfold Builtin.SmallTypes.ownedTupleIsFree); refine wpAny_bind (wpAny_field gz rfl (x := .none) rfl (wpAny_pure ?_))
  simp only [if_true]
  refine wpAny_bind (wpAny_rule (wpAny_bind (wpAny_field gz rfl (x := .ref tu) rfl ?_)))
  refine wpAny_bind (wpAny_setField_rec gz (by simp) fun ha gza sa => ?_)
  replace gza : IsZip ha zp ti tu .ellipsis := gza
  refine wpAny_bind ?_
  simp only [List.forIn_cons, List.forIn_nil, List.zipIdx_cons, List.zipIdx_nil]
  refine wpAny_bind (wpAny_bind (wpAny_onRaise ?_))
  show wpAny _ _ (Builtin.SmallTypes.nextOf (.ref j1) >>= _) _ _ _
  refine wpAny_bind (tupNext_end hh (w1.extBut sa.extBut Ap.i1z) (l1.extBut sa.extBut Ap.l1z) ep fun hb e sb ge => ?_)
  obtain ⟨oe, hoe, hce⟩ := ge
  have gzb : IsZip hb zp ti tu .ellipsis := sb _ _ Ap.i1z.symm gza
  have nez : e ≠ zp := fun x => by subst x; rw [gzb] at hoe; cases hoe; simp at hce
  refine wpAny_setField_rec gzb (by simp) fun hc _ sc => k hc e (fun b o b1 _ b3 _ x => sc.extBut _ _ b1 (sb _ _ b3 (sa.extBut _ _ b1 x))) ⟨oe, sc.extBut _ _ nez hoe, hce⟩
theorem pyNext_zipT_item {zp ti tu j1 j2 t1 t2 : Addr} {n1 n2 : Nat} {us vs : Array Value} {p q c d : Value} {Q : Option Value → Shared → Prop} (Ap : ZipApart zp ti tu j1 j2 t1 t2)
    (gz : IsZip s.heap zp ti tu .none) (gi : IsPair s.heap ti (.ref j1) (.ref j2)) (gu : IsPair s.heap tu c d)
    (w1 : s.heap.IsTupleIter j1 t1 n1) (w2 : s.heap.IsTupleIter j2 t2 n2) (l1 : s.heap.IsTuple t1 us) (l2 : s.heap.IsTuple t2 vs) (ep : us[n1]? = some p) (eq : vs[n2]? = some q)
    (k : ∀ h', IsZip h' zp ti tu (rawInt s.heap.objs.size) → IsPair h' tu p q → h'.IsTupleIter j1 t1 (n1 + 1) → h'.IsTupleIter j2 t2 (n2 + 1) → IsPair h' s.heap.objs.size p q →
      (∀ b o, b ≠ zp → b ≠ tu → b ≠ j1 → b ≠ j2 → s.heap.get? b = some o → h'.get? b = some o) → Q (some (.ref s.heap.objs.size)) { s with heap := h' }) :
    wpAny (model prog w) A (pyNext (.ref zp)) Q E s := by
  have tz : s.TypeIs (.ref zp) "zip" := ⟨_, gz, rfl⟩
  unfold pyNext
  exact wpAny_bind (wpAny_attempt (wpAny_callSpecial?_slot (name := Str.ofString "__next__") tz F.slot_zip_next (wpAny_call_entry F.slot_zip_next tz F.entry_zip_next (zipT_item Ap gz gi gu w1 w2 l1 l2 ep eq fun h' a1 a2 a3 a4 a5 a6 => wpAny_pure (k h' a1 a2 a3 a4 a5 a6)) (F.args_zip_next_1 _))))
theorem pyNext_zipT_end {zp ti tu j1 j2 t1 t2 : Addr} {n1 n2 : Nat} {us : Array Value} {c d : Value} {Q : Option Value → Shared → Prop} (hh : A.handled = none) (Ap : ZipApart zp ti tu j1 j2 t1 t2)
    (gz : IsZip s.heap zp ti tu .none) (gi : IsPair s.heap ti (.ref j1) (.ref j2)) (gu : IsPair s.heap tu c d) (w1 : s.heap.IsTupleIter j1 t1 n1) (l1 : s.heap.IsTuple t1 us) (ep : us[n1]? = none)
    (k : ∀ h', (∀ b o, b ≠ zp → b ≠ tu → b ≠ j1 → b ≠ j2 → s.heap.get? b = some o → h'.get? b = some o) → Q none { s with heap := h' }) : wpAny (model prog w) A (pyNext (.ref zp)) Q E s := by
  have tz : s.TypeIs (.ref zp) "zip" := ⟨_, gz, rfl⟩
  unfold pyNext
  refine wpAny_bind (wpAny_attempt (wpAny_callSpecial?_slot (name := Str.ofString "__next__") tz F.slot_zip_next (wpAny_call_entry F.slot_zip_next tz F.entry_zip_next (zipT_end hh (n2 := n2) (vs := us) Ap gz gi gu w1 l1 ep fun h' e hk ge => ?_) (F.args_zip_next_1 _))))
  obtain ⟨o, ho, hc⟩ := ge
  exact wpAny_bind (wpAny_isInstance (T := "StopIteration") (b := true) ⟨o, ho, hc⟩ isSubtype_stop (wpAny_pure (k _ hk)))
abbrev zT1 (h : Heap) (t1 : Addr) : Heap := h.push { cls := .type "tuple_iterator", data := .fields #[.ref t1, .int 0 0] }
abbrev zT2 (h : Heap) (t1 t2 : Addr) : Heap := (zT1 h t1).push { cls := .type "tuple_iterator", data := .fields #[.ref t2, .int 0 0] }
abbrev zT3 (h : Heap) (t1 t2 : Addr) : Heap := (zT2 h t1 t2).push { cls := .type "tuple", data := .seq #[.ref h.objs.size, .ref (zT1 h t1).objs.size] }
abbrev zT4 (h : Heap) (t1 t2 : Addr) : Heap := (zT3 h t1 t2).push { cls := .type "tuple", data := .seq #[.none, .none] }
abbrev zT5 (h : Heap) (t1 t2 : Addr) : Heap := (zT4 h t1 t2).push { cls := .type "zip", data := .fields #[.none, .bool false, .bool false, .ref (zT2 h t1 t2).objs.size, .ref (zT3 h t1 t2).objs.size] }
theorem zipT_new (t1 t2 : Addr) (us vs : Array Value) :
    Meets (Builtin.«zip.__new__» ⟨[.type "zip", .ref t1, .ref t2], []⟩) (fun _ R s => s.heap.IsTuple t1 us ∧ s.heap.IsTuple t2 vs ∧
      R (.ok (.ret (.ref (zT4 s.heap t1 t2).objs.size))) { s with heap := zT5 s.heap t1 t2 }) :=
  .of_wp fun prog w A R s h => by
    obtain ⟨hp, g, d, tk, os⟩ := s; obtain ⟨l1, l2, h⟩ := h
    have hsub := sub_zip
    have L1 : Heap.IsTuple (Shared.heap ⟨hp, g, d, tk, os⟩) t1 us := l1
    have L2 : Heap.IsTuple (Shared.heap ⟨hp.push { cls := .type "tuple_iterator", data := .fields #[.ref t1, .int 0 0] }, g, d, tk, os⟩) t2 vs := let ⟨o, e, r⟩ := l2; ⟨o, Heap.get?_push_of_some _ e, r⟩
    wp_walk using wpAny_pyIter_tuple L1, wpAny_pyIter_tuple L2
    exact ⟨_, rfl, h⟩
theorem call_zipT {t1 t2 : Addr} {us vs : Array Value} {Q : Value → Shared → Prop} (l1 : s.heap.IsTuple t1 us) (l2 : s.heap.IsTuple t2 vs)
    (h : ∀ h', IsZip h' (s.heap.objs.size + 4) (s.heap.objs.size + 2) (s.heap.objs.size + 3) .none → IsPair h' (s.heap.objs.size + 2) (.ref s.heap.objs.size) (.ref (s.heap.objs.size + 1)) →
      IsPair h' (s.heap.objs.size + 3) .none .none → h'.IsTupleIter s.heap.objs.size t1 0 → h'.IsTupleIter (s.heap.objs.size + 1) t2 0 →
      (∀ c o, s.heap.get? c = some o → h'.get? c = some o) → Q (.ref (s.heap.objs.size + 4)) { s with heap := h' }) :
    wpAny (model prog w) A (call (.type "zip") [.ref t1, .ref t2]) Q E s := by
  refine callType_new F.called_zip (by decide) (F.typeCall_zip_2 _ _) (F.newCall_zip_2 _ _) (fun obj => F.args_object_init_3 obj _ _) F.entry_zip_new (zipT_new t1 t2 us vs) ⟨l1, l2, ?_⟩
  have q1 : (zT1 s.heap t1).objs.size = s.heap.objs.size + 1 := Heap.size_push ..
  have q2 : (zT2 s.heap t1 t2).objs.size = s.heap.objs.size + 2 := by rw [Heap.size_push, q1]
  have q3 : (zT3 s.heap t1 t2).objs.size = s.heap.objs.size + 3 := by rw [Heap.size_push, q2]
  have q4 : (zT4 s.heap t1 t2).objs.size = s.heap.objs.size + 4 := by rw [Heap.size_push, q3]
  have r5 : (zT5 s.heap t1 t2).get? (zT4 s.heap t1 t2).objs.size = some _ := Heap.get?_push_size _ rfl
  have r4 : (zT5 s.heap t1 t2).get? (zT3 s.heap t1 t2).objs.size = some _ := Heap.get?_push_of_some _ (Heap.get?_push_size _ rfl)
  have r3 : (zT5 s.heap t1 t2).get? (zT2 s.heap t1 t2).objs.size = some _ := Heap.get?_push_of_some _ (Heap.get?_push_of_some _ (Heap.get?_push_size _ rfl))
  have r2 : (zT5 s.heap t1 t2).get? (zT1 s.heap t1).objs.size = some _ := Heap.get?_push_of_some _ (Heap.get?_push_of_some _ (Heap.get?_push_of_some _ (Heap.get?_push_size _ rfl)))
  have r1 : (zT5 s.heap t1 t2).get? s.heap.objs.size = some _ := Heap.get?_push_of_some _ (Heap.get?_push_of_some _ (Heap.get?_push_of_some _ (Heap.get?_push_of_some _ (Heap.get?_push_size _ rfl))))
  show _ ∧ _
  rw [q2, q3, q4] at r5
  rw [q1, q2] at r3
  rw [q3] at r4
  rw [q1] at r2
  rw [q4]
  exact ⟨⟨_, r5, rfl⟩, h _ r5 r3 r4 ⟨_, r1, rfl, rfl⟩ ⟨_, r2, rfl, rfl⟩ fun b o x => Heap.get?_push_of_some _ (Heap.get?_push_of_some _ (Heap.get?_push_of_some _ (Heap.get?_push_of_some _ (Heap.get?_push_of_some _ x))))⟩
end
def ItzT (K : PySem.W.Frag) (a b : Addr) (xs ys : List V) : It :=
  ⟨fun i H => SqT K H a xs ∧ SqT K H b ys ∧ i < xs.length ∧ i < ys.length,
   fun i H x H' => ∃ p u v, H p = none ∧ x = .ref p ∧ H' = upd H p (.tup [u, v]) ∧ xs[i]? = some u ∧ ys[i]? = some v,
   fun i H => SqT K H a xs ∧ xs.length ≤ i⟩
theorem turn_zipT {P : Program} {w : World} {K : PySem.W.Frag} {elts : List Expr} {k1 : Nat} {pos : Pos} (a b z : Addr) (xs ys : List V) (TI TO i1 i2 : Addr) (Ap : ZipApart z TI TO i1 i2 a b) :
    Turn P w K (.Tuple elts k1 pos) (ItzT K a b xs ys) [z, TI, TO, i1, i2] z (fun i h => IsZip h z TI TO .none ∧ IsPair h TI (.ref i1) (.ref i2) ∧ (∃ u v, IsPair h TO u v) ∧ h.IsTupleIter i1 a i ∧ h.IsTupleIter i2 b i) where
  mem := by simp
  obj := fun i h st c hc => by
    obtain ⟨hz, hTI, ⟨u, v, hTO⟩, h1, h2⟩ := st
    simp only [List.mem_cons, List.mem_nil_iff, or_false] at hc
    rcases hc with rfl | rfl | rfl | rfl | rfl
    · exact ⟨_, hz, fun v z => by have z' : Data.fields _ = Data.cell v := z; cases z'⟩
    · exact ⟨_, hTI, fun v z => by have z' : Data.seq _ _ = Data.cell v := z; cases z'⟩
    · exact ⟨_, hTO, fun v z => by have z' : Data.seq _ _ = Data.cell v := z; cases z'⟩
    · obtain ⟨o, e, c, d⟩ := h1; exact ⟨o, e, fun v z => by rw [d] at z; cases z⟩
    · obtain ⟨o, e, c, d⟩ := h2; exact ⟨o, e, fun v z => by rw [d] at z; cases z⟩
  keep := fun i h h' st k => by
    obtain ⟨hz, hTI, ⟨u, v, hTO⟩, h1, h2⟩ := st
    exact ⟨k z (by simp) _ hz, k TI (by simp) _ hTI, ⟨u, v, k TO (by simp) _ hTO⟩, h1.at fun o e => k i1 (by simp) o e, h2.at fun o e => k i2 (by simp) o e⟩
  item := by
    intro X hP hw hK hc i pins s σ H E I hf st hg
    subst hP hw hK
    obtain ⟨hz, hTI, ⟨u0, v0, hTO⟩, h1, h2⟩ := st
    obtain ⟨qa, qb, lx, ly⟩ := hg
    obtain ⟨its, rv, p, _⟩ := I.tuple qa
    obtain ⟨its2, rv2, p2, _⟩ := I.tuple qb
    have ex : xs[i]? = some xs[i] := List.getElem?_eq_getElem lx
    have ey : ys[i]? = some ys[i] := List.getElem?_eq_getElem ly
    obtain ⟨u, hu, ru⟩ := rv.get ex
    obtain ⟨v, hv, rv'⟩ := rv2.get ey
    refine pyNext_zipT_item Ap hz hTI hTO h1 h2 p p2 (p := u) (q := v) (by simpa using hu) (by simpa using hv) fun h' a1 a2 a3 a4 a5 hk => ?_
    refine ⟨.ref s.heap.objs.size, rfl, wpAny_letOwnedTupleGo_zip (s := { s with heap := h' }) a1 fun h'' hz' hs' => ?_⟩
    have lt : ∀ {c o}, s.heap.get? c = some o → c ≠ s.heap.objs.size := fun e => Nat.ne_of_lt (Heap.lt_size e)
    have e5 : IsPair h'' s.heap.objs.size u v := (hs'.2 _ (Ne.symm (lt hz))).trans a5
    have hch : ∀ c ∈ [z, TO, i1, i2], FpOk X pins H c := fun c hc => hf c (by
      simp only [List.mem_cons, List.mem_nil_iff, or_false] at hc ⊢
      rcases hc with rfl | rfl | rfl | rfl <;> simp)
    have I2 : Inv X pins σ (upd H s.heap.objs.size (.tup [xs[i], ys[i]])) { s with heap := h'', toks := s.toks } := by
      refine I.turnedNew (ch := [z, TO, i1, i2]) (fun c o hc e => ?_) hch (Nat.le_refl _) ⟨by show 2 ≤ sizeLine; decide, [u, v], .cons ru (.cons rv' .nil), ⟨_, e5, rfl, _, rfl⟩⟩
      simp only [List.mem_cons, List.mem_nil_iff, or_false, not_or] at hc
      exact (hs'.2 c hc.1).trans (hk c o hc.1 hc.2.1 hc.2.2.1 hc.2.2.2 e)
    have hfr : ∀ c ∈ [z, TI, TO, i1, i2], upd H s.heap.objs.size (.tup [xs[i], ys[i]]) c = none := fun c hc => by
      have hc2 := hf c hc
      have : c ≠ s.heap.objs.size := by
        simp only [List.mem_cons, List.mem_nil_iff, or_false] at hc
        rcases hc with rfl | rfl | rfl | rfl | rfl
        · exact lt hz
        · exact lt hTI
        · exact lt hTO
        · obtain ⟨o, e, _⟩ := h1; exact lt e
        · obtain ⟨o, e, _⟩ := h2; exact lt e
      rw [upd_ne this]; exact hc2.1
    exact ⟨.ref s.heap.objs.size, _, I2, rfl, ⟨s.heap.objs.size, _, _, I.fresh, rfl, rfl, ex, ey⟩, ⟨hz', hs'.extBut _ _ Ap.TIz (hk _ _ Ap.TIz Ap.TITO Ap.TIi1 Ap.TIi2 hTI), ⟨_, _, hs'.extBut _ _ Ap.TOz a2⟩, a3.extBut hs'.extBut Ap.i1z, a4.extBut hs'.extBut Ap.i2z⟩, hfr⟩
  done := by
    intro X hP hw hK hc i pins s σ H E I hf st hg
    subst hP hw hK
    obtain ⟨hz, hTI, ⟨u0, v0, hTO⟩, h1, h2⟩ := st
    obtain ⟨qa, hl⟩ := hg
    obtain ⟨its, rv, p, _⟩ := I.tuple qa
    have l1 := rv.length
    have hch : ∀ c ∈ [z, TO, i1, i2], FpOk X pins H c := fun c hc => hf c (by
      simp only [List.mem_cons, List.mem_nil_iff, or_false] at hc ⊢
      rcases hc with rfl | rfl | rfl | rfl <;> simp)
    refine pyNext_zipT_end (n2 := 0) (I.ok.hd hc) Ap hz hTI hTO h1 p (by simp; omega) fun h' hk => ⟨rfl, I.turnedL (t' := s.toks) (ch := [z, TO, i1, i2]) (fun c o hc e => ?_) hch⟩
    simp only [List.mem_cons, List.mem_nil_iff, or_false, not_or] at hc
    exact hk c o hc.1 hc.2.1 hc.2.2.1 hc.2.2.2 e
  self := fun _ _ _ _ _ st h => wpAny_pyIter_zip st.1 h
section
variable {X : Cx} {elts : List Expr} {k1 : Nat} {tpos : Pos}
def iZipT (K : PySem.W.Frag) (ta : TA) : TI := fun σ H R => ta σ H fun vs H1 => ∃ a b xs ys, vs = [.ref a, .ref b] ∧ SqT K H1 a xs ∧ SqT K H1 b ys ∧ R (ItzT K a b xs ys) H1
theorem pi_zipT {e1 e2 : Expr} {ta : TA} {p pos : Pos} (hg : Gl X "zip") (hm : X.mg "zip" = none) (ha : PA X [e1, e2] ta) (hs : starEach [e1, e2] X.env = [(false, eval e1 X.env), (false, eval e2 X.env)] := by rfl) (hs2 : starEach [e2] X.env = [(false, eval e2 X.env)] := by rfl) :
    PI X (.Tuple elts k1 tpos) (.Call (.Name "zip" p) [e1, e2] [] pos) (iZipT X.K ta) := by
  intro pins s σ H R I h
  refine Call_ (ld_blt I hg hm PyProof.Rows.boot_zip (PyProof.Rows.callWith_type1 (thn (ha pos pins s σ H _ I h) fun us s1 ⟨vs, H1, I1, r1, q1⟩ => ?_) (by rw [hs, hs2]) (by rw [hs2]; rfl)))
  obtain ⟨a, b, xs, ys, e, qa, qb, q⟩ := q1
  subst e
  obtain ⟨u1, u2, e3, r3, r4⟩ := r1.two
  subst e3
  cases (show u1 = Value.ref a from r3)
  cases (show u2 = Value.ref b from r4)
  obtain ⟨its, rv, pl, _⟩ := I1.tuple qa
  obtain ⟨its2, rv2, pl2, _⟩ := I1.tuple qb
  have la : @LT.lt Nat _ a s1.heap.objs.size := by obtain ⟨o, e, _⟩ := pl; exact Heap.lt_size e
  have lb : @LT.lt Nat _ b s1.heap.objs.size := by obtain ⟨o, e, _⟩ := pl2; exact Heap.lt_size e
  refine call_zipT pl pl2 fun h' hz hTI hTO h1 h2 hk => ?_
  refine wpAny_pyIter_zip hz ?_
  have I2 : Inv X pins σ H1 { s1 with heap := h' } := I1.kept (t' := s1.toks) hk
  refine ⟨s1.heap.objs.size + 4, [s1.heap.objs.size + 4, s1.heap.objs.size + 2, s1.heap.objs.size + 3, s1.heap.objs.size, s1.heap.objs.size + 1], _, _, H1, rfl, I2,
    turn_zipT a b (s1.heap.objs.size + 4) xs ys (s1.heap.objs.size + 2) (s1.heap.objs.size + 3) s1.heap.objs.size (s1.heap.objs.size + 1) ?_, ⟨hz, hTI, ⟨_, _, hTO⟩, h1, h2⟩, fun c hc => ?_, q⟩
  · constructor <;> (refine nne ?_; omega)
  · have hle : @LE.le Nat _ s1.heap.objs.size c := by
      simp only [List.mem_cons, List.mem_nil_iff, or_false] at hc
      rcases hc with rfl | rfl | rfl | rfl | rfl <;> omega
    exact I1.fpOk hle (I1.hok.fresh hle)
end
theorem c2_zipT {K : PySem.W.Frag} {a b acc : Addr} {xs zs : List V} {tt : TT} {te : TE} {cs : St} {H1 : Hp} {Q : Hp → Prop} (hlen : xs.length = zs.length) (Pv : Nat → List V → Hp → Prop) (h0 : Pv 0 [] (upd H1 acc (.lst []))) (hl : ∀ i ys H, i ≤ xs.length → Pv i ys H → SqT K H a xs ∧ SqT K H b zs)
    (hs : ∀ i u v p ys H, i < xs.length → xs[i]? = some u → zs[i]? = some v → H p = none → Pv i ys H → tt (some u :: some v :: cs) (upd H p (.tup [u, v])) (CKon xs.length Pv acc i te (some u :: some v :: cs))) (hd : ∀ ys H, Pv xs.length ys H → Q H) : CGoal (ItzT K a b xs zs) 2 cs (gTup K 2 (gCons (gName 0) (gCons (gName 1) gNil))) tt te H1 acc Q := by
  refine compG_drive (N := xs.length) Pv h0 (fun ys H p => ?_) fun i ys H hi p => ?_
  · obtain ⟨qa, qb⟩ := hl _ _ _ (Nat.le_refl _) p
    exact ⟨⟨qa, Nat.le_refl _⟩, hd ys H p⟩
  · obtain ⟨qa, qb⟩ := hl _ _ _ (Nat.le_of_lt hi) p
    refine ⟨⟨qa, qb, hi, by omega⟩, ?_⟩
    rintro x H3 ⟨q, u, v, hq, rfl, rfl, hu, hv⟩ as has
    obtain ⟨a0, a1, rfl⟩ := len_two has
    exact ⟨q, [u, v], rfl, SqT.of upd_same, rfl, u, [v], rfl, v, [], rfl, rfl, ⟨[some u, some v], rfl, rfl⟩, hs i u v q ys _ hi hu hv hq p⟩
end L2
namespace L2
open PySem PySem.Spec PyProof.Rows
section
variable {prog : Program} {w : World} {A : Around} {E : Value → Shared → Prop} {s : Shared}
theorem lri_no_len : typeLookup (.type "list_reverseiterator") "__len__" = pure Option.none := by rw [typeLookup_type, builtinLookup_eq_fast]; kernel_rfl
theorem slot_lri_hint : Slot "list_reverseiterator" "__length_hint__" "list_reverseiterator.__length_hint__" :=
  .of (owner := "list_reverseiterator") (n := "__length_hint__") (by rw [typeLookup_type, builtinLookup_eq_fast]; kernel_rfl) (by decide +kernel) (by decide +kernel) (by decide +kernel)
    (by first | exact .inl (by decide +kernel) | exact .inr (by decide +kernel)) (by rw [isSubtype_type]; kernel_rfl)
theorem hint_rev {r l : Addr} {i : Int} {Q : Bool → Shared → Prop} (hr : s.heap.IsRevIter r l i) (h : Q false s) : wpAny (model prog w) A (Builtin.List.listLengthHint (.ref r)) Q E s := by
  unfold Builtin.List.listLengthHint
  refine wpAny_bind (wpAny_specialOf hr.typeIs lri_no_len ?_)
  show wpAny _ A (specialOf (Value.ref r) (Str.ofString "__length_hint__") >>= _) _ _ _
  refine wpAny_bind (wpAny_specialOf hr.typeIs slot_lri_hint.lookup ?_)
  generalize hid : ("list_reverseiterator.__length_hint__" : String) = id0
  wp_delta
  rw [show splitId id0 = some ("list_reverseiterator", "__length_hint__") from by subst hid; decide +kernel]
  subst hid
  refine wpAny_bind (wpAny_isInstance (T := "list_reverseiterator") (b := true) hr.typeIs (by rw [isSubtype_type]; kernel_rfl) ?_)
  refine wpAny_ite_split (fun hab => absurd hab (by decide)) (fun _ => ?_)
  refine wpAny_ite_split (fun _ => ?_) (fun hab => absurd (by decide +kernel) hab)
  refine wpAny_ite_split (fun hab => absurd hab (by decide +kernel)) (fun _ => ?_)
  exact wpAny_pure h
theorem extend_rev {R : Result → Shared → Prop} {r l : Addr} {items : Array Value} (hh : A.handled = none) (hr : s.heap.IsRevIter r l ((items.size : Int) - 1)) (hl : s.heap.IsList l items) (hne : l ≠ r) (hz : items.size ≤ sizeLine)
    (S : Addr) (res : Value) (c₀ : Nat) (hSr : S ≠ r) (hSl : S ≠ l) (hS : s.heap.get? S = some { cls := .type "list", data := .seq #[] c₀ })
    (hR : ∀ h' tk acc' c', (∀ b o, b ≠ S → b ≠ r → s.heap.get? b = some o → h'.get? b = some o) → h'.get? S = some { cls := .type "list", dict := none, data := .seq acc' c', slots := #[] } →
      ItemsOf (fun i v => items[items.size - 1 - i]? = some v) acc' items.size → R (.ok (.ret res)) { s with heap := h', toks := tk }) :
    wpAny (model prog w) A.in1 (Builtin.List.listExtendWith (.ref S) (.ref r) res)
      (fun fin s' => match fin with | .done f => R (.ok f) s' | .again c' => c'.quiet = true ∧ codeAny (model prog w) A c' R s') (fun e s' => R (.error e) s') s := by
  have W := (Walks.listRev (prog := prog) (w := w) (A := A.in1) hh r l hne items).toS
  unfold Builtin.List.listExtendWith
  refine wpAny_bind (wpAny_typeOf hr.typeIs ?_)
  have h1 : Builtin.List.listSameRef (.ref S) (.ref r) = false := by simp [Builtin.List.listSameRef, hSr]
  have h2 : (Value.type "list_reverseiterator" == Value.type "list") = false := by decide
  have h3 : (Value.type "list_reverseiterator" == Value.type "tuple") = false := by decide
  simp only [h1, h2, h3, Bool.or_false, Bool.false_eq_true, if_false]
  refine wpAny_bind (wpAny_pyIter_revIter hr ?_)
  refine wpAny_bind (wpAny_holding (hint_rev hr ?_))
  refine wpAny_ite_split (fun hab => absurd hab (by decide +kernel)) (fun _ => wpAny_pure ⟨plainId_quiet F.plain_extend_loop _, ?_⟩)
  have e0 : (items.size : Int) - 1 - ((0 : Nat) : Int) = (items.size : Int) - 1 := by omega
  refine codeAny_extend_loopS W hz S (by simp [hSr, hSl]) res items.size 0 s #[] c₀ rfl (Nat.zero_le _) ⟨Nat.zero_le _, by rw [e0]; exact hr, hl⟩ hS (ItemsOf.nil _) fun s' acc' c' hm hS' hacc => ?_
  rw [Moved.eq_with hm]
  refine hR s'.heap s'.toks acc' c' (fun b o hb hb2 e => hm.heap b o (fun hmem => ?_) e) hS' hacc
  rcases List.mem_cons.mp hmem with e' | hmem
  · exact hb e'
  · exact hb2 (List.mem_singleton.mp hmem)
theorem list_rev {Q : Value → Shared → Prop} {r l : Addr} {items : Array Value} (hh : A.handled = none) (hr : s.heap.IsRevIter r l ((items.size : Int) - 1)) (hl : s.heap.IsList l items) (hne : l ≠ r) (hz : items.size ≤ sizeLine)
    (hQ : ∀ h' tk acc' c', (∀ b o, b ≠ r → s.heap.get? b = some o → h'.get? b = some o) →
      h'.get? s.heap.objs.size = some { cls := .type "list", dict := none, data := .seq acc' c', slots := #[] } → ItemsOf (fun i v => items[items.size - 1 - i]? = some v) acc' items.size → Q (.ref s.heap.objs.size) { s with heap := h', toks := tk }) :
    wpAny (model prog w) A (call (.type "list") [.ref r]) Q E s := by
  refine callType_codes (Q₁ := fun obj s₁ => obj = .ref s.heap.objs.size ∧ s₁ = { s with heap := s.heap.push { cls := .type "list", data := .seq #[] } }) F.called_list (F.typeCall_list_1 _) F.entry_list_init
    (code_list_new _ ⟨rfl, rfl⟩) fun obj s₁ h₁ => ?_
  obtain ⟨rfl, rfl⟩ := h₁
  have hS : (s.heap.push { cls := .type "list", data := .seq #[] }).get? s.heap.objs.size = some { cls := .type "list", data := .seq #[] } := Heap.get?_push_size _ rfl
  refine ⟨⟨_, hS, rfl⟩, F.args_list_init_2 _ _, ?_⟩
  obtain ⟨ol, hol, hlr⟩ := id hl
  obtain ⟨orr, horr, _⟩ := id hr
  have hSl : s.heap.objs.size ≠ l := (Nat.ne_of_lt (Heap.lt_size hol)).symm
  have hSr : s.heap.objs.size ≠ r := (Nat.ne_of_lt (Heap.lt_size horr)).symm
  show wpAny _ _ (do let old ← Builtin.List.listItems (.ref s.heap.objs.size); Builtin.List.listUpdate (.ref s.heap.objs.size) (fun _ => #[]); letGo old.toList.reverse; Builtin.List.listExtendWith (.ref s.heap.objs.size) (.ref r) .none) _ _ _
  refine wpAny_bind ?_
  unfold Builtin.List.listItems
  refine wpAny_bind (wpAny_seqItems hS rfl (wpAny_pure ?_))
  show wpAny _ _ (updateSeq s.heap.objs.size (fun _ => #[]) >>= fun _ => letGo (#[] : Array Value).toList.reverse >>= fun _ => Builtin.List.listExtendWith (.ref s.heap.objs.size) (.ref r) .none) _ _ _
  refine wpAny_bind (wpAny_updateSeq hS rfl ?_)
  have hS₂ := Heap.get?_update_self (Obj.mapSeq (fun _ => (#[] : Array Value))) hS rfl
  have oth : ∀ b o, s.heap.get? b = some o → ((s.heap.push { cls := .type "list", data := .seq #[] }).update s.heap.objs.size (Obj.mapSeq (fun _ => (#[] : Array Value)))).get? b = some o :=
    fun b o e => (Heap.get?_update_other _ _ (Nat.ne_of_lt (Heap.lt_size e)).symm).trans (Heap.get?_push_of_some _ e)
  refine wpAny_bind (wpAny_letGo ?_)
  refine extend_rev (A := A.in1) hh (hr.at (oth r)) (hl.at (oth l)) hne hz s.heap.objs.size .none _ hSr hSl hS₂ fun h' tk acc' c' hk hS' hacc => ?_
  exact ⟨rfl, hQ h' tk acc' c' (fun b o hb e => hk b o (Nat.ne_of_lt (Heap.lt_size e)) hb (oth b o e)) hS' hacc⟩
end
section
variable {X : Cx} {e : Expr} {te : TE} {p pos p2 pos2 : Pos}
def tRevL (K : PySem.W.Frag) (te : TE) : TE := fun σ H Q => te σ H fun v H1 => ∃ (l : Addr) (ys : List V), v = .ref l ∧ SqL K H1 l ys ∧ ys.length ≤ sizeLine ∧ ∀ d, H1 d = none → Q (.ref d) (upd H1 d (.lst ys.reverse))
theorem vals_rev : ∀ {ys : List V} {us : List Value}, Vals ys us → Vals ys.reverse us.reverse
  | [], _, .nil => .nil
  | y :: ys, _, .cons r rr => by
    rw [List.reverse_cons, List.reverse_cons]
    exact (vals_rev rr).append (.cons r .nil)
theorem items_rev {its : List Value} {acc : Array Value} (h : ItemsOf (fun i v => its.toArray[its.toArray.size - 1 - i]? = some v) acc its.toArray.size) : acc = its.reverse.toArray := by
  obtain ⟨h1, h2⟩ := h
  apply Array.ext'
  apply List.ext_getElem?
  intro i
  by_cases hi : i < acc.size
  · have e1 := h2 i acc[i] (Array.getElem?_eq_getElem hi)
    have hi' : i < its.length := by rw [h1] at hi; simpa using hi
    simp only [List.size_toArray, List.getElem?_toArray] at e1
    rw [Array.getElem?_toList, Array.getElem?_eq_getElem hi]
    show some acc[i] = its.reverse[i]?
    rw [List.getElem?_reverse hi', e1]
  · have hi' : ¬ i < its.length := by rw [h1] at hi; simpa using hi
    rw [Array.getElem?_toList, Array.getElem?_eq_none (by omega)]
    show Option.none = its.reverse[i]?
    rw [List.getElem?_eq_none (by rw [List.length_reverse]; omega)]
theorem pe_listRev (hc : X.calm = true) (he : PE X e te) (hg : Gl X "list" := by rfl) (hm : X.mg "list" = Option.none) (hg2 : Gl X "reversed" := by rfl) (hm2 : X.mg "reversed" = Option.none)
    (hs1 : starEach [e] X.env = [(false, eval e X.env)] := by rfl) (hs2 : starEach [Expr.Call (.Name "reversed" p2) [e] [] pos2] X.env = [(false, eval (Expr.Call (.Name "reversed" p2) [e] [] pos2) X.env)] := by rfl) :
    PE X (.Call (.Name "list" p) [.Call (.Name "reversed" p2) [e] [] pos2] [] pos) (tRevL X.K te) := by
  intro pins s σ H Q I h
  refine wpAny_Call_Name_kw (ld_blt I hg hm boot_list ?_)
  refine PyProof.Rows.callWith_type1 ?_ hs2 rfl
  rw [hs2]
  show wpAny _ _ (spliced ((false, eval _ X.env) :: [])) _ _ s
  refine Calls.spliced_cons ?_
  refine wpAny_Call_Name_kw (ld_blt I hg2 hm2 boot_reversed ?_)
  refine PyProof.Rows.callWith_type1 ?_ hs1 rfl
  rw [hs1]
  show wpAny _ _ (spliced ((false, eval _ X.env) :: [])) _ _ s
  refine Calls.spliced_cons (thn (he pins s σ H _ I h) fun u s1 ⟨v, H1, I1, r1, q1⟩ => ?_)
  refine Calls.spliced_nil ?_
  obtain ⟨l, ys, rfl, hl, hz, q⟩ := q1
  obtain rfl : u = Value.ref l := r1
  obtain ⟨its, rv, pl, _⟩ := I1.list hl
  have hlen := rv.length
  have hL : s1.heap.IsList l its.toArray := pl.isList
  refine call_reversed_list hL ?_
  refine Calls.spliced_nil ?_
  obtain ⟨ol, hol, _⟩ := id hL
  have hlt := Heap.lt_size hol
  have kp : ∀ b o, s1.heap.get? b = some o → (s1.heap.push (revObj l ((its.toArray.size : Int) - 1))).get? b = some o := fun b o e => Heap.get?_push_of_some _ e
  refine list_rev (I1.ok.hd hc) (r := s1.heap.objs.size) ⟨_, Heap.get?_push_size _ rfl, rfl, rfl⟩ (hL.at (kp l)) (Nat.ne_of_lt hlt) (by rw [List.size_toArray]; omega) fun h' tk acc' c' k hS' hacc => ?_
  have ea := items_rev hacc
  have hge : s1.heap.objs.size ≤ (s1.heap.push (revObj l ((its.toArray.size : Int) - 1))).objs.size := by
    rw [Heap.size_push]; omega
  refine ⟨.ref _, _, I1.laid (t' := tk) (fun b o e => k b o (Nat.ne_of_lt (Heap.lt_size e)) (kp b o e)) hge (show ObjOk X.prog X.w _ h' _ (.lst ys.reverse) from ⟨by rw [List.length_reverse]; exact hz, its.reverse, c', vals_rev rv, by rw [← ea]; exact hS'⟩), rfl, q _ (I1.hok.fresh hge)⟩
theorem call_sumG (hc : X.calm = true) : CallR X (.builtin "sum") (fun xs H Q => ∃ (l : Addr) (ns : List Int), xs = [.ref l] ∧ SqL X.K H l (ns.map V.int) ∧ Q (.int ns.sum) H) := by
  intro pins s σ H xs us Q I r h
  obtain ⟨l, ns, rfl, hl, q⟩ := h
  cases r with
  | cons r rr =>
    cases rr
    obtain rfl : _ = Value.ref l := r
    obtain ⟨its, rv, p, _⟩ := I.list hl
    obtain ⟨ys, rfl, e2⟩ := vals_items rv
    have hL : s.heap.IsList l (intItems ys.toArray) := by rw [items_arr]; exact p.isList
    refine sum_intListG (I.ok.hd hc) hL fun h' tk t' hk => ⟨.int ns.sum, H, I.kept (t' := tk) hk, ⟨t', ?_⟩, q⟩
    rw [pre_sum, e2, List.take_of_length_le]
    rw [← e2]; simp
theorem foldl_one (c : Nat) : ∀ (k : Nat) (acc : List Nat), List.foldl (fun x1 x2 => x1 ++ x2) acc.toArray (List.replicate k (S [c]).cps) = (acc ++ List.replicate k c).toArray
  | 0, acc => by simp
  | k + 1, acc => by
    have e : acc.toArray ++ (S [c]).cps = (acc ++ [c]).toArray := by simp [S]
    rw [List.replicate_succ, List.foldl_cons, e, foldl_one c k (acc ++ [c]), List.replicate_succ]
    simp
theorem op_mul_one : OpR X (binaryOp .Mult) (fun x y H Q => ∃ (c : Nat) (n : Int), x = .str (S [c]) ∧ y = .int n ∧ 1 ≤ n ∧ n ≤ 100 ∧ Q (.str (S (List.replicate n.toNat c))) H) := by
  intro pins s σ H x y v u Q I rx ry h
  obtain ⟨c, n, rfl, rfl, h1, h2, q⟩ := h
  obtain ⟨t, rfl⟩ := rx
  obtain ⟨t', rfl⟩ := ry
  have hl : (S [c]).length = 1 := S_len _
  refine P.mul_str ?_ (fun _ _ => ?_) (fun _ _ => ?_) ?_
  · rw [decide_eq_false (by omega), decide_eq_false (by omega)]; rfl
  · rw [hl]
    have : (1 : Int) ≤ (2 ^ 63 - 1) / n := (Int.le_ediv_iff_mul_le (by omega)).mpr (by omega)
    show ¬ (1 : Int) > _
    omega
  · rw [hl, Nat.one_mul]
    have hh : n.toNat ≤ 100 := by omega
    unfold Builtin.Str.tooLong
    simp only [decide_eq_false_iff_not]
    rw [sizeLine_eq]
    omega
  · rw [if_neg (by omega)]
    by_cases hn : n = 1
    · subst hn
      rw [if_pos (by simp)]
      exact ⟨.str (S [c]), H, I, ⟨_, rfl⟩, q⟩
    · rw [if_neg (by simp [hn, hl])]
      have e := foldl_one c n.toNat []
      rw [List.nil_append] at e
      refine ⟨?_, .str _, H, I.tok _, ⟨_, rfl⟩, ?_⟩
      · rw [e]; show (List.replicate n.toNat c).toArray.size ≤ _
        simp only [List.size_toArray, List.length_replicate]
        rw [sizeLine_eq]; omega
      · rw [e]; exact q
end
end L2
namespace TM
inductive Tree (α : Type) where
  | node (name : α) (mark : Int) (bs : List (Tree α))
variable {α : Type}
def Tree.bs : Tree α → List (Tree α)
  | .node _ _ bs => bs
def atT : Tree α → List Int → Option (Tree α)
  | t, [] => some t
  | t, i :: r => if 0 ≤ i then (match t.bs[i.toNat]? with
    | some b => atT b r
    | none => none) else none
theorem atT_nil (t : Tree α) : atT t [] = some t := by cases t; rfl
theorem atT_cons (t : Tree α) (i : Int) (r : List Int) : atT t (i :: r) = if 0 ≤ i then (match t.bs[i.toNat]? with
    | some b => atT b r
    | none => none) else none := by cases t; rfl
structure Rows (α : Type) where
  n : Nat
  nm : Nat → α
  mr : Nat → Int
  up : Nat → Nat
structure Rows.Ok (R : Rows α) : Prop where
  pos : 0 < R.n
  up0 : R.up 0 = 0
  upk : ∀ k, 0 < k → R.up k < k
variable {R : Rows α}
section
variable {K : Nat → List Int} {B : Nat → Tree α} {o0 : Tree α}
def it (R : Rows α) : Nat → Nat → Nat
  | 0, s => s
  | j + 1, s => R.up (it R j s)
variable {B' : Nat → Tree α} {o : Tree α} {s : Nat}
end
end TM
namespace L2
open PySem PySem.Spec PyProof.Rows TM
mutual
inductive TrV (K : PySem.W.Frag) (H : Hp) : V → Tree Str → Prop where
  | mk {a b : Addr} {vs : List V} {ts : List (Tree Str)} {name : Str} {mark : Int} : SqT K H a [.str name, .int mark, .ref b] → SqT K H b vs → TrAll K H vs ts → vs.length ≤ 1000 → TrV K H (.ref a) (.node name mark ts)
inductive TrAll (K : PySem.W.Frag) (H : Hp) : List V → List (Tree Str) → Prop where
  | nil : TrAll K H [] []
  | cons {v : V} {vs : List V} {t : Tree Str} {ts : List (Tree Str)} : TrV K H v t → TrAll K H vs ts → TrAll K H (v :: vs) (t :: ts)
end
mutual
theorem TrV.mono {K : PySem.W.Frag} {H H' : Hp} (k : ∀ a xs, SqT K H a xs → SqT K H' a xs) : ∀ {v : V} {t : Tree Str}, TrV K H v t → TrV K H' v t
  | _, _, .mk h1 h2 h3 h4 => .mk (k _ _ h1) (k _ _ h2) (TrAll.mono k h3) h4
theorem TrAll.mono {K : PySem.W.Frag} {H H' : Hp} (k : ∀ a xs, SqT K H a xs → SqT K H' a xs) : ∀ {vs : List V} {ts : List (Tree Str)}, TrAll K H vs ts → TrAll K H' vs ts
  | _, _, .nil => .nil
  | _, _, .cons h t => .cons (TrV.mono k h) (TrAll.mono k t)
end
theorem TrAll.length {K : PySem.W.Frag} {H : Hp} : ∀ {vs : List V} {ts : List (Tree Str)}, TrAll K H vs ts → vs.length = ts.length
  | _, _, .nil => rfl
  | _, _, .cons _ t => by rw [List.length_cons, List.length_cons, TrAll.length t]
theorem TrAll.get {K : PySem.W.Frag} {H : Hp} : ∀ {vs : List V} {ts : List (Tree Str)} {i : Nat} {t : Tree Str}, TrAll K H vs ts → ts[i]? = some t → ∃ v, vs[i]? = some v ∧ TrV K H v t
  | _, _, _, _, .nil, e => by simp at e
  | _, _, 0, _, .cons h _, e => by simp at e; subst e; exact ⟨_, rfl, h⟩
  | _, _, i + 1, t, .cons _ r, e => by
    obtain ⟨v, h1, h2⟩ := TrAll.get (i := i) (t := t) r (by simpa using e)
    exact ⟨v, by simpa using h1, h2⟩
theorem TrAll.append {K : PySem.W.Frag} {H : Hp} : ∀ {vs ws : List V} {ts us : List (Tree Str)}, TrAll K H vs ts → TrAll K H ws us → TrAll K H (vs ++ ws) (ts ++ us)
  | _, _, _, _, .nil, h => h
  | _, _, _, _, .cons a t, h => .cons a (TrAll.append t h)
theorem SqT.put {K : PySem.W.Frag} {H : Hp} {a d : Addr} {xs ys : List V} {o : HO} (h : SqT K H a xs) (hd : H d = some (.lst ys)) : SqT K (upd H d o) a xs := by
  rcases h with (h | ⟨ob, h⟩) | h
  · exact .inl (.inl (by rw [upd_ne (ne_of h hd (by intro z; cases z))]; exact h))
  · exact .inl (.inr ⟨ob, by rw [upd_ne (ne_of h hd (by intro z; cases z))]; exact h⟩)
  · exact .inr h
end L2
namespace TM
variable {α : Type}
mutual
def sz : Tree α → Nat
  | .node _ _ bs => 1 + szs bs
def szs : List (Tree α) → Nat
  | [] => 0
  | t :: r => sz t + szs r
end
mutual
def lv : Tree α → Nat
  | .node _ _ bs => 1 + lvs bs
def lvs : List (Tree α) → Nat
  | [] => 0
  | t :: r => max (lv t) (lvs r)
end
mutual
def pl : Tree α → List (List Int)
  | .node _ _ bs => [] :: pls 0 bs
def pls : Nat → List (Tree α) → List (List Int)
  | _, [] => []
  | i, t :: r => (pl t).map (List.cons (i : Int)) ++ pls (i + 1) r
end
theorem sz_bs (t : Tree α) : sz t = 1 + szs t.bs := by cases t; simp [sz, Tree.bs]
theorem lv_bs (t : Tree α) : lv t = 1 + lvs t.bs := by cases t; simp [lv, Tree.bs]
theorem szs_map : ∀ ts : List (Tree α), ((ts.map fun t => (sz t : Int)).sum) = (szs ts : Int)
  | [] => by simp [szs]
  | t :: r => by rw [List.map_cons, List.sum_cons, szs_map r]; simp [szs]
theorem sz_le {ts : List (Tree α)} {t : Tree α} (h : t ∈ ts) : sz t ≤ szs ts := by
  induction ts with
  | nil => cases h
  | cons u r ih =>
    simp only [szs]
    rcases List.mem_cons.mp h with rfl | h
    · omega
    · have := ih h; omega
theorem lv_le {ts : List (Tree α)} {t : Tree α} (h : t ∈ ts) : lv t ≤ lvs ts := by
  induction ts with
  | nil => cases h
  | cons u r ih =>
    simp only [lvs]
    rcases List.mem_cons.mp h with rfl | h
    · omega
    · have := ih h; omega
mutual
theorem lv_sz : ∀ t : Tree α, lv t ≤ sz t
  | .node _ _ bs => by simp only [lv, sz]; have := lvs_szs bs; omega
theorem lvs_szs : ∀ ts : List (Tree α), lvs ts ≤ szs ts
  | [] => by simp [lvs, szs]
  | t :: r => by simp only [lvs, szs]; have h1 := lv_sz t; have h2 := lvs_szs r; omega
end
mutual
theorem pl_len : ∀ t : Tree α, (pl t).length = sz t
  | .node _ _ bs => by simp only [pl, sz, List.length_cons]; rw [pls_len 0 bs]; omega
theorem pls_len : ∀ (i : Nat) (ts : List (Tree α)), (pls i ts).length = szs ts
  | _, [] => by simp [pls, szs]
  | i, t :: r => by simp only [pls, szs, List.length_append, List.length_map]; rw [pl_len t, pls_len (i + 1) r]
end
mutual
theorem mem_pl : ∀ (t : Tree α) (p : List Int), p ∈ pl t ↔ (atT t p).isSome = true
  | .node a m bs, p => by
    cases p with
    | nil => simp [pl, atT_nil]
    | cons i r =>
      rw [atT_cons]
      simp only [pl, List.mem_cons, reduceCtorEq, false_or]
      rw [mem_pls 0 bs i r]
      constructor
      · rintro ⟨k, t, hk, rfl, h⟩
        rw [if_pos (by omega)]
        have e : (((0 + k : Nat) : Int)).toNat = k := by omega
        show (match bs[(((0 + k : Nat) : Int)).toNat]? with | some b => atT b r | none => none).isSome = true
        rw [e, hk]; exact h
      · intro h
        by_cases hi : 0 ≤ i
        · rw [if_pos hi] at h
          have h' : (match bs[i.toNat]? with | some b => atT b r | none => none).isSome = true := h
          cases hk : bs[i.toNat]? with
          | none => rw [hk] at h'; cases h'
          | some b => rw [hk] at h'; exact ⟨i.toNat, b, hk, by omega, h'⟩
        · rw [if_neg hi] at h; cases h
theorem mem_pls : ∀ (j : Nat) (ts : List (Tree α)) (i : Int) (r : List Int), i :: r ∈ pls j ts ↔ ∃ k t, ts[k]? = some t ∧ i = ((j + k : Nat) : Int) ∧ (atT t r).isSome = true
  | j, [], i, r => by simp [pls]
  | j, u :: ts, i, r => by
    simp only [pls, List.mem_append, List.mem_map]
    rw [mem_pls (j + 1) ts i r]
    constructor
    · rintro (⟨q, hq, e⟩ | ⟨k, t, h1, h2, h3⟩)
      · simp only [List.cons.injEq] at e
        obtain ⟨e1, rfl⟩ := e
        exact ⟨0, u, rfl, by rw [← e1]; rfl, (mem_pl u q).mp hq⟩
      · exact ⟨k + 1, t, by simpa using h1, by rw [h2]; congr 1; omega, h3⟩
    · rintro ⟨k, t, h1, h2, h3⟩
      cases k with
      | zero =>
        have : u = t := by simpa using h1
        subst this
        exact .inl ⟨r, (mem_pl u r).mpr h3, by rw [h2]; rfl⟩
      | succ k => exact .inr ⟨k, t, by simpa using h1, by rw [h2]; congr 1; omega, h3⟩
end
mutual
theorem len_le : ∀ (t : Tree α) (p : List Int), p ∈ pl t → p.length < lv t
  | .node a m bs, p, h => by
    simp only [pl, List.mem_cons] at h
    simp only [lv]
    rcases h with rfl | h
    · simp; omega
    · have := lens_le 0 bs p h; omega
theorem lens_le : ∀ (j : Nat) (ts : List (Tree α)) (p : List Int), p ∈ pls j ts → p.length ≤ lvs ts
  | j, [], p, h => by simp [pls] at h
  | j, u :: ts, p, h => by
    simp only [pls, List.mem_append, List.mem_map] at h
    simp only [lvs]
    rcases h with ⟨q, hq, rfl⟩ | h
    · have := len_le u q hq; simp; omega
    · have := lens_le (j + 1) ts p h; omega
end
mutual
theorem len_max : ∀ t : Tree α, ∃ p ∈ pl t, p.length + 1 = lv t
  | .node a m bs => by
    simp only [pl, lv]
    rcases lens_max 0 bs with h | ⟨p, hp, e⟩
    · exact ⟨[], List.mem_cons_self, by rw [h]; rfl⟩
    · exact ⟨p, List.mem_cons_of_mem _ hp, by omega⟩
theorem lens_max : ∀ (j : Nat) (ts : List (Tree α)), lvs ts = 0 ∨ ∃ p ∈ pls j ts, p.length = lvs ts
  | j, [] => .inl (by simp [lvs])
  | j, u :: ts => by
    right
    simp only [pls, lvs]
    obtain ⟨p, hp, e⟩ := len_max u
    by_cases hc : lvs ts ≤ lv u
    · exact ⟨(j : Int) :: p, List.mem_append_left _ (List.mem_map.mpr ⟨p, hp, rfl⟩), by simp; omega⟩
    · rcases lens_max (j + 1) ts with h | ⟨q, hq, e2⟩
      · omega
      · exact ⟨q, List.mem_append_right _ hq, by omega⟩
end
open HT (lexLt)
mutual
theorem pl_asc : ∀ t : Tree α, (pl t).Pairwise fun x y => lexLt x y = true
  | .node a m bs => by
    simp only [pl]
    rw [List.pairwise_cons]
    refine ⟨fun y hy => ?_, pls_asc 0 bs⟩
    cases y with
    | nil => exact absurd hy (nil_pls 0 bs)
    | cons _ _ => rfl
theorem pls_asc : ∀ (j : Nat) (ts : List (Tree α)), (pls j ts).Pairwise fun x y => lexLt x y = true
  | j, [] => by simp [pls]
  | j, u :: ts => by
    simp only [pls]
    rw [List.pairwise_append]
    refine ⟨?_, pls_asc (j + 1) ts, fun x hx y hy => ?_⟩
    · rw [List.pairwise_map]
      refine (pl_asc u).imp fun {x y} h => ?_
      rw [HT.lexLt_cons, if_pos rfl]; exact h
    · obtain ⟨q, hq, rfl⟩ := List.mem_map.mp hx
      cases y with
      | nil => exact absurd hy (nil_pls (j + 1) ts)
      | cons i r =>
        obtain ⟨k, t, _, rfl, _⟩ := (mem_pls (j + 1) ts i r).mp hy
        rw [HT.lexLt_cons, if_neg (by omega)]
        exact decide_eq_true (by omega)
theorem nil_pls : ∀ (j : Nat) (ts : List (Tree α)), [] ∉ pls j ts
  | j, [] => by simp [pls]
  | j, u :: ts => by
    simp only [pls, List.mem_append, List.mem_map, not_or]
    exact ⟨(fun ⟨q, _, e⟩ => nomatch e), nil_pls (j + 1) ts⟩
end
variable {R : Rows α} {K : Nat → List Int} {B : Nat → Tree α} {o0 : Tree α}
end TM
namespace ST
open PySem TM
inductive Stp where
  | op : Stp
  | put : Str → Int → List Stp → Stp
mutual
def met : Stp → Stp → Stp
  | .op, _ => .op
  | .put _ _ _, .op => .op
  | .put n m ps, .put n' m' qs => if n = n' ∧ m = m' ∧ ps.length = qs.length then .put n m (mets ps qs) else .op
def mets : List Stp → List Stp → List Stp
  | [], _ => []
  | _ :: _, [] => []
  | p :: ps, q :: qs => met p q :: mets ps qs
end
mutual
def beg : Stp → Tree Str → Bool
  | .op, _ => true
  | .put n m ps, .node n' m' bs => decide (n = n' ∧ m = m' ∧ ps.length = bs.length) && begs ps bs
def begs : List Stp → List (Tree Str) → Bool
  | [], _ => true
  | _ :: _, [] => true
  | p :: ps, b :: bs => beg p b && begs ps bs
end
mutual
def opn : Stp → List (List Int)
  | .op => [[]]
  | .put _ _ ps => opns 0 ps
def opns : Nat → List Stp → List (List Int)
  | _, [] => []
  | i, p :: r => (opn p).map (List.cons (i : Int)) ++ opns (i + 1) r
end
mutual
def stOf : Tree Str → Stp
  | .node n m bs => .put n m (stOfs bs)
def stOfs : List (Tree Str) → List Stp
  | [] => []
  | b :: r => stOf b :: stOfs r
end
mutual
def sl : Stp → Nat
  | .op => 1
  | .put _ _ ps => 1 + sls ps
def sls : List Stp → Nat
  | [] => 0
  | p :: r => max (sl p) (sls r)
end
mutual
def SOk : Stp → Prop
  | .op => True
  | .put n _ ps => PyData.strOk n = true ∧ ps.length ≤ 4 ∧ SOks ps
def SOks : List Stp → Prop
  | [] => True
  | p :: r => SOk p ∧ SOks r
end
mutual
def TOk : Tree Str → Prop
  | .node n _ bs => PyData.strOk n = true ∧ bs.length ≤ 3 ∧ TOks bs
def TOks : List (Tree Str) → Prop
  | [] => True
  | b :: r => TOk b ∧ TOks r
end
theorem mets_len : ∀ ps qs : List Stp, ps.length = qs.length → (mets ps qs).length = ps.length
  | [], _, _ => by simp [mets]
  | _ :: _, [], h => by simp at h
  | p :: ps, q :: qs, h => by simp only [mets, List.length_cons]; rw [mets_len ps qs (by simpa using h)]
theorem mets_zip : ∀ ps qs : List Stp, mets ps qs = List.zipWith met ps qs
  | [], _ => by simp [mets]
  | _ :: _, [] => by simp [mets]
  | p :: ps, q :: qs => by simp only [mets, List.zipWith_cons_cons]; rw [mets_zip ps qs]
theorem stOfs_map : ∀ bs : List (Tree Str), stOfs bs = bs.map stOf
  | [] => rfl
  | b :: r => by simp only [stOfs, List.map_cons]; rw [stOfs_map r]
theorem sl_le {ps : List Stp} {p : Stp} (h : p ∈ ps) : sl p ≤ sls ps := by
  induction ps with
  | nil => cases h
  | cons u r ih =>
    simp only [sls]
    rcases List.mem_cons.mp h with rfl | h
    · omega
    · have := ih h; omega
theorem sl_pos (s : Stp) : 0 < sl s := by cases s <;> simp only [sl] <;> omega
theorem SOks_iff (ps : List Stp) : SOks ps ↔ ∀ p ∈ ps, SOk p := by
  induction ps with
  | nil => simp [SOks]
  | cons u r ih => simp only [SOks, ih, List.mem_cons, forall_eq_or_imp]
theorem TOks_iff (bs : List (Tree Str)) : TOks bs ↔ ∀ b ∈ bs, TOk b := by
  induction bs with
  | nil => simp [TOks]
  | cons u r ih => simp only [TOks, ih, List.mem_cons, forall_eq_or_imp]
mutual
theorem met_comm : ∀ a b : Stp, met a b = met b a
  | .op, .op => by simp [met]
  | .op, .put _ _ _ => by simp [met]
  | .put _ _ _, .op => by simp [met]
  | .put n m ps, .put n' m' qs => by
    simp only [met]
    by_cases h : n = n' ∧ m = m' ∧ ps.length = qs.length
    · obtain ⟨rfl, rfl, h3⟩ := h
      rw [if_pos ⟨rfl, rfl, h3⟩, if_pos ⟨rfl, rfl, h3.symm⟩, mets_comm ps qs]
    · rw [if_neg h, if_neg fun z => h ⟨z.1.symm, z.2.1.symm, z.2.2.symm⟩]
theorem mets_comm : ∀ a b : List Stp, mets a b = mets b a
  | [], [] => by simp [mets]
  | [], _ :: _ => by simp [mets]
  | _ :: _, [] => by simp [mets]
  | p :: ps, q :: qs => by simp only [mets]; rw [met_comm p q, mets_comm ps qs]
end
mutual
theorem met_self : ∀ a : Stp, met a a = a
  | .op => by simp [met]
  | .put n m ps => by simp only [met, and_self, if_true]; rw [mets_self ps]
theorem mets_self : ∀ a : List Stp, mets a a = a
  | [] => by simp [mets]
  | p :: ps => by simp only [mets]; rw [met_self p, mets_self ps]
end
theorem met_op (a : Stp) : met a .op = .op := by cases a <;> simp [met]
theorem met_pp (n n' : Str) (m m' : Int) (ps qs : List Stp) : met (.put n m ps) (.put n' m' qs) = if n = n' ∧ m = m' ∧ ps.length = qs.length then .put n m (mets ps qs) else .op := by rw [met]
theorem op_met (a : Stp) : met .op a = .op := by rw [met]
theorem met3 (n n' n2 : Str) (m m' m2 : Int) (ps qs rs : List Stp) (ih : mets (mets ps qs) rs = mets ps (mets qs rs)) :
    met (met (.put n m ps) (.put n' m' qs)) (.put n2 m2 rs) = met (.put n m ps) (met (.put n' m' qs) (.put n2 m2 rs)) := by
  rw [met_pp, met_pp]
  by_cases h : n = n' ∧ m = m' ∧ ps.length = qs.length
  · have e1 := mets_len ps qs h.2.2
    rw [if_pos h, met_pp]
    by_cases h' : n' = n2 ∧ m' = m2 ∧ qs.length = rs.length
    · have e2 := mets_len qs rs h'.2.2
      rw [if_pos h', met_pp, if_pos ⟨h.1.trans h'.1, h.2.1.trans h'.2.1, by omega⟩, if_pos ⟨h.1, h.2.1, by omega⟩, ih]
    · rw [if_neg h', met_op, if_neg fun z => h' ⟨h.1.symm.trans z.1, h.2.1.symm.trans z.2.1, by have := z.2.2; omega⟩]
  · rw [if_neg h, op_met]
    by_cases h' : n' = n2 ∧ m' = m2 ∧ qs.length = rs.length
    · have e2 := mets_len qs rs h'.2.2
      rw [if_pos h', met_pp, if_neg fun z => h ⟨z.1, z.2.1, by have := z.2.2; omega⟩]
    · rw [if_neg h', met_op]
mutual
theorem met_assoc : ∀ a b c : Stp, met (met a b) c = met a (met b c)
  | .op, b, c => by rw [op_met, op_met, op_met]
  | .put n m ps, .op, c => by rw [met_op, op_met, met_op]
  | .put n m ps, .put n' m' qs, .op => by rw [met_op, met_op, met_op]
  | .put n m ps, .put n' m' qs, .put n2 m2 rs => met3 n n' n2 m m' m2 ps qs rs (mets_assoc ps qs rs)
theorem mets_assoc : ∀ a b c : List Stp, mets (mets a b) c = mets a (mets b c)
  | [], _, _ => by simp [mets]
  | _ :: _, [], _ => by simp [mets]
  | _ :: _, _ :: _, [] => by simp [mets]
  | p :: ps, q :: qs, r :: rs => by simp only [mets]; rw [met_assoc p q r, mets_assoc ps qs rs]
end
theorem met_again (a b : Stp) : met (met a b) a = met a b := by
  rw [met_comm a b, met_assoc, met_self]
mutual
theorem beg_met : ∀ (a b : Stp) (t : Tree Str), beg a t = true → beg (met a b) t = true
  | .op, _, _, _ => by simp [met, beg]
  | .put _ _ _, .op, _, _ => by simp [met, beg]
  | .put n m ps, .put n' m' qs, .node nt mt bs, h => by
    simp only [met]
    by_cases hc : n = n' ∧ m = m' ∧ ps.length = qs.length
    · rw [if_pos hc]
      simp only [beg, Bool.and_eq_true, decide_eq_true_eq] at h ⊢
      have e := mets_len ps qs hc.2.2
      exact ⟨⟨h.1.1, h.1.2.1, by have := h.1.2.2; omega⟩, begs_met ps qs bs h.2⟩
    · rw [if_neg hc]; simp [beg]
theorem begs_met : ∀ (a b : List Stp) (t : List (Tree Str)), begs a t = true → begs (mets a b) t = true
  | [], _, _, _ => by simp [mets, begs]
  | _ :: _, [], _, _ => by simp [mets, begs]
  | _ :: _, _ :: _, [], _ => by simp [mets, begs]
  | p :: ps, q :: qs, b :: bs, h => by
    simp only [mets, begs, Bool.and_eq_true] at h ⊢
    exact ⟨beg_met p q b h.1, begs_met ps qs bs h.2⟩
end
mutual
theorem met_ok : ∀ a b : Stp, SOk a → SOk (met a b) ∧ sl (met a b) ≤ sl a
  | .op, _, _ => by simp [met, SOk, sl]
  | .put _ _ _, .op, _ => by simp only [met, SOk, sl]; exact ⟨trivial, by omega⟩
  | .put n m ps, .put n' m' qs, h => by
    simp only [met]
    by_cases hc : n = n' ∧ m = m' ∧ ps.length = qs.length
    · rw [if_pos hc]
      simp only [SOk, sl] at h ⊢
      obtain ⟨h1, h2⟩ := mets_ok ps qs h.2.2
      have e := mets_len ps qs hc.2.2
      exact ⟨⟨h.1, by omega, h1⟩, by omega⟩
    · rw [if_neg hc]; simp only [SOk, sl]; exact ⟨trivial, by omega⟩
theorem mets_ok : ∀ a b : List Stp, SOks a → SOks (mets a b) ∧ sls (mets a b) ≤ sls a
  | [], _, _ => by simp [mets, SOks, sls]
  | _ :: _, [], _ => by simp [mets, SOks, sls]
  | p :: ps, q :: qs, h => by
    simp only [mets, SOks, sls] at h ⊢
    obtain ⟨h1, h2⟩ := met_ok p q h.1
    obtain ⟨h3, h4⟩ := mets_ok ps qs h.2
    exact ⟨⟨h1, h3⟩, by omega⟩
end
end ST
namespace L2
open PySem PyProof.Rows TM ST
abbrev OPEN : Str := Str.ofString "open"
abbrev PUTT : Str := Str.ofString "put"
mutual
inductive SV (K : PySem.W.Frag) (H : Hp) : V → Stp → Prop where
  | op {a : Addr} : SqT K H a [.str OPEN] → SV K H (.ref a) .op
  | put {a b : Addr} {vs : List V} {ps : List Stp} {n : Str} {m : Int} : SqT K H a [.str PUTT, .str n, .int m, .ref b] → SqT K H b vs → SAll K H vs ps → SV K H (.ref a) (.put n m ps)
inductive SAll (K : PySem.W.Frag) (H : Hp) : List V → List Stp → Prop where
  | nil : SAll K H [] []
  | cons {v : V} {vs : List V} {t : Stp} {ts : List Stp} : SV K H v t → SAll K H vs ts → SAll K H (v :: vs) (t :: ts)
end
mutual
theorem SV.mono {K : PySem.W.Frag} {H H' : Hp} (k : ∀ a xs, SqT K H a xs → SqT K H' a xs) : ∀ {v : V} {t : Stp}, SV K H v t → SV K H' v t
  | _, _, .op h => .op (k _ _ h)
  | _, _, .put h1 h2 h3 => .put (k _ _ h1) (k _ _ h2) (SAll.mono k h3)
theorem SAll.mono {K : PySem.W.Frag} {H H' : Hp} (k : ∀ a xs, SqT K H a xs → SqT K H' a xs) : ∀ {vs : List V} {ts : List Stp}, SAll K H vs ts → SAll K H' vs ts
  | _, _, .nil => .nil
  | _, _, .cons h t => .cons (SV.mono k h) (SAll.mono k t)
end
theorem SAll.length {K : PySem.W.Frag} {H : Hp} : ∀ {vs : List V} {ts : List Stp}, SAll K H vs ts → vs.length = ts.length
  | _, _, .nil => rfl
  | _, _, .cons _ t => by rw [List.length_cons, List.length_cons, SAll.length t]
theorem SAll.get {K : PySem.W.Frag} {H : Hp} : ∀ {vs : List V} {ts : List Stp} {i : Nat} {t : Stp}, SAll K H vs ts → ts[i]? = some t → ∃ v, vs[i]? = some v ∧ SV K H v t
  | _, _, _, _, .nil, e => by simp at e
  | _, _, 0, _, .cons h _, e => by simp at e; subst e; exact ⟨_, rfl, h⟩
  | _, _, i + 1, t, .cons _ r, e => by
    obtain ⟨v, h1, h2⟩ := SAll.get (i := i) (t := t) r (by simpa using e)
    exact ⟨v, by simpa using h1, h2⟩
theorem SAll.append {K : PySem.W.Frag} {H : Hp} : ∀ {vs ws : List V} {ts us : List Stp}, SAll K H vs ts → SAll K H ws us → SAll K H (vs ++ ws) (ts ++ us)
  | _, _, _, _, .nil, h => h
  | _, _, _, _, .cons a t, h => .cons a (SAll.append t h)
mutual
def sd : Stp → PyData
  | .op => .tuple [.str OPEN]
  | .put n m ps => .tuple [.str PUTT, .str n, .int m, .tuple (sds ps)]
def sds : List Stp → List PyData
  | [] => []
  | p :: r => sd p :: sds r
end
mutual
theorem SV.rd {K : PySem.W.Frag} {H : Hp} : ∀ {v : V} {t : Stp}, SV K H v t → RdV K H v (sd t)
  | _, _, .op h => by
    simp only [sd]
    exact .tup h (.cons (.str _) .nil)
  | _, _, .put h1 h2 h3 => by
    simp only [sd]
    exact .tup h1 (.cons (.str _) (.cons (.str _) (.cons (.int _) (.cons (.tup h2 (SAll.rd h3)) .nil))))
theorem SAll.rd {K : PySem.W.Frag} {H : Hp} : ∀ {vs : List V} {ts : List Stp}, SAll K H vs ts → RdAll K H vs (sds ts)
  | _, _, .nil => by simp only [sds]; exact .nil
  | _, _, .cons h t => by simp only [sds]; exact .cons (SV.rd h) (SAll.rd t)
end
theorem str_open : PyData.strOk OPEN = true := by decide +kernel
theorem str_putt : PyData.strOk PUTT = true := by decide +kernel
mutual
theorem sd_ok : ∀ s : Stp, SOk s → (sd s).canLay0 = true ∧ (sd s).depth ≤ 2 * sl s
  | .op, _ => by
    simp only [sd, PyData.canLay0, PyData.canLayAll0, str_open, Bool.and_self, PyData.depth, PyData.depthAll, sl]; exact ⟨trivial, by omega⟩
  | .put n m ps, h => by
    simp only [SOk] at h
    obtain ⟨h1, h2⟩ := sds_ok ps h.2.2
    constructor
    · simp only [sd, PyData.canLay0, PyData.canLayAll0, str_putt, h.1, h1, Bool.and_self]
    · simp only [sd, PyData.depth, PyData.depthAll, sl]; omega
theorem sds_ok : ∀ ps : List Stp, SOks ps → PyData.canLayAll0 (sds ps) = true ∧ PyData.depthAll (sds ps) ≤ 2 * sls ps
  | [], _ => by simp [sds, PyData.canLayAll0, PyData.depthAll, sls]
  | p :: r, h => by
    simp only [SOks] at h
    obtain ⟨h1, h2⟩ := sd_ok p h.1
    obtain ⟨h3, h4⟩ := sds_ok r h.2
    simp only [sds, PyData.canLayAll0, PyData.depthAll, h1, h3, Bool.and_self, true_and, sls]; omega
end
theorem sv_open {K : PySem.W.Frag} {H : Hp} {v : V} {s : Stp} (h : SV K H v s) : (∃ a, v = .ref a ∧ s = .op ∧ SqT K H a [.str OPEN]) ∨
    ∃ a b vs n m ps, v = .ref a ∧ s = .put n m ps ∧ SqT K H a [.str PUTT, .str n, .int m, .ref b] ∧ SqT K H b vs ∧ SAll K H vs ps := by
  cases h with
  | op h => exact .inl ⟨_, rfl, rfl, h⟩
  | put h1 h2 h3 => exact .inr ⟨_, _, _, _, _, _, rfl, rfl, h1, h2, h3⟩
def hd3 (n : Str) (m : Int) (k : Nat) : PyData := .tuple [.str n, .int m, .int (k : Int)]
theorem hd3_ok {n : Str} (hn : PyData.strOk n = true) (m : Int) (k : Nat) : (hd3 n m k).canLay0 = true ∧ (hd3 n m k).depth ≤ 1 := by
  constructor
  · simp only [hd3, PyData.canLay0, PyData.canLayAll0, hn, Bool.and_self]
  · simp only [hd3, PyData.depth, PyData.depthAll]; omega
theorem hd3_eqv (n n' : Str) (m m' : Int) (k k' : Nat) : PyData.eqv (hd3 n m k) (hd3 n' m' k') = decide (n = n' ∧ m = m' ∧ k = k') := by
  simp only [hd3, PyData.eqv, PyData.eqvAll, Bool.and_true]
  rw [Bool.eq_iff_iff]
  simp only [Bool.and_eq_true, beq_iff_eq, decide_eq_true_eq]
  constructor
  · rintro ⟨a, b, c⟩; exact ⟨a, b, by omega⟩
  · rintro ⟨a, b, c⟩; exact ⟨a, b, by omega⟩
def Dk (H : Hp) (d : Addr) : Prop := ∃ xs : List Int, H d = some (.lst (xs.map V.int))
def SameD (d : Addr) (H H' : Hp) : Prop := ∀ b u, b ≠ d → H b = some u → H' b = some u
theorem SameD.refl (d : Addr) (H : Hp) : SameD d H H := fun _ _ _ e => e
theorem SameD.trans {d : Addr} {H H1 H2 : Hp} (a : SameD d H H1) (b : SameD d H1 H2) : SameD d H H2 := fun x u n e => b x u n (a x u n e)
theorem SameD.of {d : Addr} {H H' : Hp} (h : Same H H') : SameD d H H' := fun b u _ e => h b u e
theorem SameD.seqT {K : PySem.W.Frag} {d a : Addr} {H H' : Hp} {xs : List V} (g : SameD d H H') (hd : Dk H d) (h : SqT K H a xs) : SqT K H' a xs := by
  obtain ⟨ns, hd⟩ := hd
  rcases h with (h | ⟨ob, h⟩) | h
  · exact .inl (.inl (g _ _ (ne_of h hd (by intro z; cases z)) h))
  · exact .inl (.inr ⟨ob, g _ _ (ne_of h hd (by intro z; cases z)) h⟩)
  · exact .inr h
theorem Dk.same {d : Addr} {H H' : Hp} (h : Dk H d) (g : Same H H') : Dk H' d := by
  obtain ⟨xs, h⟩ := h
  exact ⟨xs, g _ _ h⟩
theorem Dk.ne {d a : Addr} {H : Hp} (h : Dk H d) (ha : H a = none) : a ≠ d := by
  obtain ⟨xs, h⟩ := h
  rintro rfl
  rw [ha] at h; cases h
theorem Dk.upd {d a : Addr} {H : Hp} {o : HO} (h : Dk H d) (ha : a ≠ d) : Dk (upd H a o) d := by
  obtain ⟨xs, h⟩ := h
  exact ⟨xs, by rw [upd_ne (Ne.symm ha)]; exact h⟩
end L2
namespace L2
open PySem PyProof.Rows TM
abbrev LETS : Str := Str.ofString "abcdefghijklmnopqrstuvwxyz"
def letL : List Nat := [97, 98, 99, 100, 101, 102, 103, 104, 105, 106, 107, 108, 109, 110, 111, 112, 113, 114, 115, 116, 117, 118, 119, 120, 121, 122]
theorem let_eq : LETS = S letL := by decide +kernel
theorem let_cps : LETS.cps.toList = letL := by rw [let_eq, S_list]
theorem none_eq : Str.ofString "" = S [] := by decide +kernel
theorem one_S (c : Nat) : (⟨#[c]⟩ : Str) = S [c] := rfl
def Nm (z : Str) : Prop := PyData.strOk z = true
theorem Nm.of {u : List Nat} (h : ∀ c ∈ u, c < 128) : Nm (S u) := by
  unfold Nm PyData.strOk
  rw [Array.all_eq_true_iff_forall_mem]
  intro c hc
  have : c ∈ u := by simpa [S] using hc
  have := h c this
  simp; omega
theorem trv_open {K : PySem.W.Frag} {H : Hp} {v : V} {t : TM.Tree Str} (h : TrV K H v t) : ∃ a b vs name mark bs, v = .ref a ∧ t = .node name mark bs ∧ SqT K H a [.str name, .int mark, .ref b] ∧ SqT K H b vs ∧ TrAll K H vs bs ∧ vs.length ≤ 1000 := by
  cases h with
  | mk h1 h2 h3 h4 => exact ⟨_, _, _, _, _, _, rfl, rfl, h1, h2, h3, h4⟩
theorem for_zipT {K : PySem.W.Frag} {a b : Addr} {xs ys : List V} {g : TG} {tb : TS} {D : Ends} {σ : St} {H : Hp} (hlen : xs.length = ys.length) (Pv : Nat → St → Hp → Prop) (h0 : Pv 0 σ H) (hl : ∀ i σ H, i ≤ xs.length → Pv i σ H → SqT K H a xs ∧ SqT K H b ys)
    (hs : ∀ i u v p σ H, xs[i]? = some u → ys[i]? = some v → H p = none → Pv i σ H → g (.ref p) σ (upd H p (.tup [u, v])) fun σ2 H2 => tb { D with nx := Pv (i + 1), ct := Pv (i + 1), bk := D.nx } σ2 H2) (hd : ∀ σ H, Pv xs.length σ H → D.nx σ H) :
    ∃ W : Nat → Nat → St → Hp → Prop, (∃ m, W 0 m σ H) ∧ ∀ i m σ H, W i m σ H →
      ((ItzT K a b xs ys).stop i H ∧ D.nx σ H) ∨ ((ItzT K a b xs ys).go i H ∧ ∃ N : St → Hp → Prop, (∀ σ' H', N σ' H' → ∃ m', m' < m ∧ W (i + 1) m' σ' H') ∧ ∀ x H', (ItzT K a b xs ys).yld i H x H' → g x σ H' fun σ2 H2 => tb { D with nx := N, ct := N, bk := D.nx } σ2 H2) := by
  refine ⟨fun i m σ H => m = xs.length - i ∧ i ≤ xs.length ∧ Pv i σ H, ⟨xs.length - 0, rfl, Nat.zero_le _, h0⟩, ?_⟩
  rintro i m σ H ⟨rfl, hi, p⟩
  obtain ⟨qa, qb⟩ := hl i σ H hi p
  by_cases h : i < xs.length
  · refine .inr ⟨⟨qa, qb, h, by omega⟩, Pv (i + 1), fun σ' H' p' => ⟨xs.length - (i + 1), by omega, rfl, h, p'⟩, ?_⟩
    rintro x H' ⟨q, u, v, hq, rfl, rfl, hu, hv⟩
    exact hs i u v q σ H hu hv hq p
  · have e : i = xs.length := by omega
    subst e
    exact .inl ⟨⟨qa, Nat.le_refl _⟩, hd σ H p⟩
theorem Room.fit {k n : Nat} {A : Around} (r : Room k A) (h : n ≤ 64) : A.units + n < cLine := by have := r.units; omega
theorem eqv_inil (xs : List Int) : PyData.eqv (.list (xs.map PyData.int)) (.list []) = xs.isEmpty := by
  cases xs <;> simp [PyData.eqv, PyData.eqvAll]
end L2
namespace L2
open PySem PyProof.Rows TM
def chr26 (x : Int) : Nat := 97 + (x % 26).toNat
theorem letL_get : ∀ i : Fin 26, letL[i.val]? = some (97 + i.val) := by decide
theorem let_chr (x : Int) : atI LETS.cps.toList (x % 26) = some (chr26 x) := by
  have h0 : 0 ≤ x % 26 := Int.emod_nonneg _ (by decide)
  have h1 : x % 26 < 26 := Int.emod_lt_of_pos _ (by decide)
  have e : x % 26 = (((x % 26).toNat : Nat) : Int) := by omega
  rw [e, let_cps]
  exact atI_nat (letL_get ⟨(x % 26).toNat, by omega⟩)
theorem chr26_lt (x : Int) : chr26 x < 128 := by
  have h1 : x % 26 < 26 := Int.emod_lt_of_pos _ (by decide)
  unfold chr26; omega
theorem chr26_inj {x y : Int} (h : chr26 x = chr26 y) : x % 26 = y % 26 := by
  have h0 : 0 ≤ x % 26 := Int.emod_nonneg _ (by decide)
  have h1 : 0 ≤ y % 26 := Int.emod_nonneg _ (by decide)
  unfold chr26 at h; omega
def nmL (c k : Int) : List Nat :=
  if c / 1664 % 3 = 2 then List.replicate (1 + k % 8).toNat (chr26 (c / 64 % 26 + k / 8))
  else (List.range (1 + c % 8).toNat).map fun (j : Nat) => chr26 (c / 64 % 26 + (c / 1664 % 3 * (j : Int) + if (j : Int) = c / 8 % (1 + c % 8) then k else 0))
theorem nmL_ok (c k : Int) : ∀ x ∈ nmL c k, x < 128 := by
  intro x hx
  unfold nmL at hx
  split at hx
  · rw [List.eq_of_mem_replicate hx]; exact chr26_lt _
  · obtain ⟨j, _, rfl⟩ := List.mem_map.mp hx
    exact chr26_lt _
theorem nmL_inj {c k k' : Int} (h0 : 0 ≤ k) (h1 : k < 26) (h0' : 0 ≤ k') (h1' : k' < 26) (e : nmL c k = nmL c k') : k = k' := by
  unfold nmL at e
  split at e
  · have l := congrArg List.length e
    rw [List.length_replicate, List.length_replicate] at l
    have a0 : 0 ≤ k % 8 := Int.emod_nonneg _ (by decide)
    have a1 : 0 ≤ k' % 8 := Int.emod_nonneg _ (by decide)
    have hm : chr26 (c / 64 % 26 + k / 8) ∈ List.replicate (1 + k' % 8).toNat (chr26 (c / 64 % 26 + k' / 8)) := by
      rw [← e]
      exact List.mem_replicate.mpr ⟨by omega, rfl⟩
    have := chr26_inj (List.eq_of_mem_replicate hm)
    omega
  · have b0 : 0 ≤ c % 8 := Int.emod_nonneg _ (by decide)
    have t0 : 0 ≤ c / 8 % (1 + c % 8) := Int.emod_nonneg _ (by omega)
    have t1 : c / 8 % (1 + c % 8) < 1 + c % 8 := Int.emod_lt_of_pos _ (by omega)
    have ht : (c / 8 % (1 + c % 8)).toNat < (1 + c % 8).toNat := by omega
    have g := congrArg (fun l : List Nat => l[(c / 8 % (1 + c % 8)).toNat]?) e
    simp only [List.getElem?_map, List.getElem?_range ht, Option.map_some, Option.some.injEq] at g
    have ec : (((c / 8 % (1 + c % 8)).toNat : Nat) : Int) = c / 8 % (1 + c % 8) := by omega
    rw [ec, if_pos rfl, if_pos rfl] at g
    have := chr26_inj g
    generalize c / 1664 % 3 * (c / 8 % (1 + c % 8)) = z at this
    omega
abbrev nmS (c k : Int) : Str := S (nmL c k)
theorem nmS_ok (c k : Int) : PyData.strOk (nmS c k) = true := Nm.of (nmL_ok c k)
theorem nmS_inj {c k k' : Int} (h0 : 0 ≤ k) (h1 : k < 26) (h0' : 0 ≤ k') (h1' : k' < 26) (e : nmS c k = nmS c k') : k = k' := nmL_inj h0 h1 h0' h1' (S_inj e)
end L2
namespace K33
open PySem L2 TM ST
def top (i : Nat) : Stmt := PySem.Challenge.pw_turnery_k33_outcomes_begin_so.main.body.getD i (.Pass ⟨0, 0, 0, 0⟩)
abbrev sNum : Stmt := top 20
abbrev sDraw : Stmt := top 21
abbrev sMark : Stmt := top 22
abbrev sName : Stmt := top 23
structure Gm (mg : Str → Option Value) : Prop where
  len : mg "len" = none
  isi : mg "isinstance" = none
  int : mg "int" = none
  boo : mg "bool" = none
  str : mg "str" = none
  tup : mg "tuple" = none
  lst : mg "list" = none
  rng : mg "range" = none
  sum : mg "sum" = none
  rev : mg "reversed" = none
  zip : mg "zip" = none
  all : mg "all" = none
  enu : mg "enumerate" = none
  srt : mg "sorted" = none
  dct : mg "dict" = none
abbrev NI (ns : List Int) : List V := ns.map V.int
def spNum (K : PySem.W.Frag) : Sp := fun vs H Q _ => ∃ (a : Addr) (ns : List Int), vs = [.ref a, .int 1000] ∧ SqL K H a (NI ns) ∧ ns.length ≤ 63 ∧ ∀ (d : Addr) (H' : Hp), Same H H' → H d = none → Dk H' d → Q (.ref d) H'
def spDraw : Sp := fun vs H Q _ => ∃ (d : Addr) (m : Int), vs = [.ref d, .int m] ∧ Dk H d ∧ 0 < m ∧ ∀ (r : Int) (H' : Hp), SameD d H H' → Dk H' d → 0 ≤ r → r < m → Q (.int r) H'
def spMark : Sp := fun vs H Q _ => ∃ (d : Addr), vs = [.ref d] ∧ Dk H d ∧ ∀ (r : Int) (H' : Hp), SameD d H H' → Dk H' d → Q (.int r) H'
def spName : Sp := fun vs H Q _ => ∃ (c k : Int), vs = [.int c, .int k] ∧ Q (.str (nmS c k)) H
section
variable {P : Program} {w : World} {K : PySem.W.Frag} {mg : Str → Option Value} {base : Heap} {f : Addr} {fd : FuncData}
theorem scDraw : FnScope ["_law_deck", "_law_most"] ["_law_deck", "_law_most"] (defScope sDraw) := ⟨rfl, rfl, rfl, by decide +kernel, rfl, by decide +kernel, by decide +kernel⟩
theorem ok_draw (F : Fun K "_law_draw" "_law_draw" sDraw f fd) : FnOk P w K mg base CX0 1 f fd ["_law_deck", "_law_most"] spDraw := by
  refine F.ok scDraw (fun vs H Q E h => ?_) (fun cdv A outer s H vs Q E hr h => ?_)
  · obtain ⟨d, m, rfl, _⟩ := h
    rfl
  obtain ⟨d, m, rfl, ⟨xs, hd⟩, hm, q⟩ := h
  refine ⟨_, (pss_cons (ps_if (pt_cmpR op_eqD (pv 0) (pe_lst pa_nil) (nomark _)) (pss_one (ps_ret pe_int)) pss_nil)
    (pss_one (ps_ret (pe_op op_mod (pe_bm0 PySem.F.plainAttrs_list PySem.F.slot_list_pop PySem.F.type_list_pop mt_pop (pv 0)) (pv 1))))), ?_⟩
  refine ⟨_, rfl, (by show 0 ≤ sizeLine; decide), fun p hp => ?_⟩
  have g := same_new hp (.lst [])
  have hd' := g _ _ hd
  have hpd : p ≠ d := fun z => by rw [z, hd] at hp; cases hp
  refine ⟨.list (xs.map PyData.int), .list [], .lst (SqL.of hd') (rd_ints xs), .lst (SqL.of upd_same) .nil, (by simp only [PyData.canLay0, lay_ints]), (by decide), ?_, _, rfl, ?_⟩
  · have h2 : min (PyData.depth (.list (xs.map PyData.int))) (PyData.depth (.list [])) ≤ 1 := Nat.le_trans (Nat.min_le_right _ _) (by simp [PyData.depth, PyData.depthAll])
    exact hr.fit (Nat.le_trans h2 (by decide))
  rw [if_neg Bool.false_ne_true, eqv_inil]
  cases xs with
  | nil => exact iteT (q 0 _ (SameD.of g) ⟨[], hd'⟩ (Int.le_refl _) hm)
  | cons x r =>
    refine iteF ?_
    obtain ⟨y, hy⟩ : ∃ y : Int, (x :: r)[(x :: r).length - 1]? = some y := ⟨_, List.getElem?_eq_getElem (by simp)⟩
    have hy' : (NI (x :: r))[(NI (x :: r)).length - 1]? = some (.int y) := by
      rw [List.length_map, List.getElem?_map, hy]; rfl
    refine ⟨_, rfl, .inl ⟨rfl, _, SqL.of hd'⟩, d, _, _, rfl, rfl, hd', hy', _, rfl, _, _, rfl, rfl, hm, ?_⟩
    refine q _ _ (fun b u hb e => by rw [upd_ne hb]; exact g _ _ e) ⟨(x :: r).dropLast, by rw [upd_same, List.map_dropLast]⟩ (Int.emod_nonneg _ (by omega)) (Int.emod_lt_of_pos _ hm)
end
end K33
namespace K33
open PySem L2 TM ST
section
variable {P : Program} {w : World} {K : PySem.W.Frag} {mg : Str → Option Value} {base : Heap} {f : Addr} {fd : FuncData}
theorem scMark : FnScope ["_law_deck", "_law_number"] ["_law_deck"] (defScope sMark) := ⟨rfl, rfl, rfl, by decide +kernel, rfl, by decide +kernel, by decide +kernel⟩
theorem ok_mark (F : Fun K "_law_mark" "_law_mark" sMark f fd) (RD : Fn P w K mg base 1 "_law_draw" ["_law_deck", "_law_most"] spDraw) : FnOk P w K mg base CX0 2 f fd ["_law_deck"] spMark := by
  refine F.ok scMark (fun vs H Q E h => ?_) (fun cdv A outer s H vs Q E hr h => ?_)
  · obtain ⟨d, rfl, _⟩ := h
    rfl
  obtain ⟨d, rfl, hd, q⟩ := h
  refine ⟨_, (pss_cons (ps_set (i := 1) scMark.nd rfl (Or.inl rfl) (pe_fn RD hr (pa_cons (pv 0) (pa_cons (pe_op op_pow pe_int pe_int) pa_nil))))
    (pss_cons (ps_if (pt_cmpR op_eq (pe_op op_mod (pv 1) pe_int) pe_int (nomark _)) (pss_one (ps_ret (pe_op op_sub (pe_op op_mod (pe_op op_fdiv (pv 1) pe_int) (pe_op op_add (pe_op op_mul pe_int (pe_op op_pow pe_int pe_int)) pe_int)) (pe_op op_pow pe_int pe_int)))) pss_nil)
    (pss_one (ps_ret (pe_op op_fdiv (pe_op op_mod (pe_op op_fdiv (pv 1) pe_int) pe_int) pe_int))))), ?_⟩
  refine ⟨_, rfl, _, _, rfl, rfl, ⟨by decide, by decide, by decide⟩, d, _, rfl, hd, (by decide), fun r H1 g1 hd1 h0 h1 => ?_⟩
  refine ⟨_, rfl, _, _, rfl, rfl, (by show (0 : Int) < 4; decide), rfl, _, rfl, ite2 (fun _ => ?_) (fun _ => ?_)⟩
  · refine ⟨_, rfl, _, _, rfl, rfl, ⟨by decide, by decide⟩, _, _, rfl, rfl, ⟨by decide, by decide, by decide⟩, _, _, rfl, rfl, .inl ⟨by decide, by decide⟩, _, _, rfl, rfl, _, _, rfl, rfl, (by show (0 : Int) < 2 * 10 ^ 57 + 1; decide), _, _, rfl, rfl, ⟨by decide, by decide, by decide⟩, _, _, rfl, rfl, ?_⟩
    exact q _ H1 g1 hd1
  · refine ⟨_, rfl, _, _, rfl, rfl, ⟨by decide, by decide⟩, _, _, rfl, rfl, (by show (0 : Int) < 3; decide), _, _, rfl, rfl, ⟨by decide, by decide⟩, ?_⟩
    exact q _ H1 g1 hd1
theorem scName : FnScope ["_law_code", "_law_k", "_law_letters", "_law_first", "_law_long", "_law_told", "_law_name_here", "_law_j", "_law_step"] ["_law_code", "_law_k"] (defScope sName) := ⟨rfl, rfl, rfl, by decide +kernel, rfl, by decide +kernel, by decide +kernel⟩
theorem ok_name (F : Fun K "_law_name" "_law_name" sName f fd) (G : Gm mg) : FnOk P w K mg base CX0 1 f fd ["_law_code", "_law_k"] spName := by
  refine F.ok scName (fun vs H Q E h => ?_) (fun cdv A outer s H vs Q E hr h => ?_)
  · obtain ⟨c, k, rfl, _⟩ := h
    rfl
  obtain ⟨c, k, rfl, q⟩ := h
  refine ⟨_, (pss_cons (ps_set (i := 2) scName.nd rfl (Or.inl rfl) pe_str)
    (pss_cons (ps_set (i := 3) scName.nd rfl (Or.inl rfl) (pe_op op_mod (pe_op op_fdiv (pv 0) pe_int) pe_int))
    (pss_cons (ps_if (pt_cmpR op_eq (pe_op op_mod (pe_op op_fdiv (pv 0) pe_int) pe_int) pe_int (nomark _)) (pss_one (ps_ret (pe_op op_mul_one (pe_ix ix_str (pv 2) (pe_op op_mod (pe_op op_add (pv 3) (pe_op op_fdiv (pv 1) pe_int)) pe_int) (fun _ _ => rfl)) (pe_op op_add pe_int (pe_op op_mod (pv 1) pe_int))))) pss_nil)
    (pss_cons (ps_set (i := 4) scName.nd rfl (Or.inl rfl) (pe_op op_add pe_int (pe_op op_mod (pv 0) pe_int)))
    (pss_cons (ps_set (i := 5) scName.nd rfl (Or.inl rfl) (pe_op op_mod (pe_op op_fdiv (pv 0) pe_int) (pv 4)))
    (pss_cons (ps_set (i := 6) scName.nd rfl (Or.inl rfl) pe_str)
    (pss_cons (ps_for PassesOwn.never rfl (pi_range1 rfl G.rng (pa_cons (pv 4) pa_nil)) (pg_name (i := 7) scName.nd rfl (Or.inl rfl)) (pss_cons (ps_set (i := 8) scName.nd rfl (Or.inl rfl) (pe_op op_mul (pe_op op_mod (pe_op op_fdiv (pv 0) pe_int) pe_int) (pv 7)))
    (pss_cons (ps_cut (ps_if (pt_cmpR op_eq (pv 7) (pv 5) (nomark _)) (pss_one (ps_set (i := 8) scName.nd rfl (Or.inl rfl) (pe_op op_add (pv 8) (pv 1)))) pss_nil))
    (pss_one (ps_set (i := 6) scName.nd rfl (Or.inl rfl) (pe_op op_add_str (pv 6) (pe_ix ix_str (pv 2) (pe_op op_mod (pe_op op_add (pv 3) (pv 8)) pe_int) (fun _ _ => rfl))))))))
    (pss_one (ps_ret (pv 6)))))))))), ?_⟩
  refine ⟨_, rfl, _, _, rfl, rfl, ⟨by decide, by decide⟩, _, _, rfl, rfl, (by show (0 : Int) < 26; decide), ?_⟩
  have hll : LETS.length ≤ sizeLine := by rw [let_eq, S_len]; exact line_of (by decide)
  refine ⟨_, rfl, _, _, rfl, rfl, ⟨by decide, by decide⟩, _, _, rfl, rfl, (by show (0 : Int) < 3; decide), rfl, _, rfl, ite2 (fun hc => ?_) (fun hc => ?_)⟩
  · have m0 : 0 ≤ k % 8 := Int.emod_nonneg _ (by decide)
    have m1 : k % 8 < 8 := Int.emod_lt_of_pos _ (by decide)
    have hc' : c / 1664 % 3 = 2 := V.int.inj (of_decide_eq_true hc)
    refine ⟨_, rfl, _, rfl, _, rfl, _, _, rfl, rfl, ⟨by decide, by decide⟩, _, _, rfl, rfl, _, _, rfl, rfl, (by show (0 : Int) < 26; decide), _, _, chr26 (c / 64 % 26 + k / 8), rfl, rfl, hll, let_chr _, _, rfl, _, _, rfl, rfl, (by show (0 : Int) < 8; decide), _, _, rfl, rfl, chr26 (c / 64 % 26 + k / 8), _, rfl, rfl, (by show (1 : Int) ≤ 1 + k % 8; omega), (by show (1 + k % 8 : Int) ≤ 100; omega), ?_⟩
    have e : nmS c k = S (List.replicate (1 + k % 8).toNat (chr26 (c / 64 % 26 + k / 8))) := by unfold nmS nmL; rw [if_pos hc']
    rw [e] at q
    exact q
  have hc' : ¬ c / 1664 % 3 = 2 := fun z => of_decide_eq_false (Bool.eq_false_iff.mpr hc) (congrArg V.int z)
  have e : nmS c k = S ((List.range (1 + c % 8).toNat).map fun (j : Nat) => chr26 (c / 64 % 26 + (c / 1664 % 3 * (j : Int) + if (j : Int) = c / 8 % (1 + c % 8) then k else 0))) := by unfold nmS nmL; rw [if_neg hc']
  rw [e] at q
  have h0 : 0 ≤ c % 8 := Int.emod_nonneg c (by decide)
  have h8 : c % 8 < 8 := Int.emod_lt_of_pos c (by decide)
  refine ⟨_, rfl, _, _, rfl, rfl, (by show (0 : Int) < 8; decide), _, _, rfl, rfl, ?_⟩
  refine ⟨_, rfl, _, _, rfl, rfl, ⟨by decide, by decide⟩, _, rfl, _, _, rfl, rfl, (by show (0 : Int) < 1 + c % 8; omega), ?_⟩
  refine ⟨_, rfl, _, rfl, (by show -(2 ^ 62 : Int) ≤ 1 + c % 8; omega), (by show (1 + c % 8 : Int) < 2 ^ 62; omega), ?_⟩
  refine for_range (lo := 0) (n := (1 + c % 8).toNat) (fun i σ H' => ∃ (k1 k2 : Option V), σ = [some (.int c), some (.int k), some (.str LETS), some (.int (c / 64 % 26)), some (.int (1 + c % 8)), some (.int (c / 8 % (1 + c % 8))), some (.str (S ((List.range i).map fun (j : Nat) => chr26 (c / 64 % 26 + (c / 1664 % 3 * (j : Int) + if (j : Int) = c / 8 % (1 + c % 8) then k else 0))))), k1, k2] ∧ H' = H)
    ⟨none, none, by simp only [List.range_zero, List.map_nil]; rw [← none_eq]; rfl, rfl⟩ ?_ ?_
  · rintro i σ H' hi ⟨k1, k2, rfl, rfl⟩
    have hb0 : 0 ≤ c / 1664 % 3 := Int.emod_nonneg _ (by decide)
    have hb1 : c / 1664 % 3 < 3 := Int.emod_lt_of_pos _ (by decide)
    have e0 : (0 : Int) + (i : Int) = (i : Int) := by omega
    refine ⟨_, rfl, _, _, rfl, rfl, ⟨by decide, by decide⟩, _, _, rfl, rfl, (by show (0 : Int) < 3; decide), _, rfl, _, _, rfl, rfl, .inl ⟨(by show -(2 ^ 64 : Int) < c / 1664 % 3; omega), (by show (c / 1664 % 3 : Int) < 2 ^ 64; omega)⟩, ?_⟩
    refine ⟨fun σ' H3 => ∃ st : Int, st = c / 1664 % 3 * (i : Int) + (if (i : Int) = c / 8 % (1 + c % 8) then k else 0) ∧ σ' = [some (.int c), some (.int k), some (.str LETS), some (.int (c / 64 % 26)), some (.int (1 + c % 8)), some (.int (c / 8 % (1 + c % 8))), some (.str (S ((List.range i).map fun (j : Nat) => chr26 (c / 64 % 26 + (c / 1664 % 3 * (j : Int) + if (j : Int) = c / 8 % (1 + c % 8) then k else 0))))), some (.int (0 + (i : Int))), some (.int st)] ∧ H3 = H', ?_, ?_⟩
    · refine ⟨_, rfl, _, rfl, rfl, _, rfl, ite2 (fun hd => ?_) (fun hd => ?_)⟩
      · have hd' : (0 : Int) + (i : Int) = c / 8 % (1 + c % 8) := V.int.inj (of_decide_eq_true hd)
        refine ⟨_, rfl, _, rfl, _, _, rfl, rfl, _, ?_, rfl, rfl⟩
        show c / 1664 % 3 * (0 + (i : Int)) + k = _
        rw [if_pos (by omega), e0]
      · have hd' : ¬ (0 : Int) + (i : Int) = c / 8 % (1 + c % 8) := fun z => of_decide_eq_false (Bool.eq_false_iff.mpr hd) (congrArg V.int z)
        refine ⟨_, ?_, rfl, rfl⟩
        show c / 1664 % 3 * (0 + (i : Int)) = _
        rw [if_neg (by omega), Int.add_zero, e0]
    rintro σ' H3 ⟨st, est, rfl, rfl⟩
    refine ⟨_, rfl, _, rfl, _, rfl, _, rfl, _, _, rfl, rfl, _, _, rfl, rfl, (by show (0 : Int) < 26; decide), _, _, chr26 (c / 64 % 26 + st), rfl, rfl, hll, let_chr _, _, _, rfl, rfl, ?_, ?_⟩
    · rw [one_S, S_len, S_len, List.length_map, List.length_range]; exact line_of (by simp only [List.length_singleton]; omega)
    · refine ⟨some (.int (0 + (i : Int))), some (.int st), ?_, rfl⟩
      rw [one_S, S_app, List.range_succ, List.map_append, est]; rfl
  · rintro σ H' ⟨k1, k2, rfl, rfl⟩
    exact ⟨_, rfl, q⟩
end
end K33
namespace K33
open PySem L2 TM ST
section
variable {P : Program} {w : World} {K : PySem.W.Frag} {mg : Str → Option Value} {base : Heap} {f : Addr} {fd : FuncData}
theorem scNum : FnScope ["_law_script", "_law_most", "_law_found", "_law_number"] ["_law_script", "_law_most"] (defScope sNum) := ⟨rfl, rfl, rfl, by decide +kernel, rfl, by decide +kernel, by decide +kernel⟩
theorem ok_num (F : Fun K "_law_numbers" "_law_numbers" sNum f fd) (G : Gm mg) : FnOk P w K mg base CX0 1 f fd ["_law_script", "_law_most"] (spNum K) := by
  refine F.ok scNum (fun vs H Q E h => ?_) (fun cdv A outer s H vs Q E hr h => ?_)
  · obtain ⟨a, ns, rfl, _⟩ := h
    rfl
  obtain ⟨a, ns, rfl, hS, h63, q⟩ := h
  refine ⟨_, (pss_cons (ps_setG (i := 2) (CompG.many (xs := ["_law_cell"]) (caps := []) (cap := []) (cs := []) rfl rfl (by decide +kernel) (by decide +kernel) (by decide +kernel) (by decide +kernel) (by decide +kernel) (by decide +kernel) rfl rfl rfl) rfl (pi_list (pe_slice sl_list (pv 0) po_none (po_some (pv 1)))) (pg_c1 (CompG.many (xs := ["_law_cell"]) (caps := []) (cap := []) (cs := []) rfl rfl (by decide +kernel) (by decide +kernel) (by decide +kernel) (by decide +kernel) (by decide +kernel) (by decide +kernel) rfl rfl rfl)) (fun _ _ _ _ => pf_nil) (fun _ _ _ _ => pe_op op_mod (pv 0) (pe_op op_pow pe_int pe_int)) scNum.nd rfl rfl)
    (pss_cons (ps_set (i := 3) scNum.nd rfl (Or.inl rfl) (pe_op op_add pe_int (pe_op op_mod (pe_callB (call_sumG rfl) rfl G.sum PyProof.Rows.boot_sum (pa_cons (pv 2) pa_nil)) pe_int)))
    (pss_cons (ps_while PassesOwn.never (pt_cmpR op_lt (pe_callB call_len_seq rfl G.len PySem.boot_len (pa_cons (pv 2) pa_nil)) (pv 1) (nomark _)) (pss_cons (ps_set (i := 3) scNum.nd rfl (Or.inl rfl) (pe_op op_mod (pe_op op_add (pe_op op_add (pe_op op_mul (pv 3) (pv 3)) (pe_op op_mul pe_int (pv 3))) (pe_callB call_len_seq rfl G.len PySem.boot_len (pa_cons (pv 2) pa_nil))) pe_int))
    (pss_one (ps_expr (pe_bm PySem.F.plainAttrs_list PySem.F.slot_list_append PySem.F.type_list_append mt_append (pv 2) (pa_cons (pv 3) pa_nil))))))
    (pss_one (ps_ret (pe_listRev rfl (pv 2) (hm := G.lst) (hm2 := G.rev))))))), ?_⟩
  refine ⟨_, rfl, _, rfl, _, rfl, a, _, rfl, hS, fun p hp => ?_⟩
  have e1000 : cutV (NI ns) none (some 1000) = NI ns := by
    have := cutTo (NI ns) 1000
    rw [List.take_of_length_le (by rw [List.length_map]; omega)] at this
    exact this
  rw [e1000]
  have g1 := same_new hp (.lst (NI ns))
  refine ⟨p, rfl, ⟨_, SqL.of upd_same⟩, fun d hd => ?_⟩
  have hdH : H d = none := g1.free hd
  refine c1_list (K := K) (xs := NI ns) (cs := []) (tt := fun _ H Q => Q true H) (fun j ys H' => ∃ ms : List Int, ys = NI ms ∧ ms.length = j ∧ H' d = some (.lst ys) ∧ Same (upd H p (.lst (NI ns))) H')
    ⟨[], rfl, rfl, upd_same, same_new hd _⟩ ?_ ?_ ?_
  · rintro j ys H' _ ⟨ms, _, _, _, g⟩
    exact g.seq (SqL.of upd_same)
  · rintro j x ys H' hj hx ⟨ms, rfl, hml, hyd, g⟩
    obtain ⟨n, rfl⟩ : ∃ n : Int, x = .int n := by
      rw [List.getElem?_map] at hx
      cases e : ns[j]? with
      | none => rw [e] at hx; cases hx
      | some n => rw [e] at hx; exact ⟨n, (Option.some.inj hx).symm⟩
    refine iteT ⟨_, rfl, _, _, rfl, rfl, ⟨by decide, by decide, by decide⟩, _, _, rfl, rfl, (by show (0 : Int) < 10 ^ 59; decide), ?_⟩
    have hj' : j < ns.length := by rw [List.length_map] at hj; exact hj
    refine comp_next hj hyd (by rw [List.length_map]; omega) ⟨ms ++ [n % 10 ^ Int.toNat 59], by simp [NI], by simp [hml], upd_same, fun x u e => ?_⟩
    rw [upd_ne (ne_of_none e hd)]; exact g _ _ e
  rintro ys H2 ⟨ms, rfl, hml, hyd, g2⟩
  rw [List.length_map] at hml
  have g12 := g1.trans g2
  refine ⟨_, rfl, d, ms, rfl, SqL.of hyd, _, _, rfl, rfl, (by show (0 : Int) < 2147483647; decide), _, _, rfl, rfl, ?_⟩
  have s0 : 0 ≤ ms.sum % 2147483647 := Int.emod_nonneg _ (by decide)
  have s1 : ms.sum % 2147483647 < 2147483647 := Int.emod_lt_of_pos _ (by decide)
  refine ⟨fun m σ H' => ∃ (us : List Int) (r : Int), m = 1000 - us.length ∧ us.length ≤ 1000 ∧ σ = [some (.ref a), some (.int 1000), some (.ref d), some (.int r)] ∧ 0 ≤ r ∧ r < 3000000000 ∧ Same H H' ∧ H' d = some (.lst (NI us)), ⟨_, ms, _, rfl, by omega, rfl, ?_, ?_, g12, hyd⟩, ?_⟩
  · exact Int.add_nonneg (by decide) s0
  · show _ + ms.sum % 2147483647 < (3000000000 : Int); omega
  rintro m σ H' ⟨us, r, rfl, hul, rfl, hr0, hr1, g, hud⟩
  have hlen : (NI us).length = us.length := List.length_map ..
  refine ⟨_, rfl, d, _, rfl, .inl (SqL.of hud), _, rfl, _, _, rfl, rfl, _, rfl, ite2 (fun c => ?_) (fun c => ?_)⟩
  · have c' : (((NI us).length : Nat) : Int) < 1000 := of_decide_eq_true c
    rw [hlen] at c'
    refine ⟨fun σ' H2 => ∃ m', m' < 1000 - us.length ∧ _, fun _ _ h => h, ?_⟩
    refine ⟨_, rfl, _, rfl, _, _, rfl, rfl, .inl ⟨(by show -(2 ^ 64 : Int) < r; omega), (by show (r : Int) < 2 ^ 64; omega)⟩, _, rfl, _, _, rfl, rfl, .inl ⟨by decide, by decide⟩, _, _, rfl, rfl, _, rfl, d, _, rfl, .inl (SqL.of hud), _, _, rfl, rfl, _, _, rfl, rfl, (by show (0 : Int) < 2147483647; decide), ?_⟩
    dsimp only
    have t0 : 0 ≤ (r * r + 48271 * r + (((NI us).length : Nat) : Int)) % 2147483647 := Int.emod_nonneg _ (by decide)
    have t1 : (r * r + 48271 * r + (((NI us).length : Nat) : Int)) % 2147483647 < 2147483647 := Int.emod_lt_of_pos _ (by decide)
    generalize (r * r + 48271 * r + (((NI us).length : Nat) : Int)) % 2147483647 = r2 at t0 t1
    refine ⟨_, rfl, .inl ⟨rfl, _, SqL.of hud⟩, _, rfl, d, NI us, _, rfl, rfl, hud, (by rw [hlen, size_line]; omega), ?_⟩
    refine ⟨_, ?_, us ++ [r2], r2, rfl, by simp; omega, rfl, t0, by omega, fun x u e => ?_, ?_⟩
    · simp only [List.length_append, List.length_singleton]; omega
    · rw [upd_ne (ne_of_none e hdH)]; exact g _ _ e
    · rw [upd_same]; simp [NI]
  · refine ⟨_, rfl, d, NI us, rfl, SqL.of hud, (by rw [hlen, size_line]; omega), fun l hl => ?_⟩
    refine q l _ (g.trans (same_new hl _)) (g.free hl) ⟨us.reverse, ?_⟩
    rw [upd_same, List.map_reverse]
end
end K33
namespace L2
open PySem PySem.Spec PyProof.Rows PySem.W
section
variable {X : Cx}
end
@[reducible] def strOrd : KeyOrd := ⟨List Nat, fun a b => decide (a < b), fun a => strKind.irrefl a, fun a b c => strKind.trans a b c, fun a b c => strKind.negTrans a b c, fun a b => strKind.total a b⟩
abbrev PNx := Addr × Str × Addr × List Str
def PairN (h : Heap) (t : PNx) : Prop := ∃ (tk : Tok) (as : List Addr), h.IsTuple t.1 [Value.str t.2.1 tk, Value.ref t.2.2.1].toArray ∧ Reads h (.ref t.2.2.1) (.tuple (t.2.2.2.map PyData.str)) as
theorem PairN.keeps {h h' : Heap} {t : PNx} (k : ∀ b o, h.get? b = some o → h'.get? b = some o) (x : PairN h t) : PairN h' t := by
  obtain ⟨tk, as, h1, h2⟩ := x
  exact ⟨tk, as, IsTuple.keeps k h1, Reads.keeps k h2⟩
theorem rd_strs {K : PySem.W.Frag} {H : Hp} : ∀ p : List Str, RdAll K H (p.map V.str) (p.map PyData.str)
  | [] => .nil
  | i :: r => .cons (.str i) (rd_strs r)
theorem lay_strs : ∀ p : List Str, (∀ x ∈ p, PyData.strOk x = true) → PyData.canLayAll0 (p.map PyData.str) = true
  | [], _ => by simp [PyData.canLayAll0]
  | i :: r, h => by simp only [List.map_cons, PyData.canLayAll0, PyData.canLay0, lay_strs r fun x hx => h x (List.mem_cons_of_mem _ hx), h i List.mem_cons_self, Bool.and_self]
theorem pairN_tups {h : Heap} : ∀ {ts : List PNx}, (∀ t ∈ ts, PairN h t) → ∃ fs : List Value, KatTups h (ts.map fun t => Value.ref t.1) fs ∧ (∀ v ∈ fs, ∃ x t, v = Value.str x t) ∧ fs.length = ts.length
  | [], _ => ⟨[], KatTups.nil, fun v hv => (nomatch hv), rfl⟩
  | t :: r, ht => by
    obtain ⟨tk, as, ⟨o, go, gc, n, gd⟩, _⟩ := ht t List.mem_cons_self
    obtain ⟨fs, h1, h2, h3⟩ := pairN_tups fun u hu => ht u (List.mem_cons_of_mem _ hu)
    refine ⟨Value.str t.2.1 tk :: fs, KatTups.cons go gc gd rfl h1, fun v hv => ?_, by simp [h3]⟩
    rcases List.mem_cons.mp hv with rfl | hv
    · exact ⟨_, _, rfl⟩
    · exact h2 v hv
section
variable {prog : Program} {w : World} {A : Around} {E : Value → Shared → Prop} {s : Shared}
theorem pairN_lt {t u : PNx} {C : Bool → Shared → Prop} (ht : PairN s.heap t) (hu : PairN s.heap u) (hok : ∀ x ∈ t.2.2.2, PyData.strOk x = true) (hd : t.1 ≠ u.1 → t.2.1 ≠ u.2.1) (hA : A.units + 2 < cLine) (h : C (decide (t.2.1.cps.toList < u.2.1.cps.toList)) s) : wpAny (model prog w) A (keyLt' (tuples' true) (.ref t.1) (.ref u.1)) C E s := by
  obtain ⟨tk, as, h1, h4⟩ := ht
  obtain ⟨tk2, as2, g1, g4⟩ := hu
  have lay : (PyData.tuple (t.2.2.2.map PyData.str)).canLay0 = true := by simp only [PyData.canLay0]; exact lay_strs _ hok
  have dep : (PyData.tuple (t.2.2.2.map PyData.str)).depth ≤ 1 := by simp only [PyData.depth, depth_strs]; omega
  refine pair_lt h1 g1 (fun hne => ?_) (fun heq => ?_)
  · refine ⟨?_, oneLt_str h⟩
    have e := (eqGives_str t.2.1 u.2.1 tk tk2).at A s
    have : (t.2.1 == u.2.1) = false := by simpa using hd hne
    rw [this] at e
    exact e
  · refine ⟨?_, ?_, ?_⟩
    · have e := (eqGives_str t.2.1 t.2.1 tk tk).at A s
      simpa using e
    · have e := SeqAt.eqAt_reads _ _ A s _ _ _ _ h4 h4 lay lay (by omega)
      rw [eqv_self _ lay] at e
      exact e
    · have e1 : t.2.1 = u.2.1 := by
        obtain ⟨o, e, _, n, d⟩ := h1
        obtain ⟨o2, e2, _, n2, d2⟩ := g1
        rw [heq, e2] at e
        cases e
        rw [d] at d2
        injection d2 with z1 z2
        have z3 : [Value.str t.2.1 tk, Value.ref t.2.2.1] = [Value.str u.2.1 tk2, Value.ref u.2.2.1] := by simpa using congrArg Array.toList z1
        injection z3 with z4 z5
        injection z4
      rw [← e1, decide_eq_false (List.lt_irrefl _)] at h
      exact h
end
section
variable {X : Cx}
theorem call_sortedN (hu : X.A.units + 4 < cLine) : CallR X (.builtin "sorted") (fun xs H Q => ∃ (l : Addr) (ts : List PNx), xs = [.ref l] ∧ SqL X.K H l (ts.map fun t => V.ref t.1) ∧ (∀ t ∈ ts, SqT X.K H t.1 [.str t.2.1, .ref t.2.2.1] ∧ SqT X.K H t.2.2.1 (t.2.2.2.map V.str) ∧ ∀ x ∈ t.2.2.2, PyData.strOk x = true) ∧ (ts.map fun t => t.2.1).Nodup ∧ ts.length < 64 ∧
    ∀ (out : List PNx) p, out.Perm ts → (out.Pairwise fun x y => ¬ y.2.1.cps.toList < x.2.1.cps.toList) → H p = none → Q (.ref p) (upd H p (.lst (out.map fun t => V.ref t.1)))) := by
  intro pins s σ H xs us Q I r h
  obtain ⟨l, ts, rfl, hl, ht, hnd, h64, q⟩ := h
  cases r with
  | cons r rr =>
    cases rr
    obtain rfl : _ = Value.ref l := r
    obtain ⟨its, rv, p, _⟩ := I.list hl
    obtain rfl := vals_mapF rv
    have hP : ∀ t ∈ ts, PairN s.heap t := fun t htm => by
      obtain ⟨h1, h2, _⟩ := ht t htm
      obtain ⟨its1, r1, p1, _⟩ := I.tuple h1
      obtain ⟨u, v, rfl, ru, rv⟩ := r1.two
      cases (show v = Value.ref _ from rv)
      obtain ⟨tk, rfl⟩ := (show ∃ tk, u = Value.str _ tk from ru)
      obtain ⟨as, q4⟩ := (RdV.tup h2 (rd_strs _)).reads I (show RelV (.ref t.2.2.1) (.ref t.2.2.1) from rfl)
      exact ⟨tk, as, p1, q4⟩
    let d : PNx := (0, ⟨#[]⟩, 0, [])
    have gd : ∀ i, i < ts.length → (ts.map fun t => Value.ref t.1).getD i Value.none = .ref (ts.getD i d).1 := fun i hi => by simp [List.getD_eq_getElem?_getD, hi]
    have md : ∀ i, i < ts.length → ts.getD i d ∈ ts := fun i hi => by simp [List.getD_eq_getElem?_getD, hi]
    have ek : (Value.type "str" != Value.type "tuple") = true := by decide +kernel
    refine sorted_gen strOrd (fun i => (ts.getD i d).2.1.cps.toList) (tuples' true) p.isList (by simpa using h64) (fun s' E' Q' hs h2 hq => ?_) (fun s' i j C hs hi hj hC => ?_) fun pp o1 o2 => ?_
    · obtain ⟨fs, f1, f2, f3⟩ := pairN_tups (h := s'.heap) fun t htm => (hP t htm).keeps hs
      refine kat_kind (T := .type "str") f1 (by rw [f3]; rw [List.length_map] at h2; omega) (fun v hv => ?_) (by decide +kernel) (by rw [ek]; exact hq)
      obtain ⟨x, t, rfl⟩ := f2 v hv
      exact .now
    · rw [List.length_map] at hi hj
      rw [gd i hi, gd j hj]
      refine pairN_lt ((hP _ (md i hi)).keeps hs) ((hP _ (md j hj)).keeps hs) (ht _ (md i hi)).2.2 (fun hne he => hne ?_) (by show X.A.units + 1 + 1 + 2 < cLine; omega) hC
      have hij : i = j := by
        have a1 : (ts.map fun t => t.2.1)[i]'(by simpa using hi) = (ts.getD i d).2.1 := by simp [List.getD_eq_getElem?_getD, hi]
        have a2 : (ts.map fun t => t.2.1)[j]'(by simpa using hj) = (ts.getD j d).2.1 := by simp [List.getD_eq_getElem?_getD, hj]
        exact (List.getElem_inj hnd).mp (a1.trans (he.trans a2.symm))
      rw [hij]
    · rw [List.length_map] at o1 o2
      obtain ⟨w1, w2⟩ := out_gen (O := strOrd) (ts := ts) (d := d) (key := fun t => t.2.1.cps.toList) o1 o2
      have em : (pp.toList.map fun i => (ts.map fun t => Value.ref t.1).getD i Value.none) = (pp.toList.map fun i => ts.getD i d).map fun t => Value.ref t.1 := by
        rw [List.map_map]
        refine List.map_congr_left fun i hi => ?_
        exact gd i (List.mem_range.mp (o1.mem_iff.mp hi))
      rw [em]
      generalize pp.toList.map (fun i => ts.getD i d) = out at w1 w2
      obtain ⟨e, he⟩ := sortedAll_at s.heap (ts.map fun t => Value.ref t.1) (out.map fun t => Value.ref t.1).toArray
      have hfr : H (s.heap.objs.size + 1) = none := I.hok.fresh (Nat.le_succ _)
      refine ⟨.ref (s.heap.objs.size + 1), _, I.laid (t' := s.toks) (o := .lst (out.map fun t => V.ref t.1)) (fun b o g => sortedAll_old g) (Nat.le_succ _) ?_, rfl, q out _ w1 (w2.imp fun h => by simpa using h) hfr⟩
      exact ⟨by rw [List.length_map, w1.length_eq, sizeLine_eq]; omega, _, e, mapF_vals out, he⟩
end
end L2
namespace K9
open PySem L2 TM
mutual
def isT (f : Str → Str → Option (List Str)) : Tree Str → Str → Bool
  | .node n _ bs, k => match f k n with
    | none => false
    | some ss => decide (ss.length = bs.length) && isTs f bs ss
def isTs (f : Str → Str → Option (List Str)) : List (Tree Str) → List Str → Bool
  | [], ss => ss.isEmpty
  | b :: bs, ss => match ss with
    | [] => false
    | s :: r => isT f b s && isTs f bs r
end
mutual
def td : Tree Str → PyData
  | .node n m bs => .tuple [.str n, .int m, .tuple (tds bs)]
def tds : List (Tree Str) → List PyData
  | [] => []
  | t :: r => td t :: tds r
end
mutual
theorem TrV.rd {K : PySem.W.Frag} {H : Hp} : ∀ {v : V} {t : Tree Str}, TrV K H v t → RdV K H v (td t)
  | _, _, .mk h1 h2 h3 _ => by
    simp only [td]
    exact .tup h1 (.cons (.str _) (.cons (.int _) (.cons (.tup h2 (TrAll.rd h3)) .nil)))
theorem TrAll.rd {K : PySem.W.Frag} {H : Hp} : ∀ {vs : List V} {ts : List (Tree Str)}, TrAll K H vs ts → RdAll K H vs (tds ts)
  | _, _, .nil => by simp only [tds]; exact .nil
  | _, _, .cons h t => by simp only [tds]; exact .cons (TrV.rd h) (TrAll.rd t)
end
abbrev KdT := Addr × Str × Addr × List PNx
def RowAt (K : PySem.W.Frag) (H : Hp) (t : PNx) : Prop := SqT K H t.1 [.str t.2.1, .ref t.2.2.1] ∧ SqT K H t.2.2.1 (t.2.2.2.map V.str)
def RowsL (K : PySem.W.Frag) (H : Hp) (lr : Addr) (rs : List PNx) : Prop := SqL K H lr (rs.map fun t => V.ref t.1) ∧ ∀ t ∈ rs, RowAt K H t
def WoodAt (K : PySem.W.Frag) (H : Hp) (w : Addr) (ks : List KdT) : Prop := SqL K H w (ks.map fun k => V.ref k.1) ∧ ∀ k ∈ ks, SqT K H k.1 [.str k.2.1, .ref k.2.2.1] ∧ RowsL K H k.2.2.1 k.2.2.2
theorem RowAt.same {K : PySem.W.Frag} {H H' : Hp} {t : PNx} (g : Same H H') (h : RowAt K H t) : RowAt K H' t := ⟨g.seqT h.1, g.seqT h.2⟩
theorem RowsL.same {K : PySem.W.Frag} {H H' : Hp} {lr : Addr} {rs : List PNx} (g : Same H H') (h : RowsL K H lr rs) : RowsL K H' lr rs := ⟨g.seq h.1, fun t ht => (h.2 t ht).same g⟩
theorem WoodAt.same {K : PySem.W.Frag} {H H' : Hp} {w : Addr} {ks : List KdT} (g : Same H H') (h : WoodAt K H w ks) : WoodAt K H' w ks := ⟨g.seq h.1, fun k hk => ⟨g.seqT (h.2 k hk).1, (h.2 k hk).2.same g⟩⟩
structure RowsOk (rs : List PNx) : Prop where
  nd : (rs.map fun t => t.2.1).Nodup
  len : rs.length ≤ 10
  nm : ∀ r ∈ rs, PyData.strOk r.2.1 = true
  kn : ∀ r ∈ rs, ∀ x ∈ r.2.2.2, PyData.strOk x = true
  kl : ∀ r ∈ rs, r.2.2.2.length ≤ 4
structure WoodOk (ks : List KdT) : Prop where
  nd : (ks.map fun k => k.2.1).Nodup
  len : ks.length ≤ 10
  rows : ∀ k ∈ ks, RowsOk k.2.2.2
def rowsK (ks : List KdT) (kind : Str) : List PNx := ((ks.find? fun k => decide (k.2.1 = kind)).map fun k => k.2.2.2).getD []
theorem val_map {α : Type} (f : α → Str) (g : α → V) (z : Str) : ∀ l : List α, valV (l.map fun x => ((Sum.inr (f x) : Key), g x)) (Sum.inr z) = (l.find? fun x => decide (f x = z)).map g
  | [] => rfl
  | x :: r => by
    rw [List.map_cons, List.find?_cons]
    by_cases e : f x = z
    · rw [valV_pos (p := ((Sum.inr (f x) : Key), g x)) (by rw [e]), decide_eq_true e]; rfl
    · rw [valV_neg (p := ((Sum.inr (f x) : Key), g x)) (fun q => e (by injection q)), decide_eq_false e]
      exact val_map f g z r
end K9
namespace TT
open TM PySem
inductive Lab where
  | call (m b : Int)
  | put (nm : Str) (kept : Bool) (add : Int)
abbrev Tm := Tree Lab
def leaf (m b : Int) : Tm := .node (.call m b) 0 []
def lcl : Lab → List (Int × Int)
  | .call m b => [(m, b)]
  | .put _ _ _ => []
def isC : Lab → Bool
  | .call _ _ => true
  | .put _ _ _ => false
def lab : Tm → Lab
  | .node l _ _ => l
mutual
def cls : Tm → List (Int × Int)
  | .node l _ bs => lcl l ++ clss bs
def clss : List Tm → List (Int × Int)
  | [] => []
  | t :: r => cls t ++ clss r
end
def hdF (f : Int → Int → Tm) : Lab → List Tm → Tm
  | .call m b, _ => f m b
  | .put n k a, ts => .node (.put n k a) 0 ts
mutual
def sub (f : Int → Int → Tm) : Tm → Tm
  | .node l _ bs => hdF f l (subs f bs)
def subs (f : Int → Int → Tm) : List Tm → List Tm
  | [] => []
  | t :: r => sub f t :: subs f r
end
theorem clss_snoc : ∀ (ts : List Tm) (t : Tm), clss (ts ++ [t]) = clss ts ++ cls t
  | [], t => by simp [clss]
  | u :: r, t => by rw [List.cons_append]; simp only [clss, clss_snoc r t, List.append_assoc]
mutual
theorem cls_len : ∀ t : Tm, (cls t).length ≤ sz t
  | .node l _ bs => by
    simp only [cls, sz, List.length_append]
    have := clss_len bs
    have h : (lcl l).length ≤ 1 := by cases l <;> simp [lcl]
    omega
theorem clss_len : ∀ ts : List Tm, (clss ts).length ≤ szs ts
  | [] => by simp [clss, szs]
  | t :: r => by simp only [clss, szs, List.length_append]; have h1 := cls_len t; have h2 := clss_len r; omega
end
def look (t : Tm) (p : List Int) : List (Int × Int) := match atT t p with
  | some u => lcl (lab u)
  | none => []
theorem look_cons {t u : Tm} {j : Nat} (h : t.bs[j]? = some u) (p : List Int) : look t ((j : Int) :: p) = look u p := by
  unfold look
  rw [atT_cons, if_pos (by omega), Int.toNat_natCast, h]
mutual
theorem cls_pl : ∀ t : Tm, cls t = (pl t).flatMap (look t)
  | .node l m bs => by
    have h0 : look (.node l m bs) [] = lcl l := by unfold look; rw [atT_nil]; rfl
    simp only [cls, pl, List.flatMap_cons, h0]
    rw [clss_pls (.node l m bs) 0 bs (by simp [Tree.bs])]
theorem clss_pls : ∀ (t : Tm) (j : Nat) (bs : List Tm), t.bs.drop j = bs → clss bs = (pls j bs).flatMap (look t)
  | t, j, [], h => by simp [clss, pls]
  | t, j, u :: r, h => by
    have hj : t.bs[j]? = some u := by
      have := congrArg (fun l => l[0]?) h
      simpa using this
    have hr : t.bs.drop (j + 1) = r := by
      have := congrArg List.tail h
      simpa using this
    simp only [clss, pls, List.flatMap_append, List.flatMap_map]
    rw [cls_pl u, clss_pls t (j + 1) r hr]
    congr 1
    congr 1
    funext p
    exact (look_cons hj p).symm
end
variable {R : Rows Lab}
variable {B B' : Nat → Tm} {f : Int → Int → Tm}
end TT
namespace L2
open PySem PyProof.Rows TM TT
abbrev CALL : Str := Str.ofString "call"
abbrev PUT : Str := Str.ofString "put"
mutual
inductive TmV (K : PySem.W.Frag) (H : Hp) : V → Tm → Prop where
  | call {a : Addr} {m b : Int} : SqT K H a [.str CALL, .int m, .int b] → TmV K H (.ref a) (.node (.call m b) 0 [])
  | put {a b : Addr} {vs : List V} {ts : List Tm} {n : Str} {k : Bool} {ad : Int} : SqT K H a [.str PUT, .str n, .bl k, .int ad, .ref b] → SqT K H b vs → TmAll K H vs ts → vs.length ≤ 1000 → TmV K H (.ref a) (.node (.put n k ad) 0 ts)
inductive TmAll (K : PySem.W.Frag) (H : Hp) : List V → List Tm → Prop where
  | nil : TmAll K H [] []
  | cons {v : V} {vs : List V} {t : Tm} {ts : List Tm} : TmV K H v t → TmAll K H vs ts → TmAll K H (v :: vs) (t :: ts)
end
mutual
theorem TmV.mono {K : PySem.W.Frag} {H H' : Hp} (k : ∀ a xs, SqT K H a xs → SqT K H' a xs) : ∀ {v : V} {t : Tm}, TmV K H v t → TmV K H' v t
  | _, _, .call h => .call (k _ _ h)
  | _, _, .put h1 h2 h3 h4 => .put (k _ _ h1) (k _ _ h2) (TmAll.mono k h3) h4
theorem TmAll.mono {K : PySem.W.Frag} {H H' : Hp} (k : ∀ a xs, SqT K H a xs → SqT K H' a xs) : ∀ {vs : List V} {ts : List Tm}, TmAll K H vs ts → TmAll K H' vs ts
  | _, _, .nil => .nil
  | _, _, .cons h t => .cons (TmV.mono k h) (TmAll.mono k t)
end
theorem TmAll.length {K : PySem.W.Frag} {H : Hp} : ∀ {vs : List V} {ts : List Tm}, TmAll K H vs ts → vs.length = ts.length
  | _, _, .nil => rfl
  | _, _, .cons _ t => by rw [List.length_cons, List.length_cons, TmAll.length t]
theorem TmAll.get {K : PySem.W.Frag} {H : Hp} : ∀ {vs : List V} {ts : List Tm} {i : Nat} {t : Tm}, TmAll K H vs ts → ts[i]? = some t → ∃ v, vs[i]? = some v ∧ TmV K H v t
  | _, _, _, _, .nil, e => by simp at e
  | _, _, 0, _, .cons h _, e => by simp at e; subst e; exact ⟨_, rfl, h⟩
  | _, _, i + 1, t, .cons _ r, e => by
    obtain ⟨v, h1, h2⟩ := TmAll.get (i := i) (t := t) r (by simpa using e)
    exact ⟨v, by simpa using h1, h2⟩
theorem TmAll.append {K : PySem.W.Frag} {H : Hp} : ∀ {vs ws : List V} {ts us : List Tm}, TmAll K H vs ts → TmAll K H ws us → TmAll K H (vs ++ ws) (ts ++ us)
  | _, _, _, _, .nil, h => h
  | _, _, _, _, .cons a t, h => .cons a (TmAll.append t h)
def tdl : Lab → List PyData → PyData
  | .call m b, _ => .tuple [.str CALL, .int m, .int b]
  | .put n k a, ds => .tuple [.str PUT, .str n, .bool k, .int a, .tuple ds]
mutual
def tmd : Tm → PyData
  | .node l _ bs => tdl l (tmds bs)
def tmds : List Tm → List PyData
  | [] => []
  | t :: r => tmd t :: tmds r
end
mutual
theorem TmV.rd {K : PySem.W.Frag} {H : Hp} : ∀ {v : V} {t : Tm}, TmV K H v t → RdV K H v (tmd t)
  | _, _, .call h => by
    simp only [tmd, tdl]
    exact .tup h (.cons (.str _) (.cons (.int _) (.cons (.int _) .nil)))
  | _, _, .put h1 h2 h3 _ => by
    simp only [tmd, tdl]
    exact .tup h1 (.cons (.str _) (.cons (.str _) (.cons (.bl _) (.cons (.int _) (.cons (.tup h2 (TmAll.rd h3)) .nil)))))
theorem TmAll.rd {K : PySem.W.Frag} {H : Hp} : ∀ {vs : List V} {ts : List Tm}, TmAll K H vs ts → RdAll K H vs (tmds ts)
  | _, _, .nil => by simp only [tmds]; exact .nil
  | _, _, .cons h t => by simp only [tmds]; exact .cons (TmV.rd h) (TmAll.rd t)
end
def MOk (d : Nat) (t : Tm) : Prop := (tmd t).canLay0 = true ∧ (tmd t).depth ≤ d
theorem MOk.mono {d e : Nat} {t : Tm} (h : MOk d t) (hd : d ≤ e) : MOk e t := ⟨h.1, Nat.le_trans h.2 hd⟩
theorem tmds_ok {d : Nat} : ∀ ts : List Tm, (∀ t ∈ ts, MOk d t) → PyData.canLayAll0 (tmds ts) = true ∧ PyData.depthAll (tmds ts) ≤ d
  | [], _ => by simp [tmds, PyData.canLayAll0, PyData.depthAll]
  | t :: r, h => by
    obtain ⟨h1, h2⟩ := h t List.mem_cons_self
    obtain ⟨h3, h4⟩ := tmds_ok r fun u hu => h u (List.mem_cons_of_mem _ hu)
    simp only [tmds, PyData.canLayAll0, PyData.depthAll, h1, h3, Bool.and_self, true_and]
    omega
theorem str_call : PyData.strOk CALL = true := by decide +kernel
theorem str_put : PyData.strOk PUT = true := by decide +kernel
theorem leaf_ok (m b : Int) (mk : Int) (bs : List Tm) : MOk 1 (.node (.call m b) mk bs) := by
  constructor
  · simp only [tmd, tdl, PyData.canLay0, PyData.canLayAll0, str_call, Bool.and_self]
  · simp only [tmd, tdl, PyData.depth, PyData.depthAll]; omega
theorem put_ok {d : Nat} {n : Str} {k : Bool} {a mk : Int} {ts : List Tm} (hn : PyData.strOk n = true) (h : ∀ t ∈ ts, MOk d t) : MOk (d + 2) (.node (.put n k a) mk ts) := by
  obtain ⟨h1, h2⟩ := tmds_ok ts h
  constructor
  · simp only [tmd, tdl, PyData.canLay0, PyData.canLayAll0, h1, hn, str_put, Bool.and_self]
  · simp only [tmd, tdl, PyData.depth, PyData.depthAll]
    omega
end L2
namespace K11
open PySem L2 TM TT K9
def kpl : Lab → Bool
  | .call _ _ => false
  | .put _ k _ => k
mutual
def kp : Tm → Bool
  | .node l _ bs => kpl l || kps bs
def kps : List Tm → Bool
  | [] => false
  | t :: r => kp t || kps r
end
abbrev Md := Str × List Tm
abbrev MdT := Addr × Str × Addr × List V × List Tm
def MdT.md (m : MdT) : Md := (m.2.1, m.2.2.2.2)
def MdAt (K : PySem.W.Frag) (H : Hp) (m : MdT) : Prop := SqT K H m.1 [.str m.2.1, .ref m.2.2.1] ∧ SqL K H m.2.2.1 m.2.2.2.1 ∧ TmAll K H m.2.2.2.1 m.2.2.2.2
def ModesL (K : PySem.W.Frag) (H : Hp) (lm : Addr) (ms : List MdT) : Prop := SqL K H lm (ms.map fun m => V.ref m.1) ∧ ∀ m ∈ ms, MdAt K H m
theorem MdAt.same {K : PySem.W.Frag} {H H' : Hp} {m : MdT} (g : Same H H') (h : MdAt K H m) : MdAt K H' m := ⟨g.seqT h.1, g.seq h.2.1, h.2.2.mono fun _ _ => g.seqT⟩
theorem ModesL.same {K : PySem.W.Frag} {H H' : Hp} {lm : Addr} {ms : List MdT} (g : Same H H') (h : ModesL K H lm ms) : ModesL K H' lm ms := ⟨g.seq h.1, fun m hm => (h.2 m hm).same g⟩
structure TmOk (t : Tm) : Prop where
  lv : lv t ≤ 8
  sz : sz t ≤ 100
  mok : MOk 20 t
structure ModesOk (ms : List Md) : Prop where
  len : ms.length ≤ 20
  kd : ∀ m ∈ ms, PyData.strOk m.1 = true
  rl : ∀ m ∈ ms, m.2.length ≤ 30
  tm : ∀ m ∈ ms, ∀ t ∈ m.2, TmOk t
end K11
namespace L2
open PySem PyProof.Rows TM TT K9 K11
theorem SameD.seqL {K : PySem.W.Frag} {d a : Addr} {H H' : Hp} {xs : List V} (g : SameD d H H') (hne : a ≠ d) (h : SqL K H a xs) : SqL K H' a xs := by
  rcases h with (h | ⟨ob, h⟩) | h
  · exact .inl (.inl (g _ _ hne h))
  · exact .inl (.inr ⟨ob, g _ _ hne h⟩)
  · exact .inr h
def WoodD (K : PySem.W.Frag) (H : Hp) (d w : Addr) (ks : List KdT) : Prop := WoodAt K H w ks ∧ w ≠ d ∧ ∀ k ∈ ks, k.2.2.1 ≠ d
theorem WoodD.sameD {K : PySem.W.Frag} {H H' : Hp} {d w : Addr} {ks : List KdT} (g : SameD d H H') (hd : Dk H d) (h : WoodD K H d w ks) : WoodD K H' d w ks := by
  obtain ⟨⟨h1, h2⟩, h3, h4⟩ := h
  exact ⟨⟨g.seqL h3 h1, fun k hk => ⟨g.seqT hd (h2 k hk).1, g.seqL (h4 k hk) (h2 k hk).2.1, fun t ht => ⟨g.seqT hd ((h2 k hk).2.2 t ht).1, g.seqT hd ((h2 k hk).2.2 t ht).2⟩⟩⟩, h3, h4⟩
structure DWood (c : Int) (ks : List KdT) : Prop where
  ok : WoodOk ks
  pos : 0 < ks.length
  three : ks.length ≤ 3
  nm : ∀ k ∈ ks, PyData.strOk k.2.1 = true
  few : ∀ k ∈ ks, k.2.2.2.length ≤ 3
  bare : ∀ k ∈ ks, ∃ r ∈ k.2.2.2, r.2.2.2 = []
  kin : ∀ k ∈ ks, ∀ r ∈ k.2.2.2, ∀ x ∈ r.2.2.2, x ∈ ks.map fun k => k.2.1
theorem SameD.put {d a : Addr} {H H' : Hp} {o : HO} (g : SameD d H H') (ha : H a = none) : SameD d H (L2.upd H' a o) := fun b u hb e => by
  rw [upd_ne (ne_of_none e ha)]; exact g _ _ hb e
end L2
namespace K33
open PySem L2 TM TT ST K9 K11
abbrev sWood : Stmt := top 24
def spWood (K : PySem.W.Frag) : Sp := fun vs H Q _ => ∃ (d : Addr) (c : Int), vs = [.ref d, .int c] ∧ Dk H d ∧ ∀ (w : Addr) (H' : Hp) (ks : List KdT), SameD d H H' → Dk H' d → WoodD K H' d w ks → DWood c ks → Q (.ref w) H'
def RowF (c : Int) (n : Nat) (r : PNx) : Prop := PyData.strOk r.2.1 = true ∧ r.2.2.2.length ≤ 4 ∧ ∀ x ∈ r.2.2.2, x ∈ (List.range n).map fun (i : Nat) => nmS c (i : Int)
def RowsF (c : Int) (n : Nat) (b : Int) (rs : List PNx) : Prop := rs.map (fun r => r.2.1) = (List.range rs.length).map (fun (j : Nat) => nmS c (b + (j : Int))) ∧ (∀ r ∈ rs, RowF c n r) ∧ (∃ r ∈ rs, r.2.2.2 = [])
theorem range_nodup (c b : Int) (n : Nat) (h0 : 0 ≤ b) (h1 : b + (n : Int) ≤ 26) : ((List.range n).map fun (j : Nat) => nmS c (b + (j : Int))).Nodup := by
  rw [List.nodup_iff_pairwise_ne, List.pairwise_map]
  refine List.Pairwise.imp_of_mem (fun {i j} hi hj hne e => hne ?_) (List.nodup_iff_pairwise_ne.mp List.nodup_range)
  have hi' := List.mem_range.mp hi
  have hj' := List.mem_range.mp hj
  have := nmS_inj (c := c) (k := b + (i : Int)) (k' := b + (j : Int)) (by omega) (by omega) (by omega) (by omega) e
  omega
theorem rowsF_ok {c : Int} {n : Nat} {b : Int} {rs out : List PNx} (h : RowsF c n b rs) (h0 : 0 ≤ b) (h1 : b + 3 ≤ 26) (hl : rs.length ≤ 3) (hp : out.Perm rs) : RowsOk out ∧ out.length ≤ 3 ∧ (∃ r ∈ out, r.2.2.2 = []) ∧ ∀ r ∈ out, RowF c n r := by
  obtain ⟨h2, h3, r0, hr0, e0⟩ := h
  have hlen := hp.length_eq
  have nd : (rs.map fun r => r.2.1).Nodup := by rw [h2]; exact range_nodup c b rs.length h0 (by omega)
  refine ⟨⟨(hp.map _).nodup_iff.mpr nd, by omega, fun r hr => (h3 r (hp.mem_iff.mp hr)).1, fun r hr x hx => ?_, fun r hr => (h3 r (hp.mem_iff.mp hr)).2.1⟩, by omega, ⟨r0, hp.mem_iff.mpr hr0, e0⟩, fun r hr => h3 r (hp.mem_iff.mp hr)⟩
  obtain ⟨i, _, rfl⟩ := List.mem_map.mp ((h3 r (hp.mem_iff.mp hr)).2.2 x hx)
  exact nmS_ok _ _
section
variable {P : Program} {w : World} {K : PySem.W.Frag} {mg : Str → Option Value} {base : Heap} {f : Addr} {fd : FuncData}
theorem scWood : FnScope ["_law_deck", "_law_code", "_law_count", "_law_apart", "_law_wood_here", "_law_k", "_law_rows_here", "_law_j", "_law_branches"] ["_law_deck", "_law_code"] (defScope sWood) := ⟨rfl, rfl, rfl, by decide +kernel, rfl, by decide +kernel, by decide +kernel⟩
theorem ok_wood (F : Fun K "_law_wood" "_law_wood" sWood f fd) (G : Gm mg) (RD : Fn P w K mg base 1 "_law_draw" ["_law_deck", "_law_most"] spDraw) (RN : Fn P w K mg base 1 "_law_name" ["_law_code", "_law_k"] spName) : FnOk P w K mg base CX0 2 f fd ["_law_deck", "_law_code"] (spWood K) := by
  refine F.ok scWood (fun vs H Q E h => ?_) (fun cdv A outer s H vs Q E hr h => ?_)
  · obtain ⟨d, c, rfl, _⟩ := h
    rfl
  obtain ⟨d, c, rfl, hd, q⟩ := h
  refine ⟨_, (pss_cons (ps_set (i := 2) scWood.nd rfl (Or.inr rfl) (pe_op op_add pe_int (pe_fn RD hr (pa_cons (pv 0) (pa_cons (pe_int) pa_nil)))))
    (pss_cons (ps_set (i := 3) scWood.nd rfl (Or.inl rfl) (pe_op op_mul (pe_fn RD hr (pa_cons (pv 0) (pa_cons (pe_int) pa_nil))) pe_int))
    (pss_cons (ps_set (i := 4) scWood.nd rfl (Or.inl rfl) (pe_lst pa_nil))
    (pss_cons (ps_for PassesOwn.never rfl (pi_range1 rfl G.rng (pa_cons (pv 2) pa_nil)) (pg_name (i := 5) scWood.nd rfl (Or.inl rfl)) (pss_cons (ps_set (i := 6) scWood.nd rfl (Or.inl rfl) (pe_lst (pa_cons ((pe_tup (pa_cons (pe_fn RN hr (pa_cons (pv 1) (pa_cons (pe_op op_add pe_int (pe_op op_mul (pv 3) (pv 5))) pa_nil))) (pa_cons (pe_tup pa_nil) pa_nil)))) pa_nil)))
    (pss_cons (ps_for PassesOwn.never rfl (pi_range1 rfl G.rng (pa_cons (pe_fn RD hr (pa_cons (pv 0) (pa_cons (pe_int) pa_nil))) pa_nil)) (pg_name (i := 7) scWood.nd rfl (Or.inl rfl)) (pss_cons (ps_setG (i := 8) (CompG.many (xs := ["_law_i"]) (caps := ["_law_code", "_law_count", "_law_deck"]) (cap := [1, 2, 0]) (cs := [_, _, _]) rfl rfl (by decide +kernel) (by decide +kernel) (by decide +kernel) (by decide +kernel) (by decide +kernel) (by decide +kernel) rfl rfl rfl) rfl (pi_range1 rfl G.rng (pa_cons (pe_fn RD hr (pa_cons (pv 0) (pa_cons (pe_int) pa_nil))) pa_nil)) (pg_c1 (CompG.many (xs := ["_law_i"]) (caps := ["_law_code", "_law_count", "_law_deck"]) (cap := [1, 2, 0]) (cs := [_, _, _]) rfl rfl (by decide +kernel) (by decide +kernel) (by decide +kernel) (by decide +kernel) (by decide +kernel) (by decide +kernel) rfl rfl rfl)) (fun _ _ _ _ => pf_nil) (fun _ _ _ _ => pe_fn RN hr (pa_cons (pv 1) (pa_cons (pe_fn RD hr (pa_cons (pv 3) (pa_cons (pv 2) pa_nil))) pa_nil))) scWood.nd rfl rfl)
    (pss_one (ps_expr (pe_bm PySem.F.plainAttrs_list PySem.F.slot_list_append PySem.F.type_list_append mt_append (pv 6) (pa_cons ((pe_tup (pa_cons (pe_fn RN hr (pa_cons (pv 1) (pa_cons (pe_op op_add (pe_op op_add pe_int (pv 7)) (pe_op op_mul (pv 3) (pv 5))) pa_nil))) (pa_cons (pe_callTy call_tuple_of rfl G.tup PyProof.Rows.boot_tuple (pa_cons (pv 8) pa_nil)) pa_nil)))) pa_nil))))))
    (pss_one (ps_expr (pe_bm PySem.F.plainAttrs_list PySem.F.slot_list_append PySem.F.type_list_append mt_append (pv 4) (pa_cons ((pe_tup (pa_cons (pe_fn RN hr (pa_cons (pv 1) (pa_cons (pv 5) pa_nil))) (pa_cons (pe_callB (call_sortedN (hr.fit (by decide))) rfl G.srt PyProof.Rows.boot_sorted (pa_cons (pv 6) pa_nil)) pa_nil)))) pa_nil)))))))
    (pss_one (ps_ret (pv 4))))))), ?_⟩
  refine ⟨_, rfl, d, _, rfl, hd, (by decide), fun r0 H1 g1 hd1 r00 r01 => ⟨_, _, rfl, rfl, ?_⟩⟩
  refine ⟨_, rfl, d, _, rfl, hd1, (by decide), fun r1 H2 g2 hd2 r10 r11 => ⟨_, _, rfl, rfl, .inr ⟨by decide, by decide⟩, ?_⟩⟩
  refine ⟨(by show 0 ≤ sizeLine; decide), fun lw hlw => ?_⟩
  have hlwd := hd2.ne hlw
  have g12 := g1.trans g2
  obtain ⟨n, hn⟩ : ∃ n : Nat, (n : Int) = 1 + r0 := ⟨(1 + r0).toNat, by omega⟩
  have hn1 : 1 ≤ n := by omega
  have hn3 : n ≤ 3 := by omega
  obtain ⟨ap, hap, hap3⟩ : ∃ ap : Nat, (ap : Int) = r1 * 3 ∧ ap ≤ 3 := ⟨(r1 * 3).toNat, by omega, by omega⟩
  dsimp only
  rw [← hn, ← hap]
  have hlwH : H lw = none := by
    cases e : H lw with
    | none => rfl
    | some u => have := g12 lw u hlwd e; rw [hlw] at this; cases this
  refine ⟨_, rfl, _, rfl, (by show -(2 ^ 62 : Int) ≤ ((n : Nat) : Int); omega), (by show ((n : Nat) : Int) < 2 ^ 62; omega), ?_⟩
  refine for_range (lo := 0) (n := (((n : Nat) : Int)).toNat) (fun i σ H' => ∃ (ks : List KdT) (c5 c6 c7 c8 : Option V), σ = [some (.ref d), some (.int c), some (.int (n : Int)), some (.int (ap : Int)), some (.ref lw), c5, c6, c7, c8] ∧ SameD d H H' ∧ Dk H' d ∧ H' lw = some (.lst (ks.map fun k => V.ref k.1)) ∧ ks.length = i ∧
      ks.map (fun k => k.2.1) = (List.range i).map (fun (j : Nat) => nmS c (j : Int)) ∧ ∀ k ∈ ks, SqT K H' k.1 [.str k.2.1, .ref k.2.2.1] ∧ H' k.2.2.1 = some (.lst (k.2.2.2.map fun t => V.ref t.1)) ∧ (∀ t ∈ k.2.2.2, RowAt K H' t) ∧ k.2.2.1 ≠ d ∧ k.2.2.1 ≠ lw ∧ RowsOk k.2.2.2 ∧ k.2.2.2.length ≤ 3 ∧ (∃ r ∈ k.2.2.2, r.2.2.2 = []) ∧ ∀ r ∈ k.2.2.2, RowF c n r)
    ⟨[], none, none, none, none, rfl, g12.trans (SameD.of (same_new hlw _)), hd2.upd hlwd, upd_same, rfl, rfl, fun k hk => (nomatch hk)⟩ ?_ ?_
  · rintro i σ H' hi ⟨ks, c5, c6, c7, c8, rfl, g, hdk, hlw', hkl, hkn, hkk⟩
    have hi3 : i < 3 := by omega
    have e0 : (0 : Int) + (i : Int) = (i : Int) := by omega
    obtain ⟨bn, hbn, hbn0, hbn9⟩ : ∃ bn : Int, bn = 3 + (ap : Int) * (0 + (i : Int)) ∧ 0 ≤ bn ∧ bn ≤ 9 := by
      refine ⟨_, rfl, ?_, ?_⟩
      · have : 0 ≤ (ap : Int) * (0 + (i : Int)) := Int.mul_nonneg (by omega) (by omega)
        omega
      · have : (ap : Int) * (0 + (i : Int)) ≤ 3 * 2 := Int.mul_le_mul (by omega) (by omega) (by omega) (by omega)
        omega
    have mulOk : -(2 ^ 64 : Int) < (ap : Int) ∧ (ap : Int) < 2 ^ 64 := by constructor <;> omega
    refine ⟨_, rfl, _, rfl, _, rfl, _, _, rfl, rfl, .inl mulOk, _, _, rfl, rfl, c, bn, (by rw [hbn]; rfl), ?_⟩
    refine ⟨(by show 0 ≤ sizeLine; decide), fun p0 hp0 => ⟨(by show 2 ≤ sizeLine; decide), fun p1 hp1 => ⟨(by show 1 ≤ sizeLine; decide), fun lr hlr => ?_⟩⟩⟩
    have a0 := same_new hp0 (.tup [])
    have a1 := same_new hp1 (.tup [.str (nmS c bn), .ref p0])
    have a2 := same_new hlr (.lst [.ref p1])
    have a012 := a0.trans (a1.trans a2)
    have hlrd : lr ≠ d := (hdk.same (a0.trans a1)).ne hlr
    have hlrw : lr ≠ lw := fun z => by
      have := (a0.trans a1) _ _ hlw'
      rw [← z, hlr] at this; cases this
    have hrow0 : RowAt K (upd (upd (upd H' p0 (.tup [])) p1 (.tup [.str (nmS c bn), .ref p0])) lr (.lst [.ref p1])) (p1, nmS c bn, p0, []) := ⟨a2.seqT (SqT.of upd_same), (a1.trans a2).seqT (SqT.of upd_same)⟩
    have hlr2 : upd (upd (upd H' p0 (.tup [])) p1 (.tup [.str (nmS c bn), .ref p0])) lr (.lst [.ref p1]) lr = some (.lst [.ref p1]) := upd_same
    generalize (upd (upd (upd H' p0 (.tup [])) p1 (.tup [.str (nmS c bn), .ref p0])) lr (.lst [.ref p1])) = H3 at a012 hrow0 hlr2
    have hd3 : Dk H3 d := hdk.same a012
    refine ⟨_, rfl, d, _, rfl, hd3, (by decide), fun r2 H4 g4 hd4 r20 r21 => ⟨_, rfl, (by show -(2 ^ 62 : Int) ≤ r2; omega), (by show r2 < 2 ^ 62; omega), ?_⟩⟩
    have m4 : SameD d H' H4 := (SameD.of a012).trans g4
    refine for_range (lo := 0) (n := r2.toNat) (fun j σ H5 => ∃ (rs : List PNx) (c7 c8 : Option V), σ = [some (.ref d), some (.int c), some (.int (n : Int)), some (.int (ap : Int)), some (.ref lw), some (.int (0 + (i : Int))), some (.ref lr), c7, c8] ∧ (∀ b u, b ≠ d → b ≠ lr → H' b = some u → H5 b = some u) ∧ Dk H5 d ∧ H5 lr = some (.lst (rs.map fun t => V.ref t.1)) ∧ rs.length = j + 1 ∧ RowsF c n bn rs ∧ ∀ t ∈ rs, RowAt K H5 t)
      ⟨[(p1, nmS c bn, p0, [])], c7, c8, rfl, fun b u hb _ e => m4 b u hb e, hd4, g4 _ _ hlrd hlr2, rfl, ⟨by simp, fun r hr' => ?_, ⟨_, List.mem_singleton.mpr rfl, rfl⟩⟩, fun t ht => ?_⟩ ?_ ?_
    · have : r = (p1, nmS c bn, p0, []) := by simpa using hr'
      rw [this]
      exact ⟨nmS_ok _ _, by simp, fun x hx => (nomatch hx)⟩
    · have : t = (p1, nmS c bn, p0, []) := by simpa using ht
      rw [this]
      exact ⟨g4.seqT hd3 hrow0.1, g4.seqT hd3 hrow0.2⟩
    · rintro j σ H5 hj ⟨rs, c7, c8, rfl, m5, hd5, hlr5, hrl, hrf, hra⟩
      have hj2 : j < 2 := by omega
      refine ⟨_, rfl, d, _, rfl, hd5, (by decide), fun r3 H6 g6 hd6 r30 r31 => ⟨_, rfl, (by show -(2 ^ 62 : Int) ≤ r3; omega), (by show r3 < 2 ^ 62; omega), fun acc hacc => ?_⟩⟩
      have had := hd6.ne hacc
      refine c1_range (lo := 0) (n := r3.toNat) (cs := [some (.int c), some (.int (n : Int)), some (.ref d)]) (tt := fun _ H Q => Q true H) (fun m ys H7 => ∃ zs : List Str, ys = zs.map V.str ∧ zs.length = m ∧ (∀ z ∈ zs, z ∈ (List.range n).map fun (i : Nat) => nmS c (i : Int)) ∧ H7 acc = some (.lst ys) ∧ SameD d H6 H7 ∧ Dk H7 d)
        ⟨[], rfl, rfl, fun z hz => (nomatch hz), upd_same, SameD.of (same_new hacc _), hd6.upd had⟩ ?_ ?_
      · rintro m ys H7 hm ⟨zs, rfl, hzl, hzs, hya, g7, hd7⟩
        refine iteT ⟨_, rfl, _, rfl, _, rfl, d, _, rfl, hd7, (by show (0 : Int) < ((n : Nat) : Int); omega), fun r4 H8 g8 hd8 r40 r41 => ⟨c, r4, rfl, ?_⟩⟩
        have hya8 := g8 _ _ had hya
        refine comp_next (ys := zs.map V.str) hm hya8 (by rw [List.length_map]; omega) ⟨zs ++ [nmS c r4], by simp, by simp [hzl], fun z hz => ?_, upd_same, fun b u hb e => ?_, hd8.upd had⟩
        · rcases List.mem_append.mp hz with y | y
          · exact hzs z y
          · have : z = nmS c r4 := by simpa using y
            rw [this]
            exact List.mem_map.mpr ⟨r4.toNat, List.mem_range.mpr (by omega), by rw [show ((r4.toNat : Nat) : Int) = r4 by omega]⟩
        · rw [upd_ne (ne_of_none e hacc)]; exact g8 _ _ hb (g7 _ _ hb e)
      rintro ys H7 ⟨zs, rfl, hzl, hzs, hya, g7, hd7⟩
      have g57 := g6.trans g7
      have hlr7 : H7 lr = some (.lst (rs.map fun t => V.ref t.1)) := g57 _ _ hlrd hlr5
      have en : (4 : Int) + (0 + (j : Int)) + (ap : Int) * (0 + (i : Int)) = bn + ((j + 1 : Nat) : Int) := by rw [hbn]; omega
      refine ⟨_, rfl, .inl ⟨rfl, _, SqL.of hlr7⟩, _, rfl, _, rfl, _, _, rfl, rfl, _, rfl, _, rfl, _, _, rfl, rfl, .inl mulOk, _, _, rfl, rfl, c, bn + ((j + 1 : Nat) : Int), (by rw [← en]; rfl), _, rfl, acc, _, rfl, .inl ⟨SqL.of hya, fun p5 hp5 => ⟨(by show 2 ≤ sizeLine; decide), fun p6 hp6 => ?_⟩⟩⟩
      have b1 := same_new hp5 (.tup (zs.map V.str))
      have b2 := same_new hp6 (.tup [.str (nmS c (bn + ((j + 1 : Nat) : Int))), .ref p5])
      have b12 := b1.trans b2
      have hlr8 := b12 _ _ hlr7
      have m7 : ∀ a xs, SqT K H5 a xs → SqT K (upd (upd H7 p5 (.tup (zs.map V.str))) p6 (.tup [.str (nmS c (bn + ((j + 1 : Nat) : Int))), .ref p5])) a xs := fun a xs h => b12.seqT (g57.seqT hd5 h)
      refine ⟨lr, _, _, rfl, rfl, hlr8, (by rw [List.length_map, size_line]; omega), ?_⟩
      refine ⟨rs ++ [(p6, nmS c (bn + ((j + 1 : Nat) : Int)), p5, zs)], _, _, rfl, fun b u hb hb2 e => ?_, ?_, by rw [upd_same]; simp, by simp [hrl], ⟨?_, fun r hr' => ?_, ?_⟩, fun t ht => ?_⟩
      · rw [upd_ne hb2]; exact b12 _ _ (g57 _ _ hb (m5 _ _ hb hb2 e))
      · exact (hd7.same b12).upd hlrd
      · rw [List.map_append, hrf.1, List.length_append, hrl]
        show _ = (List.range (j + 1 + 1)).map _
        rw [List.range_succ (n := j + 1), List.map_append]
        rfl
      · rcases List.mem_append.mp hr' with z | z
        · exact hrf.2.1 r z
        · have : r = (p6, nmS c (bn + ((j + 1 : Nat) : Int)), p5, zs) := by simpa using z
          rw [this]
          exact ⟨nmS_ok _ _, by show zs.length ≤ 4; omega, hzs⟩
      · obtain ⟨r, hr', e⟩ := hrf.2.2
        exact ⟨r, List.mem_append_left _ hr', e⟩
      · rcases List.mem_append.mp ht with z | z
        · exact ⟨(m7 _ _ (hra t z).1).put hlr8, (m7 _ _ (hra t z).2).put hlr8⟩
        · have : t = (p6, nmS c (bn + ((j + 1 : Nat) : Int)), p5, zs) := by simpa using z
          rw [this]
          exact ⟨SqT.put (SqT.of upd_same) hlr8, SqT.put (b2.seqT (SqT.of upd_same)) hlr8⟩
    · rintro σ H5 ⟨rs, c7, c8, rfl, m5, hd5, hlr5, hrl, hrf, hra⟩
      have hrs3 : rs.length ≤ 3 := by omega
      have hlw5 : H5 lw = some (.lst (ks.map fun k => V.ref k.1)) := m5 _ _ hlwd (Ne.symm hlrw) hlw'
      have nd : (rs.map fun t => t.2.1).Nodup := by rw [hrf.1]; exact range_nodup c bn rs.length hbn0 (by omega)
      refine ⟨_, rfl, .inl ⟨rfl, _, SqL.of hlw5⟩, _, rfl, _, rfl, c, (i : Int), (by show [V.int c, V.int (0 + (i : Int))] = _; rw [e0]), _, rfl, lr, rs, rfl, SqL.of hlr5, (fun t ht => ⟨(hra t ht).1, (hra t ht).2, fun x hx => ?_⟩), nd, by omega, fun out p hp hs hpn => ⟨(by show 2 ≤ sizeLine; decide), fun p9 hp9 => ?_⟩⟩
      · obtain ⟨y, _, rfl⟩ := List.mem_map.mp ((hrf.2.1 t ht).2.2 x hx)
        exact nmS_ok _ _
      have b1 := same_new hpn (.lst (out.map fun t => V.ref t.1))
      have b2 := same_new hp9 (.tup [.str (nmS c (i : Int)), .ref p])
      have b12 := b1.trans b2
      have hlw9 := b12 _ _ hlw5
      have hpd : p ≠ d := hd5.ne hpn
      have hpw : p ≠ lw := fun z => by rw [z, hlw5] at hpn; cases hpn
      obtain ⟨o1, o2, o3, o4⟩ := rowsF_ok hrf hbn0 (by omega) hrs3 hp
      refine ⟨lw, _, _, rfl, rfl, hlw9, (by rw [List.length_map, size_line]; omega), ?_⟩
      have mT : ∀ a xs, SqT K H' a xs → SqT K H5 a xs := fun a xs h => by
        rcases h with (h | ⟨ob, h⟩) | h
        · obtain ⟨xs', e'⟩ := hdk
          refine .inl (.inl (m5 _ _ (ne_of h e' (by intro z; cases z)) (fun z => ?_) h))
          have := m4 _ _ (ne_of h e' (by intro z; cases z)) h
          rw [z, g4 _ _ hlrd hlr2] at this; cases this
        · obtain ⟨xs', e'⟩ := hdk
          refine .inl (.inr ⟨ob, m5 _ _ (ne_of h e' (by intro z; cases z)) (fun z => ?_) h⟩)
          have := m4 _ _ (ne_of h e' (by intro z; cases z)) h
          rw [z, g4 _ _ hlrd hlr2] at this; cases this
        · exact .inr h
      refine ⟨ks ++ [(p9, nmS c (i : Int), p, out)], _, _, _, _, rfl, fun b u hb e => ?_, ?_, by rw [upd_same]; simp, by simp [hkl], ?_, fun k hk => ?_⟩
      · have hbl : b ≠ lw := ne_of_none e hlwH
        rw [upd_ne hbl]
        have e' := g b u hb e
        have hblr : b ≠ lr := fun z => by
          have := a012 _ _ e'
          have h3 := m4 b u hb e'
          rw [z] at e'
          have : H' lr = none := by
            cases ee : H' lr with
            | none => rfl
            | some uu => have := (a0.trans a1) _ _ ee; rw [hlr] at this; cases this
          rw [this] at e'; cases e'
        exact b12 _ _ (m5 b u hb hblr e')
      · exact (hd5.same b12).upd hlwd
      · rw [List.map_append, hkn, List.range_succ, List.map_append]; rfl
      · rcases List.mem_append.mp hk with z | z
        · obtain ⟨k1, k2, k3, k4, k5, k6, k7, k8, k9⟩ := hkk k z
          have hklr : k.2.2.1 ≠ lr := fun zz => by
            have : H' lr = none := by
              cases ee : H' lr with
              | none => rfl
              | some uu => have := (a0.trans a1) _ _ ee; rw [hlr] at this; cases this
            rw [zz, this] at k2; cases k2
          refine ⟨(b12.seqT (mT _ _ k1)).put hlw9, by rw [upd_ne k5]; exact b12 _ _ (m5 _ _ k4 hklr k2), fun t ht => ⟨(b12.seqT (mT _ _ (k3 t ht).1)).put hlw9, (b12.seqT (mT _ _ (k3 t ht).2)).put hlw9⟩, k4, k5, k6, k7, k8, k9⟩
        · have : k = (p9, nmS c (i : Int), p, out) := by simpa using z
          rw [this]
          refine ⟨SqT.put ?_ hlw9, by rw [upd_ne hpw]; exact b2 _ _ upd_same, fun t ht => ?_, hpd, hpw, o1, o2, o3, o4⟩
          · exact SqT.of upd_same
          · have htr := hra t (hp.mem_iff.mp ht)
            exact ⟨(b12.seqT htr.1).put hlw9, (b12.seqT htr.2).put hlw9⟩
  · rintro σ H' ⟨ks, c5, c6, c7, c8, rfl, g, hdk, hlw', hkl, hkn, hkk⟩
    have hkl' : ks.length = n := by omega
    refine ⟨_, rfl, q lw H' ks g hdk ⟨⟨SqL.of hlw', fun k hk => ⟨(hkk k hk).1, SqL.of (hkk k hk).2.1, (hkk k hk).2.2.1⟩⟩, hlwd, fun k hk => (hkk k hk).2.2.2.1⟩ ⟨⟨?_, by omega, fun k hk => (hkk k hk).2.2.2.2.2.1⟩, by omega, by omega, fun k hk => ?_, fun k hk => (hkk k hk).2.2.2.2.2.2.1, fun k hk => (hkk k hk).2.2.2.2.2.2.2.1, fun k hk r hr' x hx => ?_⟩⟩
    · rw [hkn]
      have := range_nodup c 0 n (by omega) (by omega)
      have e : (((n : Nat) : Int)).toNat = n := by omega
      rw [e]
      simpa using this
    · have hm : k.2.1 ∈ ks.map fun k => k.2.1 := List.mem_map.mpr ⟨k, hk, rfl⟩
      rw [hkn] at hm
      obtain ⟨j, _, e⟩ := List.mem_map.mp hm
      rw [← e]; exact nmS_ok _ _
    · have := ((hkk k hk).2.2.2.2.2.2.2.2 r hr').2.2 x hx
      rw [hkn]
      have e : (((n : Nat) : Int)).toNat = n := by omega
      rw [e]; exact this
end
end K33
namespace ST
open PySem TM TT
mutual
def TDr (cs : List (Int × Int)) : Tm → Prop
  | .node (.call m b) _ _ => (m, b) ∈ cs
  | .node (.put n _ _) _ bs => PyData.strOk n = true ∧ bs.length ≤ 3 ∧ TDrs cs bs
def TDrs (cs : List (Int × Int)) : List Tm → Prop
  | [] => True
  | b :: r => TDr cs b ∧ TDrs cs r
end
theorem TDrs_iff (cs : List (Int × Int)) (bs : List Tm) : TDrs cs bs ↔ ∀ b ∈ bs, TDr cs b := by
  induction bs with
  | nil => simp [TDrs]
  | cons u r ih => simp only [TDrs, ih, List.mem_cons, forall_eq_or_imp]
mutual
theorem TDr.mono {cs ds : List (Int × Int)} (h : ∀ c ∈ cs, c ∈ ds) : ∀ {t : Tm}, TDr cs t → TDr ds t
  | .node (.call m b) _ _, z => by simp only [TDr] at z ⊢; exact h _ z
  | .node (.put n _ _) _ bs, z => by simp only [TDr] at z ⊢; exact ⟨z.1, z.2.1, TDrs.mono h z.2.2⟩
theorem TDrs.mono {cs ds : List (Int × Int)} (h : ∀ c ∈ cs, c ∈ ds) : ∀ {bs : List Tm}, TDrs cs bs → TDrs ds bs
  | [], _ => by simp only [TDrs]
  | b :: r, z => by simp only [TDrs] at z ⊢; exact ⟨TDr.mono h z.1, TDrs.mono h z.2⟩
end
mutual
theorem TDr.mok {cs : List (Int × Int)} : ∀ {t : Tm}, TDr cs t → L2.MOk (2 * lv t) t
  | .node (.call m b) mk bs, _ => (L2.leaf_ok m b mk bs).mono (by simp only [lv]; omega)
  | .node (.put n k a) mk bs, z => by
    simp only [TDr] at z
    exact (L2.put_ok (d := 2 * lvs bs) z.1 (TDrs.mok z.2.2)).mono (by simp only [lv]; omega)
theorem TDrs.mok {cs : List (Int × Int)} : ∀ {bs : List Tm}, TDrs cs bs → ∀ t ∈ bs, L2.MOk (2 * lvs bs) t
  | [], _, t, h => (nomatch h)
  | b :: r, z, t, h => by
    simp only [TDrs] at z
    have i1 := TDr.mok z.1
    have i2 := TDrs.mok z.2
    simp only [lvs]
    rcases List.mem_cons.mp h with e | h
    · rw [e]; exact i1.mono (by omega)
    · exact (i2 t h).mono (by omega)
end
theorem lvs_all {α : Type} {bs : List (Tree α)} {n : Nat} (h : ∀ b ∈ bs, lv b ≤ n) : lvs bs ≤ n := by
  induction bs with
  | nil => simp [lvs]
  | cons u r ih =>
    simp only [lvs]
    have h1 := h u List.mem_cons_self
    have h2 := ih fun b hb => h b (List.mem_cons_of_mem _ hb)
    omega
end ST
namespace L2
open PySem PyProof.Rows TM TT ST
abbrev Cs := List (Addr × Int × Int)
def CsAt (K : PySem.W.Frag) (H : Hp) (l : Addr) (cs : Cs) : Prop := SqL K H l (cs.map fun t => V.ref t.1) ∧ ∀ t ∈ cs, SqT K H t.1 [.int t.2.1, .int t.2.2]
def Cs.pr (cs : Cs) : List (Int × Int) := cs.map fun t => t.2
theorem CsAt.sameD {K : PySem.W.Frag} {H H' : Hp} {d l : Addr} {cs : Cs} (g : SameD d H H') (hd : Dk H d) (hl : l ≠ d) (h : CsAt K H l cs) : CsAt K H' l cs := ⟨g.seqL hl h.1, fun t ht => g.seqT hd (h.2 t ht)⟩
theorem CsAt.same {K : PySem.W.Frag} {H H' : Hp} {l : Addr} {cs : Cs} (g : Same H H') (h : CsAt K H l cs) : CsAt K H' l cs := ⟨g.seq h.1, fun t ht => g.seqT (h.2 t ht)⟩
def csd (cs : Cs) : PyData := .list (cs.map fun t => PyData.tuple [.int t.2.1, .int t.2.2])
theorem CsAt.rdA {K : PySem.W.Frag} {H : Hp} : ∀ {cs : Cs}, (∀ t ∈ cs, SqT K H t.1 [.int t.2.1, .int t.2.2]) → RdAll K H (cs.map fun t => V.ref t.1) (cs.map fun t => PyData.tuple [.int t.2.1, .int t.2.2])
  | [], _ => .nil
  | t :: r, h => .cons (.tup (h t List.mem_cons_self) (.cons (.int _) (.cons (.int _) .nil))) (CsAt.rdA fun u hu => h u (List.mem_cons_of_mem _ hu))
theorem CsAt.rd {K : PySem.W.Frag} {H : Hp} {l : Addr} {cs : Cs} (h : CsAt K H l cs) : RdV K H (.ref l) (csd cs) := .lst h.1 (CsAt.rdA h.2)
theorem csd_lay : ∀ cs : Cs, (csd cs).canLay0 = true := fun cs => by
  unfold csd
  simp only [PyData.canLay0]
  induction cs with
  | nil => simp [PyData.canLayAll0]
  | cons t r ih => simp only [List.map_cons, PyData.canLayAll0, PyData.canLay0, ih, Bool.and_self]
theorem csd_nil (cs : Cs) : PyData.eqv (csd cs) (.list []) = cs.isEmpty := by
  unfold csd
  cases cs <;> simp [PyData.eqv, PyData.eqvAll]
theorem SameD.new {d a : Addr} {H : Hp} {o : HO} (h : H a = none) : SameD d H (L2.upd H a o) := SameD.of (same_new h o)
theorem atI_int {α : Type} {xs : List α} {r : Int} {v : α} (h0 : 0 ≤ r) (h : xs[r.toNat]? = some v) : atI xs r = some v := by
  obtain ⟨n, rfl⟩ := Int.eq_ofNat_of_zero_le h0
  exact atI_nat (by simpa using h)
theorem ix_orD {X : Cx} {r1 r2 : R2} (h1 : IxR X r1) (h2 : IxR X r2) : IxR X (fun x y H Q => r1 x y H Q ∨ r2 x y H Q) := by
  intro value slice pins s σ H x y v u Q I rx ry h hs
  rcases h with h | h
  · exact h1 value slice pins s σ H x y v u Q I rx ry h hs
  · exact h2 value slice pins s σ H x y v u Q I rx ry h hs
abbrev rIxO (K : PySem.W.Frag) : R2 := fun x y H Q => rIxL K x y H Q ∨ rIxT K x y H Q
end L2
namespace K33
open PySem L2 TM TT ST K9 K11
abbrev sRows : Stmt := top 25
abbrev sTerm : Stmt := top 26
abbrev sChg : Stmt := top 27
def spRows (K : PySem.W.Frag) : Sp := fun vs H Q _ => ∃ (wd : Addr) (ks : List KdT) (kd : KdT), vs = [.ref wd, .str kd.2.1] ∧ WoodAt K H wd ks ∧ (ks.map fun k => k.2.1).Nodup ∧ ks.length ≤ 10 ∧ kd ∈ ks ∧ ∀ H', Same H H' → Q (.ref kd.2.2.1) H'
def spTerm (K : PySem.W.Frag) (n : Nat) : Sp := fun vs H Q _ => ∃ (d : Addr) (c : Int) (lc : Addr) (cs : Cs) (dp : Int), vs = [.ref d, .int c, .ref lc, .int dp] ∧ Dk H d ∧ CsAt K H lc cs ∧ lc ≠ d ∧ dp.toNat < n ∧
  ∀ (v : V) (H' : Hp) (t : Tm), SameD d H H' → Dk H' d → TmV K H' v t → TDr cs.pr t → lv t ≤ dp.toNat + 1 → Q v H'
def spChg (K : PySem.W.Frag) (n : Nat) : Sp := fun vs H Q _ => ∃ (d : Addr) (c : Int) (lc : Addr) (cs : Cs) (v : V) (t : Tm), vs = [.ref d, .int c, v, .ref lc] ∧ Dk H d ∧ CsAt K H lc cs ∧ lc ≠ d ∧ TmV K H v t ∧ TDr [] t ∧ lv t ≤ n ∧
  ∀ (v' : V) (H' : Hp) (t' : Tm), SameD d H H' → Dk H' d → TmV K H' v' t' → TDr cs.pr t' → lv t' ≤ lv t → Q v' H'
theorem find_kind {ks : List KdT} {kd : KdT} (hn : (ks.map fun k => k.2.1).Nodup) (hk : kd ∈ ks) : ks.find? (fun k => decide (k.2.1 = kd.2.1)) = some kd := by
  induction ks with
  | nil => cases hk
  | cons u r ih =>
    rw [List.map_cons, List.nodup_cons] at hn
    rcases List.mem_cons.mp hk with e | h
    · rw [List.find?_cons, e]; simp
    · have hne : u.2.1 ≠ kd.2.1 := fun z => hn.1 (by rw [z]; exact List.mem_map.mpr ⟨kd, h, rfl⟩)
      rw [List.find?_cons, decide_eq_false hne]
      exact ih hn.2 h
section
variable {P : Program} {w : World} {K : PySem.W.Frag} {mg : Str → Option Value} {base : Heap} {f : Addr} {fd : FuncData}
theorem scRows : FnScope ["_law_wood_here", "_law_kind"] ["_law_wood_here", "_law_kind"] (defScope sRows) := ⟨rfl, rfl, rfl, by decide +kernel, rfl, by decide +kernel, by decide +kernel⟩
theorem ok_rows (F : Fun K "_law_rows" "_law_rows" sRows f fd) : FnOk P w K mg base CX0 1 f fd ["_law_wood_here", "_law_kind"] (spRows K) := by
  refine F.ok scRows (fun vs H Q E h => ?_) (fun cdv A outer s H vs Q E hr h => ?_)
  · obtain ⟨wd, ks, kd, rfl, _⟩ := h
    rfl
  obtain ⟨wd, ks, kd, rfl, hw, hn, hl, hk, q⟩ := h
  refine ⟨_, (pss_one (ps_ret (pe_ix ix_list (pe_lcompG (CompG.many (xs := ["_law_told", "_law_rows_here"]) (caps := ["_law_kind"]) (cap := [1]) (cs := [_]) rfl rfl (by decide +kernel) (by decide +kernel) (by decide +kernel) (by decide +kernel) (by decide +kernel) (by decide +kernel) rfl rfl rfl) rfl (pi_list (pv 0)) (pg_c2 (CompG.many (xs := ["_law_told", "_law_rows_here"]) (caps := ["_law_kind"]) (cap := [1]) (cs := [_]) rfl rfl (by decide +kernel) (by decide +kernel) (by decide +kernel) (by decide +kernel) (by decide +kernel) (by decide +kernel) rfl rfl rfl) rfl) (fun _ _ _ _ => pf_one (pt_cmpR op_eq (pv 0) (pv 2) (nomark _))) (fun _ _ _ _ => pv 1)) pe_int (fun _ _ => rfl)))), ?_⟩
  refine ⟨_, rfl, wd, rfl, ⟨_, hw.1⟩, fun acc hacc => ?_⟩
  refine c2_list (K := K) (xs := ks.map fun k => V.ref k.1) (cs := [some (.str kd.2.1)]) (te := tVar 1) (fun i ys H' => ys = ((ks.take i).filter fun k => decide (k.2.1 = kd.2.1)).map (fun k => V.ref k.2.2.1) ∧ H' acc = some (.lst ys) ∧ Same H H')
    ⟨rfl, upd_same, same_new hacc _⟩ ?_ ?_ ?_
  · rintro i ys H' _ ⟨_, _, g⟩
    exact g.seq hw.1
  · rintro i x ys H' hi hx ⟨rfl, hya, g⟩
    have hik : i < ks.length := by simpa using hi
    obtain rfl : x = .ref ks[i].1 := by
      rw [List.getElem?_map, List.getElem?_eq_getElem hik] at hx
      exact (Option.some.inj hx).symm
    refine ⟨ks[i].1, _, _, rfl, g.seqT (hw.2 _ (List.getElem_mem hik)).1, _, rfl, _, rfl, rfl, _, rfl, ?_⟩
    have elen : (((ks.take i).filter fun k => decide (k.2.1 = kd.2.1)).map (fun k => V.ref k.2.2.1)).length < 5000 := by
      rw [List.length_map]
      exact Nat.lt_of_le_of_lt (List.length_filter_le _ _) (by rw [List.length_take]; omega)
    by_cases hc : ks[i].2.1 = kd.2.1
    · have e : decide (V.str ks[i].2.1 = V.str kd.2.1) = true := decide_eq_true (by rw [hc])
      rw [e]
      refine iteT ⟨_, rfl, comp_next hi hya elen ⟨?_, upd_same, fun x u e => by rw [upd_ne (ne_of_none e hacc)]; exact g _ _ e⟩⟩
      rw [List.take_add_one, List.getElem?_eq_getElem hik, List.filter_append, List.map_append]
      simp [hc]
    · have e : decide (V.str ks[i].2.1 = V.str kd.2.1) = false := decide_eq_false fun z => hc (V.str.inj z)
      rw [e]
      refine iteF (comp_skip hi (ys := ((ks.take i).filter fun k => decide (k.2.1 = kd.2.1)).map (fun k => V.ref k.2.2.1)) ⟨?_, hya, g⟩)
      rw [List.take_add_one, List.getElem?_eq_getElem hik, List.filter_append]
      simp [hc]
  rintro ys H1 ⟨rfl, hya, g⟩
  rw [List.length_map, List.take_length] at hya
  refine ⟨acc, _, 0, .ref kd.2.2.1, rfl, rfl, SqL.of hya, atI_nat (j := 0) ?_, q H1 g⟩
  rw [List.getElem?_map, ← List.head?_eq_getElem?, List.head?_filter, find_kind hn hk]
  rfl
theorem scTerm : FnScope ["_law_deck", "_law_code", "_law_calls_here", "_law_deep", "_law_pick", "_law_parts", "_law_count", "_law_k", "_law_name_here"] ["_law_deck", "_law_code", "_law_calls_here", "_law_deep"] (defScope sTerm) := ⟨rfl, rfl, rfl, by decide +kernel, rfl, by decide +kernel, by decide +kernel⟩
theorem ok_term {n : Nat} (F : Fun K "_law_term" "_law_term" sTerm f fd) (G : Gm mg) (RD : Fn P w K mg base 1 "_law_draw" ["_law_deck", "_law_most"] spDraw) (RM : Fn P w K mg base 2 "_law_mark" ["_law_deck"] spMark) (RN : Fn P w K mg base 1 "_law_name" ["_law_code", "_law_k"] spName)
    (R : Fn P w K mg base (n + 2) "_law_term" ["_law_deck", "_law_code", "_law_calls_here", "_law_deep"] (spTerm K n)) : FnOk P w K mg base CX0 (n + 3) f fd ["_law_deck", "_law_code", "_law_calls_here", "_law_deep"] (spTerm K (n + 1)) := by
  refine F.ok scTerm (fun vs H Q E h => ?_) (fun cdv A outer s H vs Q E hr h => ?_)
  · obtain ⟨d, c, lc, cs, dp, rfl, _⟩ := h
    rfl
  obtain ⟨d, c, lc, cs, dp, rfl, hd, hcs, hlc, hdp, q⟩ := h
  refine ⟨_, (pss_cons (ps_set (i := 4) scTerm.nd rfl (Or.inl rfl) (pe_fn RD hr (pa_cons (pv 0) (pa_cons (pe_int) pa_nil)) (by omega)))
    (pss_cons (ps_if (pt_cut (PW.pt (pw_and (pt_cmpR op_gt (pv 4) pe_int (nomark _)) (pw_and1 (pt_cmpR op_neD (pv 2) (pe_lst pa_nil) (nomark _)))))) (pss_one (ps_ret (pe_op op_catG (pe_tup (pa_cons (pe_str) pa_nil)) (pe_ix ix_list (pv 2) (pe_fn RD hr (pa_cons (pv 0) (pa_cons (pe_callB call_len_seq rfl G.len PySem.boot_len (pa_cons (pv 2) pa_nil)) pa_nil)) (by omega)) (fun _ _ => rfl))))) pss_nil)
    (pss_cons (ps_set (i := 5) scTerm.nd rfl (Or.inl rfl) (pe_lst pa_nil))
    (pss_cons (ps_cut (ps_if (pt_cmpR op_gt (pv 3) pe_int (nomark _)) (pss_cons (ps_set (i := 6) scTerm.nd rfl (Or.inl rfl) (pe_fn RD hr (pa_cons (pv 0) (pa_cons (pe_int) pa_nil)) (by omega)))
    (pss_one (ps_for PassesOwn.never rfl (pi_range1 rfl G.rng (pa_cons (pv 6) pa_nil)) (pg_name (i := 7) scTerm.nd rfl (Or.inl rfl)) (pss_one (ps_expr (pe_bm PySem.F.plainAttrs_list PySem.F.slot_list_append PySem.F.type_list_append mt_append (pv 5) (pa_cons (pe_fn R hr (pa_cons (pv 0) (pa_cons (pv 1) (pa_cons (pv 2) (pa_cons (pe_op op_sub (pe_op op_sub (pv 3) pe_int) (pe_op op_fdiv (pv 6) pe_int)) pa_nil)))) (Nat.le_refl _)) pa_nil))))))) pss_nil))
    (pss_cons (ps_set (i := 8) scTerm.nd rfl (Or.inl rfl) (pe_fn RN hr (pa_cons (pv 1) (pa_cons (pe_op op_add pe_int (pe_fn RD hr (pa_cons (pv 0) (pa_cons (pe_int) pa_nil)) (by omega))) pa_nil)) (by omega)))
    (pss_one (ps_ret (pe_tup (pa_cons (pe_str) (pa_cons (pv 8) (pa_cons (pe_cmpR op_eq (pv 4) pe_int (nomark _)) (pa_cons (pe_fn RM hr (pa_cons (pv 0) pa_nil) (Nat.le_add_left 2 n)) (pa_cons (pe_callTy call_tuple_of rfl G.tup PyProof.Rows.boot_tuple (pa_cons (pv 5) pa_nil)) pa_nil))))))))))))), ?_⟩
  refine ⟨_, rfl, d, _, rfl, hd, (by decide), fun r0 H1 g1 hd1 r00 r01 => ?_⟩
  have hcs1 := hcs.sameD g1 hd hlc
  refine ⟨fun b H' => SameD d H H' ∧ Dk H' d ∧ CsAt K H' lc cs ∧ (b = true → cs ≠ []), ?_, ?_⟩
  · refine ⟨_, rfl, _, _, rfl, rfl, _, rfl, ite2 (fun _ => ?_) (fun _ => ?_)⟩
    · refine ⟨_, rfl, (by show 0 ≤ sizeLine; decide), fun p hp => ?_⟩
      have ge := same_new hp (.lst [])
      refine ⟨csd cs, .list [], (hcs1.same ge).rd, .lst (SqL.of upd_same) .nil, csd_lay cs, by decide, hr.fit (Nat.le_trans (Nat.min_le_right _ _) (by simp [PyData.depth, PyData.depthAll])), _, rfl, ?_⟩
      rw [if_pos rfl, csd_nil]
      refine ⟨g1.trans (SameD.of ge), hd1.same ge, hcs1.same ge, fun hb z => ?_⟩
      rw [z] at hb; simp at hb
    · exact ⟨g1, hd1, hcs1, fun z => by cases z⟩
  rintro b H2 ⟨g2, hd2, hcs2, hne⟩
  refine iteB (fun hb => ?_) (fun _ => ?_)
  · have hne' := hne hb
    have hlen : 0 < cs.length := List.length_pos_iff.mpr hne'
    refine ⟨(by show 1 ≤ sizeLine; decide), fun p hp => ⟨_, rfl, _, rfl, _, rfl, lc, _, rfl, .inl ((hcs2.same (same_new hp _)).1), d, _, rfl, hd2.same (same_new hp _), (by rw [List.length_map]; show (0 : Int) < ((cs.length : Nat) : Int); omega), fun r H3 g3 hd3 r30 r31 => ?_⟩⟩
    have ga := same_new hp (.tup [.str CALL])
    have hcs3 := (hcs2.same ga).sameD g3 (hd2.same ga) hlc
    rw [List.length_map] at r31
    obtain ⟨x, hx⟩ : ∃ x, cs[r.toNat]? = some x := ⟨_, List.getElem?_eq_getElem (by omega)⟩
    have hxm := List.mem_of_getElem? hx
    refine ⟨lc, _, _, .ref x.1, rfl, rfl, hcs3.1, atI_int r30 (by rw [List.getElem?_map, hx]; rfl), ?_⟩
    have hct := hcs3.2 _ hxm
    refine ⟨p, x.1, [.str CALL], [.int x.2.1, .int x.2.2], rfl, rfl, g3.seqT (hd2.same ga) (SqT.of upd_same), hct, (by show 3 ≤ sizeLine; decide), fun p4 H4 g4 hp4 => ?_⟩
    refine q (.ref p4) H4 (.node (.call x.2.1 x.2.2) 0 []) (g2.trans ((SameD.of ga).trans (g3.trans (SameD.of g4)))) (hd3.same g4) (.call hp4) ?_ (by simp only [lv, lvs]; omega)
    simp only [TDr]
    exact List.mem_map.mpr ⟨x, hxm, rfl⟩
  refine ⟨(by show 0 ≤ sizeLine; decide), fun lp hlp => ?_⟩
  have hlpd := hd2.ne hlp
  refine ⟨fun σ' H' => ∃ (us : List V) (ts : List Tm) (c6 c7 : Option V), σ' = [some (.ref d), some (.int c), some (.ref lc), some (.int dp), some (.int r0), some (.ref lp), c6, c7, none] ∧ SameD d H2 H' ∧ Dk H' d ∧ H' lp = some (.lst us) ∧ TmAll K H' us ts ∧ ts.length ≤ 3 ∧ ∀ t ∈ ts, TDr cs.pr t ∧ lv t ≤ dp.toNat, ?_, ?_⟩
  · refine ⟨_, rfl, _, _, rfl, rfl, _, rfl, ite2 (fun hc => ?_) (fun _ => ?_)⟩
    · have hc' : dp > 0 := of_decide_eq_true hc
      refine ⟨_, rfl, d, _, rfl, hd2.upd hlpd, (by decide), fun cn H3 g3 hd3 cn0 cn1 => ⟨_, rfl, _, rfl, (by show -(2 ^ 62 : Int) ≤ cn; omega), (by show cn < 2 ^ 62; omega), ?_⟩⟩
      have hlp3 : H3 lp = some (.lst []) := g3 _ _ hlpd upd_same
      refine for_range (lo := 0) (n := cn.toNat) (fun i σ H' => ∃ (us : List V) (ts : List Tm) (c7 : Option V), σ = [some (.ref d), some (.int c), some (.ref lc), some (.int dp), some (.int r0), some (.ref lp), some (.int cn), c7, none] ∧ SameD d H2 H' ∧ Dk H' d ∧ H' lp = some (.lst us) ∧ TmAll K H' us ts ∧ ts.length = i ∧ ∀ t ∈ ts, TDr cs.pr t ∧ lv t ≤ dp.toNat)
        ⟨[], [], none, rfl, (SameD.new hlp).trans g3, hd3, hlp3, .nil, rfl, fun t ht => (nomatch ht)⟩ ?_ ?_
      · rintro i σ H' hi ⟨us, ts, c7, rfl, g, hdk, hlp', hts, htl, hok⟩
        have hlen := hts.length
        have e3 : 0 ≤ cn / 3 := Int.ediv_nonneg cn0 (by decide)
        refine ⟨_, rfl, .inl ⟨rfl, _, SqL.of hlp'⟩, _, rfl, _, rfl, _, rfl, _, rfl, _, _, rfl, rfl, _, rfl, _, _, rfl, rfl, ⟨by decide, by decide⟩, _, _, rfl, rfl, d, c, lc, cs, dp - 1 - cn / 3, rfl, hdk, hcs2.sameD g hd2 hlc, hlc, by omega, fun v H4 t g4 hd4 hv ht hl => ?_⟩
        have hlp4 := g4 _ _ hlpd hlp'
        refine ⟨lp, us, _, rfl, rfl, hlp4, (by rw [size_line]; omega), ?_⟩
        refine ⟨us ++ [v], ts ++ [t], _, rfl, (g.trans g4).put hlp, hd4.upd hlpd, upd_same, ?_, by simp [htl], fun u hu => ?_⟩
        · exact TmAll.append (hts.mono fun _ _ h => (g4.seqT hdk h).put hlp4) (.cons (hv.mono fun _ _ h => h.put hlp4) .nil)
        · rcases List.mem_append.mp hu with z | z
          · exact hok u z
          · have : u = t := by simpa using z
            rw [this]; exact ⟨ht, by omega⟩
      · rintro σ H' ⟨us, ts, c7, rfl, g, hdk, hlp', hts, htl, hok⟩
        exact ⟨us, ts, _, _, rfl, g, hdk, hlp', hts, by omega, hok⟩
    · exact ⟨[], [], none, none, rfl, SameD.new hlp, hd2.upd hlpd, upd_same, .nil, by simp, fun t ht => (nomatch ht)⟩
  rintro σ' H3 ⟨us, ts, c6, c7, rfl, g3, hd3, hlp3, hts, htl, hok⟩
  have hlen := hts.length
  refine ⟨_, rfl, _, rfl, d, _, rfl, hd3, (by decide), fun r1 H4 g4 hd4 r10 r11 => ⟨_, _, rfl, rfl, c, _, rfl, ?_⟩⟩
  refine ⟨_, rfl, _, rfl, rfl, _, rfl, d, rfl, hd4, fun mk H5 g5 hd5 => ?_⟩
  have g35 := g4.trans g5
  have hlp5 := g35 _ _ hlpd hlp3
  refine ⟨_, rfl, lp, us, rfl, .inl ⟨SqL.of hlp5, fun pt hpt => ⟨(by show 5 ≤ sizeLine; decide), fun pp hpp => ?_⟩⟩⟩
  have ga := same_new hpt (.tup us)
  have gb := same_new hpp (.tup [.str PUT, .str (nmS c (3 + r1)), .bl (decide (V.int r0 = V.int 0)), .int mk, .ref pt])
  have gab := ga.trans gb
  refine q (.ref pp) _ (.node (.put (nmS c (3 + r1)) (decide (V.int r0 = V.int 0)) mk) 0 ts) (g2.trans (g3.trans (g35.trans (SameD.of gab)))) (hd5.same gab) (.put (SqT.of upd_same) (gb.seqT (SqT.of upd_same)) (hts.mono fun _ _ h => gab.seqT (g35.seqT hd3 h)) (by omega)) ?_ ?_
  · simp only [TDr]
    exact ⟨nmS_ok _ _, htl, (TDrs_iff _ ts).mpr fun b hb => (hok b hb).1⟩
  · simp only [lv]
    have := lvs_all fun b hb => (hok b hb).2
    omega
theorem none_term {k : Nat} : FnOk P w K mg base CX0 k f fd ["_law_deck", "_law_code", "_law_calls_here", "_law_deep"] (spTerm K 0) := by
  have no : ∀ vs H Q E, ¬ spTerm K 0 vs H Q E := fun vs H Q E h => by
    obtain ⟨d, c, lc, cs, dp, _, _, _, _, h0, _⟩ := h
    omega
  exact ⟨fun vs H Q E h => absurd h (no vs H Q E), fun A outer s H args us vs Q E _ _ _ _ h => absurd h (no vs H Q E)⟩
theorem all_term (F : Fun K "_law_term" "_law_term" sTerm f fd) (G : Gm mg) (RD : Fn P w K mg base 1 "_law_draw" ["_law_deck", "_law_most"] spDraw) (RM : Fn P w K mg base 2 "_law_mark" ["_law_deck"] spMark) (RN : Fn P w K mg base 1 "_law_name" ["_law_code", "_law_k"] spName)
    (hb : Binds K fd ["_law_deck", "_law_code", "_law_calls_here", "_law_deep"] []) (hm : mg "_law_term" = some (.ref f)) : ∀ n : Nat, FnOk P w K mg base CX0 (n + 2) f fd ["_law_deck", "_law_code", "_law_calls_here", "_law_deep"] (spTerm K n)
  | 0 => none_term
  | n + 1 => ok_term F G RD RM RN ⟨f, fd, all_term F G RD RM RN hb hm n, hb, F.kp, hm⟩
end
end K33
namespace K33
open PySem L2 TM TT ST K9 K11
abbrev sCalls : Stmt := top 28
abbrev sRule : Stmt := top 29
abbrev sBare : Stmt := top 31
def CsF (kn bs : List Str) (cs : Cs) : Prop := ∀ t ∈ cs, ∃ (k j : Nat) (z : Str), t.2 = ((k : Int), (j : Int)) ∧ kn[k]? = some z ∧ bs[j]? = some z
def spCalls (K : PySem.W.Frag) : Sp := fun vs H Q _ => ∃ (lk bv : Addr) (kn bs : List Str), vs = [.ref lk, .ref bv] ∧ SqL K H lk (kn.map V.str) ∧ (SqL K H bv (bs.map V.str) ∨ SqT K H bv (bs.map V.str)) ∧ kn.length ≤ 10 ∧ bs.length ≤ 10 ∧
  ∀ (l : Addr) (H' : Hp) (cs : Cs), Same H H' → H l = none → CsAt K H' l cs → CsF kn bs cs → cs.length ≤ 100 → Q (.ref l) H'
def spRule (K : PySem.W.Frag) : Sp := fun vs H Q _ => ∃ (d : Addr) (c : Int) (lc : Addr) (cs : Cs) (v : V) (t : Tm), vs = [.ref d, .int c, v, .ref lc] ∧ Dk H d ∧ CsAt K H lc cs ∧ lc ≠ d ∧ TmV K H v t ∧ TDr [] t ∧ lv t ≤ 3 ∧
  ∀ (v' : V) (H' : Hp) (t' : Tm), SameD d H H' → Dk H' d → TmV K H' v' t' → TDr cs.pr t' → lv t' ≤ 3 → Q v' H'
def spBare (K : PySem.W.Frag) (n : Nat) : Sp := fun vs H Q _ => ∃ (v : V) (t : Tm) (cs : List (Int × Int)), vs = [v] ∧ TmV K H v t ∧ TDr cs t ∧ lv t ≤ n ∧ ∀ (v' : V) (H' : Hp) (t' : Tm), Same H H' → TmV K H' v' t' → TDr cs t' → lv t' ≤ lv t → Q v' H'
theorem tm_op {K : PySem.W.Frag} {H : Hp} {v : V} {t : Tm} (h : TmV K H v t) : (∃ a m b, v = .ref a ∧ t = .node (.call m b) 0 [] ∧ SqT K H a [.str CALL, .int m, .int b]) ∨
    ∃ a b vs n k ad ts, v = .ref a ∧ t = .node (.put n k ad) 0 ts ∧ SqT K H a [.str PUT, .str n, .bl k, .int ad, .ref b] ∧ SqT K H b vs ∧ TmAll K H vs ts ∧ vs.length ≤ 1000 := by
  cases h with
  | call h => exact .inl ⟨_, _, _, rfl, rfl, h⟩
  | put h1 h2 h3 h4 => exact .inr ⟨_, _, _, _, _, _, _, rfl, rfl, h1, h2, h3, h4⟩
section
variable {P : Program} {w : World} {K : PySem.W.Frag} {mg : Str → Option Value} {base : Heap} {f : Addr} {fd : FuncData}
theorem scChg : FnScope ["_law_deck", "_law_code", "_law_term_here", "_law_calls_here", "_law_pick", "_law_name_here", "_law_parts"] ["_law_deck", "_law_code", "_law_term_here", "_law_calls_here"] (defScope sChg) := ⟨rfl, rfl, rfl, by decide +kernel, rfl, by decide +kernel, by decide +kernel⟩
theorem ok_chg {n : Nat} (F : Fun K "_law_changed" "_law_changed" sChg f fd) (G : Gm mg) (RD : Fn P w K mg base 1 "_law_draw" ["_law_deck", "_law_most"] spDraw) (RM : Fn P w K mg base 2 "_law_mark" ["_law_deck"] spMark) (RN : Fn P w K mg base 1 "_law_name" ["_law_code", "_law_k"] spName)
    (R : Fn P w K mg base (n + 2) "_law_changed" ["_law_deck", "_law_code", "_law_term_here", "_law_calls_here"] (spChg K n)) : FnOk P w K mg base CX0 (n + 3) f fd ["_law_deck", "_law_code", "_law_term_here", "_law_calls_here"] (spChg K (n + 1)) := by
  refine F.ok scChg (fun vs H Q E h => ?_) (fun cdv A outer s H vs Q E hr h => ?_)
  · obtain ⟨d, c, lc, cs, v, t, rfl, _⟩ := h
    rfl
  obtain ⟨d, c, lc, cs, v, t, rfl, hd, hcs, hlc, ht, htd, hlv, q⟩ := h
  refine ⟨_, (pss_cons (ps_set (i := 4) scChg.nd rfl (Or.inl rfl) (pe_fn RD hr (pa_cons (pv 0) (pa_cons (pe_int) pa_nil)) (by omega)))
    (pss_cons (ps_if (pt_cut (PW.pt (pw_and (pt_cmpR op_eq (pv 4) pe_int (nomark _)) (pw_and1 (pt_cmpR op_neD (pv 3) (pe_lst pa_nil) (nomark _)))))) (pss_one (ps_ret (pe_op op_catG (pe_tup (pa_cons (pe_str) pa_nil)) (pe_ix ix_list (pv 3) (pe_fn RD hr (pa_cons (pv 0) (pa_cons (pe_callB call_len_seq rfl G.len PySem.boot_len (pa_cons (pv 3) pa_nil)) pa_nil)) (by omega)) (fun _ _ => rfl))))) pss_nil)
    (pss_cons (ps_if (pt_cmpR op_eq (pv 4) pe_int (nomark _)) (pss_cons (ps_set (i := 5) scChg.nd rfl (Or.inl rfl) (pe_fn RN hr (pa_cons (pv 1) (pa_cons (pe_op op_add pe_int (pe_fn RD hr (pa_cons (pv 0) (pa_cons (pe_int) pa_nil)) (by omega))) pa_nil)) (by omega)))
    (pss_one (ps_ret (pe_tup (pa_cons (pe_str) (pa_cons (pv 5) (pa_cons (pe_bl) (pa_cons (pe_fn RM hr (pa_cons (pv 0) pa_nil) (Nat.le_add_left 2 n)) (pa_cons (pe_tup pa_nil) pa_nil))))))))) pss_nil)
    (pss_cons (ps_setG (i := 6) (CompG.many (xs := ["_law_part"]) (caps := ["_law_calls_here", "_law_code", "_law_deck"]) (cap := [3, 1, 0]) (cs := [_, _, _]) rfl rfl (by decide +kernel) (by decide +kernel) (by decide +kernel) (by decide +kernel) (by decide +kernel) (by decide +kernel) rfl rfl rfl) rfl (pi_tup (pe_ix ix_tup (pv 2) pe_int (fun _ _ => rfl))) (pg_c1 (CompG.many (xs := ["_law_part"]) (caps := ["_law_calls_here", "_law_code", "_law_deck"]) (cap := [3, 1, 0]) (cs := [_, _, _]) rfl rfl (by decide +kernel) (by decide +kernel) (by decide +kernel) (by decide +kernel) (by decide +kernel) (by decide +kernel) rfl rfl rfl)) (fun _ _ _ _ => pf_nil) (fun _ _ _ _ => pe_fn R hr (pa_cons (pv 3) (pa_cons (pv 2) (pa_cons (pv 0) (pa_cons (pv 1) pa_nil)))) (Nat.le_refl _)) scChg.nd rfl rfl)
    (pss_one (ps_ret (pe_tup (pa_cons (pe_str) (pa_cons (pe_ix ix_tup (pv 2) pe_int (fun _ _ => rfl)) (pa_cons (pe_and (pe_ix ix_tup (pv 2) pe_int (fun _ _ => rfl)) (pe_one (pe_cmpR op_lt (pv 4) pe_int (nomark _)))) (pa_cons (pe_ix ix_tup (pv 2) pe_int (fun _ _ => rfl)) (pa_cons (pe_callTy call_tuple_of rfl G.tup PyProof.Rows.boot_tuple (pa_cons (pv 6) pa_nil)) pa_nil)))))))))))), ?_⟩
  refine ⟨_, rfl, d, _, rfl, hd, (by decide), fun r0 H1 g1 hd1 r00 r01 => ?_⟩
  have hcs1 := hcs.sameD g1 hd hlc
  have hl1 : 1 ≤ lv t := by rw [lv_bs]; omega
  refine ⟨fun b H' => SameD d H H' ∧ Dk H' d ∧ CsAt K H' lc cs ∧ (b = true → cs ≠ []), ?_, ?_⟩
  · refine ⟨_, rfl, rfl, _, rfl, ite2 (fun _ => ?_) (fun _ => ?_)⟩
    · refine ⟨_, rfl, (by show 0 ≤ sizeLine; decide), fun p hp => ?_⟩
      have ge := same_new hp (.lst [])
      refine ⟨csd cs, .list [], (hcs1.same ge).rd, .lst (SqL.of upd_same) .nil, csd_lay cs, by decide, hr.fit (Nat.le_trans (Nat.min_le_right _ _) (by simp [PyData.depth, PyData.depthAll])), _, rfl, ?_⟩
      rw [if_pos rfl, csd_nil]
      refine ⟨g1.trans (SameD.of ge), hd1.same ge, hcs1.same ge, fun hb z => ?_⟩
      rw [z] at hb; simp at hb
    · exact ⟨g1, hd1, hcs1, fun z => by cases z⟩
  rintro b H2 ⟨g2, hd2, hcs2, hne⟩
  refine iteB (fun hb => ?_) (fun _ => ?_)
  · have hne' := hne hb
    have hlen : 0 < cs.length := List.length_pos_iff.mpr hne'
    refine ⟨(by show 1 ≤ sizeLine; decide), fun p hp => ⟨_, rfl, _, rfl, _, rfl, lc, _, rfl, .inl ((hcs2.same (same_new hp _)).1), d, _, rfl, hd2.same (same_new hp _), (by rw [List.length_map]; show (0 : Int) < ((cs.length : Nat) : Int); omega), fun r H3 g3 hd3 r30 r31 => ?_⟩⟩
    have ga := same_new hp (.tup [.str CALL])
    have hcs3 := (hcs2.same ga).sameD g3 (hd2.same ga) hlc
    rw [List.length_map] at r31
    obtain ⟨x, hx⟩ : ∃ x, cs[r.toNat]? = some x := ⟨_, List.getElem?_eq_getElem (by omega)⟩
    have hxm := List.mem_of_getElem? hx
    refine ⟨lc, _, _, .ref x.1, rfl, rfl, hcs3.1, atI_int r30 (by rw [List.getElem?_map, hx]; rfl), ?_⟩
    have hct := hcs3.2 _ hxm
    refine ⟨p, x.1, [.str CALL], [.int x.2.1, .int x.2.2], rfl, rfl, g3.seqT (hd2.same ga) (SqT.of upd_same), hct, (by show 3 ≤ sizeLine; decide), fun p4 H4 g4 hp4 => ?_⟩
    refine q (.ref p4) H4 (.node (.call x.2.1 x.2.2) 0 []) (g2.trans ((SameD.of ga).trans (g3.trans (SameD.of g4)))) (hd3.same g4) (.call hp4) ?_ (by simp only [lv, lvs]; omega)
    simp only [TDr]
    exact List.mem_map.mpr ⟨x, hxm, rfl⟩
  refine ⟨_, rfl, rfl, _, rfl, ite2 (fun _ => ?_) (fun _ => ?_)⟩
  · refine ⟨_, rfl, _, rfl, d, _, rfl, hd2, (by decide), fun r1 H4 g4 hd4 r10 r11 => ⟨_, _, rfl, rfl, c, _, rfl, ?_⟩⟩
    refine ⟨_, rfl, _, rfl, d, rfl, hd4, fun mk H5 g5 hd5 => ⟨(by show 0 ≤ sizeLine; decide), fun pt hpt => ⟨(by show 5 ≤ sizeLine; decide), fun pp hpp => ?_⟩⟩⟩
    have ga := same_new hpt (.tup [])
    have gb := same_new hpp (.tup [.str PUT, .str (nmS c (3 + r1)), .bl false, .int mk, .ref pt])
    have gab := ga.trans gb
    refine q (.ref pp) _ (.node (.put (nmS c (3 + r1)) false mk) 0 []) (g2.trans (g4.trans (g5.trans (SameD.of gab)))) (hd5.same gab) (.put (SqT.of upd_same) (gb.seqT (SqT.of upd_same)) .nil (by simp)) ?_ (by simp only [lv, lvs]; omega)
    simp only [TDr, TDrs]
    exact ⟨nmS_ok _ _, by simp, trivial⟩
  rcases tm_op ht with ⟨a, m, b, rfl, rfl, h1⟩ | ⟨a, b, bs, nm, k, ad, ts, rfl, rfl, h1, h2, h3, h4⟩
  · simp [TDr] at htd
  have l3 := h3.length
  simp only [TDr] at htd
  simp only [lv] at hlv q
  have h1' := g2.seqT hd h1
  refine ⟨_, rfl, a, _, 4, _, rfl, rfl, h1', rfl, b, rfl, ⟨_, g2.seqT hd h2⟩, fun acc hacc => ?_⟩
  have had := hd2.ne hacc
  refine c1_tup (K := K) (xs := bs) (cs := [some (.ref lc), some (.int c), some (.ref d)]) (tt := fun _ H Q => Q true H) (te := tCall (spChg K n) [] E0 (tCons (tVar 3) (tCons (tVar 2) (tCons (tVar 0) (tCons (tVar 1) tNil))))) (fun i ys H' => ∃ us : List Tm, H' acc = some (.lst ys) ∧ SameD d H2 H' ∧ Dk H' d ∧ TmAll K H' ys us ∧ us.length = i ∧ ∀ u ∈ us, TDr cs.pr u ∧ lv u ≤ lvs ts)
    ⟨[], upd_same, SameD.new hacc, hd2.upd had, .nil, rfl, fun t ht => (nomatch ht)⟩ ?_ ?_ ?_
  · rintro i ys H' _ ⟨us, _, g, _⟩
    exact (g2.trans g).seqT hd h2
  · rintro i x ys H' hi hx ⟨us, hya, g, hdk, hus, hul, hok⟩
    have hit : i < ts.length := by omega
    have hlen := hus.length
    obtain ⟨cv, hcv, hct⟩ := h3.get (List.getElem?_eq_getElem hit)
    obtain rfl : cv = x := Option.some.inj (hcv.symm.trans hx)
    have hm := List.getElem_mem hit
    have a1 := lv_le hm
    refine iteT ⟨_, rfl, _, rfl, _, rfl, _, rfl, d, c, lc, cs, cv, ts[i], rfl, hdk, hcs2.sameD g hd2 hlc, hlc, hct.mono fun _ _ => (g2.trans g).seqT hd, (TDrs_iff _ ts).mp htd.2.2 _ hm, by omega, fun v4 H4 t4 g4 hd4 hv4 ht4 hl4 => ?_⟩
    have hya4 := g4 _ _ had hya
    refine comp_next (ys := ys) hi hya4 (by omega) ⟨us ++ [t4], upd_same, (g.trans g4).put hacc, hd4.upd had, ?_, by simp [hul], fun u hu => ?_⟩
    · exact TmAll.append (hus.mono fun _ _ h => (g4.seqT hdk h).put hya4) (.cons (hv4.mono fun _ _ h => h.put hya4) .nil)
    · rcases List.mem_append.mp hu with z | z
      · exact hok u z
      · have : u = t4 := by simpa using z
        rw [this]; exact ⟨ht4, by omega⟩
  rintro ys H4 ⟨us, hya, g4, hd4, hus, hul, hok⟩
  have hlen := hus.length
  have h14 := (g2.trans g4).seqT hd h1
  have fin : ∀ kb : Bool, ∀ pt, H4 pt = none → ∀ pp, upd H4 pt (.tup ys) pp = none → Q (.ref pp) (upd (upd H4 pt (.tup ys)) pp (.tup [.str PUT, .str nm, .bl kb, .int ad, .ref pt])) := fun kb pt hpt pp hpp => by
    have ga := same_new hpt (.tup ys)
    have gb := same_new hpp (.tup [.str PUT, .str nm, .bl kb, .int ad, .ref pt])
    have gab := ga.trans gb
    refine q (.ref pp) _ (.node (.put nm kb ad) 0 us) (g2.trans (g4.trans (SameD.of gab))) (hd4.same gab) (.put (SqT.of upd_same) (gb.seqT (SqT.of upd_same)) (hus.mono fun _ _ => gab.seqT) (by omega)) ?_ ?_
    · simp only [TDr]
      exact ⟨htd.1, by omega, (TDrs_iff _ us).mpr fun b hb => (hok b hb).1⟩
    · simp only [lv]
      have := lvs_all fun b hb => (hok b hb).2
      omega
  refine ⟨_, rfl, a, _, 1, _, rfl, rfl, h14, rfl, _, rfl, a, _, 2, _, rfl, rfl, h14, rfl, _, rfl, ?_⟩
  cases k with
  | true =>
    refine iteT ⟨_, rfl, _, _, rfl, rfl, _, rfl, a, _, 3, _, rfl, rfl, h14, rfl, _, rfl, acc, ys, rfl, .inl ⟨SqL.of hya, fun pt hpt => ⟨(by show 5 ≤ sizeLine; decide), fun pp hpp => ?_⟩⟩⟩
    exact fin _ pt hpt pp hpp
  | false =>
    refine iteF ⟨_, rfl, a, _, 3, _, rfl, rfl, h14, rfl, _, rfl, acc, ys, rfl, .inl ⟨SqL.of hya, fun pt hpt => ⟨(by show 5 ≤ sizeLine; decide), fun pp hpp => ?_⟩⟩⟩
    exact fin _ pt hpt pp hpp
theorem none_chg {k : Nat} : FnOk P w K mg base CX0 k f fd ["_law_deck", "_law_code", "_law_term_here", "_law_calls_here"] (spChg K 0) := by
  have no : ∀ vs H Q E, ¬ spChg K 0 vs H Q E := fun vs H Q E h => by
    obtain ⟨d, c, lc, cs, v, t, _, _, _, _, _, _, h0, _⟩ := h
    rw [lv_bs] at h0; omega
  exact ⟨fun vs H Q E h => absurd h (no vs H Q E), fun A outer s H args us vs Q E _ _ _ _ h => absurd h (no vs H Q E)⟩
theorem all_chg (F : Fun K "_law_changed" "_law_changed" sChg f fd) (G : Gm mg) (RD : Fn P w K mg base 1 "_law_draw" ["_law_deck", "_law_most"] spDraw) (RM : Fn P w K mg base 2 "_law_mark" ["_law_deck"] spMark) (RN : Fn P w K mg base 1 "_law_name" ["_law_code", "_law_k"] spName)
    (hb : Binds K fd ["_law_deck", "_law_code", "_law_term_here", "_law_calls_here"] []) (hm : mg "_law_changed" = some (.ref f)) : ∀ n : Nat, FnOk P w K mg base CX0 (n + 2) f fd ["_law_deck", "_law_code", "_law_term_here", "_law_calls_here"] (spChg K n)
  | 0 => none_chg
  | n + 1 => ok_chg F G RD RM RN ⟨f, fd, all_chg F G RD RM RN hb hm n, hb, F.kp, hm⟩
theorem scRule : FnScope ["_law_deck", "_law_code", "_law_base", "_law_calls_here", "_law_way"] ["_law_deck", "_law_code", "_law_base", "_law_calls_here"] (defScope sRule) := ⟨rfl, rfl, rfl, by decide +kernel, rfl, by decide +kernel, by decide +kernel⟩
theorem ok_rule (F : Fun K "_law_rule" "_law_rule" sRule f fd) (RD : Fn P w K mg base 1 "_law_draw" ["_law_deck", "_law_most"] spDraw) (RC : Fn P w K mg base 5 "_law_changed" ["_law_deck", "_law_code", "_law_term_here", "_law_calls_here"] (spChg K 3)) (RT : Fn P w K mg base 5 "_law_term" ["_law_deck", "_law_code", "_law_calls_here", "_law_deep"] (spTerm K 3)) : FnOk P w K mg base CX0 6 f fd ["_law_deck", "_law_code", "_law_base", "_law_calls_here"] (spRule K) := by
  refine F.ok scRule (fun vs H Q E h => ?_) (fun cdv A outer s H vs Q E hr h => ?_)
  · obtain ⟨d, c, lc, cs, v, t, rfl, _⟩ := h
    rfl
  obtain ⟨d, c, lc, cs, v, t, rfl, hd, hcs, hlc, ht, htd, hlv, q⟩ := h
  refine ⟨_, (pss_cons (ps_set (i := 4) scRule.nd rfl (Or.inl rfl) (pe_fn RD hr (pa_cons (pv 0) (pa_cons (pe_int) pa_nil))))
    (pss_cons (ps_if (pt_cmpR op_eq (pv 4) pe_int (nomark _)) (pss_one (ps_ret (pv 2))) pss_nil)
    (pss_cons (ps_if (pt_cmpR op_eq (pv 4) pe_int (nomark _)) (pss_one (ps_ret (pe_fn RC hr (pa_cons (pv 0) (pa_cons (pv 1) (pa_cons (pv 2) (pa_cons (pv 3) pa_nil))))))) pss_nil)
    (pss_one (ps_ret (pe_fn RT hr (pa_cons (pv 0) (pa_cons (pv 1) (pa_cons (pv 3) (pa_cons (pe_int) pa_nil)))))))))), ?_⟩
  refine ⟨_, rfl, d, _, rfl, hd, (by decide), fun r0 H1 g1 hd1 r00 r01 => ?_⟩
  have hcs1 := hcs.sameD g1 hd hlc
  have ht1 : TmV K H1 v t := ht.mono fun _ _ => g1.seqT hd
  refine ⟨_, rfl, rfl, _, rfl, ite2 (fun _ => ?_) (fun _ => ?_)⟩
  · exact ⟨_, rfl, q v H1 t g1 hd1 ht1 (htd.mono (cs := []) fun c hc => by cases hc) hlv⟩
  refine ⟨_, rfl, rfl, _, rfl, ite2 (fun _ => ?_) (fun _ => ?_)⟩
  · refine ⟨_, rfl, _, rfl, _, rfl, _, rfl, d, c, lc, cs, v, t, rfl, hd1, hcs1, hlc, ht1, htd, hlv, fun v' H2 t' g2 hd2 hv' ht' hl' => ?_⟩
    exact q v' H2 t' (g1.trans g2) hd2 hv' ht' (by omega)
  · refine ⟨_, rfl, _, rfl, _, rfl, d, c, lc, cs, 2, rfl, hd1, hcs1, hlc, by decide, fun v' H2 t' g2 hd2 hv' ht' hl' => ?_⟩
    exact q v' H2 t' (g1.trans g2) hd2 hv' ht' hl'
theorem scBare : FnScope ["_law_term_here"] ["_law_term_here"] (defScope sBare) := ⟨rfl, rfl, rfl, by decide +kernel, rfl, by decide +kernel, by decide +kernel⟩
theorem ok_bare {n : Nat} (F : Fun K "_law_bare" "_law_bare" sBare f fd) (G : Gm mg) (R : Fn P w K mg base n "_law_bare" ["_law_term_here"] (spBare K n)) : FnOk P w K mg base CX0 (n + 1) f fd ["_law_term_here"] (spBare K (n + 1)) := by
  refine F.ok scBare (fun vs H Q E h => ?_) (fun cdv A outer s H vs Q E hr h => ?_)
  · obtain ⟨v, t, cs, rfl, _⟩ := h
    rfl
  obtain ⟨v, t, cs, rfl, ht, htd, hlv, q⟩ := h
  refine ⟨_, (pss_cons (ps_if (pt_cmpR op_eq (pe_ix ix_tup (pv 0) pe_int (fun _ _ => rfl)) pe_str (nomark _)) (pss_one (ps_ret (pv 0))) pss_nil)
    (pss_one (ps_ret (pe_tup (pa_cons (pe_str) (pa_cons (pe_ix ix_tup (pv 0) pe_int (fun _ _ => rfl)) (pa_cons (pe_bl) (pa_cons (pe_ix ix_tup (pv 0) pe_int (fun _ _ => rfl)) (pa_cons (pe_callTy call_tuple_of rfl G.tup PyProof.Rows.boot_tuple (pa_cons (pe_lcompG (CompG.many (xs := ["_law_part"]) (caps := []) (cap := []) (cs := []) rfl rfl (by decide +kernel) (by decide +kernel) (by decide +kernel) (by decide +kernel) (by decide +kernel) (by decide +kernel) rfl rfl rfl) rfl (pi_tup (pe_ix ix_tup (pv 0) pe_int (fun _ _ => rfl))) (pg_c1 (CompG.many (xs := ["_law_part"]) (caps := []) (cap := []) (cs := []) rfl rfl (by decide +kernel) (by decide +kernel) (by decide +kernel) (by decide +kernel) (by decide +kernel) (by decide +kernel) rfl rfl rfl)) (fun _ _ _ _ => pf_nil) (fun _ _ _ _ => pe_fn R hr (pa_cons (pv 0) pa_nil) (Nat.le_refl _))) pa_nil)) pa_nil))))))))), ?_⟩
  have ePC : ¬ V.str PUT = V.str CALL := by decide +kernel
  rcases tm_op ht with ⟨a, m, b, rfl, rfl, h1⟩ | ⟨a, b, bs, nm, k, ad, ts, rfl, rfl, h1, h2, h3, h4⟩
  · exact ⟨_, rfl, a, _, 0, _, rfl, rfl, h1, rfl, rfl, _, rfl, iteP rfl ⟨_, rfl, q _ H _ (Same.refl _) ht htd (Nat.le_refl _)⟩⟩
  refine ⟨_, rfl, a, _, 0, _, rfl, rfl, h1, rfl, rfl, _, rfl, iteN ePC ?_⟩
  have l3 := h3.length
  simp only [TDr] at htd
  simp only [lv] at hlv q
  refine ⟨_, rfl, a, _, 1, _, rfl, rfl, h1, rfl, _, rfl, a, _, 3, _, rfl, rfl, h1, rfl, _, rfl, a, _, 4, _, rfl, rfl, h1, rfl, b, rfl, ⟨_, h2⟩, fun acc hacc => ?_⟩
  refine c1_tup (K := K) (xs := bs) (cs := []) (tt := fun _ H Q => Q true H) (te := tCall (spBare K n) [] E0 (tCons (tVar 0) tNil)) (fun i ys H' => ∃ us : List Tm, H' acc = some (.lst ys) ∧ Same H H' ∧ TmAll K H' ys us ∧ us.length = i ∧ ∀ u ∈ us, TDr cs u ∧ lv u ≤ lvs ts)
    ⟨[], upd_same, same_new hacc _, .nil, rfl, fun t ht => (nomatch ht)⟩ ?_ ?_ ?_
  · rintro i ys H' _ ⟨us, _, g, _⟩
    exact g.seqT h2
  · rintro i x ys H' hi hx ⟨us, hya, g, hus, hul, hok⟩
    have hit : i < ts.length := by omega
    have hlen := hus.length
    obtain ⟨cv, hcv, hct⟩ := h3.get (List.getElem?_eq_getElem hit)
    obtain rfl : cv = x := Option.some.inj (hcv.symm.trans hx)
    have hm := List.getElem_mem hit
    have a1 := lv_le hm
    refine iteT ⟨_, rfl, cv, ts[i], cs, rfl, hct.mono fun _ _ => g.seqT, (TDrs_iff _ ts).mp htd.2.2 _ hm, by omega, fun v4 H4 t4 g4 hv4 ht4 hl4 => ?_⟩
    have hya4 := g4 _ _ hya
    refine comp_next (ys := ys) hi hya4 (by omega) ⟨us ++ [t4], upd_same, fun x u e => by rw [upd_ne (ne_of_none e hacc)]; exact g4 _ _ (g _ _ e), ?_, by simp [hul], fun u hu => ?_⟩
    · exact TmAll.append (hus.mono fun _ _ h => (g4.seqT h).put hya4) (.cons (hv4.mono fun _ _ h => h.put hya4) .nil)
    · rcases List.mem_append.mp hu with z | z
      · exact hok u z
      · have : u = t4 := by simpa using z
        rw [this]; exact ⟨ht4, by omega⟩
  rintro ys H4 ⟨us, hya, g4, hus, hul, hok⟩
  have hlen := hus.length
  refine ⟨acc, ys, rfl, .inl ⟨SqL.of hya, fun pt hpt => ⟨(by show 5 ≤ sizeLine; decide), fun pp hpp => ?_⟩⟩⟩
  have ga := same_new hpt (.tup ys)
  have gb := same_new hpp (.tup [.str PUT, .str nm, .bl false, .int ad, .ref pt])
  have gab := ga.trans gb
  refine q (.ref pp) _ (.node (.put nm false ad) 0 us) (g4.trans gab) (.put (SqT.of upd_same) (gb.seqT (SqT.of upd_same)) (hus.mono fun _ _ => gab.seqT) (by omega)) ?_ ?_
  · simp only [TDr]
    exact ⟨htd.1, by omega, (TDrs_iff _ us).mpr fun b hb => (hok b hb).1⟩
  · simp only [lv]
    have := lvs_all fun b hb => (hok b hb).2
    omega
theorem none_bare {k : Nat} : FnOk P w K mg base CX0 k f fd ["_law_term_here"] (spBare K 0) := by
  have no : ∀ vs H Q E, ¬ spBare K 0 vs H Q E := fun vs H Q E h => by
    obtain ⟨v, t, cs, _, _, _, h0, _⟩ := h
    rw [lv_bs] at h0; omega
  exact ⟨fun vs H Q E h => absurd h (no vs H Q E), fun A outer s H args us vs Q E _ _ _ _ h => absurd h (no vs H Q E)⟩
theorem all_bare (F : Fun K "_law_bare" "_law_bare" sBare f fd) (G : Gm mg) (hb : Binds K fd ["_law_term_here"] []) (hm : mg "_law_bare" = some (.ref f)) : ∀ n : Nat, FnOk P w K mg base CX0 n f fd ["_law_term_here"] (spBare K n)
  | 0 => none_bare
  | n + 1 => ok_bare F G ⟨f, fd, all_bare F G hb hm n, hb, F.kp, hm⟩
end
end K33
namespace K33
open PySem L2 TM TT ST K9 K11
section
variable {P : Program} {w : World} {K : PySem.W.Frag} {mg : Str → Option Value} {base : Heap} {f : Addr} {fd : FuncData}
theorem scCalls : FnScope ["_law_kinds", "_law_branches", "_law_found", "_law_k", "_law_j"] ["_law_kinds", "_law_branches"] (defScope sCalls) := ⟨rfl, rfl, rfl, by decide +kernel, rfl, by decide +kernel, by decide +kernel⟩
theorem ok_calls (F : Fun K "_law_calls" "_law_calls" sCalls f fd) (G : Gm mg) : FnOk P w K mg base CX0 1 f fd ["_law_kinds", "_law_branches"] (spCalls K) := by
  refine F.ok scCalls (fun vs H Q E h => ?_) (fun cdv A outer s H vs Q E hr h => ?_)
  · obtain ⟨lk, bv, kn, bs, rfl, _⟩ := h
    rfl
  obtain ⟨lk, bv, kn, bs, rfl, hk, hb, hkl, hbl, q⟩ := h
  refine ⟨_, (pss_cons (ps_set (i := 2) scCalls.nd rfl (Or.inl rfl) (pe_lst pa_nil))
    (pss_cons (ps_for PassesOwn.never rfl (pi_range1 rfl G.rng (pa_cons (pe_callB call_len_seq rfl G.len PySem.boot_len (pa_cons (pv 0) pa_nil)) pa_nil)) (pg_name (i := 3) scCalls.nd rfl (Or.inl rfl)) (pss_one
      (ps_for PassesOwn.never rfl (pi_range1 rfl G.rng (pa_cons (pe_callB call_len_seq rfl G.len PySem.boot_len (pa_cons (pv 1) pa_nil)) pa_nil)) (pg_name (i := 4) scCalls.nd rfl (Or.inl rfl)) (pss_one
        (ps_if (pt_cmpR op_eq (pe_ix ix_list (pv 0) (pv 3) (fun _ _ => rfl)) (pe_ix (ix_orD ix_list ix_tup) (pv 1) (pv 4) (fun _ _ => rfl)) (nomark _)) (pss_one (ps_expr (pe_bm PySem.F.plainAttrs_list PySem.F.slot_list_append PySem.F.type_list_append mt_append (pv 2) (pa_cons ((pe_tup (pa_cons (pv 3) (pa_cons (pv 4) pa_nil)))) pa_nil)))) pss_nil)))))
    (pss_one (ps_ret (pv 2))))), ?_⟩
  refine ⟨(by show 0 ≤ sizeLine; decide), fun l hl => ?_⟩
  have hb' : ∀ H', Same H H' → (SqL K H' bv (bs.map V.str) ∨ SqT K H' bv (bs.map V.str)) := fun H' g => hb.elim (fun z => .inl (g.seq z)) fun z => .inr (g.seqT z)
  have g0 := same_new hl (.lst [])
  have ekl : (kn.map V.str).length = kn.length := List.length_map ..
  have ebl : (bs.map V.str).length = bs.length := List.length_map ..
  refine ⟨_, rfl, lk, _, rfl, .inl (g0.seq hk), _, rfl, (by rw [ekl]; show -(2 ^ 62 : Int) ≤ ((kn.length : Nat) : Int); omega), (by rw [ekl]; show ((kn.length : Nat) : Int) < 2 ^ 62; omega), ?_⟩
  have inv : ∀ (m : Nat), ∀ (σ : L2.St) (H' : Hp), True := fun _ _ _ => trivial
  refine for_range (lo := 0) (n := (((kn.map V.str).length : Nat) : Int).toNat) (fun i σ H' => ∃ (cs : Cs) (c3 c4 : Option V), σ = [some (.ref lk), some (.ref bv), some (.ref l), c3, c4] ∧ Same H H' ∧ H' l = some (.lst (cs.map fun t => V.ref t.1)) ∧ (∀ t ∈ cs, SqT K H' t.1 [.int t.2.1, .int t.2.2]) ∧ CsF kn bs cs ∧ cs.length ≤ i * 10)
    ⟨[], none, none, rfl, g0, upd_same, fun t ht => (nomatch ht), fun t ht => (nomatch ht), by simp⟩ ?_ ?_
  · rintro i σ H' hi ⟨cs, c3, c4, rfl, g, hl', hat, hcf, hcl⟩
    rw [ekl] at hi
    have hik : i < kn.length := by omega
    have e0 : (0 : Int) + (i : Int) = (i : Int) := by omega
    refine ⟨_, rfl, bv, _, rfl, hb' _ g, _, rfl, (by rw [ebl]; show -(2 ^ 62 : Int) ≤ ((bs.length : Nat) : Int); omega), (by rw [ebl]; show ((bs.length : Nat) : Int) < 2 ^ 62; omega), ?_⟩
    refine for_range (lo := 0) (n := (((bs.map V.str).length : Nat) : Int).toNat) (fun j σ H' => ∃ (cs : Cs) (c4 : Option V), σ = [some (.ref lk), some (.ref bv), some (.ref l), some (.int (0 + (i : Int))), c4] ∧ Same H H' ∧ H' l = some (.lst (cs.map fun t => V.ref t.1)) ∧ (∀ t ∈ cs, SqT K H' t.1 [.int t.2.1, .int t.2.2]) ∧ CsF kn bs cs ∧ cs.length ≤ i * 10 + j)
      ⟨cs, c4, rfl, g, hl', hat, hcf, by omega⟩ ?_ ?_
    · rintro j σ H2 hj ⟨cs, c4, rfl, g, hl', hat, hcf, hcl⟩
      rw [ebl] at hj
      have hjb : j < bs.length := by omega
      have e1 : (0 : Int) + (j : Int) = (j : Int) := by omega
      have hix : rIxO K (.ref bv) (.int (0 + (j : Int))) H2 (fun v H3 => v = .str bs[j] ∧ H3 = H2) := by
        have hv : atI (bs.map V.str) (0 + (j : Int)) = some (.str bs[j]) := by rw [e1]; exact atI_nat (by rw [List.getElem?_map, List.getElem?_eq_getElem hjb]; rfl)
        rcases hb' _ g with z | z
        · exact .inl ⟨bv, _, _, _, rfl, rfl, z, hv, rfl, rfl⟩
        · exact .inr ⟨bv, _, _, _, rfl, rfl, z, hv, rfl, rfl⟩
      have use : ∀ Q2 : VK, Q2 (.str bs[j]) H2 → rIxO K (.ref bv) (.int (0 + (j : Int))) H2 Q2 := fun Q2 hq => by
        rcases hix with ⟨a, xs, i', v, e2, e3, e4, e5, e6, e7⟩ | ⟨a, xs, i', v, e2, e3, e4, e5, e6, e7⟩
        · exact .inl ⟨a, xs, i', v, e2, e3, e4, e5, by rw [e6]; exact hq⟩
        · exact .inr ⟨a, xs, i', v, e2, e3, e4, e5, by rw [e6]; exact hq⟩
      refine ⟨_, rfl, _, rfl, lk, _, _, .str kn[i], rfl, rfl, g.seq hk, (by rw [e0]; exact atI_nat (by rw [List.getElem?_map, List.getElem?_eq_getElem hik]; rfl)), _, rfl, _, rfl, use _ ⟨rfl, _, rfl, ite2 (fun hc => ?_) (fun _ => ?_)⟩⟩
      · have hc' : kn[i] = bs[j] := V.str.inj (of_decide_eq_true hc)
        refine ⟨_, rfl, .inl ⟨rfl, _, SqL.of hl'⟩, _, rfl, _, rfl, (by show 2 ≤ sizeLine; decide), fun p hp => ?_⟩
        have gp := same_new hp (.tup [.int (0 + (i : Int)), .int (0 + (j : Int))])
        have hlp := gp _ _ hl'
        refine ⟨l, _, _, rfl, rfl, hlp, (by rw [List.length_map, size_line]; omega), ?_⟩
        refine ⟨cs ++ [(p, (i : Int), (j : Int))], _, rfl, fun x u e => by rw [upd_ne (ne_of_none e hl)]; exact gp _ _ (g _ _ e), by rw [upd_same]; simp, fun t ht => ?_, fun t ht => ?_, by simp; omega⟩
        · rcases List.mem_append.mp ht with z | z
          · exact (gp.seqT (hat t z)).put hlp
          · have : t = (p, (i : Int), (j : Int)) := by simpa using z
            rw [this, e0, e1] at *
            exact SqT.put (SqT.of upd_same) hlp
        · rcases List.mem_append.mp ht with z | z
          · exact hcf t z
          · have : t = (p, (i : Int), (j : Int)) := by simpa using z
            rw [this]
            exact ⟨i, j, kn[i], rfl, List.getElem?_eq_getElem hik, by rw [hc']; exact List.getElem?_eq_getElem hjb⟩
      · exact ⟨cs, _, rfl, g, hl', hat, hcf, by omega⟩
    · rintro σ H2 ⟨cs, c4, rfl, g, hl', hat, hcf, hcl⟩
      rw [ebl] at hcl
      exact ⟨cs, _, _, rfl, g, hl', hat, hcf, by omega⟩
  · rintro σ H' ⟨cs, c3, c4, rfl, g, hl', hat, hcf, hcl⟩
    rw [ekl] at hcl
    exact ⟨_, rfl, q l H' cs g hl ⟨SqL.of hl', hat⟩ hcf (by omega)⟩
end
end K33
namespace L2
open PySem PyProof.Rows TM TT ST K9 K11
structure TurnD (K : PySem.W.Frag) (H : Hp) (tu wd lm : Addr) (sv : V) (ks : List KdT) (st : Tm) (ms : List MdT) : Prop where
  tu : SqT K H tu [.ref wd, sv, .ref lm]
  w : WoodAt K H wd ks
  s : TmV K H sv st
  m : ModesL K H lm ms
def TFitD (kn bs : List Str) (t : Tm) : Prop := ∃ cs : List (Int × Int), (∀ c ∈ cs, ∃ (k j : Nat) (z : Str), c = ((k : Int), (j : Int)) ∧ kn[k]? = some z ∧ bs[j]? = some z) ∧ TDr cs t
structure ModeD (kn : List Str) (ks : List KdT) (m : MdT) : Prop where
  ex : ∃ kd ∈ ks, kd.2.1 = m.2.1 ∧ m.2.2.2.2.length = kd.2.2.2.length ∧ ∀ (j : Nat) (r : PNx) (t : Tm), kd.2.2.2[j]? = some r → m.2.2.2.2[j]? = some t → TFitD kn r.2.2.2 t ∧ lv t ≤ 3
structure DTurn (ks : List KdT) (st : Tm) (ms : List MdT) : Prop where
  pos : 0 < ms.length
  four : ms.length ≤ 4
  md : ∀ m ∈ ms, ModeD (ms.map fun m => m.2.1) ks m
  st : ∀ k, ks[0]? = some k → TFitD (ms.map fun m => m.2.1) [k.2.1] st ∧ lv st ≤ 2
theorem TurnD.same {K : PySem.W.Frag} {H H' : Hp} {tu wd lm : Addr} {sv : V} {ks : List KdT} {st : Tm} {ms : List MdT} (g : Same H H') (h : TurnD K H tu wd lm sv ks st ms) : TurnD K H' tu wd lm sv ks st ms := ⟨g.seqT h.tu, h.w.same g, h.s.mono fun _ _ => g.seqT, h.m.same g⟩
def keyW (k : KdT) : Str × List PNx := (k.2.1, k.2.2.2)
def datRow (r : PNx) : PyData := .tuple [.str r.2.1, .tuple (r.2.2.2.map .str)]
theorem rd_rows {K : PySem.W.Frag} {H : Hp} : ∀ {rs : List PNx}, (∀ t ∈ rs, RowAt K H t) → RdAll K H (rs.map fun t => V.ref t.1) (rs.map datRow)
  | [], _ => .nil
  | t :: r, h => .cons (.tup (h t List.mem_cons_self).1 (.cons (.str _) (.cons (.tup (h t List.mem_cons_self).2 (rd_strs _)) .nil))) (rd_rows fun u hu => h u (List.mem_cons_of_mem _ hu))
theorem lay_rows : ∀ {rs : List PNx}, (∀ r ∈ rs, PyData.strOk r.2.1 = true) → (∀ r ∈ rs, ∀ x ∈ r.2.2.2, PyData.strOk x = true) → PyData.canLayAll0 (rs.map datRow) = true
  | [], _, _ => by simp [PyData.canLayAll0]
  | r :: rs, h1, h2 => by
    simp only [List.map_cons, PyData.canLayAll0, datRow, PyData.canLay0, h1 r List.mem_cons_self, lay_strs _ (h2 r List.mem_cons_self), Bool.and_self, Bool.true_and]
    exact lay_rows (fun u hu => h1 u (List.mem_cons_of_mem _ hu)) fun u hu => h2 u (List.mem_cons_of_mem _ hu)
def datKind (p : Str × List PNx) : PyData := .tuple [.str p.1, .list (p.2.map datRow)]
theorem rd_kinds {K : PySem.W.Frag} {H : Hp} : ∀ {ks : List KdT}, (∀ k ∈ ks, SqT K H k.1 [.str k.2.1, .ref k.2.2.1] ∧ RowsL K H k.2.2.1 k.2.2.2) → RdAll K H (ks.map fun k => V.ref k.1) ((ks.map keyW).map datKind)
  | [], _ => .nil
  | k :: r, h => .cons (.tup (h k List.mem_cons_self).1 (.cons (.str _) (.cons (.lst (h k List.mem_cons_self).2.1 (rd_rows (h k List.mem_cons_self).2.2)) .nil))) (rd_kinds fun u hu => h u (List.mem_cons_of_mem _ hu))
theorem lay_kinds : ∀ {ks : List KdT}, (∀ k ∈ ks, PyData.strOk k.2.1 = true) → (∀ k ∈ ks, RowsOk k.2.2.2) → PyData.canLayAll0 ((ks.map keyW).map datKind) = true
  | [], _, _ => by simp [PyData.canLayAll0]
  | k :: r, h1, h2 => by
    have h3 : PyData.canLayAll0 (k.2.2.2.map datRow) = true := lay_rows (h2 k List.mem_cons_self).nm (h2 k List.mem_cons_self).kn
    simp only [List.map_cons, PyData.canLayAll0, datKind, keyW, PyData.canLay0, h1 k List.mem_cons_self, h3, Bool.and_self, Bool.true_and]
    exact lay_kinds (fun u hu => h1 u (List.mem_cons_of_mem _ hu)) fun u hu => h2 u (List.mem_cons_of_mem _ hu)
theorem depth_rows : ∀ rs : List PNx, PyData.depthAll (rs.map datRow) ≤ 2
  | [] => by simp [PyData.depthAll]
  | r :: rs => by
    have := depth_rows rs
    simp only [List.map_cons, PyData.depthAll, datRow, PyData.depth, depth_strs]
    omega
theorem depth_kinds : ∀ ks : List (Str × List PNx), PyData.depthAll (ks.map datKind) ≤ 4
  | [] => by simp [PyData.depthAll]
  | k :: r => by
    have h1 := depth_kinds r
    have h2 := depth_rows k.2
    simp only [List.map_cons, PyData.depthAll, datKind, PyData.depth]
    omega
def mddD (m : Md) : PyData := .tuple [.str m.1, .list (tmds m.2)]
theorem rd_modes {K : PySem.W.Frag} {H : Hp} : ∀ {ms : List MdT}, (∀ m ∈ ms, MdAt K H m) → RdAll K H (ms.map fun m => V.ref m.1) ((ms.map MdT.md).map mddD)
  | [], _ => .nil
  | m :: r, h => .cons (.tup (h m List.mem_cons_self).1 (.cons (.str _) (.cons (.lst (h m List.mem_cons_self).2.1 (h m List.mem_cons_self).2.2.rd) .nil))) (rd_modes fun x hx => h x (List.mem_cons_of_mem _ hx))
theorem lay_modes : ∀ {ms : List MdT}, (∀ m ∈ ms, PyData.strOk m.2.1 = true ∧ ∀ t ∈ m.2.2.2.2, MOk 6 t) → PyData.canLayAll0 ((ms.map MdT.md).map mddD) = true ∧ PyData.depthAll ((ms.map MdT.md).map mddD) ≤ 12
  | [], _ => by simp [PyData.canLayAll0, PyData.depthAll]
  | m :: r, h => by
    obtain ⟨h1, h2⟩ := lay_modes fun x hx => h x (List.mem_cons_of_mem _ hx)
    obtain ⟨h5, hm⟩ := h m List.mem_cons_self
    obtain ⟨h3, h4⟩ := tmds_ok (d := 6) m.2.2.2.2 hm
    have h5' : PyData.strOk m.md.1 = true := h5
    have h3' : PyData.canLayAll0 (tmds m.md.2) = true := h3
    have h4' : PyData.depthAll (tmds m.md.2) ≤ 6 := h4
    constructor
    · simp only [List.map_cons, PyData.canLayAll0, mddD, PyData.canLay0, h5', h3', h1, Bool.and_self]
    · have e : ((m :: r).map MdT.md).map mddD = mddD m.md :: (r.map MdT.md).map mddD := rfl
      rw [e]
      have e2 : PyData.depthAll (mddD m.md :: (r.map MdT.md).map mddD) = max (mddD m.md).depth (PyData.depthAll ((r.map MdT.md).map mddD)) := by simp only [PyData.depthAll]
      have e3 : (mddD m.md).depth ≤ 11 := by simp only [mddD, PyData.depth, PyData.depthAll]; omega
      rw [e2]
      omega
abbrev turnDat (ks : List KdT) (t : Tm) (ms : List MdT) : PyData := .tuple [.list ((ks.map keyW).map datKind), tmd t, .list ((ms.map MdT.md).map mddD)]
theorem rd_turn {K : PySem.W.Frag} {H : Hp} {tu wd lm : Addr} {sv : V} {ks : List KdT} {st : Tm} {ms : List MdT} (h : TurnD K H tu wd lm sv ks st ms) : RdV K H (.ref tu) (turnDat ks st ms) :=
  .tup h.tu (.cons (.lst h.w.1 (rd_kinds h.w.2)) (.cons h.s.rd (.cons (.lst h.m.1 (rd_modes h.m.2)) .nil)))
theorem lay_turn {ks : List KdT} {t : Tm} {ms : List MdT} (h1 : ∀ k ∈ ks, PyData.strOk k.2.1 = true) (h2 : ∀ k ∈ ks, RowsOk k.2.2.2) (ht : MOk 6 t) (hm : ∀ m ∈ ms, PyData.strOk m.2.1 = true ∧ ∀ t ∈ m.2.2.2.2, MOk 6 t) : (turnDat ks t ms).canLay0 = true ∧ (turnDat ks t ms).depth ≤ 20 := by
  have a1 := lay_kinds h1 h2
  have a2 := depth_kinds (ks.map keyW)
  obtain ⟨b1, b2⟩ := ht
  obtain ⟨c1, c2⟩ := lay_modes hm
  constructor
  · simp only [PyData.canLay0, PyData.canLayAll0, a1, b1, c1, Bool.and_self]
  · simp only [PyData.depth, PyData.depthAll]
    omega
end L2
namespace K33
open PySem L2 TM TT ST K9 K11
abbrev sTurn : Stmt := top 30
def spTurn (K : PySem.W.Frag) : Sp := fun vs H Q _ => ∃ (d : Addr) (c : Int) (wd : Addr) (ks : List KdT), vs = [.ref d, .int c, .ref wd] ∧ Dk H d ∧ WoodD K H d wd ks ∧ DWood c ks ∧
  ∀ (tu lm : Addr) (sv : V) (st : Tm) (ms : List MdT) (H' : Hp), SameD d H H' → Dk H' d → TurnD K H' tu wd lm sv ks st ms → DTurn ks st ms → lm ≠ d → (∀ m ∈ ms, m.2.2.1 ≠ d) → Q (.ref tu) H'
theorem csF_fit {kn bs : List Str} {cs : Cs} {t : Tm} (h : CsF kn bs cs) (ht : TDr cs.pr t) : TFitD kn bs t := ⟨cs.pr, fun c hc => by
  obtain ⟨u, hu, rfl⟩ := List.mem_map.mp hc
  exact h u hu, ht⟩
section
variable {P : Program} {w : World} {K : PySem.W.Frag} {mg : Str → Option Value} {base : Heap} {f : Addr} {fd : FuncData}
theorem scTurn : FnScope ["_law_deck", "_law_code", "_law_wood_here", "_law_kinds", "_law_k", "_law_modes", "_law_kind", "_law_base", "_law_rules", "_law_name_here", "_law_branches", "_law_start"] ["_law_deck", "_law_code", "_law_wood_here"] (defScope sTurn) := ⟨rfl, rfl, rfl, by decide +kernel, rfl, by decide +kernel, by decide +kernel⟩
theorem ok_turn (F : Fun K "_law_turning" "_law_turning" sTurn f fd) (G : Gm mg) (RD : Fn P w K mg base 1 "_law_draw" ["_law_deck", "_law_most"] spDraw) (RT : Fn P w K mg base 5 "_law_term" ["_law_deck", "_law_code", "_law_calls_here", "_law_deep"] (spTerm K 3)) (RR : Fn P w K mg base 6 "_law_rule" ["_law_deck", "_law_code", "_law_base", "_law_calls_here"] (spRule K))
    (RC : Fn P w K mg base 1 "_law_calls" ["_law_kinds", "_law_branches"] (spCalls K)) (RO : Fn P w K mg base 1 "_law_rows" ["_law_wood_here", "_law_kind"] (spRows K)) (RB : Fn P w K mg base 3 "_law_bare" ["_law_term_here"] (spBare K 3)) : FnOk P w K mg base CX0 7 f fd ["_law_deck", "_law_code", "_law_wood_here"] (spTurn K) := by
  refine F.ok scTurn (fun vs H Q E h => ?_) (fun cdv A outer s H vs Q E hr h => ?_)
  · obtain ⟨d, c, wd, ks, rfl, _⟩ := h
    rfl
  obtain ⟨d, c, wd, ks, rfl, hd, hW, hDW, q⟩ := h
  refine ⟨_, (pss_cons (ps_set (i := 3) scTurn.nd rfl (Or.inl rfl) (pe_lst (pa_cons (pe_ix ix_tup (pe_ix ix_list (pv 2) pe_int (fun _ _ => rfl)) pe_int (fun _ _ => rfl)) pa_nil)))
    (pss_cons (ps_for PassesOwn.never rfl (pi_range1 rfl G.rng (pa_cons (pe_fn RD hr (pa_cons (pv 0) (pa_cons (pe_int) pa_nil))) pa_nil)) (pg_name (i := 4) scTurn.nd rfl (Or.inl rfl)) (pss_one (ps_expr (pe_bm PySem.F.plainAttrs_list PySem.F.slot_list_append PySem.F.type_list_append mt_append (pv 3) (pa_cons (pe_ix ix_tup (pe_ix ix_list (pv 2) (pe_fn RD hr (pa_cons (pv 0) (pa_cons (pe_callB call_len_seq rfl G.len PySem.boot_len (pa_cons (pv 2) pa_nil)) pa_nil))) (fun _ _ => rfl)) pe_int (fun _ _ => rfl)) pa_nil)))))
    (pss_cons (ps_set (i := 5) scTurn.nd rfl (Or.inl rfl) (pe_lst pa_nil))
    (pss_cons (ps_for PassesOwn.never rfl (pi_list (pv 3)) (pg_name (i := 6) scTurn.nd rfl (Or.inl rfl)) (pss_cons (ps_set (i := 7) scTurn.nd rfl (Or.inl rfl) (pe_fn RT hr (pa_cons (pv 0) (pa_cons (pv 1) (pa_cons (pe_lst pa_nil) (pa_cons (pe_int) pa_nil))))))
    (pss_cons (ps_set (i := 8) scTurn.nd rfl (Or.inl rfl) (pe_lst pa_nil))
    (pss_cons (ps_for PassesOwn.never rfl (pi_list (pe_fn RO hr (pa_cons (pv 2) (pa_cons (pv 6) pa_nil)))) (pg_tup rfl (pgs_cons (pg_name (i := 9) scTurn.nd rfl (Or.inl rfl)) (pgs_cons (pg_name (i := 10) scTurn.nd rfl (Or.inl rfl)) pgs_nil))) (pss_one (ps_expr (pe_bm PySem.F.plainAttrs_list PySem.F.slot_list_append PySem.F.type_list_append mt_append (pv 8) (pa_cons (pe_fn RR hr (pa_cons (pv 0) (pa_cons (pv 1) (pa_cons (pv 7) (pa_cons (pe_fn RC hr (pa_cons (pv 3) (pa_cons (pv 10) pa_nil))) pa_nil))))) pa_nil)))))
    (pss_one (ps_expr (pe_bm PySem.F.plainAttrs_list PySem.F.slot_list_append PySem.F.type_list_append mt_append (pv 5) (pa_cons ((pe_tup (pa_cons (pv 6) (pa_cons (pv 8) pa_nil)))) pa_nil))))))))
    (pss_cons (ps_set (i := 11) scTurn.nd rfl (Or.inl rfl) (pe_fn RT hr (pa_cons (pv 0) (pa_cons (pv 1) (pa_cons (pe_fn RC hr (pa_cons (pv 3) (pa_cons ((pe_lst (pa_cons (pe_ix ix_tup (pe_ix ix_list (pv 2) pe_int (fun _ _ => rfl)) pe_int (fun _ _ => rfl)) pa_nil))) pa_nil))) (pa_cons (pe_int) pa_nil))))))
    (pss_one (ps_ret (pe_tup (pa_cons (pv 2) (pa_cons (pe_fn RB hr (pa_cons (pv 11) pa_nil)) (pa_cons (pv 5) pa_nil))))))))))), ?_⟩
  have hkpos := hDW.pos
  have hk3 := hDW.three
  obtain ⟨k0, hk0⟩ : ∃ k0, ks[0]? = some k0 := ⟨_, List.getElem?_eq_getElem hkpos⟩
  have hk0m := List.mem_of_getElem? hk0
  have w0 : ∀ H', SameD d H H' → WoodD K H' d wd ks := fun H' g => hW.sameD g hd
  have at0 : atI (ks.map fun k => V.ref k.1) 0 = some (.ref k0.1) := atI_nat (j := 0) (by rw [List.getElem?_map, hk0]; rfl)
  refine ⟨_, rfl, wd, _, _, .ref k0.1, rfl, rfl, hW.1.1, at0, k0.1, _, 0, _, rfl, rfl, (hW.1.2 k0 hk0m).1, rfl, (by show 1 ≤ sizeLine; decide), fun lk hlk => ?_⟩
  have hlkd := hd.ne hlk
  refine ⟨_, rfl, d, _, rfl, hd.upd hlkd, (by decide), fun r0 H1 g1 hd1 r00 r01 => ⟨_, rfl, (by show -(2 ^ 62 : Int) ≤ r0; omega), (by show r0 < 2 ^ 62; omega), ?_⟩⟩
  refine for_range (lo := 0) (n := r0.toNat) (fun i σ H' => ∃ (kn : List Str) (c4 : Option V), σ = [some (.ref d), some (.int c), some (.ref wd), some (.ref lk), c4, none, none, none, none, none, none, none] ∧ SameD d H H' ∧ Dk H' d ∧ H' lk = some (.lst (kn.map V.str)) ∧ kn.length = i + 1 ∧ ∀ z ∈ kn, ∃ kd ∈ ks, kd.2.1 = z)
    ⟨[k0.2.1], none, rfl, (SameD.new hlk).trans g1, hd1, g1 _ _ hlkd upd_same, rfl, fun z hz => ⟨k0, hk0m, (List.mem_singleton.mp hz).symm⟩⟩ ?_ ?_
  · rintro i σ H' hi ⟨kn, c4, rfl, g, hdk, hlk', hkl, hkz⟩
    have hw := w0 H' g
    refine ⟨_, rfl, .inl ⟨rfl, _, SqL.of hlk'⟩, _, rfl, _, rfl, _, rfl, wd, _, rfl, .inl hw.1.1, d, _, rfl, hdk, (by rw [List.length_map]; show (0 : Int) < ((ks.length : Nat) : Int); omega), fun r H2 g2 hd2 r20 r21 => ?_⟩
    rw [List.length_map] at r21
    obtain ⟨x, hx⟩ : ∃ x, ks[r.toNat]? = some x := ⟨_, List.getElem?_eq_getElem (by omega)⟩
    have hxm := List.mem_of_getElem? hx
    have hw2 := hw.sameD g2 hdk
    have hlk2 := g2 _ _ hlkd hlk'
    refine ⟨wd, _, _, .ref x.1, rfl, rfl, hw2.1.1, atI_int r20 (by rw [List.getElem?_map, hx]; rfl), x.1, _, 0, _, rfl, rfl, (hw2.1.2 x hxm).1, rfl, lk, _, _, rfl, rfl, hlk2, (by rw [List.length_map, size_line]; omega), ?_⟩
    refine ⟨kn ++ [x.2.1], _, rfl, (g.trans g2).put hlk, hd2.upd hlkd, by rw [upd_same]; simp, by simp [hkl], fun z hz => ?_⟩
    rcases List.mem_append.mp hz with y | y
    · exact hkz z y
    · have : z = x.2.1 := by simpa using y
      rw [this]; exact ⟨x, hxm, rfl⟩
  rintro σ H2 ⟨kn, c4, rfl, g2, hd2, hlk2, hkl, hkz⟩
  have hkn4 : kn.length ≤ 4 := by omega
  refine ⟨(by show 0 ≤ sizeLine; decide), fun lm hlm => ?_⟩
  have hlmd := hd2.ne hlm
  refine ⟨_, rfl, lk, rfl, ⟨_, (same_new hlm _).seq (SqL.of hlk2)⟩, ?_⟩
  refine for_list (K := K) (xs := kn.map V.str) (fun i σ H' => ∃ (ms : List MdT) (c6 c7 c8 c9 c10 : Option V), σ = [some (.ref d), some (.int c), some (.ref wd), some (.ref lk), c4, some (.ref lm), c6, c7, c8, c9, c10, none] ∧ SameD d H2 H' ∧ Dk H' d ∧ H' lm = some (.lst (ms.map fun m => V.ref m.1)) ∧ ms.map (fun m => m.2.1) = kn.take i ∧
      ∀ m ∈ ms, SqT K H' m.1 [.str m.2.1, .ref m.2.2.1] ∧ H' m.2.2.1 = some (.lst m.2.2.2.1) ∧ TmAll K H' m.2.2.2.1 m.2.2.2.2 ∧ m.2.2.1 ≠ d ∧ m.2.2.1 ≠ lm ∧ ModeD kn ks m)
    ⟨[], none, none, none, none, none, rfl, SameD.new hlm, hd2.upd hlmd, upd_same, rfl, fun m hm => (nomatch hm)⟩ ?_ ?_ ?_
  · rintro i σ H' _ ⟨ms, c6, c7, c8, c9, c10, _, g, _⟩
    exact SqL.of (g _ _ hlkd hlk2)
  · rintro i x σ H3 hx ⟨ms, c6, c7, c8, c9, c10, rfl, g3, hd3, hlm3, hmk, hmm⟩
    have hik : i < kn.length := by
      have := (List.getElem?_eq_some_iff.mp hx).1
      simpa using this
    obtain rfl : x = .str kn[i] := by
      rw [List.getElem?_map, List.getElem?_eq_getElem hik] at hx
      exact (Option.some.inj hx).symm
    obtain ⟨kd, hkd, ekd⟩ := hkz _ (List.getElem_mem hik)
    have hml : ms.length ≤ 4 := by
      have := congrArg List.length hmk
      rw [List.length_map, List.length_take] at this
      omega
    refine ⟨_, rfl, _, rfl, (by show 0 ≤ sizeLine; decide), fun l0 hl0 => ?_⟩
    have a0 := same_new hl0 (.lst [])
    have hd30 := hd3.same a0
    refine ⟨d, c, l0, [], 2, rfl, hd30, ⟨SqL.of upd_same, fun t ht => (nomatch ht)⟩, hd3.ne hl0, by decide, fun bv H4 bt g4 hd4 hbv hbt hbl => ?_⟩
    have g34 : SameD d H3 H4 := (SameD.of a0).trans g4
    have hbt0 : TDr [] bt := hbt
    refine ⟨(by show 0 ≤ sizeLine; decide), fun lr hlr => ?_⟩
    have hlrd := hd4.ne hlr
    have a1 := same_new hlr (.lst [])
    have hd41 := hd4.same a1
    have hw4 := w0 _ (g2.trans (g3.trans (g34.trans (SameD.of a1))))
    refine ⟨_, rfl, _, rfl, wd, ks, kd, by rw [ekd]; rfl, hw4.1, hDW.ok.nd, by omega, hkd, fun H5 g5 => ⟨kd.2.2.1, rfl, ⟨_, g5.seq (hw4.1.2 kd hkd).2.1⟩, ?_⟩⟩
    have hr0 : ∀ H', SameD d H4 H' → RowsL K H' kd.2.2.1 kd.2.2.2 := fun H' g => ((w0 _ (g2.trans (g3.trans (g34.trans g)))).1.2 kd hkd).2
    have hrl := hDW.few kd hkd
    refine for_list (K := K) (xs := kd.2.2.2.map fun t => V.ref t.1) (fun j σ H' => ∃ (us : List V) (ts : List Tm) (c9 c10 : Option V), σ = [some (.ref d), some (.int c), some (.ref wd), some (.ref lk), c4, some (.ref lm), some (.str kn[i]), some bv, some (.ref lr), c9, c10, none] ∧ SameD d H4 H' ∧ Dk H' d ∧ H' lr = some (.lst us) ∧ TmAll K H' us ts ∧ ts.length = j ∧
        ∀ (m : Nat) (r : PNx) (t : Tm), kd.2.2.2[m]? = some r → ts[m]? = some t → TFitD kn r.2.2.2 t ∧ lv t ≤ 3)
      ⟨[], [], c9, c10, rfl, (SameD.of a1).trans (SameD.of g5), hd41.same g5, g5 _ _ upd_same, .nil, rfl, fun m r t _ ht => by simp at ht⟩ ?_ ?_ ?_
    · rintro j σ H' _ ⟨us, ts, _, _, _, g, _⟩
      exact (hr0 H' g).1
    · rintro j x σ H6 hx ⟨us, ts, c9, c10, rfl, g6, hd6, hlr6, hts, htl, hfit⟩
      have hjr : j < kd.2.2.2.length := by
        have := (List.getElem?_eq_some_iff.mp hx).1
        simpa using this
      obtain rfl : x = .ref kd.2.2.2[j].1 := by
        rw [List.getElem?_map, List.getElem?_eq_getElem hjr] at hx
        exact (Option.some.inj hx).symm
      have hrow := (hr0 H6 g6).2 _ (List.getElem_mem hjr)
      have hlen := hts.length
      have hbl4 := ((hDW.ok.rows kd hkd).kl _ (List.getElem_mem hjr))
      refine ⟨kd.2.2.2[j].1, _, rfl, hrow.1, rfl, _, _, rfl, _, _, rfl, rfl, ?_⟩
      have hlk6 : H6 lk = some (.lst (kn.map V.str)) := g6 _ _ hlkd (g34 _ _ hlkd (g3 _ _ hlkd hlk2))
      refine ⟨_, rfl, .inl ⟨rfl, _, SqL.of hlr6⟩, _, rfl, _, rfl, _, rfl, _, rfl, _, rfl, lk, kd.2.2.2[j].2.2.1, kn, kd.2.2.2[j].2.2.2, rfl, SqL.of hlk6, .inr hrow.2, by omega, by omega, fun lc H7 cs g7 hlcn hcs hcf hcl => ?_⟩
      have hd7 := hd6.same g7
      refine ⟨d, c, lc, cs, bv, bt, rfl, hd7, hcs, hd6.ne hlcn, hbv.mono fun _ _ h => g7.seqT (g6.seqT hd4 h), hbt0, hbl, fun v' H8 t' g8 hd8 hv' ht' hl' => ?_⟩
      have g68 : SameD d H6 H8 := (SameD.of g7).trans g8
      have hlr8 := g68 _ _ hlrd hlr6
      refine ⟨lr, us, _, rfl, rfl, hlr8, (by rw [size_line]; omega), ?_⟩
      refine ⟨us ++ [v'], ts ++ [t'], _, _, rfl, (g6.trans g68).put hlr, hd8.upd hlrd, upd_same, ?_, by simp [htl], fun m r t hr' ht'' => ?_⟩
      · exact TmAll.append (hts.mono fun _ _ h => (g68.seqT hd6 h).put hlr8) (.cons (hv'.mono fun _ _ h => h.put hlr8) .nil)
      · by_cases hm : m < ts.length
        · rw [List.getElem?_append_left hm] at ht''
          exact hfit m r t hr' ht''
        · have hml2 : m < (ts ++ [t']).length := (List.getElem?_eq_some_iff.mp ht'').1
          rw [List.length_append, List.length_singleton] at hml2
          have hmj : m = j := by omega
          subst hmj
          rw [List.getElem?_append_right (by omega), htl, Nat.sub_self] at ht''
          have et : t' = t := by simpa using ht''
          have er : kd.2.2.2[m] = r := Option.some.inj ((List.getElem?_eq_getElem hjr).symm.trans hr')
          rw [← et, ← er]
          exact ⟨csF_fit hcf ht', hl'⟩
    · rintro σ H6 ⟨us, ts, c9, c10, rfl, g6, hd6, hlr6, hts, htl, hfit⟩
      rw [List.length_map] at htl
      have g36 := g34.trans g6
      have hlm6 : H6 lm = some (.lst (ms.map fun m => V.ref m.1)) := g36 _ _ hlmd hlm3
      have hlrm : lr ≠ lm := fun z => by
        have := g34 _ _ hlmd hlm3
        rw [← z, hlr] at this; cases this
      refine ⟨_, rfl, .inl ⟨rfl, _, SqL.of hlm6⟩, _, rfl, _, rfl, (by show 2 ≤ sizeLine; decide), fun p hp => ?_⟩
      have gp := same_new hp (.tup [.str kn[i], .ref lr])
      have hlmp := gp _ _ hlm6
      refine ⟨lm, _, _, rfl, rfl, hlmp, (by rw [List.length_map, size_line]; omega), ?_⟩
      refine ⟨ms ++ [(p, kn[i], lr, us, ts)], _, _, _, _, _, rfl, ((g3.trans g36).trans (SameD.of gp)).put hlm, (hd6.same gp).upd hlmd, by rw [upd_same]; simp, ?_, fun m hm => ?_⟩
      · rw [List.map_append, hmk, List.take_add_one, List.getElem?_eq_getElem hik]; rfl
      · rcases List.mem_append.mp hm with z | z
        · obtain ⟨m1, m2, m3, m4, m5, m6⟩ := hmm m z
          refine ⟨(gp.seqT (g36.seqT hd3 m1)).put hlmp, by rw [upd_ne m5]; exact gp _ _ (g36 _ _ m4 m2), m3.mono fun _ _ h => (gp.seqT (g36.seqT hd3 h)).put hlmp, m4, m5, m6⟩
        · have : m = (p, kn[i], lr, us, ts) := by simpa using z
          rw [this]
          refine ⟨SqT.put (SqT.of upd_same) hlmp, by rw [upd_ne hlrm]; exact gp _ _ hlr6, hts.mono fun _ _ h => (gp.seqT h).put hlmp, hlrd, hlrm, ⟨kd, hkd, ekd, htl, hfit⟩⟩
  · rintro σ H3 ⟨ms, c6, c7, c8, c9, c10, rfl, g3, hd3, hlm3, hmk, hmm⟩
    rw [List.length_map, List.take_length] at hmk
    have hw3 := w0 _ (g2.trans g3)
    have hlk3 : H3 lk = some (.lst (kn.map V.str)) := g3 _ _ hlkd hlk2
    have hmlen : ms.length = kn.length := by have := congrArg List.length hmk; simpa using this
    refine ⟨_, rfl, _, rfl, _, rfl, _, rfl, wd, _, _, .ref k0.1, rfl, rfl, hw3.1.1, at0, k0.1, _, 0, _, rfl, rfl, (hw3.1.2 k0 hk0m).1, rfl, (by show 1 ≤ sizeLine; decide), fun lb hlb => ?_⟩
    have b0 := same_new hlb (.lst [.str k0.2.1])
    refine ⟨lk, lb, kn, [k0.2.1], rfl, b0.seq (SqL.of hlk3), .inl (SqL.of upd_same), by omega, by simp, fun lc H4 cs g4 hlcn hcs hcf hcl => ?_⟩
    have hd4 := (hd3.same b0).same g4
    refine ⟨d, c, lc, cs, 1, rfl, hd4, hcs, (hd3.same b0).ne hlcn, by decide, fun sv H5 st g5 hd5 hsv hst hsl => ?_⟩
    have g35 : SameD d H3 H5 := (SameD.of (b0.trans g4)).trans g5
    refine ⟨_, rfl, _, rfl, sv, st, cs.pr, rfl, hsv, hst, by omega, fun sv' H6 st' g6 hsv' hst' hsl' => ⟨_, rfl, (by show 3 ≤ sizeLine; decide), fun tu htu => ?_⟩⟩
    have gt := same_new htu (.tup [.ref wd, sv', .ref lm])
    have g67 : SameD d H3 (upd H6 tu (.tup [.ref wd, sv', .ref lm])) := g35.trans (SameD.of (g6.trans gt))
    have hl2 : lv st ≤ 2 := hsl
    refine q tu lm sv' st' ms _ (g2.trans (g3.trans g67)) (hd5.same (g6.trans gt)) ⟨SqT.of upd_same, (w0 _ (g2.trans (g3.trans g67))).1, hsv'.mono fun _ _ => gt.seqT, ⟨SqL.of (g67 _ _ hlmd hlm3), fun m hm => ?_⟩⟩ ⟨by omega, by omega, fun m hm => by rw [hmk]; exact (hmm m hm).2.2.2.2.2, fun k hk => ?_⟩ hlmd fun m hm => (hmm m hm).2.2.2.1
    · obtain ⟨m1, m2, m3, m4, m5, m6⟩ := hmm m hm
      exact ⟨g67.seqT hd3 m1, SqL.of (g67 _ _ m4 m2), m3.mono fun _ _ => g67.seqT hd3⟩
    · obtain rfl : k0 = k := Option.some.inj (hk0.symm.trans hk)
      rw [hmk]
      exact ⟨csF_fit hcf hst', by omega⟩
end
end K33
namespace K33
open PySem L2 TM TT ST K9 K11
abbrev sCopy : Stmt := top 32
def spCopy (K : PySem.W.Frag) : Sp := fun vs H Q _ => ∃ (tu wd lm : Addr) (sv : V) (ks : List KdT) (st : Tm) (ms : List MdT), vs = [.ref tu] ∧ TurnD K H tu wd lm sv ks st ms ∧ WoodOk ks ∧ ms.length ≤ 10 ∧
  ∀ (tu' wd' lm' : Addr) (hs : List KdT) (ms' : List MdT) (H' : Hp), Same H H' → TurnD K H' tu' wd' lm' sv hs st ms' → hs.map keyW = ks.map keyW → ms'.map MdT.md = ms.map MdT.md → Q (.ref tu') H'
abbrev rLstOf (K : PySem.W.Frag) : List V → Hp → VK → Prop := fun xs H Q => ∃ p ys, xs = [.ref p] ∧ (SqL K H p ys ∨ SqT K H p ys) ∧ ∀ l, H l = none → Q (.ref l) (upd H l (.lst ys))
section
variable {P : Program} {w : World} {K : PySem.W.Frag} {mg : Str → Option Value} {base : Heap} {f : Addr} {fd : FuncData}
theorem scCopy : FnScope ["_law_turning_here", "_law_wood_here"] ["_law_turning_here"] (defScope sCopy) := ⟨rfl, rfl, rfl, by decide +kernel, rfl, by decide +kernel, by decide +kernel⟩
theorem ok_copy (F : Fun K "_law_copy" "_law_copy" sCopy f fd) (G : Gm mg) : FnOk P w K mg base CX0 1 f fd ["_law_turning_here"] (spCopy K) := by
  refine F.ok scCopy (fun vs H Q E h => ?_) (fun cdv A outer s H vs Q E hr h => ?_)
  · obtain ⟨tu, wd, lm, sv, ks, st, ms, rfl, _⟩ := h
    rfl
  obtain ⟨tu, wd, lm, sv, ks, st, ms, rfl, hT, hO, hm10, q⟩ := h
  refine ⟨_, (pss_cons (ps_setG (i := 1) (CompG.many (xs := ["_law_kind", "_law_rows_here"]) (caps := []) (cap := []) (cs := []) rfl rfl (by decide +kernel) (by decide +kernel) (by decide +kernel) (by decide +kernel) (by decide +kernel) (by decide +kernel) rfl rfl rfl) rfl (pi_list (pe_ix ix_tup (pv 0) pe_int (fun _ _ => rfl))) (pg_c2 (CompG.many (xs := ["_law_kind", "_law_rows_here"]) (caps := []) (cap := []) (cs := []) rfl rfl (by decide +kernel) (by decide +kernel) (by decide +kernel) (by decide +kernel) (by decide +kernel) (by decide +kernel) rfl rfl rfl) rfl) (fun _ _ _ _ => pf_nil) (fun _ _ _ _ => (pe_tup (pa_cons (pv 0) (pa_cons (pe_callTy (r := rLstOf K) call_list_of rfl G.lst PyProof.Rows.boot_list (pa_cons (pv 1) pa_nil)) pa_nil)))) scCopy.nd rfl rfl)
    (pss_one (ps_ret (pe_tup (pa_cons (pv 1) (pa_cons (pe_ix ix_tup (pv 0) pe_int (fun _ _ => rfl)) (pa_cons (pe_lcompG (CompG.many (xs := ["_law_kind", "_law_rules"]) (caps := []) (cap := []) (cs := []) rfl rfl (by decide +kernel) (by decide +kernel) (by decide +kernel) (by decide +kernel) (by decide +kernel) (by decide +kernel) rfl rfl rfl) rfl (pi_list (pe_ix ix_tup (pv 0) pe_int (fun _ _ => rfl))) (pg_c2 (CompG.many (xs := ["_law_kind", "_law_rules"]) (caps := []) (cap := []) (cs := []) rfl rfl (by decide +kernel) (by decide +kernel) (by decide +kernel) (by decide +kernel) (by decide +kernel) (by decide +kernel) rfl rfl rfl) rfl) (fun _ _ _ _ => pf_nil) (fun _ _ _ _ => (pe_tup (pa_cons (pv 0) (pa_cons (pe_callTy (r := rLstOf K) call_list_of rfl G.lst PyProof.Rows.boot_list (pa_cons (pv 1) pa_nil)) pa_nil))))) pa_nil))))))), ?_⟩
  refine ⟨_, rfl, tu, _, 0, _, rfl, rfl, hT.tu, rfl, wd, rfl, ⟨_, hT.w.1⟩, fun lx hlx => ?_⟩
  refine c2_list (K := K) (xs := ks.map fun k => V.ref k.1) (cs := []) (tt := fun _ H Q => Q true H) (te := tTup (tCons (tVar 0) (tCons (tCB (rLstOf K) (tCons (tVar 1) tNil)) tNil))) (fun j ys H' => ∃ hs : List KdT, ys = hs.map (fun k => V.ref k.1) ∧ hs.map keyW = (ks.take j).map keyW ∧ (∀ k ∈ hs, SqT K H' k.1 [.str k.2.1, .ref k.2.2.1] ∧ (H' k.2.2.1 = some (.lst (k.2.2.2.map fun t => V.ref t.1)) ∧ k.2.2.1 ≠ lx) ∧ ∀ t ∈ k.2.2.2, RowAt K H' t) ∧ H' lx = some (.lst ys) ∧ Same H H')
    ⟨[], rfl, rfl, fun k hk => (nomatch hk), upd_same, same_new hlx _⟩ ?_ ?_ ?_
  · rintro j ys H' _ ⟨hs, _, _, _, _, g⟩
    exact (hT.w.same g).1
  · rintro j x ys H' hj hx ⟨hs, rfl, hkey, hat, hya, g⟩
    have hjk : j < ks.length := by simpa using hj
    obtain rfl : x = .ref ks[j].1 := by
      rw [List.getElem?_map, List.getElem?_eq_getElem hjk] at hx
      exact (Option.some.inj hx).symm
    obtain ⟨hk1, hkr⟩ := (hT.w.same g).2 _ (List.getElem_mem hjk)
    have hhl : hs.length = j := by
      have := congrArg List.length hkey
      rw [List.length_map, List.length_map, List.length_take] at this
      omega
    have hkl := hO.len
    refine ⟨ks[j].1, _, _, rfl, hk1, iteT ⟨_, rfl, _, rfl, ks[j].2.2.1, _, rfl, .inl hkr.1, fun l2 hl2 => ⟨(by show 2 ≤ sizeLine; decide), fun p2 hp2 => ?_⟩⟩⟩
    have e1 := same_new hl2 (.lst (ks[j].2.2.2.map fun t => V.ref t.1))
    have e2 := same_new hp2 (.tup [.str ks[j].2.1, .ref l2])
    have e12 := e1.trans e2
    have hya2 := e12 _ _ hya
    have hl2x : l2 ≠ lx := fun z => by rw [z, hya] at hl2; cases hl2
    refine comp_next (ys := hs.map fun k => V.ref k.1) hj hya2 (by rw [List.length_map]; omega) ⟨hs ++ [(p2, ks[j].2.1, l2, ks[j].2.2.2)], by simp, ?_, fun k hk => ?_, upd_same, fun x u e => by rw [upd_ne (ne_of_none e hlx)]; exact e12 _ _ (g _ _ e)⟩
    · rw [List.map_append, hkey, List.take_add_one, List.getElem?_eq_getElem hjk, List.map_append]
      rfl
    · rcases List.mem_append.mp hk with z | z
      · obtain ⟨a1, ⟨a2, a3⟩, a4⟩ := hat k z
        exact ⟨(e12.seqT a1).put hya2, ⟨by rw [upd_ne a3]; exact e12 _ _ a2, a3⟩, fun t ht => ⟨(e12.seqT (a4 t ht).1).put hya2, (e12.seqT (a4 t ht).2).put hya2⟩⟩
      · have : k = (p2, ks[j].2.1, l2, ks[j].2.2.2) := by simpa using z
        rw [this]
        refine ⟨SqT.put (SqT.of upd_same) hya2, ⟨by rw [upd_ne hl2x]; exact e2 _ _ upd_same, hl2x⟩, fun t ht => ⟨(e12.seqT (hkr.2 t ht).1).put hya2, (e12.seqT (hkr.2 t ht).2).put hya2⟩⟩
  rintro ys H1 ⟨hs, rfl, hkey, hat, hya, g1⟩
  rw [List.length_map, List.take_length] at hkey
  have hWH : WoodAt K H1 lx hs := ⟨SqL.of hya, fun k hk => by
    obtain ⟨a1, ⟨a2, _⟩, a4⟩ := hat k hk
    exact ⟨a1, SqL.of a2, a4⟩⟩
  have hT1 := hT.same g1
  refine ⟨_, rfl, _, rfl, tu, _, 1, _, rfl, rfl, hT1.tu, rfl, _, rfl, tu, _, 2, _, rfl, rfl, hT1.tu, rfl, lm, rfl, ⟨_, hT1.m.1⟩, fun ly hly => ?_⟩
  refine c2_list (K := K) (xs := ms.map fun k => V.ref k.1) (cs := []) (tt := fun _ H Q => Q true H) (te := tTup (tCons (tVar 0) (tCons (tCB (rLstOf K) (tCons (tVar 1) tNil)) tNil))) (fun j ys H' => ∃ ns : List MdT, ys = ns.map (fun k => V.ref k.1) ∧ ns.map MdT.md = (ms.take j).map MdT.md ∧ (∀ m ∈ ns, SqT K H' m.1 [.str m.2.1, .ref m.2.2.1] ∧ (H' m.2.2.1 = some (.lst m.2.2.2.1) ∧ m.2.2.1 ≠ ly) ∧ TmAll K H' m.2.2.2.1 m.2.2.2.2) ∧ H' ly = some (.lst ys) ∧ Same H1 H')
    ⟨[], rfl, rfl, fun k hk => (nomatch hk), upd_same, same_new hly _⟩ ?_ ?_ ?_
  · rintro j ys H' _ ⟨hs, _, _, _, _, g⟩
    exact (hT1.m.same g).1
  · rintro j x ys H' hj hx ⟨ns, rfl, hkm, hat, hyb, g⟩
    have hjk : j < ms.length := by simpa using hj
    obtain rfl : x = .ref ms[j].1 := by
      rw [List.getElem?_map, List.getElem?_eq_getElem hjk] at hx
      exact (Option.some.inj hx).symm
    obtain ⟨hk1, hk2, hk3⟩ := (hT1.m.same g).2 _ (List.getElem_mem hjk)
    have hhl : ns.length = j := by
      have := congrArg List.length hkm
      rw [List.length_map, List.length_map, List.length_take] at this
      omega
    refine ⟨ms[j].1, _, _, rfl, hk1, iteT ⟨_, rfl, _, rfl, ms[j].2.2.1, _, rfl, .inl hk2, fun l2 hl2 => ⟨(by show 2 ≤ sizeLine; decide), fun p2 hp2 => ?_⟩⟩⟩
    have e1 := same_new hl2 (.lst ms[j].2.2.2.1)
    have e2 := same_new hp2 (.tup [.str ms[j].2.1, .ref l2])
    have e12 := e1.trans e2
    have hyb2 := e12 _ _ hyb
    have hl2x : l2 ≠ ly := fun z => by rw [z, hyb] at hl2; cases hl2
    refine comp_next (ys := ns.map fun k => V.ref k.1) hj hyb2 (by rw [List.length_map]; omega) ⟨ns ++ [(p2, ms[j].2.1, l2, ms[j].2.2.2.1, ms[j].2.2.2.2)], by simp, ?_, fun k hk => ?_, upd_same, fun x u e => by rw [upd_ne (ne_of_none e hly)]; exact e12 _ _ (g _ _ e)⟩
    · rw [List.map_append, hkm, List.take_add_one, List.getElem?_eq_getElem hjk, List.map_append]
      rfl
    · rcases List.mem_append.mp hk with z | z
      · obtain ⟨a1, ⟨a2, a3⟩, a4⟩ := hat k z
        exact ⟨(e12.seqT a1).put hyb2, ⟨by rw [upd_ne a3]; exact e12 _ _ a2, a3⟩, a4.mono fun _ _ h => (e12.seqT h).put hyb2⟩
      · have : k = (p2, ms[j].2.1, l2, ms[j].2.2.2.1, ms[j].2.2.2.2) := by simpa using z
        rw [this]
        exact ⟨SqT.put (SqT.of upd_same) hyb2, ⟨by rw [upd_ne hl2x]; exact e2 _ _ upd_same, hl2x⟩, hk3.mono fun _ _ h => (e12.seqT h).put hyb2⟩
  rintro ys H2 ⟨ns, rfl, hkm, hat2, hyb, g2⟩
  rw [List.length_map, List.take_length] at hkm
  refine ⟨(by show 3 ≤ sizeLine; decide), fun p hp => ?_⟩
  have k3 := same_new hp (.tup [.ref lx, sv, .ref ly])
  have g23 := g2.trans k3
  exact q p lx ly hs ns _ (g1.trans g23) ⟨SqT.of upd_same, hWH.same g23, hT1.s.mono fun _ _ => g23.seqT, ⟨SqL.of (k3 _ _ hyb), fun m hm => by
    obtain ⟨a1, ⟨a2, _⟩, a4⟩ := hat2 m hm
    exact ⟨k3.seqT a1, SqL.of (k3 _ _ a2), a4.mono fun _ _ => k3.seqT⟩⟩⟩ hkey hkm
end
end K33
namespace ST
open PySem TM TT
def Bel (a b : Stp) : Prop := met a b = a
theorem Bel.refl (a : Stp) : Bel a a := met_self a
theorem Bel.trans {a b c : Stp} (h : Bel a b) (k : Bel b c) : Bel a c := by
  unfold Bel at *
  rw [← h, met_assoc, k]
theorem Bel.anti {a b : Stp} (h : Bel a b) (k : Bel b a) : a = b := by
  unfold Bel at *
  rw [← h, met_comm]; exact k
theorem bel_l (a b : Stp) : Bel (met a b) a := by unfold Bel; exact met_again a b
theorem bel_r (a b : Stp) : Bel (met a b) b := by rw [met_comm]; exact bel_l b a
theorem bel_met {x a b : Stp} (h : Bel x a) (k : Bel x b) : Bel x (met a b) := by
  unfold Bel at *
  rw [← met_assoc, h, k]
theorem bel_op (a : Stp) : Bel .op a := op_met a
mutual
def rsT (S : Int → Stp) : Tm → Stp
  | .node (.call m _) _ _ => S m
  | .node (.put n k a) _ bs => if k = true then .op else .put n a (rsTs S bs)
def rsTs (S : Int → Stp) : List Tm → List Stp
  | [] => []
  | b :: r => rsT S b :: rsTs S r
end
theorem rsTs_map (S : Int → Stp) (bs : List Tm) : rsTs S bs = bs.map (rsT S) := by
  induction bs with
  | nil => rfl
  | cons b r ih => simp only [rsTs, List.map_cons, ih]
theorem rsTs_len (S : Int → Stp) (bs : List Tm) : (rsTs S bs).length = bs.length := by rw [rsTs_map, List.length_map]
mutual
theorem rs_mono {S S' : Int → Stp} (h : ∀ m, Bel (S m) (S' m)) : ∀ t : Tm, Bel (rsT S t) (rsT S' t)
  | .node (.call m b) _ _ => by simp only [rsT]; exact h m
  | .node (.put n k a) _ bs => by
    simp only [rsT]
    cases k with
    | true => simp only [if_true]; exact Bel.refl _
    | false =>
      simp only [Bool.false_eq_true, if_false]
      have := rss_mono h bs
      unfold Bel
      rw [met_pp, if_pos ⟨rfl, rfl, by rw [rsTs_len, rsTs_len]⟩, this]
theorem rss_mono {S S' : Int → Stp} (h : ∀ m, Bel (S m) (S' m)) : ∀ bs : List Tm, mets (rsTs S bs) (rsTs S' bs) = rsTs S bs
  | [] => by simp only [rsTs, mets]
  | b :: r => by
    simp only [rsTs, mets]
    have h1 : met (rsT S b) (rsT S' b) = rsT S b := rs_mono h b
    rw [h1, rss_mono h r]
end
mutual
theorem rs_agree {S S' : Int → Stp} : ∀ t : Tm, (∀ c ∈ cls t, S c.1 = S' c.1) → rsT S t = rsT S' t
  | .node (.call m b) _ bs, h => by simp only [rsT]; exact h (m, b) (by simp [cls, lcl])
  | .node (.put n k a) _ bs, h => by
    simp only [rsT]
    rw [rss_agree bs fun c hc => h c (by simp only [cls, lcl, List.nil_append]; exact hc)]
theorem rss_agree {S S' : Int → Stp} : ∀ bs : List Tm, (∀ c ∈ clss bs, S c.1 = S' c.1) → rsTs S bs = rsTs S' bs
  | [], _ => rfl
  | b :: r, h => by
    simp only [rsTs]
    rw [rs_agree b fun c hc => h c (by simp only [clss]; exact List.mem_append_left _ hc), rss_agree r fun c hc => h c (by simp only [clss]; exact List.mem_append_right _ hc)]
end
def metA : List Stp → Stp
  | [] => .op
  | x :: r => r.foldl met x
theorem fold_bel : ∀ (r : List Stp) (x : Stp), Bel (r.foldl met x) x ∧ ∀ y ∈ r, Bel (r.foldl met x) y
  | [], x => ⟨Bel.refl _, fun y hy => (nomatch hy)⟩
  | z :: r, x => by
    obtain ⟨h1, h2⟩ := fold_bel r (met x z)
    refine ⟨h1.trans (bel_l _ _), fun y hy => ?_⟩
    rcases List.mem_cons.mp hy with e | h
    · rw [e]; exact h1.trans (bel_r _ _)
    · exact h2 y h
theorem bel_fold {w : Stp} : ∀ (r : List Stp) (x : Stp), Bel w x → (∀ y ∈ r, Bel w y) → Bel w (r.foldl met x)
  | [], x, h, _ => h
  | z :: r, x, h, k => bel_fold r (met x z) (bel_met h (k z List.mem_cons_self)) fun y hy => k y (List.mem_cons_of_mem _ hy)
theorem metA_bel {l : List Stp} {y : Stp} (h : y ∈ l) : Bel (metA l) y := by
  cases l with
  | nil => cases h
  | cons x r =>
    obtain ⟨h1, h2⟩ := fold_bel r x
    rcases List.mem_cons.mp h with e | h
    · rw [e]; exact h1
    · exact h2 y h
theorem bel_metA {w : Stp} {l : List Stp} (hne : l ≠ []) (h : ∀ y ∈ l, Bel w y) : Bel w (metA l) := by
  cases l with
  | nil => exact absurd rfl hne
  | cons x r => exact bel_fold r x (h x List.mem_cons_self) fun y hy => h y (List.mem_cons_of_mem _ hy)
mutual
def ssz : Stp → Nat
  | .op => 1
  | .put _ _ ps => 2 + sszs ps
def sszs : List Stp → Nat
  | [] => 0
  | p :: r => ssz p + sszs r
end
mutual
theorem met_ssz : ∀ a b : Stp, ssz (met a b) ≤ ssz a ∧ (met a b ≠ a → ssz (met a b) < ssz a)
  | .op, _ => by simp only [met]; exact ⟨Nat.le_refl _, fun h => absurd rfl h⟩
  | .put n m ps, .op => by simp only [met, ssz]; exact ⟨by omega, fun _ => by omega⟩
  | .put n m ps, .put n' m' qs => by
    rw [met_pp]
    by_cases h : n = n' ∧ m = m' ∧ ps.length = qs.length
    · rw [if_pos h]
      obtain ⟨h1, h2⟩ := mets_ssz ps qs h.2.2
      simp only [ssz]
      refine ⟨by omega, fun hne => ?_⟩
      have := h2 fun z => hne (by rw [z])
      omega
    · rw [if_neg h]; simp only [ssz]; exact ⟨by omega, fun _ => by omega⟩
theorem mets_ssz : ∀ a b : List Stp, a.length = b.length → sszs (mets a b) ≤ sszs a ∧ (mets a b ≠ a → sszs (mets a b) < sszs a)
  | [], _, _ => by simp only [mets]; exact ⟨Nat.le_refl _, fun h => absurd rfl h⟩
  | _ :: _, [], h => by simp at h
  | p :: ps, q :: qs, h => by
    obtain ⟨h1, h2⟩ := met_ssz p q
    obtain ⟨h3, h4⟩ := mets_ssz ps qs (by simpa using h)
    simp only [mets, sszs]
    refine ⟨by omega, fun hne => ?_⟩
    by_cases e : met p q = p
    · have : mets ps qs ≠ ps := fun z => hne (by rw [e, z])
      have := h4 this
      omega
    · have := h2 e
      omega
end
theorem bel_ssz {a b : Stp} (h : Bel a b) : ssz a ≤ ssz b ∧ (a ≠ b → ssz a < ssz b) := by
  have e : met b a = a := by rw [met_comm]; exact h
  have := met_ssz b a
  rw [e] at this
  exact this
mutual
theorem ssz_le : ∀ s : Stp, SOk s → ssz s + 2 ≤ 4 * 4 ^ sl s
  | .op, _ => by simp only [ssz, sl]; decide
  | .put n m ps, h => by
    simp only [SOk] at h
    simp only [ssz, sl]
    have h1 := sszs_le ps h.2.2
    have h3 : 1 ≤ 4 ^ sls ps := Nat.pos_of_ne_zero (by simp)
    rw [Nat.add_comm 1, Nat.pow_succ]
    have hl : ps.length = 0 ∨ ps.length = 1 ∨ ps.length = 2 ∨ ps.length = 3 ∨ ps.length = 4 := by have := h.2.1; omega
    rcases hl with e | e | e | e | e <;> rw [e] at h1 <;> omega
theorem sszs_le : ∀ ps : List Stp, SOks ps → sszs ps + 2 * ps.length ≤ ps.length * (4 * 4 ^ sls ps)
  | [], _ => by simp [sszs]
  | p :: r, h => by
    simp only [SOks] at h
    have h1 := ssz_le p h.1
    have h2 := sszs_le r h.2
    simp only [sszs, List.length_cons, sls]
    have h3 : 4 ^ sl p ≤ 4 ^ max (sl p) (sls r) := Nat.pow_le_pow_right (by decide) (Nat.le_max_left _ _)
    have h4 : 4 * 4 ^ sls r ≤ 4 * 4 ^ max (sl p) (sls r) := Nat.mul_le_mul_left _ (Nat.pow_le_pow_right (by decide) (Nat.le_max_right _ _))
    have h5 : r.length * (4 * 4 ^ sls r) ≤ r.length * (4 * 4 ^ max (sl p) (sls r)) := Nat.mul_le_mul_left _ h4
    have e : (r.length + 1) * (4 * 4 ^ max (sl p) (sls r)) = r.length * (4 * 4 ^ max (sl p) (sls r)) + 4 * 4 ^ max (sl p) (sls r) := Nat.succ_mul _ _
    rw [e]
    generalize r.length * (4 * 4 ^ max (sl p) (sls r)) = A at *
    generalize r.length * (4 * 4 ^ sls r) = B at *
    generalize 4 ^ max (sl p) (sls r) = C at *
    generalize 4 ^ sl p = E at *
    omega
end
abbrev Rls := List (List (Bool × Tm))
def lookS (S : List Stp) : Int → Stp := fun m => (S[m.toNat]?).getD .op
def leafS (rs : List (Bool × Tm)) : Stp := metA ((rs.filter fun r => r.1).map fun r => rsT (fun _ => .op) r.2)
def nextS (S : List Stp) (rs : List (Bool × Tm)) : Stp := metA (rs.map fun r => rsT (lookS S) r.2)
def D (ms : Rls) : Nat → List Stp
  | 0 => ms.map leafS
  | n + 1 => ms.map (nextS (D ms n))
theorem D_len (ms : Rls) : ∀ n, (D ms n).length = ms.length
  | 0 => by simp [D]
  | n + 1 => by simp [D]
def RlsOk (ms : Rls) : Prop := ∀ rs ∈ ms, (∃ r ∈ rs, r.1 = true) ∧ ∀ r ∈ rs, r.1 = true → cls r.2 = []
theorem lookS_map {f : List (Bool × Tm) → Stp} {ms : Rls} {m : Int} : lookS (ms.map f) m = ((ms[m.toNat]?).map f).getD .op := by
  unfold lookS; rw [List.getElem?_map]
theorem leaf_next {ms : Rls} (ok : RlsOk ms) (S : List Stp) {rs : List (Bool × Tm)} (h : rs ∈ ms) : Bel (nextS S rs) (leafS rs) := by
  obtain ⟨⟨r0, hr0, e0⟩, hb⟩ := ok rs h
  refine bel_metA ?_ fun y hy => ?_
  · intro z
    have : rsT (fun _ => Stp.op) r0.2 ∈ (rs.filter fun r => r.1).map fun r => rsT (fun _ => .op) r.2 := List.mem_map.mpr ⟨r0, List.mem_filter.mpr ⟨hr0, e0⟩, rfl⟩
    rw [z] at this; cases this
  · obtain ⟨r, hr, rfl⟩ := List.mem_map.mp hy
    obtain ⟨hr1, hr2⟩ := List.mem_filter.mp hr
    have e : rsT (fun _ => Stp.op) r.2 = rsT (lookS S) r.2 := rs_agree r.2 fun c hc => by rw [hb r hr1 hr2] at hc; cases hc
    rw [e]
    exact metA_bel (List.mem_map.mpr ⟨r, hr1, rfl⟩)
theorem D_bel {ms : Rls} (ok : RlsOk ms) : ∀ n m, Bel (lookS (D ms (n + 1)) m) (lookS (D ms n) m)
  | 0, m => by
    simp only [D]
    rw [lookS_map, lookS_map]
    cases e : ms[m.toNat]? with
    | none => exact Bel.refl _
    | some rs => exact leaf_next ok _ (List.mem_of_getElem? e)
  | n + 1, m => by
    have ih := D_bel ok n
    show Bel (lookS (ms.map (nextS (D ms (n + 1)))) m) (lookS (ms.map (nextS (D ms n))) m)
    rw [lookS_map, lookS_map]
    cases e : ms[m.toNat]? with
    | none => exact Bel.refl _
    | some rs =>
      show Bel (nextS _ rs) (nextS _ rs)
      obtain ⟨⟨r0, hr0, _⟩, _⟩ := ok rs (List.mem_of_getElem? e)
      refine bel_metA (fun z => ?_) fun y hy => ?_
      · have : rsT (lookS (D ms n)) r0.2 ∈ rs.map fun r => rsT (lookS (D ms n)) r.2 := List.mem_map.mpr ⟨r0, hr0, rfl⟩
        rw [z] at this; cases this
      · obtain ⟨r, hr, rfl⟩ := List.mem_map.mp hy
        exact (metA_bel (List.mem_map.mpr ⟨r, hr, rfl⟩)).trans (rs_mono ih r.2)
theorem D_const {ms : Rls} {n : Nat} (h : D ms (n + 1) = D ms n) : ∀ k, D ms (n + k) = D ms n
  | 0 => rfl
  | k + 1 => by
    have ih := D_const h k
    show ms.map (nextS (D ms (n + k))) = _
    rw [ih]; exact h
theorem D_same {ms : Rls} {n k : Nat} (h : D ms (n + 1) = D ms n) (h' : D ms (k + 1) = D ms k) : D ms n = D ms k := by
  rcases Nat.le_total n k with hl | hl
  · obtain ⟨j, rfl⟩ := Nat.exists_eq_add_of_le hl
    exact (D_const h j).symm
  · obtain ⟨j, rfl⟩ := Nat.exists_eq_add_of_le hl
    exact D_const h' j
def tsz (S : List Stp) : Nat := sszs S
theorem D_less {ms : Rls} (ok : RlsOk ms) (n : Nat) : tsz (D ms (n + 1)) ≤ tsz (D ms n) ∧ (D ms (n + 1) ≠ D ms n → tsz (D ms (n + 1)) < tsz (D ms n)) := by
  have aux : ∀ (a b : List Stp), a.length = b.length → (∀ (i : Nat) x y, a[i]? = some x → b[i]? = some y → Bel x y) → sszs a ≤ sszs b ∧ (a ≠ b → sszs a < sszs b) := by
    intro a
    induction a with
    | nil => intro b hl _; cases b with
      | nil => exact ⟨Nat.le_refl _, fun h => absurd rfl h⟩
      | cons _ _ => simp at hl
    | cons x a ih =>
      intro b hl h
      cases b with
      | nil => simp at hl
      | cons y b =>
        obtain ⟨h1, h2⟩ := bel_ssz (h 0 x y rfl rfl)
        obtain ⟨h3, h4⟩ := ih b (by simpa using hl) fun i u v hu hv => h (i + 1) u v (by simpa using hu) (by simpa using hv)
        simp only [sszs]
        refine ⟨by omega, fun hne => ?_⟩
        by_cases e : x = y
        · have := h4 fun z => hne (by rw [e, z])
          omega
        · have := h2 e
          omega
  refine aux _ _ (by rw [D_len, D_len]) fun i x y hx hy => ?_
  have := D_bel ok n (i : Int)
  unfold lookS at this
  rw [Int.toNat_natCast, hx, hy] at this
  exact this
end ST
namespace L2
open PySem TM ST
structure OneAt (K : PySem.W.Frag) (x : Str) (z : Str) : Prop where
  ex : ∃ (a : Addr) (od : Option Addr) (t : Tok) (n : Nat) (sl : Array (Option Value)), PySem.W.nsIn K mainGlobals x = some (some (.ref a)) ∧ K.lookup a = some ⟨.type "tuple", od, .seq #[.str z t] n, sl⟩
theorem OneAt.mk' {K : PySem.W.Frag} {x z : Str} {a : Addr} {od : Option Addr} {t : Tok} {n : Nat} {sl : Array (Option Value)} (h : PySem.W.nsIn K mainGlobals x = some (some (.ref a))) (l : K.lookup a = some ⟨.type "tuple", od, .seq #[.str z t] n, sl⟩) : OneAt K x z := ⟨a, od, t, n, sl, h, l⟩
theorem OneAt.at {K : PySem.W.Frag} {x z : Str} {h : Heap} {mg : Str → Option Value} (O : OneAt K x z) (X : K.In h) (G : h.Ns mainGlobals mg) : ∃ a, mg x = some (.ref a) ∧ ∀ H : Hp, SqT K H a [.str z] := by
  obtain ⟨a, od, t, n, sl, h1, h2⟩ := O.ex
  exact ⟨a, PySem.W.mg_of X G h1, fun H => .inr ⟨_, _, n, h2, rfl, rfl, (by show 1 ≤ sizeLine; decide), .cons ⟨t, rfl⟩ .nil⟩⟩
end L2
namespace K33
open PySem L2 TM TT ST K9 K11
abbrev sIsO : Stmt := top 2
abbrev sHead : Stmt := top 3
abbrev sMet : Stmt := top 4
abbrev sIsC : Stmt := top 6
abbrev sCO : Stmt := top 7
abbrev sRowsOf : Stmt := top 9
def isO : Stp → Bool
  | .op => true
  | .put _ _ _ => false
def spIsO (K : PySem.W.Frag) : Sp := fun vs H Q _ => ∃ (v : V) (s : Stp), vs = [v] ∧ SV K H v s ∧ Q (.bl (isO s)) H
def spHead (K : PySem.W.Frag) : Sp := fun vs H Q _ => ∃ (v : V) (n : Str) (m : Int) (ps : List Stp), vs = [v] ∧ SV K H v (.put n m ps) ∧ ∀ (p : Addr) (H' : Hp), Same H H' → SqT K H' p [.str n, .int m, .int (ps.length : Int)] → Q (.ref p) H'
def spMet (K : PySem.W.Frag) (n : Nat) : Sp := fun vs H Q _ => ∃ (v1 v2 : V) (a b : Stp), vs = [v1, v2] ∧ SV K H v1 a ∧ SV K H v2 b ∧ SOk a ∧ SOk b ∧ sl a ≤ n ∧ ∀ (v : V) (H' : Hp), Same H H' → SV K H' v (met a b) → Q v H'
abbrev PI' (p : List Int) : List V := p.map V.int
theorem tm_open {K : PySem.W.Frag} {H : Hp} {v : V} {t : Tm} (h : TmV K H v t) : (∃ a m b, v = .ref a ∧ t = leaf m b ∧ SqT K H a [.str CALL, .int m, .int b]) ∨
    ∃ a b vs n k ad, v = .ref a ∧ t = .node (.put n k ad) 0 t.bs ∧ SqT K H a [.str PUT, .str n, .bl k, .int ad, .ref b] ∧ SqT K H b vs ∧ TmAll K H vs t.bs ∧ vs.length ≤ 1000 := by
  cases h with
  | call h => exact .inl ⟨_, _, _, rfl, rfl, h⟩
  | put h1 h2 h3 h4 => exact .inr ⟨_, _, _, _, _, _, rfl, rfl, h1, h2, h3, h4⟩
def spIsC (K : PySem.W.Frag) : Sp := fun vs H Q _ => ∃ (v : V) (t : Tm), vs = [v] ∧ TmV K H v t ∧ Q (.bl (isC (lab t))) H
abbrev Rf (ts : List (Addr × List Int)) : List V := ts.map fun t => V.ref t.1
def TsAt (K : PySem.W.Frag) (H : Hp) (ts : List (Addr × List Int)) : Prop := ∀ t ∈ ts, SqT K H t.1 (PI' t.2)
theorem TsAt.mono {K : PySem.W.Frag} {H H' : Hp} {ts : List (Addr × List Int)} (h : TsAt K H ts) (k : ∀ a xs, SqT K H a xs → SqT K H' a xs) : TsAt K H' ts := fun t ht => k _ _ (h t ht)
theorem TsAt.app {K : PySem.W.Frag} {H : Hp} {ts us : List (Addr × List Int)} (h : TsAt K H ts) (k : TsAt K H us) : TsAt K H (ts ++ us) := fun t ht => by
  rcases List.mem_append.mp ht with z | z
  · exact h t z
  · exact k t z
def pr (c : Int × Int) : List Int := [c.1, c.2]
def spCO (K : PySem.W.Frag) (n : Nat) : Sp := fun vs H Q _ => ∃ (v : V) (t : Tm), vs = [v] ∧ TmV K H v t ∧ lv t ≤ n ∧ sz t ≤ 1000 ∧
  ∀ (l : Addr) (H' : Hp) (ts : List (Addr × List Int)), Same H H' → H l = none → H' l = some (.lst (Rf ts)) → TsAt K H' ts → ts.map (·.2) = (cls t).map pr → Q (.ref l) H'
def spRowsOf (K : PySem.W.Frag) : Sp := fun vs H Q _ => ∃ (w : Addr) (kind : Str) (ks : List KdT), vs = [.ref w, .str kind] ∧ WoodAt K H w ks ∧ WoodOk ks ∧ ∀ (lr : Addr) (H' : Hp), Same H H' → RowsL K H' lr (rowsK ks kind) → Q (.ref lr) H'
section
variable {P : Program} {w : World} {K : PySem.W.Frag} {mg : Str → Option Value} {base : Heap} {f : Addr} {fd : FuncData}
theorem scIsO : FnScope ["stump"] ["stump"] (defScope sIsO) := ⟨rfl, rfl, rfl, by decide +kernel, rfl, by decide +kernel, by decide +kernel⟩
theorem ok_isO (F : Fun K "is_open" "is_open" sIsO f fd) : FnOk P w K mg base CX0 1 f fd ["stump"] (spIsO K) := by
  refine F.ok scIsO (fun vs H Q E h => ?_) (fun cdv A outer s H vs Q E hr h => ?_)
  · obtain ⟨v, t, rfl, _⟩ := h
    rfl
  obtain ⟨v, t, rfl, ht, q⟩ := h
  refine ⟨_, (pss_one (ps_ret (pe_cmpR op_eq (pe_ix ix_tup (pv 0) pe_int (fun _ _ => rfl)) pe_str (nomark _)))), ?_⟩
  rcases sv_open ht with ⟨a, rfl, rfl, h1⟩ | ⟨a, b, bs, n, m, ps, rfl, rfl, h1, h2, h3⟩
  · refine ⟨_, rfl, a, _, 0, _, rfl, rfl, h1, rfl, rfl, ?_⟩
    have e : decide (V.str OPEN = V.str OPEN) = true := decide_eq_true rfl
    show Q (.bl (decide (V.str OPEN = V.str OPEN))) H
    rw [e]; exact q
  · refine ⟨_, rfl, a, _, 0, _, rfl, rfl, h1, rfl, rfl, ?_⟩
    have e : decide (V.str PUTT = V.str OPEN) = false := by decide +kernel
    show Q (.bl (decide (V.str PUTT = V.str OPEN))) H
    rw [e]; exact q
theorem scHead : FnScope ["stump"] ["stump"] (defScope sHead) := ⟨rfl, rfl, rfl, by decide +kernel, rfl, by decide +kernel, by decide +kernel⟩
theorem ok_head (F : Fun K "head" "head" sHead f fd) (G : Gm mg) : FnOk P w K mg base CX0 1 f fd ["stump"] (spHead K) := by
  refine F.ok scHead (fun vs H Q E h => ?_) (fun cdv A outer s H vs Q E hr h => ?_)
  · obtain ⟨v, n, m, ps, rfl, _⟩ := h
    rfl
  obtain ⟨v, n, m, ps, rfl, ht, q⟩ := h
  refine ⟨_, (pss_one (ps_ret (pe_tup (pa_cons (pe_ix ix_tup (pv 0) pe_int (fun _ _ => rfl)) (pa_cons (pe_ix ix_tup (pv 0) pe_int (fun _ _ => rfl)) (pa_cons (pe_callB call_len_seq rfl G.len PySem.boot_len (pa_cons (pe_ix ix_tup (pv 0) pe_int (fun _ _ => rfl)) pa_nil)) pa_nil)))))), ?_⟩
  cases ht with
  | @put a b vs _ _ _ h1 h2 h3 =>
    refine ⟨_, rfl, a, _, 1, _, rfl, rfl, h1, rfl, _, rfl, a, _, 2, _, rfl, rfl, h1, rfl, _, rfl, a, _, 3, _, rfl, rfl, h1, rfl, b, vs, rfl, .inr h2, (by show 3 ≤ sizeLine; decide), fun p hp => ?_⟩
    rw [h3.length]
    exact q p _ (same_new hp _) (SqT.of upd_same)
theorem scMet : FnScope ["one", "other"] ["one", "other"] (defScope sMet) := ⟨rfl, rfl, rfl, by decide +kernel, rfl, by decide +kernel, by decide +kernel⟩
theorem ok_met {n : Nat} {oa : Addr} (F : Fun K "met" "met" sMet f fd) (G : Gm mg) (hO : mg "OPEN" = some (.ref oa)) (hOA : ∀ H : Hp, SqT K H oa [.str OPEN]) (RO : Fn P w K mg base 1 "is_open" ["stump"] (spIsO K)) (RH : Fn P w K mg base 1 "head" ["stump"] (spHead K)) (R : Fn P w K mg base (n + 1) "met" ["one", "other"] (spMet K n)) : FnOk P w K mg base CX0 (n + 2) f fd ["one", "other"] (spMet K (n + 1)) := by
  refine F.ok scMet (fun vs H Q E h => ?_) (fun cdv A outer s H vs Q E hr h => ?_)
  · obtain ⟨v1, v2, a, b, rfl, _⟩ := h
    rfl
  obtain ⟨v1, v2, sa, sb, rfl, ha, hb, hao, hbo, hsl, q⟩ := h
  refine ⟨_, (pss_cons (ps_if (PW.pt (pw_or (pt_val (pe_fn RO hr (pa_cons (pv 0) pa_nil) (Nat.le_add_left 1 n))) (pw_or (pt_val (pe_fn RO hr (pa_cons (pv 1) pa_nil) (Nat.le_add_left 1 n))) (pw_or1 (pt_cmpR op_neD (pe_fn RH hr (pa_cons (pv 0) pa_nil) (Nat.le_add_left 1 n)) (pe_fn RH hr (pa_cons (pv 1) pa_nil) (Nat.le_add_left 1 n)) (nomark _)))))) (pss_one (ps_ret (pe_glob (v := .ref oa) rfl hO rfl))) pss_nil)
    (pss_one (ps_ret (pe_tup (pa_cons (pe_str) (pa_cons (pe_ix ix_tup (pv 0) pe_int (fun _ _ => rfl)) (pa_cons (pe_ix ix_tup (pv 0) pe_int (fun _ _ => rfl)) (pa_cons (pe_callTy call_tuple_of rfl G.tup PyProof.Rows.boot_tuple (pa_cons (pe_lcompG (CompG.many (xs := ["part", "beside"]) (caps := []) (cap := []) (cs := []) rfl rfl (by decide +kernel) (by decide +kernel) (by decide +kernel) (by decide +kernel) (by decide +kernel) (by decide +kernel) rfl rfl rfl) rfl (pi_zipT rfl G.zip (pa_cons (pe_ix ix_tup (pv 0) pe_int (fun _ _ => rfl)) (pa_cons (pe_ix ix_tup (pv 1) pe_int (fun _ _ => rfl)) pa_nil))) (pg_c2 (CompG.many (xs := ["part", "beside"]) (caps := []) (cap := []) (cs := []) rfl rfl (by decide +kernel) (by decide +kernel) (by decide +kernel) (by decide +kernel) (by decide +kernel) (by decide +kernel) rfl rfl rfl) rfl) (fun _ _ _ _ => pf_nil) (fun _ _ _ _ => pe_fn R hr (pa_cons (pv 0) (pa_cons (pv 1) pa_nil)) (Nat.le_refl _))) pa_nil)) pa_nil)))))))), ?_⟩
  refine ⟨_, rfl, v1, sa, rfl, ha, _, rfl, ?_⟩
  rcases sv_open ha with ⟨a, rfl, rfl, h1⟩ | ⟨a, b, bs, nm, m, ps, rfl, rfl, h1, h2, h3⟩
  · refine iteT (iteT (q (.ref oa) H (Same.refl _) ?_))
    rw [op_met]; exact .op (hOA H)
  refine iteF ⟨_, rfl, v2, sb, rfl, hb, _, rfl, ?_⟩
  rcases sv_open hb with ⟨a', rfl, rfl, k1⟩ | ⟨a', b', bs', nm', m', ps', rfl, rfl, k1, k2, k3⟩
  · refine iteT (iteT (q (.ref oa) H (Same.refl _) ?_))
    rw [met_op]; exact .op (hOA H)
  have l1 := h3.length
  have l2 := k3.length
  simp only [SOk] at hao hbo
  simp only [sl] at hsl
  refine iteF ⟨_, rfl, _, nm, m, ps, rfl, ha, fun p H1 g1 hp => ?_⟩
  refine ⟨_, rfl, _, nm', m', ps', rfl, hb.mono fun _ _ => g1.seqT, fun p2 H2 g2 hp2 => ?_⟩
  have g12 := g1.trans g2
  obtain ⟨ca, da⟩ := hd3_ok hao.1 m ps.length
  obtain ⟨cb, db⟩ := hd3_ok hbo.1 m' ps'.length
  refine ⟨hd3 nm m ps.length, hd3 nm' m' ps'.length, .tup (g2.seqT hp) (.cons (.str _) (.cons (.int _) (.cons (.int _) .nil))), .tup hp2 (.cons (.str _) (.cons (.int _) (.cons (.int _) .nil))), ca, cb, hr.fit (by omega), _, rfl, ?_⟩
  rw [if_pos rfl, hd3_eqv]
  rw [met_pp] at q
  by_cases hc : nm = nm' ∧ m = m' ∧ ps.length = ps'.length
  · rw [decide_eq_true hc]
    rw [if_pos hc] at q
    refine iteF ?_
    refine ⟨_, rfl, a, _, 1, _, rfl, rfl, g12.seqT h1, rfl, _, rfl, a, _, 2, _, rfl, rfl, g12.seqT h1, rfl, _, rfl, a, _, 3, _, rfl, rfl, g12.seqT h1, rfl, _, rfl, a', _, 3, _, rfl, rfl, g12.seqT k1, rfl, b, b', bs, bs', rfl, g12.seqT h2, g12.seqT k2, fun acc hacc => ?_⟩
    refine c2_zipT (K := K) (xs := bs) (zs := bs') (cs := []) (tt := fun _ H Q => Q true H) (te := tCall (spMet K n) [] E0 (tCons (tVar 0) (tCons (tVar 1) tNil))) (by omega) (fun i ys H' => H' acc = some (.lst ys) ∧ Same H2 H' ∧ ys.length = i ∧ SAll K H' ys ((List.zipWith met ps ps').take i))
      ⟨upd_same, same_new hacc _, rfl, .nil⟩ ?_ ?_ ?_
    · rintro i ys H' _ ⟨_, g, _⟩
      exact ⟨(g12.trans g).seqT h2, (g12.trans g).seqT k2⟩
    · rintro i u v pp ys H' hi hu hv hpp ⟨hya, g, hyl, hys⟩
      have his : i < ps.length := by omega
      have hib : i < ps'.length := by omega
      obtain ⟨cv, hcv, hct⟩ := h3.get (List.getElem?_eq_getElem his)
      obtain rfl : cv = u := Option.some.inj (hcv.symm.trans hu)
      obtain ⟨dv, hdv, hdt⟩ := k3.get (List.getElem?_eq_getElem hib)
      obtain rfl : dv = v := Option.some.inj (hdv.symm.trans hv)
      have gp := same_new hpp (.tup [cv, dv])
      have gg := g12.trans (g.trans gp)
      have a1 := sl_le (List.getElem_mem his)
      refine iteT ⟨_, rfl, _, rfl, cv, dv, ps[i], ps'[i], rfl, hct.mono fun _ _ => gg.seqT, hdt.mono fun _ _ => gg.seqT, (SOks_iff ps).mp hao.2.2 _ (List.getElem_mem his), (SOks_iff ps').mp hbo.2.2 _ (List.getElem_mem hib), by omega, fun v4 H4 g4 hv4 => ?_⟩
      have hya4 := g4 _ _ (gp _ _ hya)
      refine comp_next (ys := ys) hi hya4 (by omega) ⟨upd_same, fun x u e => ?_, by simp [hyl], ?_⟩
      · rw [upd_ne (ne_of_none e hacc)]; exact g4 _ _ (gp _ _ (g _ _ e))
      · rw [List.take_add_one, List.getElem?_zipWith, List.getElem?_eq_getElem his, List.getElem?_eq_getElem hib]
        exact SAll.append (hys.mono fun _ _ h => (g4.seqT (gp.seqT h)).put hya4) (.cons (hv4.mono fun _ _ h => h.put hya4) .nil)
    rintro ys H3 ⟨hya, g3, hyl, hys⟩
    rw [List.take_of_length_le (by rw [List.length_zipWith]; omega)] at hys
    refine ⟨acc, ys, rfl, .inl ⟨SqL.of hya, fun t ht => ⟨(by show 4 ≤ sizeLine; decide), fun p3 hp3 => ?_⟩⟩⟩
    have gA := same_new ht (.tup ys)
    have gB := same_new hp3 (.tup [.str PUTT, .str nm, .int m, .ref t])
    refine q (.ref p3) _ (g12.trans (g3.trans (gA.trans gB))) ?_
    rw [mets_zip]
    exact .put (SqT.of upd_same) (gB.seqT (SqT.of upd_same)) (hys.mono fun _ _ => (gA.trans gB).seqT)
  · rw [decide_eq_false hc]
    rw [if_neg hc] at q
    exact iteT (q (.ref oa) _ g12 (.op (hOA _)))
theorem none_met {k : Nat} : FnOk P w K mg base CX0 k f fd ["one", "other"] (spMet K 0) := by
  have no : ∀ vs H Q E, ¬ spMet K 0 vs H Q E := fun vs H Q E h => by
    obtain ⟨v1, v2, a, b, _, _, _, _, _, h0, _⟩ := h
    have := sl_pos a
    omega
  exact ⟨fun vs H Q E h => absurd h (no vs H Q E), fun A outer s H args us vs Q E _ _ _ _ h => absurd h (no vs H Q E)⟩
theorem all_met {oa : Addr} (F : Fun K "met" "met" sMet f fd) (G : Gm mg) (hO : mg "OPEN" = some (.ref oa)) (hOA : ∀ H : Hp, SqT K H oa [.str OPEN]) (RO : Fn P w K mg base 1 "is_open" ["stump"] (spIsO K)) (RH : Fn P w K mg base 1 "head" ["stump"] (spHead K)) (hb : Binds K fd ["one", "other"] []) (hm : mg "met" = some (.ref f)) : ∀ n : Nat, FnOk P w K mg base CX0 (n + 1) f fd ["one", "other"] (spMet K n)
  | 0 => none_met
  | n + 1 => ok_met F G hO hOA RO RH ⟨f, fd, all_met F G hO hOA RO RH hb hm n, hb, F.kp, hm⟩
theorem scIsC : FnScope ["term"] ["term"] (defScope sIsC) := ⟨rfl, rfl, rfl, by decide +kernel, rfl, by decide +kernel, by decide +kernel⟩
theorem ok_isC (F : Fun K "is_call" "is_call" sIsC f fd) : FnOk P w K mg base CX0 1 f fd ["term"] (spIsC K) := by
  refine F.ok scIsC (fun vs H Q E h => ?_) (fun cdv A outer s H vs Q E hr h => ?_)
  · obtain ⟨v, t, rfl, _⟩ := h
    rfl
  obtain ⟨v, t, rfl, ht, q⟩ := h
  refine ⟨_, (pss_one (ps_ret (pe_cmpR op_eq (pe_ix ix_tup (pv 0) pe_int (fun _ _ => rfl)) pe_str (nomark _)))), ?_⟩
  rcases tm_open ht with ⟨a, m, b, rfl, rfl, h1⟩ | ⟨a, b, bs, n, k, ad, rfl, et, h1, h2, h3, h4⟩
  · refine ⟨_, rfl, a, _, 0, _, rfl, rfl, h1, rfl, rfl, ?_⟩
    have e : decide (V.str CALL = V.str CALL) = true := decide_eq_true rfl
    show Q (.bl (decide (V.str CALL = V.str CALL))) H
    rw [e]; exact q
  · refine ⟨_, rfl, a, _, 0, _, rfl, rfl, h1, rfl, rfl, ?_⟩
    have e : decide (V.str PUT = V.str CALL) = false := by decide +kernel
    show Q (.bl (decide (V.str PUT = V.str CALL))) H
    rw [et] at q
    rw [e]; exact q
theorem scCO : FnScope ["term", "told", "part"] ["term"] (defScope sCO) := ⟨rfl, rfl, rfl, by decide +kernel, rfl, by decide +kernel, by decide +kernel⟩
theorem ok_co {n : Nat} (F : Fun K "calls_of" "calls_of" sCO f fd) (G : Gm mg) (RC : Fn P w K mg base 1 "is_call" ["term"] (spIsC K)) (R : Fn P w K mg base (n + 1) "calls_of" ["term"] (spCO K n)) : FnOk P w K mg base CX0 (n + 2) f fd ["term"] (spCO K (n + 1)) := by
  refine F.ok scCO (fun vs H Q E h => ?_) (fun cdv A outer s H vs Q E hr h => ?_)
  · obtain ⟨v, t, rfl, _⟩ := h
    rfl
  obtain ⟨v, t, rfl, ht, hlv, hsz, q⟩ := h
  refine ⟨_, (pss_cons (ps_if (pt_val (pe_fn RC hr (pa_cons (pv 0) pa_nil) (Nat.le_add_left 1 n))) (pss_one (ps_ret (pe_lst (pa_cons ((pe_tup (pa_cons (pe_ix ix_tup (pv 0) pe_int (fun _ _ => rfl)) (pa_cons (pe_ix ix_tup (pv 0) pe_int (fun _ _ => rfl)) pa_nil)))) pa_nil)))) pss_nil)
    (pss_cons (ps_set (i := 1) scCO.nd rfl (Or.inl rfl) (pe_lst pa_nil))
    (pss_cons (ps_for PassesOwn.never rfl (pi_tup (pe_ix ix_tup (pv 0) pe_int (fun _ _ => rfl))) (pg_name (i := 2) scCO.nd rfl (Or.inl rfl))
      (pss_one (ps_expr (pe_bm PySem.F.plainAttrs_list PySem.F.slot_list_extend PySem.F.type_list_extend mt_extend (pv 1) (pa_cons (pe_fn R hr (pa_cons (pv 2) pa_nil) (Nat.le_refl _)) pa_nil)))))
    (pss_one (ps_ret (pv 1)))))), ?_⟩
  refine ⟨_, rfl, v, t, rfl, ht, _, rfl, ?_⟩
  rcases tm_open ht with ⟨a, m, b, rfl, rfl, h1⟩ | ⟨a, b, bs, nm, k, ad, rfl, et, h1, h2, h3, h4⟩
  · refine iteT ⟨_, rfl, a, _, 1, _, rfl, rfl, h1, rfl, _, rfl, a, _, 2, _, rfl, rfl, h1, rfl, (by show 2 ≤ sizeLine; decide), fun p hp => ⟨(by show 1 ≤ sizeLine; decide), fun l hl => ?_⟩⟩
    have g1 := same_new hp (.tup [.int m, .int b])
    have g2 := same_new hl (.lst [.ref p])
    refine q l _ [(p, [m, b])] (g1.trans g2) (g1.free hl) upd_same (fun x hx => ?_) rfl
    have : x = (p, [m, b]) := by simpa using hx
    rw [this]
    exact g2.seqT (SqT.of upd_same)
  have ecls : cls t = clss t.bs := by
    have := congrArg cls et
    rw [this]; simp [cls, lcl]
  rw [et]
  refine iteF ?_
  have hlen := h3.length
  rw [lv_bs] at hlv
  rw [sz_bs] at hsz
  rw [ecls] at q
  refine ⟨(by show 0 ≤ sizeLine; decide), fun l hl => ?_⟩
  have g0 := same_new hl (.lst [])
  refine ⟨_, rfl, a, _, 4, _, rfl, rfl, g0.seqT h1, rfl, b, rfl, ⟨_, g0.seqT h2⟩, ?_⟩
  refine for_tup (K := K) (xs := bs) (fun i σ H' => ∃ (ts : List (Addr × List Int)) (c1 : Option V), σ = [some (.ref a), some (.ref l), c1] ∧ Same H H' ∧ H' l = some (.lst (Rf ts)) ∧ TsAt K H' ts ∧ ts.map (·.2) = (clss (t.bs.take i)).map pr)
    ⟨[], none, rfl, g0, upd_same, fun x hx => (nomatch hx), by simp [clss]⟩ ?_ ?_ ?_
  · rintro i σ H' _ ⟨ts, c1, _, g, _⟩
    exact g.seqT h2
  · rintro i x σ H' hx ⟨ts, c1, rfl, g, hl', hts, hcl⟩
    have hi : i < bs.length := (List.getElem?_eq_some_iff.mp hx).1
    obtain ⟨c, hc⟩ : ∃ c, t.bs[i]? = some c := ⟨_, List.getElem?_eq_getElem (by omega)⟩
    obtain ⟨cv, hcv, hct⟩ := h3.get hc
    obtain rfl : cv = x := Option.some.inj (hcv.symm.trans hx)
    have hm := List.mem_of_getElem? hc
    have a1 := lv_le hm
    have a2 := sz_le hm
    refine ⟨_, rfl, .inl ⟨rfl, _, SqL.of hl'⟩, _, rfl, cv, c, rfl, hct.mono fun _ _ => g.seqT, by omega, by omega, fun lb Hb tsb gb hlbn hlb htb hclb => ?_⟩
    have hl2 := gb _ _ hl'
    have tl : ts.length ≤ szs t.bs := by
      have e := congrArg List.length hcl
      rw [List.length_map, List.length_map] at e
      have h5 := clss_len (t.bs.take i)
      have hle : szs (t.bs.take i) ≤ szs t.bs := by
        have e := szs_map (t.bs.take i ++ t.bs.drop i)
        rw [List.map_append, List.sum_append, szs_map, szs_map, List.take_append_drop] at e
        omega
      omega
    have tl2 : tsb.length ≤ sz c := by
      have e := congrArg List.length hclb
      rw [List.length_map, List.length_map] at e
      have h5 := cls_len c
      omega
    refine ⟨l, lb, _, _, rfl, rfl, hl2, hlb, ?_, ?_⟩
    · rw [List.length_map, List.length_map]; exact line_of (by omega)
    refine ⟨ts ++ tsb, _, rfl, fun x u e => ?_, by rw [upd_same]; simp, ?_, ?_⟩
    · rw [upd_ne (ne_of_none e hl)]; exact gb _ _ (g _ _ e)
    · exact (hts.mono fun _ _ h => (gb.seqT h).put hl2).app (htb.mono fun _ _ h => h.put hl2)
    · rw [List.map_append, hcl, hclb, List.take_add_one, hc]
      show _ = (clss (t.bs.take i ++ [c])).map pr
      rw [clss_snoc, List.map_append]
  · rintro σ H' ⟨ts, c1, rfl, g, hl', hts, hcl⟩
    rw [List.take_of_length_le (by omega)] at hcl
    exact ⟨_, rfl, q l H' ts g hl hl' hts hcl⟩
theorem none_co {k : Nat} : FnOk P w K mg base CX0 k f fd ["term"] (spCO K 0) := by
  have no : ∀ vs H Q E, ¬ spCO K 0 vs H Q E := fun vs H Q E h => by
    obtain ⟨v, t, _, _, h0, _⟩ := h
    rw [lv_bs] at h0; omega
  exact ⟨fun vs H Q E h => absurd h (no vs H Q E), fun A outer s H args us vs Q E _ _ _ _ h => absurd h (no vs H Q E)⟩
theorem all_co (F : Fun K "calls_of" "calls_of" sCO f fd) (G : Gm mg) (RC : Fn P w K mg base 1 "is_call" ["term"] (spIsC K)) (hb : Binds K fd ["term"] []) (hm : mg "calls_of" = some (.ref f)) : ∀ n : Nat, FnOk P w K mg base CX0 (n + 1) f fd ["term"] (spCO K n)
  | 0 => none_co
  | n + 1 => ok_co F G RC ⟨f, fd, all_co F G RC hb hm n, hb, F.kp, hm⟩
theorem scRowsOf : FnScope ["wood", "kind"] ["wood", "kind"] (defScope sRowsOf) := ⟨rfl, rfl, rfl, by decide +kernel, rfl, by decide +kernel, by decide +kernel⟩
theorem ok_rowsOf (F : Fun K "rows_of" "rows_of" sRowsOf f fd) (G : Gm mg) : FnOk P w K mg base CX0 1 f fd ["wood", "kind"] (spRowsOf K) := by
  refine F.ok scRowsOf (fun vs H Q E h => ?_) (fun cdv A outer s H vs Q E hr h => ?_)
  · obtain ⟨w, kind, ks, rfl, _⟩ := h
    rfl
  obtain ⟨wd, kind, ks, rfl, hW, hO, q⟩ := h
  refine ⟨_, (pss_one (ps_ret (pe_dget2 (hu_of hr) (pe_callTy (call_dictP rfl) rfl G.dct PyProof.Rows.boot_dict (pa_cons (pv 0) pa_nil)) (pv 1) (pe_lst pa_nil) ⟨rfl, rfl, rfl, rfl⟩))), ?_⟩
  have hlen := hO.len
  refine ⟨_, rfl, wd, ks.map (fun k => (k.1, k.2.1, V.ref k.2.2.1)), rfl, (by rw [List.map_map]; exact hW.1), fun t ht => ?_, (by rw [List.map_map]; exact hO.nd), (by rw [List.length_map]; omega), fun d hd => ⟨d, rfl, .inl ⟨_, .inl upd_same⟩, _, rfl, (by show 0 ≤ sizeLine; decide), fun p hp => ⟨_, DGet.k (k := Sum.inr kind) ((same_new hp _) _ _ upd_same), ?_⟩⟩⟩
  · obtain ⟨k, hk, rfl⟩ := List.mem_map.mp ht
    exact (hW.2 k hk).1
  · have g1 := same_new hd (.dK ((ks.map (fun k => (k.1, k.2.1, V.ref k.2.2.1))).map fun t => ((Sum.inr t.2.1 : Key), t.2.2)))
    have g2 := same_new hp (.lst [])
    have g12 := g1.trans g2
    have ev : valV ((ks.map (fun k => (k.1, k.2.1, V.ref k.2.2.1))).map fun t => ((Sum.inr t.2.1 : Key), t.2.2)) (Sum.inr kind) = (ks.find? fun k => decide (k.2.1 = kind)).map fun k => V.ref k.2.2.1 := by
      rw [List.map_map]
      exact val_map (fun k : KdT => k.2.1) (fun k => V.ref k.2.2.1) kind ks
    rw [ev]
    unfold rowsK at q
    cases e : ks.find? fun k => decide (k.2.1 = kind) with
    | none =>
      rw [e] at q
      exact q p _ g12 ⟨SqL.of upd_same, fun t ht => (nomatch ht)⟩
    | some k =>
      rw [e] at q
      exact q k.2.2.1 _ g12 ((hW.2 k (List.mem_of_find?_eq_some e)).2.same g12)
end
end K33
namespace ST
open PySem TM TT
mutual
theorem rs_ok {cs : List (Int × Int)} {S : Int → Stp} {k : Nat} (hS : ∀ m, SOk (S m)) (hk : ∀ m, sl (S m) ≤ k) (h1 : 1 ≤ k) : ∀ t : Tm, TDr cs t → SOk (rsT S t) ∧ sl (rsT S t) + 1 ≤ lv t + k
  | .node (.call m b) _ bs, _ => by simp only [rsT, lv]; exact ⟨hS m, by have := hk m; omega⟩
  | .node (.put n kp a) _ bs, h => by
    simp only [TDr] at h
    obtain ⟨i1, i2⟩ := rss_ok hS hk h1 bs h.2.2
    simp only [rsT, lv]
    cases kp with
    | true => simp only [if_true, SOk, sl]; exact ⟨trivial, by omega⟩
    | false =>
      simp only [Bool.false_eq_true, if_false, SOk, sl, rsTs_len]
      exact ⟨⟨h.1, by have := h.2.1; omega, i1⟩, by omega⟩
theorem rss_ok {cs : List (Int × Int)} {S : Int → Stp} {k : Nat} (hS : ∀ m, SOk (S m)) (hk : ∀ m, sl (S m) ≤ k) (h1 : 1 ≤ k) : ∀ bs : List Tm, TDrs cs bs → SOks (rsTs S bs) ∧ sls (rsTs S bs) + 1 ≤ lvs bs + k
  | [], _ => by simp only [rsTs, SOks, sls, lvs]; exact ⟨trivial, by omega⟩
  | b :: r, h => by
    simp only [TDrs] at h
    obtain ⟨i1, i2⟩ := rs_ok hS hk h1 b h.1
    obtain ⟨i3, i4⟩ := rss_ok hS hk h1 r h.2
    simp only [rsTs, SOks, sls, lvs]
    exact ⟨⟨i1, i3⟩, by omega⟩
end
def CallsIn (n : Nat) (t : Tm) : Prop := ∀ c ∈ cls t, 0 ≤ c.1 ∧ c.1.toNat < n
theorem CallsIn.bs {n : Nat} {nm : Str} {k : Bool} {a mk : Int} {bs : List Tm} (h : CallsIn n (.node (.put nm k a) mk bs)) : ∀ b ∈ bs, CallsIn n b := fun b hb c hc => by
  refine h c ?_
  simp only [cls, lcl, List.nil_append]
  clear h
  induction bs with
  | nil => cases hb
  | cons u r ih =>
    simp only [clss]
    rcases List.mem_cons.mp hb with e | hb
    · rw [← e]; exact List.mem_append_left _ hc
    · exact List.mem_append_right _ (ih hb)
def rlsOf (rows : List L2.PNx) (ts : List Tm) : List (Bool × Tm) := List.zipWith (fun r t => (r.2.2.2.isEmpty, t)) rows ts
end ST
namespace K33
open PySem L2 TM TT ST K9 K11
abbrev sRS : Stmt := top 18
abbrev sLS : Stmt := top 17
def spRS (K : PySem.W.Frag) (n : Nat) : Sp := fun vs H Q _ => ∃ (v : V) (ls : Addr) (us : List V) (S : List Stp) (t : Tm) (cs : List (Int × Int)), vs = [v, .ref ls] ∧ TmV K H v t ∧ TDr cs t ∧ lv t ≤ n ∧ SqL K H ls us ∧ SAll K H us S ∧ CallsIn S.length t ∧
  ∀ (v' : V) (H' : Hp), Same H H' → SV K H' v' (rsT (lookS S) t) → Q v' H'
def spLS (K : PySem.W.Frag) : Sp := fun vs H Q _ => ∃ (wd lr : Addr) (ks : List KdT) (kd : KdT) (us : List V) (ts : List Tm), vs = [.ref wd, .str kd.2.1, .ref lr] ∧ WoodAt K H wd ks ∧ WoodOk ks ∧ kd ∈ ks ∧ SqL K H lr us ∧ TmAll K H us ts ∧ ts.length = kd.2.2.2.length ∧ (∃ r ∈ kd.2.2.2, r.2.2.2 = []) ∧
  (∀ (j : Nat) (r : PNx) (t : Tm), kd.2.2.2[j]? = some r → ts[j]? = some t → (∃ cs, TDr cs t) ∧ lv t ≤ 3 ∧ (r.2.2.2 = [] → cls t = [])) ∧
  ∀ (v' : V) (H' : Hp), Same H H' → SV K H' v' (leafS (rlsOf kd.2.2.2 ts)) → Q v' H'
section
variable {P : Program} {w : World} {K : PySem.W.Frag} {mg : Str → Option Value} {base : Heap} {f : Addr} {fd : FuncData}
theorem scRS : FnScope ["rule", "stumps"] ["rule", "stumps"] (defScope sRS) := ⟨rfl, rfl, rfl, by decide +kernel, rfl, by decide +kernel, by decide +kernel⟩
theorem ok_rs {n : Nat} {oa : Addr} (F : Fun K "rule_stump" "rule_stump" sRS f fd) (G : Gm mg) (hO : mg "OPEN" = some (.ref oa)) (hOA : ∀ H : Hp, SqT K H oa [.str OPEN]) (RC : Fn P w K mg base 1 "is_call" ["term"] (spIsC K)) (R : Fn P w K mg base (n + 1) "rule_stump" ["rule", "stumps"] (spRS K n)) : FnOk P w K mg base CX0 (n + 2) f fd ["rule", "stumps"] (spRS K (n + 1)) := by
  refine F.ok scRS (fun vs H Q E h => ?_) (fun cdv A outer s H vs Q E hr h => ?_)
  · obtain ⟨v, ls, us, S, t, cs, rfl, _⟩ := h
    rfl
  obtain ⟨v, ls, us, S, t, cs, rfl, ht, htd, hlv, hls, hus, hcal, q⟩ := h
  refine ⟨_, (pss_cons (ps_if (pt_val (pe_fn RC hr (pa_cons (pv 0) pa_nil) (Nat.le_add_left 1 n))) (pss_one (ps_ret (pe_ix ix_list (pv 1) (pe_ix ix_tup (pv 0) pe_int (fun _ _ => rfl)) (fun _ _ => rfl)))) pss_nil)
    (pss_cons (ps_if (pt_val (pe_ix ix_tup (pv 0) pe_int (fun _ _ => rfl))) (pss_one (ps_ret (pe_glob (v := .ref oa) rfl hO rfl))) pss_nil)
    (pss_one (ps_ret (pe_tup (pa_cons (pe_str) (pa_cons (pe_ix ix_tup (pv 0) pe_int (fun _ _ => rfl)) (pa_cons (pe_ix ix_tup (pv 0) pe_int (fun _ _ => rfl)) (pa_cons (pe_callTy call_tuple_of rfl G.tup PyProof.Rows.boot_tuple (pa_cons (pe_lcompG (CompG.many (xs := ["part"]) (caps := ["stumps"]) (cap := [1]) (cs := [_]) rfl rfl (by decide +kernel) (by decide +kernel) (by decide +kernel) (by decide +kernel) (by decide +kernel) (by decide +kernel) rfl rfl rfl) rfl (pi_tup (pe_ix ix_tup (pv 0) pe_int (fun _ _ => rfl))) (pg_c1 (CompG.many (xs := ["part"]) (caps := ["stumps"]) (cap := [1]) (cs := [_]) rfl rfl (by decide +kernel) (by decide +kernel) (by decide +kernel) (by decide +kernel) (by decide +kernel) (by decide +kernel) rfl rfl rfl)) (fun _ _ _ _ => pf_nil) (fun _ _ _ _ => pe_fn R hr (pa_cons (pv 0) (pa_cons (pv 1) pa_nil)) (Nat.le_refl _))) pa_nil)) pa_nil))))))))), ?_⟩
  refine ⟨_, rfl, v, t, rfl, ht, _, rfl, ?_⟩
  rcases tm_op ht with ⟨a, m, b, rfl, rfl, h1⟩ | ⟨a, b, bs, nm, k, ad, ts, rfl, rfl, h1, h2, h3, h4⟩
  · obtain ⟨hm0, hml⟩ : 0 ≤ m ∧ m.toNat < S.length := hcal (m, b) (by simp [cls, lcl])
    obtain ⟨sv, hsv, hst⟩ := hus.get (List.getElem?_eq_getElem hml)
    refine iteT ⟨_, rfl, _, rfl, a, _, 1, _, rfl, rfl, h1, rfl, ls, us, m, sv, rfl, rfl, hls, atI_int hm0 hsv, q sv H (Same.refl _) ?_⟩
    simp only [rsT, lookS]
    rw [List.getElem?_eq_getElem hml]
    exact hst
  refine iteF ⟨_, rfl, a, _, 2, _, rfl, rfl, h1, rfl, _, rfl, ?_⟩
  simp only [rsT] at q
  cases k with
  | true =>
    simp only [if_true] at q
    exact iteT (q (.ref oa) H (Same.refl _) (.op (hOA H)))
  | false =>
    simp only [Bool.false_eq_true, if_false] at q
    refine iteF ?_
    have l3 := h3.length
    simp only [TDr] at htd
    simp only [lv] at hlv
    refine ⟨_, rfl, a, _, 1, _, rfl, rfl, h1, rfl, _, rfl, a, _, 3, _, rfl, rfl, h1, rfl, _, rfl, a, _, 4, _, rfl, rfl, h1, rfl, b, rfl, ⟨_, h2⟩, fun acc hacc => ?_⟩
    refine c1_tup (K := K) (xs := bs) (cs := [some (.ref ls)]) (tt := fun _ H Q => Q true H) (te := tCall (spRS K n) [] E0 (tCons (tVar 0) (tCons (tVar 1) tNil))) (fun i ys H' => H' acc = some (.lst ys) ∧ Same H H' ∧ ys.length = i ∧ SAll K H' ys ((ts.take i).map (rsT (lookS S))))
      ⟨upd_same, same_new hacc _, rfl, .nil⟩ ?_ ?_ ?_
    · rintro i ys H' _ ⟨_, g, _⟩
      exact g.seqT h2
    · rintro i x ys H' hi hx ⟨hya, g, hyl, hys⟩
      have hit : i < ts.length := by omega
      obtain ⟨cv, hcv, hct⟩ := h3.get (List.getElem?_eq_getElem hit)
      obtain rfl : cv = x := Option.some.inj (hcv.symm.trans hx)
      have hm := List.getElem_mem hit
      have a1 := lv_le hm
      refine iteT ⟨_, rfl, _, rfl, cv, ls, us, S, ts[i], cs, rfl, hct.mono fun _ _ => g.seqT, (TDrs_iff _ ts).mp htd.2.2 _ hm, by omega, g.seq hls, hus.mono fun _ _ => g.seqT, hcal.bs _ hm, fun v4 H4 g4 hv4 => ?_⟩
      have hya4 := g4 _ _ hya
      refine comp_next (ys := ys) hi hya4 (by omega) ⟨upd_same, fun b u e => ?_, by simp [hyl], ?_⟩
      · rw [upd_ne (ne_of_none e hacc)]; exact g4 _ _ (g _ _ e)
      · rw [List.take_add_one, List.getElem?_eq_getElem hit, List.map_append]
        exact SAll.append (hys.mono fun _ _ h => (g4.seqT h).put hya4) (.cons (hv4.mono fun _ _ h => h.put hya4) .nil)
    rintro ys H3 ⟨hya, g3, hyl, hys⟩
    rw [List.take_of_length_le (by omega)] at hys
    refine ⟨acc, ys, rfl, .inl ⟨SqL.of hya, fun t ht => ⟨(by show 4 ≤ sizeLine; decide), fun p3 hp3 => ?_⟩⟩⟩
    have gA := same_new ht (.tup ys)
    have gB := same_new hp3 (.tup [.str PUTT, .str nm, .int ad, .ref t])
    refine q (.ref p3) _ (g3.trans (gA.trans gB)) ?_
    rw [rsTs_map]
    exact .put (SqT.of upd_same) (gB.seqT (SqT.of upd_same)) (hys.mono fun _ _ => (gA.trans gB).seqT)
theorem none_rs {k : Nat} : FnOk P w K mg base CX0 k f fd ["rule", "stumps"] (spRS K 0) := by
  have no : ∀ vs H Q E, ¬ spRS K 0 vs H Q E := fun vs H Q E h => by
    obtain ⟨v, ls, us, S, t, cs, _, _, _, h0, _⟩ := h
    rw [lv_bs] at h0; omega
  exact ⟨fun vs H Q E h => absurd h (no vs H Q E), fun A outer s H args us vs Q E _ _ _ _ h => absurd h (no vs H Q E)⟩
theorem all_rs {oa : Addr} (F : Fun K "rule_stump" "rule_stump" sRS f fd) (G : Gm mg) (hO : mg "OPEN" = some (.ref oa)) (hOA : ∀ H : Hp, SqT K H oa [.str OPEN]) (RC : Fn P w K mg base 1 "is_call" ["term"] (spIsC K)) (hb : Binds K fd ["rule", "stumps"] []) (hm : mg "rule_stump" = some (.ref f)) : ∀ n : Nat, FnOk P w K mg base CX0 (n + 1) f fd ["rule", "stumps"] (spRS K n)
  | 0 => none_rs
  | n + 1 => ok_rs F G hO hOA RC ⟨f, fd, all_rs F G hO hOA RC hb hm n, hb, F.kp, hm⟩
end
end K33
namespace K33
open PySem L2 TM TT ST K9 K11
abbrev sAR : Stmt := top 15
theorem rowsK_at {ks : List KdT} {kd : KdT} (hn : (ks.map fun k => k.2.1).Nodup) (hk : kd ∈ ks) : rowsK ks kd.2.1 = kd.2.2.2 := by
  unfold rowsK
  rw [find_kind hn hk]
  rfl
abbrev rLenS (K : PySem.W.Frag) : List V → Hp → VK → Prop := fun xs H Q => ∃ p ys, xs = [.ref p] ∧ (SqL K H p ys ∨ SqT K H p ys) ∧ Q (.int (ys.length : Int)) H
theorem metA_again (l : List Stp) (x : Stp) (r : List Stp) (h : l = x :: r) : l.foldl met x = metA l := by
  subst h
  show (x :: r).foldl met x = r.foldl met x
  rw [List.foldl_cons, met_self]
section
variable {P : Program} {w : World} {K : PySem.W.Frag} {mg : Str → Option Value} {base : Heap} {f : Addr} {fd : FuncData}
theorem scLS : FnScope ["wood", "kind", "rules", "leaves", "stump", "other"] ["wood", "kind", "rules"] (defScope sLS) := ⟨rfl, rfl, rfl, by decide +kernel, rfl, by decide +kernel, by decide +kernel⟩
theorem ok_ls (F : Fun K "leaf_stump" "leaf_stump" sLS f fd) (G : Gm mg) (RO : Fn P w K mg base 1 "rows_of" ["wood", "kind"] (spRowsOf K)) (RS : Fn P w K mg base 4 "rule_stump" ["rule", "stumps"] (spRS K 3)) (RM : Fn P w K mg base 6 "met" ["one", "other"] (spMet K 5)) : FnOk P w K mg base CX0 7 f fd ["wood", "kind", "rules"] (spLS K) := by
  refine F.ok scLS (fun vs H Q E h => ?_) (fun cdv A outer s H vs Q E hr h => ?_)
  · obtain ⟨wd, lr, ks, kd, us, ts, rfl, _⟩ := h
    rfl
  obtain ⟨wd, lr, ks, kd, us, ts, rfl, hw, hwo, hkd, hlr, hus, htl, hbare, hfit, q⟩ := h
  refine ⟨_, (pss_cons (ps_setG (i := 3) (CompG.many (xs := ["row", "rule"]) (caps := []) (cap := []) (cs := []) rfl rfl (by decide +kernel) (by decide +kernel) (by decide +kernel) (by decide +kernel) (by decide +kernel) (by decide +kernel) rfl rfl rfl) rfl (pi_zip rfl G.zip (pa_cons (pe_fn RO hr (pa_cons (pv 0) (pa_cons (pv 1) pa_nil))) (pa_cons (pv 2) pa_nil))) (pg_c2 (CompG.many (xs := ["row", "rule"]) (caps := []) (cap := []) (cs := []) rfl rfl (by decide +kernel) (by decide +kernel) (by decide +kernel) (by decide +kernel) (by decide +kernel) (by decide +kernel) rfl rfl rfl) rfl) (fun _ _ _ _ => pf_one (pt_cmpR op_eq (pe_callB (r := rLenS K) call_len_seq rfl G.len PySem.boot_len (pa_cons (pe_ix (r := rIxT K) ix_tup (pv 0) pe_int (fun _ _ => rfl)) pa_nil)) pe_int (nomark _))) (fun _ _ _ _ => pe_fn RS hr (pa_cons (pv 1) (pa_cons (pe_lst pa_nil) pa_nil))) scLS.nd rfl rfl)
    (pss_cons (ps_set (i := 4) scLS.nd rfl (Or.inl rfl) (pe_ix ix_list (pv 3) pe_int (fun _ _ => rfl)))
    (pss_cons (ps_for PassesOwn.never rfl (pi_list (pv 3)) (pg_name (i := 5) scLS.nd rfl (Or.inl rfl)) (pss_one (ps_set (i := 4) scLS.nd rfl (Or.inl rfl) (pe_fn RM hr (pa_cons (pv 4) (pa_cons (pv 5) pa_nil))))))
    (pss_one (ps_ret (pv 4)))))), ?_⟩
  have hlu := hus.length
  have hlen3 : kd.2.2.2.length ≤ 10 := (hwo.rows kd hkd).len
  refine ⟨_, rfl, _, rfl, wd, kd.2.1, ks, rfl, hw, hwo, fun lrow H1 g1 hrow => ⟨_, rfl, lrow, lr, _, us, rfl, hrow.1, g1.seq hlr, fun acc hacc => ?_⟩⟩
  rw [rowsK_at hwo.nd hkd] at hrow ⊢
  have hz : (kd.2.2.2.map fun t => V.ref t.1).length = us.length := by rw [List.length_map]; omega
  refine c2_zip (K := K) (xs := kd.2.2.2.map fun t => V.ref t.1) (zs := us) (cs := []) (te := tCall (spRS K 3) [] E0 (tCons (tVar 1) (tCons (tLst tNil) tNil))) hz (fun i ys H' => H' acc = some (.lst ys) ∧ Same H1 H' ∧ ys.length ≤ i ∧ SAll K H' ys ((((rlsOf kd.2.2.2 ts).take i).filter fun r => r.1).map fun r => rsT (fun _ => .op) r.2))
    ⟨upd_same, same_new hacc _, Nat.le_refl _, .nil⟩ ?_ ?_ ?_
  · rintro i ys H' _ ⟨_, g, _⟩
    exact ⟨g.seq hrow.1, g.seq (g1.seq hlr)⟩
  · rintro i u v p ys H' hi hu hv hp ⟨hya, g, hyl, hys⟩
    have hir : i < kd.2.2.2.length := by simpa using hi
    have hit : i < ts.length := by omega
    obtain rfl : u = .ref kd.2.2.2[i].1 := by
      rw [List.getElem?_map, List.getElem?_eq_getElem hir] at hu
      exact (Option.some.inj hu).symm
    obtain ⟨cv, hcv, hct⟩ := hus.get (List.getElem?_eq_getElem hit)
    obtain rfl : cv = v := Option.some.inj (hcv.symm.trans hv)
    have gp := same_new hp (.tup [.ref kd.2.2.2[i].1, cv])
    have ggp := g.trans gp
    have hra := (hrow.2 _ (List.getElem_mem hir))
    have ezi : (rlsOf kd.2.2.2 ts)[i]? = some (kd.2.2.2[i].2.2.2.isEmpty, ts[i]) := by
      unfold rlsOf
      rw [List.getElem?_zipWith, List.getElem?_eq_getElem hir, List.getElem?_eq_getElem hit]
    obtain ⟨⟨cs, htd⟩, hlv, hnc⟩ := hfit i _ _ (List.getElem?_eq_getElem hir) (List.getElem?_eq_getElem hit)
    refine ⟨_, rfl, _, _, 1, _, rfl, rfl, ggp.seqT hra.1, rfl, _, _, rfl, .inr (ggp.seqT hra.2), rfl, _, rfl, ?_⟩
    rw [List.length_map, List.length_map]
    have hya2 := gp _ _ hya
    by_cases hc : kd.2.2.2[i].2.2.2 = []
    · have e : decide (V.int ((kd.2.2.2[i].2.2.2.length : Nat) : Int) = V.int 0) = true := decide_eq_true (by rw [hc]; rfl)
      rw [e]
      refine iteT ⟨_, rfl, (by show 0 ≤ sizeLine; decide), fun l0 hl0 => ?_⟩
      have gl := same_new hl0 (.lst [])
      have hcl := hnc hc
      refine ⟨cv, l0, [], [], ts[i], cs, rfl, hct.mono fun _ _ => (g1.trans (ggp.trans gl)).seqT, htd, hlv, SqL.of upd_same, .nil, fun c hc => ?_, fun v4 H4 g4 hv4 => ?_⟩
      · rw [hcl] at hc; cases hc
      have hya4 := g4 _ _ (gl _ _ hya2)
      refine comp_next (ys := ys) hir hya4 (by omega) ⟨upd_same, fun b u e => ?_, by rw [List.length_append, List.length_singleton]; omega, ?_⟩
      · rw [upd_ne (ne_of_none e hacc)]; exact g4 _ _ (gl _ _ (ggp _ _ e))
      · rw [List.take_add_one, ezi, List.filter_append, List.map_append]
        have e2 : kd.2.2.2[i].2.2.2.isEmpty = true := by rw [hc]; rfl
        have e3 : rsT (lookS []) ts[i] = rsT (fun _ => .op) ts[i] := rs_agree _ fun c hc => by rw [hcl] at hc; cases hc
        rw [e3] at hv4
        simp only [Option.toList_some, List.filter_cons, e2, if_true, List.filter_nil, List.map_cons, List.map_nil]
        exact SAll.append (hys.mono fun _ _ h => (g4.seqT (gl.seqT (gp.seqT h))).put hya4) (.cons (hv4.mono fun _ _ h => h.put hya4) .nil)
    · have hpos : kd.2.2.2[i].2.2.2.length ≠ 0 := fun z => hc (List.length_eq_zero_iff.mp z)
      have e : decide (V.int ((kd.2.2.2[i].2.2.2.length : Nat) : Int) = V.int 0) = false := decide_eq_false fun z => by have := V.int.inj z; omega
      rw [e]
      refine iteF (comp_skip hir (ys := ys) ⟨hya2, ggp, by omega, ?_⟩)
      rw [List.take_add_one, ezi, List.filter_append, List.map_append]
      have e2 : kd.2.2.2[i].2.2.2.isEmpty = false := by
        cases hh : kd.2.2.2[i].2.2.2 with
        | nil => exact absurd hh hc
        | cons _ _ => rfl
      simp only [Option.toList_some, List.filter_cons, e2, Bool.false_eq_true, if_false, List.filter_nil, List.map_nil, List.append_nil]
      exact hys.mono fun _ _ => gp.seqT
  rintro ys H2 ⟨hya, g2, hyl, hys⟩
  have ezl : (rlsOf kd.2.2.2 ts).length = kd.2.2.2.length := by unfold rlsOf; rw [List.length_zipWith]; omega
  rw [List.length_map, ← ezl, List.take_length] at hys
  have hleaf : leafS (rlsOf kd.2.2.2 ts) = metA (((rlsOf kd.2.2.2 ts).filter fun r => r.1).map fun r => rsT (fun _ => .op) r.2) := rfl
  rw [hleaf] at q
  generalize hL : (((rlsOf kd.2.2.2 ts).filter fun r => r.1).map fun r => rsT (fun _ => .op) r.2) = L at hys q
  have hLok : ∀ y ∈ L, SOk y ∧ sl y ≤ 3 := fun y hy => by
    rw [← hL] at hy
    obtain ⟨r, hr', rfl⟩ := List.mem_map.mp hy
    obtain ⟨hr1, _⟩ := List.mem_filter.mp hr'
    obtain ⟨j, hj, ej⟩ := List.getElem_of_mem hr1
    have hjl : j < kd.2.2.2.length := by omega
    have hjt : j < ts.length := by omega
    obtain ⟨⟨cs, htd⟩, hlv, _⟩ := hfit j _ _ (List.getElem?_eq_getElem hjl) (List.getElem?_eq_getElem hjt)
    have e : r.2 = ts[j] := by
      have := List.getElem?_eq_getElem hj
      unfold rlsOf at this
      rw [List.getElem?_zipWith, List.getElem?_eq_getElem hjl, List.getElem?_eq_getElem hjt] at this
      have h2 := Option.some.inj this
      unfold rlsOf at ej
      rw [← ej, ← h2]
    rw [e]
    obtain ⟨a1, a2⟩ := rs_ok (S := fun _ => Stp.op) (k := 1) (fun _ => by simp only [SOk]) (fun _ => by simp only [sl]; omega) (Nat.le_refl _) ts[j] htd
    exact ⟨a1, by omega⟩
  obtain ⟨x0, r0, hx⟩ : ∃ x r, L = x :: r := by
    cases hLe : L with
    | cons x r => exact ⟨x, r, rfl⟩
    | nil =>
      obtain ⟨r, hr', er⟩ := hbare
      obtain ⟨j, hj, ej⟩ := List.getElem_of_mem hr'
      have hjt : j < ts.length := by omega
      have hm : (kd.2.2.2[j].2.2.2.isEmpty, ts[j]) ∈ rlsOf kd.2.2.2 ts := by
        refine List.mem_of_getElem? (i := j) ?_
        unfold rlsOf
        rw [List.getElem?_zipWith, List.getElem?_eq_getElem hj, List.getElem?_eq_getElem hjt]
      have hm2 : rsT (fun _ => .op) ts[j] ∈ L := by
        rw [← hL]
        exact List.mem_map.mpr ⟨_, List.mem_filter.mpr ⟨hm, by show kd.2.2.2[j].2.2.2.isEmpty = true; rw [ej, er]; rfl⟩, rfl⟩
      rw [hLe] at hm2; cases hm2
  have hyL := hys.length
  obtain ⟨v0, hv0, hs0⟩ := hys.get (i := 0) (t := x0) (by rw [hx]; rfl)
  refine ⟨_, rfl, acc, ys, 0, v0, rfl, rfl, SqL.of hya, atI_nat (j := 0) hv0, ?_⟩
  refine ⟨_, rfl, acc, rfl, ⟨_, SqL.of hya⟩, ?_⟩
  have hx0 := hLok x0 (by rw [hx]; exact List.mem_cons_self)
  refine for_list (K := K) (xs := ys) (fun i σ H' => ∃ (sv : V) (c5 : Option V), σ = [some (.ref wd), some (.str kd.2.1), some (.ref lr), some (.ref acc), some sv, c5] ∧ Same H2 H' ∧ SV K H' sv ((L.take i).foldl met x0) ∧ SOk ((L.take i).foldl met x0) ∧ sl ((L.take i).foldl met x0) ≤ 3)
    ⟨v0, none, rfl, Same.refl _, hs0, hx0.1, hx0.2⟩ ?_ ?_ ?_
  · rintro i σ H' _ ⟨sv, c5, _, g, _⟩
    exact SqL.of (g _ _ hya)
  · rintro i x σ H' hxi ⟨sv, c5, rfl, g, hsv, hso, hsl⟩
    have hiL : i < L.length := by
      have := (List.getElem?_eq_some_iff.mp hxi).1
      omega
    obtain ⟨cv, hcv, hct⟩ := hys.get (List.getElem?_eq_getElem hiL)
    obtain rfl : cv = x := Option.some.inj (hcv.symm.trans hxi)
    have hoi := hLok _ (List.getElem_mem hiL)
    refine ⟨_, rfl, _, rfl, sv, cv, _, L[i], rfl, hsv, hct.mono fun _ _ => g.seqT, hso, hoi.1, by omega, fun v' H3 g3 hv' => ?_⟩
    obtain ⟨o1, o2⟩ := met_ok _ L[i] hso
    refine ⟨v', _, rfl, g.trans g3, ?_⟩
    rw [List.take_add_one, List.getElem?_eq_getElem hiL, List.foldl_append]
    exact ⟨hv', o1, by show sl (met _ _) ≤ 3; omega⟩
  · rintro σ H' ⟨sv, c5, rfl, g, hsv, hso, hsl⟩
    rw [List.take_of_length_le (by omega), metA_again L x0 r0 hx] at hsv
    exact ⟨_, rfl, q sv H' (g1.trans (g2.trans g)) hsv⟩
end
end K33
namespace ST
open PySem TM TT L2 K11
def nRl (ms : List MdT) (m : Nat) : Nat := ((ms[m]?).map fun x => x.2.2.2.2.length).getD 0
def ixOf (ms : List MdT) (m : Nat) : List (Int × Int) := (List.range (nRl ms m)).map fun (j : Nat) => ((m : Int), (j : Int))
def ixUp (ms : List MdT) (i : Nat) : List (Int × Int) := (List.range i).flatMap (ixOf ms)
theorem ixUp_succ (ms : List MdT) (i : Nat) : ixUp ms (i + 1) = ixUp ms i ++ ixOf ms i := by
  unfold ixUp
  rw [List.range_succ, List.flatMap_append]
  simp
theorem ixUp_len {ms : List MdT} {b : Nat} (h : ∀ m ∈ ms, m.2.2.2.2.length ≤ b) : ∀ i, (ixUp ms i).length ≤ i * b
  | 0 => by simp [ixUp]
  | i + 1 => by
    rw [ixUp_succ, List.length_append]
    have h1 := ixUp_len h i
    have h2 : (ixOf ms i).length ≤ b := by
      unfold ixOf nRl
      rw [List.length_map, List.length_range]
      cases e : ms[i]? with
      | none => simp
      | some m => exact h m (List.mem_of_getElem? e)
    rw [Nat.succ_mul]; omega
theorem ixUp_mem {ms : List MdT} {n : Nat} {c : Int × Int} : c ∈ ixUp ms n ↔ ∃ m j : Nat, c = ((m : Int), (j : Int)) ∧ m < n ∧ j < nRl ms m := by
  unfold ixUp ixOf
  constructor
  · intro h
    obtain ⟨m, hm, h⟩ := List.mem_flatMap.mp h
    obtain ⟨j, hj, rfl⟩ := List.mem_map.mp h
    exact ⟨m, j, rfl, List.mem_range.mp hm, List.mem_range.mp hj⟩
  · rintro ⟨m, j, rfl, hm, hj⟩
    exact List.mem_flatMap.mpr ⟨m, List.mem_range.mpr hm, List.mem_map.mpr ⟨j, List.mem_range.mpr hj, rfl⟩⟩
end ST
namespace K33
open PySem L2 TM TT ST K9 K11
def spAR (K : PySem.W.Frag) : Sp := fun vs H Q _ => ∃ (lm : Addr) (ms : List MdT), vs = [.ref lm] ∧ ModesL K H lm ms ∧ ms.length ≤ 4 ∧ (∀ m ∈ ms, m.2.2.2.2.length ≤ 10) ∧
  ∀ (l : Addr) (H' : Hp) (ts : List (Addr × List Int)), Same H H' → H l = none → H' l = some (.lst (Rf ts)) → TsAt K H' ts → ts.map (·.2) = (ixUp ms ms.length).map pr → Q (.ref l) H'
section
variable {P : Program} {w : World} {K : PySem.W.Frag} {mg : Str → Option Value} {base : Heap} {f : Addr} {fd : FuncData}
theorem scAR : FnScope ["modes", "told", "mode"] ["modes"] (defScope sAR) := ⟨rfl, rfl, rfl, by decide +kernel, rfl, by decide +kernel, by decide +kernel⟩
theorem ok_ar (F : Fun K "all_rules" "all_rules" sAR f fd) (G : Gm mg) : FnOk P w K mg base CX0 1 f fd ["modes"] (spAR K) := by
  refine F.ok scAR (fun vs H Q E h => ?_) (fun cdv A outer s H vs Q E hr h => ?_)
  · obtain ⟨lm, ms, rfl, _⟩ := h
    rfl
  obtain ⟨lm, ms, rfl, hms, h4, h10, q⟩ := h
  refine ⟨_, (pss_cons (ps_set (i := 1) scAR.nd rfl (Or.inl rfl) (pe_lst pa_nil))
    (pss_cons (ps_for PassesOwn.never rfl (pi_range1 rfl G.rng (pa_cons (pe_callB call_len_seq rfl G.len PySem.boot_len (pa_cons (pv 0) pa_nil)) pa_nil)) (pg_name (i := 2) scAR.nd rfl (Or.inr rfl)) (pss_one
      (ps_expr (pe_bm PySem.F.plainAttrs_list PySem.F.slot_list_extend PySem.F.type_list_extend mt_extend (pv 1) (pa_cons (pe_lcompG (CompG.many (xs := ["number"]) (caps := ["mode"]) (cap := [2]) (cs := [_]) rfl rfl (by decide +kernel) (by decide +kernel) (by decide +kernel) (by decide +kernel) (by decide +kernel) (by decide +kernel) rfl rfl rfl) rfl (pi_range1 rfl G.rng (pa_cons (pe_callB call_len_seq rfl G.len PySem.boot_len (pa_cons (pe_ix ix_tup (pe_ix ix_list (pv 0) (pv 2) (fun _ _ => rfl)) pe_int (fun _ _ => rfl)) pa_nil)) pa_nil)) (pg_c1 (CompG.many (xs := ["number"]) (caps := ["mode"]) (cap := [2]) (cs := [_]) rfl rfl (by decide +kernel) (by decide +kernel) (by decide +kernel) (by decide +kernel) (by decide +kernel) (by decide +kernel) rfl rfl rfl)) (fun _ _ _ _ => pf_nil) (fun _ _ _ _ => (pe_tup (pa_cons (pv 1) (pa_cons (pv 0) pa_nil))))) pa_nil)))))
    (pss_one (ps_ret (pv 1))))), ?_⟩
  refine ⟨(by show 0 ≤ sizeLine; decide), fun l hl => ?_⟩
  have g0 := same_new hl (.lst [])
  have eml : (ms.map fun m => V.ref m.1).length = ms.length := List.length_map ..
  refine ⟨_, rfl, lm, _, rfl, .inl (g0.seq hms.1), _, rfl, (by rw [eml]; show -(2 ^ 62 : Int) ≤ ((ms.length : Nat) : Int); omega), (by rw [eml]; show ((ms.length : Nat) : Int) < 2 ^ 62; omega), ?_⟩
  refine for_range (lo := 0) (n := (((ms.map fun m => V.ref m.1).length : Nat) : Int).toNat) (fun i σ H' => ∃ (ts : List (Addr × List Int)) (c2 : Option V), σ = [some (.ref lm), some (.ref l), c2] ∧ Same H H' ∧ H' l = some (.lst (Rf ts)) ∧ TsAt K H' ts ∧ ts.map (·.2) = (ixUp ms i).map pr)
    ⟨[], none, rfl, g0, upd_same, fun x hx => (nomatch hx), rfl⟩ ?_ ?_
  · rintro i σ H' hi ⟨ts, c2, rfl, g, hl', hts, hix⟩
    rw [eml] at hi
    have him : i < ms.length := by omega
    have e0 : (0 : Int) + (i : Int) = (i : Int) := by omega
    rw [e0]
    have hmd := hms.2 _ (List.getElem_mem him)
    have hlr := h10 _ (List.getElem_mem him)
    have hln := hmd.2.2.length
    have hn : nRl ms i = ms[i].2.2.2.2.length := by unfold nRl; rw [List.getElem?_eq_getElem him]; rfl
    have evl : (((ms[i].2.2.2.1.length : Nat) : Int)).toNat = nRl ms i := by rw [hn]; omega
    refine ⟨_, rfl, .inl ⟨rfl, _, SqL.of hl'⟩, _, rfl, _, rfl, lm, _, (i : Int), .ref ms[i].1, rfl, rfl, g.seq hms.1, atI_nat (by rw [List.getElem?_map, List.getElem?_eq_getElem him]; rfl), ms[i].1, _, 1, _, rfl, rfl, g.seqT hmd.1, rfl, ms[i].2.2.1, _, rfl, .inl (g.seq hmd.2.1), _, rfl, (by show -(2 ^ 62 : Int) ≤ ((ms[i].2.2.2.1.length : Nat) : Int); omega), (by show ((ms[i].2.2.2.1.length : Nat) : Int) < 2 ^ 62; omega), fun acc hacc => ?_⟩
    rw [evl]
    refine c1_range (lo := 0) (n := nRl ms i) (cs := [some (.int (i : Int))]) (tt := fun _ H Q => Q true H) (te := tTup (tCons (tVar 1) (tCons (tVar 0) tNil))) (fun j ys H2 => ∃ us : List (Addr × List Int), ys = Rf us ∧ H2 acc = some (.lst ys) ∧ Same H' H2 ∧ TsAt K H2 us ∧ us.map (·.2) = ((List.range j).map fun (k : Nat) => [(i : Int), (k : Int)]))
      ⟨[], rfl, upd_same, same_new hacc _, fun x hx => (nomatch hx), rfl⟩ ?_ ?_
    · rintro j ys H2 hj ⟨us, rfl, hya, g2, hus, hjx⟩
      have e1 : (0 : Int) + (j : Int) = (j : Int) := by omega
      rw [e1]
      have hul : us.length = j := by have := congrArg List.length hjx; simpa using this
      refine iteT ⟨_, rfl, _, rfl, (by show 2 ≤ sizeLine; decide), fun p hp => ?_⟩
      have gp := same_new hp (.tup [.int (i : Int), .int (j : Int)])
      have hya2 := gp _ _ hya
      refine comp_next (ys := Rf us) hj hya2 (by rw [List.length_map]; omega) ⟨us ++ [(p, [(i : Int), (j : Int)])], by simp, by rw [upd_same], fun b u e => ?_, ?_, ?_⟩
      · rw [upd_ne (ne_of_none e hacc)]; exact gp _ _ (g2 _ _ e)
      · refine (hus.mono fun _ _ h => (gp.seqT h).put hya2).app fun x hx => ?_
        have : x = (p, [(i : Int), (j : Int)]) := by simpa using hx
        rw [this]
        exact (SqT.of upd_same).put hya2
      · rw [List.map_append, hjx, List.range_succ, List.map_append]
        rfl
    rintro ys H2 ⟨us, rfl, hya, g2, hus, hjx⟩
    have hl2 := g2 _ _ hl'
    have htl : ts.length ≤ 40 := by
      have e := congrArg List.length hix
      rw [List.length_map, List.length_map] at e
      have := ixUp_len h10 i
      omega
    have hul : us.length ≤ 10 := by
      have e := congrArg List.length hjx
      simp only [List.length_map, List.length_range] at e
      omega
    refine ⟨l, acc, _, _, rfl, rfl, hl2, hya, ?_, ?_⟩
    · rw [List.length_map, List.length_map]; exact line_of (by omega)
    refine ⟨ts ++ us, _, rfl, fun x u e => ?_, by rw [upd_same]; simp, ?_, ?_⟩
    · rw [upd_ne (ne_of_none e hl)]; exact g2 _ _ (g _ _ e)
    · exact (hts.mono fun _ _ h => (g2.seqT h).put hl2).app (hus.mono fun _ _ h => h.put hl2)
    · rw [List.map_append, hix, hjx, ixUp_succ, List.map_append]
      unfold ixOf
      rw [List.map_map]
      rfl
  · rintro σ H' ⟨ts, c2, rfl, g, hl', hts, hix⟩
    rw [eml] at hix
    exact ⟨_, rfl, q l H' ts g hl hl' hts hix⟩
end
end K33
namespace L2
open PySem
section
variable {κ : Type} [DecidableEq κ]
theorem put_at {kvs : List (κ × V)} {k : κ} {v : V} : (k, v) ∈ putK kvs k v := by
  unfold putK
  split
  · rename_i h
    obtain ⟨q, hq, e⟩ := List.any_eq_true.mp h
    refine List.mem_map.mpr ⟨q, hq, ?_⟩
    have e := of_decide_eq_true e
    simp [e]
  · exact List.mem_append_right _ List.mem_cons_self
theorem put_mem {kvs : List (κ × V)} {k : κ} {v : V} {q : κ × V} (h : q ∈ putK kvs k v) : q ∈ kvs ∨ q = (k, v) := by
  unfold putK at h
  split at h
  · obtain ⟨r, hr, e⟩ := List.mem_map.mp h
    split at e
    · rename_i hh
      right; rw [← e, hh]
    · left; rw [← e]; exact hr
  · rcases List.mem_append.mp h with h | h
    · exact .inl h
    · exact .inr (by simpa using h)
theorem put_keys {kvs : List (κ × V)} {k : κ} {v : V} {j : κ} (h : j ∈ kvs.map (·.1)) : j ∈ (putK kvs k v).map (·.1) := by
  obtain ⟨q, hq, rfl⟩ := List.mem_map.mp h
  unfold putK
  split
  · refine List.mem_map.mpr ⟨_, List.mem_map.mpr ⟨q, hq, rfl⟩, ?_⟩
    split <;> simp_all
  · exact List.mem_map.mpr ⟨q, List.mem_append_left _ hq, rfl⟩
theorem put_nodup {kvs : List (κ × V)} {k : κ} {v : V} (h : (kvs.map (·.1)).Nodup) : ((putK kvs k v).map (·.1)).Nodup := by
  unfold putK
  split
  · rw [List.map_map]
    have e : (kvs.map ((fun p : κ × V => p.1) ∘ fun q => if q.1 = k then (q.1, v) else q)) = kvs.map (·.1) := by
      refine List.map_congr_left fun q _ => ?_
      show (if q.1 = k then (q.1, v) else q).1 = q.1
      split <;> rfl
    first | exact e ▸ h | (refine cast ?_ h; congr 1; refine List.map_congr_left fun q _ => ?_; simp only [Function.comp]; split <;> simp_all)
  · rename_i hn
    rw [List.map_append, List.nodup_append]
    refine ⟨h, by simp, fun a ha b hb => ?_⟩
    have hb' : b = k := by simpa using hb
    subst hb'
    intro e
    subst e
    obtain ⟨q, hq, e2⟩ := List.mem_map.mp ha
    exact hn (List.any_eq_true.mpr ⟨q, hq, by simp [e2]⟩)
end
theorem pigeon {α : Type} [DecidableEq α] : ∀ {l r : List α}, l.Nodup → (∀ x ∈ l, x ∈ r) → l.length ≤ r.length
  | [], _, _, _ => Nat.zero_le _
  | x :: l, r, hn, hs => by
    rw [List.nodup_cons] at hn
    have h1 := hs x List.mem_cons_self
    have h2 : l.length ≤ (r.erase x).length := pigeon hn.2 fun y hy => by
      have hy' := hs y (List.mem_cons_of_mem _ hy)
      have ne : y ≠ x := fun e => hn.1 (by rw [← e]; exact hy)
      exact (List.mem_erase_of_ne ne).mpr hy'
    rw [List.length_erase_of_mem h1] at h2
    have := List.length_pos_of_mem h1
    simp only [List.length_cons]; omega
end L2
namespace ST
open PySem TM TT L2 K11
def kk (c : Int × Int) : List Key := [Sum.inl c.1, Sum.inl c.2]
theorem kk_inj {a b : Int × Int} (h : kk a = kk b) : a = b := by
  unfold kk at h
  injection h with h1 h2
  injection h2 with h2 _
  exact Prod.ext (Sum.inl.inj h1) (Sum.inl.inj h2)
def ruleAt (ms : List MdT) (c : Int × Int) : Option Tm := (ms[c.1.toNat]?).bind fun x => x.2.2.2.2[c.2.toNat]?
def pairsOf (ms : List MdT) (c : Int × Int) : List ((Int × Int) × Int) := match ruleAt ms c with
  | some t => (cls t).map fun x => (c, x.1)
  | none => []
theorem rule_at {ms : List MdT} {c : Int × Int} (h : c ∈ ixUp ms ms.length) : ∃ (m j : Nat) (x : MdT) (t : Tm), c = ((m : Int), (j : Int)) ∧ ms[m]? = some x ∧ x.2.2.2.2[j]? = some t ∧ ruleAt ms c = some t := by
  obtain ⟨m, j, rfl, hm, hj⟩ := ixUp_mem.mp h
  unfold nRl at hj
  rw [List.getElem?_eq_getElem hm] at hj
  have hj : j < ms[m].2.2.2.2.length := hj
  refine ⟨m, j, _, _, rfl, List.getElem?_eq_getElem hm, List.getElem?_eq_getElem hj, ?_⟩
  unfold ruleAt
  simp only [Int.toNat_natCast]
  rw [List.getElem?_eq_getElem hm]
  show ms[m].2.2.2.2[j]? = _
  rw [List.getElem?_eq_getElem hj]
abbrev DsT := List (Addr × List (List Key × V))
structure CBs (H0 H : Hp) (l : Addr) (ms : List MdT) (ds : DsT) (done : List ((Int × Int) × Int)) : Prop where
  same : Same H0 H
  lnew : H0 l = none
  li : H l = some (.lst (ds.map fun d => V.ref d.1))
  len : ds.length = ms.length
  fr : ∀ d ∈ ds, H0 d.1 = none
  na : (ds.map (·.1)).Nodup
  dat : ∀ d ∈ ds, H d.1 = some (.dT d.2)
  nd : ∀ d ∈ ds, (d.2.map (·.1)).Nodup
  kin : ∀ d ∈ ds, ∀ q ∈ d.2, (∃ c ∈ ixUp ms ms.length, q.1 = kk c) ∧ q.2 = V.bl true
  all : ∀ p ∈ done, ∀ d, ds[p.2.toNat]? = some d → kk p.1 ∈ d.2.map (·.1)
theorem CBs.on {H0 H H' : Hp} {l : Addr} {ms : List MdT} {ds : DsT} {done : List ((Int × Int) × Int)} (h : CBs H0 H l ms ds done) (g : Same H H') : CBs H0 H' l ms ds done :=
  ⟨h.same.trans g, h.lnew, g _ _ h.li, h.len, h.fr, h.na, fun d hd => g _ _ (h.dat d hd), h.nd, h.kin, h.all⟩
theorem CBs.few {H0 H : Hp} {l : Addr} {ms : List MdT} {ds : DsT} {done : List ((Int × Int) × Int)} (h : CBs H0 H l ms ds done) {d : Addr × List (List Key × V)} (hd : d ∈ ds) : d.2.length ≤ (ixUp ms ms.length).length := by
  have h1 := pigeon (l := d.2.map (·.1)) (r := (ixUp ms ms.length).map kk) (h.nd d hd) fun x hx => by
    obtain ⟨q, hq, rfl⟩ := List.mem_map.mp hx
    obtain ⟨⟨c, hc, e⟩, _⟩ := h.kin d hd q hq
    rw [e]; exact List.mem_map.mpr ⟨c, hc, rfl⟩
  simpa using h1
theorem CBs.put {H0 H : Hp} {l : Addr} {ms : List MdT} {ds : DsT} {done : List ((Int × Int) × Int)} (h : CBs H0 H l ms ds done) {n : Nat} {d : Addr × List (List Key × V)} (hn : ds[n]? = some d) {c : Int × Int} (hc : c ∈ ixUp ms ms.length) :
    CBs H0 (upd H d.1 (.dT (putK d.2 (kk c) (.bl true)))) l ms (ds.set n (d.1, putK d.2 (kk c) (.bl true))) (done ++ [(c, (n : Int))]) := by
  have hd := List.mem_of_getElem? hn
  have hnl : n < ds.length := (List.getElem?_eq_some_iff.mp hn).1
  have emap : ∀ {β : Type} (f : Addr → β), (ds.set n (d.1, putK d.2 (kk c) (.bl true))).map (fun d => f d.1) = ds.map fun d => f d.1 := fun f => by
    rw [List.map_set]
    have e : (ds.map fun d => f d.1)[n]? = some (f d.1) := by rw [List.getElem?_map, hn]; rfl
    exact List.ext_getElem? fun j => by
      rw [List.getElem?_set]
      split
      · rename_i hj
        subst hj
        split
        · exact e.symm
        · rename_i hlt; rw [List.length_map] at hlt; exact absurd hnl hlt
      · rfl
  have mem : ∀ x ∈ ds.set n (d.1, putK d.2 (kk c) (.bl true)), x = (d.1, putK d.2 (kk c) (.bl true)) ∨ x ∈ ds ∧ x.1 ≠ d.1 := fun x hx => by
    obtain ⟨j, hj, e⟩ := List.getElem_of_mem hx
    have e' := List.getElem?_eq_getElem hj
    rw [e, List.getElem?_set] at e'
    split at e'
    · left
      first | exact (Option.some.inj e').symm | (split at e'; exact (Option.some.inj e').symm; cases e')
    · rename_i hne
      refine .inr ⟨List.mem_of_getElem? e', fun z => hne ?_⟩
      have hjl : j < ds.length := (List.getElem?_eq_some_iff.mp e').1
      have a1 : (ds.map (·.1))[n]? = some d.1 := by rw [List.getElem?_map, hn]; rfl
      have a2 : (ds.map (·.1))[j]? = some d.1 := by rw [List.getElem?_map, e']; exact congrArg some z
      exact (List.getElem?_inj (by rw [List.length_map]; exact hnl) h.na).mp (a1.trans a2.symm)
  refine ⟨fun b u e => ?_, h.lnew, ?_, by rw [List.length_set]; exact h.len, fun x hx => ?_, ?_, fun x hx => ?_, fun x hx => ?_, fun x hx => ?_, fun p hp x hx => ?_⟩
  · rw [upd_ne (ne_of_none e (h.fr d hd))]; exact h.same _ _ e
  · rw [upd_ne (ne_of h.li (h.dat d hd) (by intro z; cases z)), emap V.ref]; exact h.li
  · rcases mem x hx with rfl | ⟨hx, _⟩
    · exact h.fr d hd
    · exact h.fr x hx
  · have := emap (fun a => a); rw [this]; exact h.na
  · rcases mem x hx with rfl | ⟨hx, ne⟩
    · exact upd_same
    · rw [upd_ne ne]; exact h.dat x hx
  · rcases mem x hx with rfl | ⟨hx, ne⟩
    · exact put_nodup (h.nd d hd)
    · exact h.nd x hx
  · intro q hq
    rcases mem x hx with rfl | ⟨hx, ne⟩
    · rcases put_mem hq with hq | rfl
      · exact h.kin d hd q hq
      · exact ⟨⟨c, hc, rfl⟩, rfl⟩
    · exact h.kin x hx q hq
  · rw [List.getElem?_set] at hx
    rcases List.mem_append.mp hp with hp | hp
    · split at hx
      · rename_i hj
        have hx : some (d.1, putK d.2 (kk c) (.bl true)) = some x := by
          first | exact hx | (split at hx; exact hx; cases hx)
        obtain rfl := Option.some.inj hx
        exact put_keys (h.all p hp d (by rw [← hj]; exact hn))
      · exact h.all p hp x hx
    · obtain rfl : p = (c, (n : Int)) := by simpa using hp
      have e : n = (((c, (n : Int)) : (Int × Int) × Int).2).toNat := by simp
      rw [if_pos e] at hx
      first | rw [if_pos hnl] at hx | skip
      obtain rfl := Option.some.inj hx
      exact List.mem_map.mpr ⟨_, put_at, rfl⟩
end ST
namespace K33
open PySem L2 TM TT ST K9 K11
abbrev sCB : Stmt := top 16
structure MsOk (ms : List MdT) : Prop where
  four : ms.length ≤ 4
  ten : ∀ m ∈ ms, m.2.2.2.2.length ≤ 10
  tm : ∀ m ∈ ms, ∀ t ∈ m.2.2.2.2, (∃ cs, TDr cs t) ∧ lv t ≤ 3 ∧ sz t ≤ 1000 ∧ CallsIn ms.length t
def spCB (K : PySem.W.Frag) : Sp := fun vs H Q _ => ∃ (lm : Addr) (ms : List MdT), vs = [.ref lm] ∧ ModesL K H lm ms ∧ MsOk ms ∧
  ∀ (l : Addr) (H' : Hp) (ds : DsT), CBs H H' l ms ds ((ixUp ms ms.length).flatMap (pairsOf ms)) → Q (.ref l) H'
section
variable {P : Program} {w : World} {K : PySem.W.Frag} {mg : Str → Option Value} {base : Heap} {f : Addr} {fd : FuncData}
theorem scCB : FnScope ["modes", "told", "mode", "number", "called", "branch"] ["modes"] (defScope sCB) := ⟨rfl, rfl, rfl, by decide +kernel, rfl, by decide +kernel, by decide +kernel⟩
theorem ok_cb (F : Fun K "callers_by_modes" "callers_by_modes" sCB f fd) (G : Gm mg) (RA : Fn P w K mg base 1 "all_rules" ["modes"] (spAR K)) (RC : Fn P w K mg base 4 "calls_of" ["term"] (spCO K 3)) : FnOk P w K mg base CX0 5 f fd ["modes"] (spCB K) := by
  refine F.ok scCB (fun vs H Q E h => ?_) (fun cdv A outer s H vs Q E hr h => ?_)
  · obtain ⟨lm, ms, rfl, _⟩ := h
    rfl
  obtain ⟨lm, ms, rfl, hms, ok, q⟩ := h
  refine ⟨_, (pss_cons (ps_setG (i := 1) (CompG.many (xs := ["mode"]) (caps := []) (cap := []) (cs := []) rfl rfl (by decide +kernel) (by decide +kernel) (by decide +kernel) (by decide +kernel) (by decide +kernel) (by decide +kernel) rfl rfl rfl) rfl (pi_list (pv 0)) (pg_c1 (CompG.many (xs := ["mode"]) (caps := []) (cap := []) (cs := []) rfl rfl (by decide +kernel) (by decide +kernel) (by decide +kernel) (by decide +kernel) (by decide +kernel) (by decide +kernel) rfl rfl rfl)) (fun _ _ _ _ => pf_nil) (fun _ _ _ _ => pe_dnewT) scCB.nd rfl rfl)
    (pss_cons (ps_for PassesOwn.never rfl (pi_list (pe_fn RA hr (pa_cons (pv 0) pa_nil) (by decide))) (pg_tup rfl (pgs_cons (pg_name (i := 2) scCB.nd rfl (Or.inl rfl)) (pgs_cons (pg_name (i := 3) scCB.nd rfl (Or.inl rfl)) pgs_nil))) (pss_one
      (ps_for PassesOwn.never rfl (pi_list (pe_fn RC hr (pa_cons (pe_ix ix_list (pe_ix ix_tup (pe_ix ix_list (pv 0) (pv 2) (fun _ _ => rfl)) pe_int (fun _ _ => rfl)) (pv 3) (fun _ _ => rfl)) pa_nil))) (pg_tup rfl (pgs_cons (pg_name (i := 4) scCB.nd rfl (Or.inl rfl)) (pgs_cons (pg_name (i := 5) scCB.nd rfl (Or.inl rfl)) pgs_nil)))
        (pss_one (ps_dput (hu_of hr) (pe_ix ix_list (pv 1) (pv 4) (fun _ _ => rfl)) (pe_tup (pa_cons (pv 2) (pa_cons (pv 3) pa_nil))) pe_bl rfl)))))
    (pss_one (ps_ret (pv 1))))), ?_⟩
  have eml : (ms.map fun m => V.ref m.1).length = ms.length := List.length_map ..
  have h4 := ok.four
  refine ⟨_, rfl, lm, rfl, ⟨_, hms.1⟩, fun acc hacc => ?_⟩
  refine c1_list (K := K) (xs := ms.map fun m => V.ref m.1) (cs := []) (tt := fun _ H Q => Q true H) (te := tDNewT) (fun i ys H' => ∃ as : List Addr, ys = as.map V.ref ∧ as.length = i ∧ H' acc = some (.lst ys) ∧ Same H H' ∧ as.Nodup ∧ (∀ a ∈ as, H a = none ∧ H' a = some (.dT [])))
    ⟨[], rfl, rfl, upd_same, same_new hacc _, List.nodup_nil, fun a ha => (nomatch ha)⟩ ?_ ?_ ?_
  · rintro i ys H' _ ⟨as, _, _, _, g, _⟩
    exact g.seq hms.1
  · rintro i x ys H' hi hx ⟨as, rfl, hal, hya, g, hnd, hat⟩
    refine iteT fun p hp => ?_
    have gp := same_new hp (.dT [])
    have hya2 := gp _ _ hya
    refine comp_next (ys := as.map V.ref) hi hya2 (by rw [List.length_map]; omega) ⟨as ++ [p], by simp, by simp [hal], upd_same, fun b u e => ?_, ?_, fun a ha => ?_⟩
    · rw [upd_ne (ne_of_none e hacc)]; exact gp _ _ (g _ _ e)
    · rw [List.nodup_append]
      refine ⟨hnd, by simp, fun a ha b hb => ?_⟩
      obtain rfl : b = p := by simpa using hb
      exact fun e => by rw [e] at ha; have := (hat _ ha).2; rw [hp] at this; cases this
    · have nea : ∀ b, upd H' p (.dT []) b = some (.dT []) → b ≠ acc := fun b hb => ne_of hb hya2 (by intro z; cases z)
      rcases List.mem_append.mp ha with ha | ha
      · have h2 := gp _ _ (hat a ha).2
        exact ⟨(hat a ha).1, by rw [upd_ne (nea a h2)]; exact h2⟩
      · obtain rfl : a = p := by simpa using ha
        refine ⟨?_, by rw [upd_ne (nea a upd_same)]; exact upd_same⟩
        exact g.free hp
  rintro ys H1 ⟨as, rfl, hal, hya, g1, hnd, hat⟩
  have c1 : CBs H H1 acc ms (as.map fun a => (a, [])) [] := by
    have e : (as.map fun a => ((a, []) : Addr × List (List Key × V))).map (·.1) = as := by rw [List.map_map]; exact List.map_id _
    refine ⟨g1, hacc, ?_, ?_, fun d hd => ?_, by rw [e]; exact hnd, fun d hd => ?_, fun d hd => ?_, fun d hd => ?_, fun p hp => (nomatch hp)⟩
    · rw [List.map_map]; exact hya
    · rw [List.length_map]; omega
    all_goals obtain ⟨a, ha, rfl⟩ := List.mem_map.mp hd
    · exact (hat a ha).1
    · exact (hat a ha).2
    · exact List.nodup_nil
    · exact fun q hq => (nomatch hq)
  refine ⟨_, rfl, lm, ms, rfl, hms.same g1, ok.four, ok.ten, fun lr H2 ts g2 hlrn hlr hts hix => ⟨lr, rfl, ⟨_, SqL.of hlr⟩, ?_⟩⟩
  have hl := congrArg List.length hix
  rw [List.length_map, List.length_map] at hl
  refine for_list (K := K) (xs := Rf ts) (fun i σ H' => ∃ (ds : DsT) (c2 c3 c4 c5 : Option V), σ = [some (.ref lm), some (.ref acc), c2, c3, c4, c5] ∧ CBs H H' acc ms ds (((ixUp ms ms.length).take i).flatMap (pairsOf ms)) ∧ H' lr = some (.lst (Rf ts)) ∧ TsAt K H' ts)
    ⟨_, none, none, none, none, rfl, c1.on g2, hlr, hts⟩ ?_ ?_ ?_
  · rintro i σ H' _ ⟨ds, _, _, _, _, _, _, h, _⟩
    exact SqL.of h
  · rintro i x σ H' hx ⟨ds, c2, c3, c4, c5, rfl, cb, hlr', hts'⟩
    have hi : i < ts.length := by have := (List.getElem?_eq_some_iff.mp hx).1; rwa [List.length_map] at this
    obtain rfl : x = .ref ts[i].1 := by
      rw [List.getElem?_map, List.getElem?_eq_getElem hi] at hx
      exact (Option.some.inj hx).symm
    have hic : i < (ixUp ms ms.length).length := by omega
    obtain ⟨c, ec⟩ : ∃ c, (ixUp ms ms.length)[i]? = some c := ⟨_, List.getElem?_eq_getElem hic⟩
    have hcm := List.mem_of_getElem? ec
    have et : ts[i].2 = pr c := by
      have e := congrArg (fun l => l[i]?) hix
      simp only [List.getElem?_map, List.getElem?_eq_getElem hi, ec] at e
      exact Option.some.inj e
    have htt : SqT K H' ts[i].1 [.int c.1, .int c.2] := by have := hts' _ (List.getElem_mem hi); rw [et] at this; exact this
    obtain ⟨m, j, md, t, rfl, hmd, htj, hra⟩ := rule_at hcm
    have hmm := List.mem_of_getElem? hmd
    have hmat := hms.2 md hmm
    have htm := List.mem_of_getElem? htj
    obtain ⟨_, hlv, hsz, hcal⟩ := ok.tm md hmm t htm
    obtain ⟨tv, htv, htt2⟩ := hmat.2.2.get htj
    have gs := cb.same
    refine ⟨ts[i].1, _, rfl, htt, rfl, _, _, rfl, _, _, rfl, rfl, ?_⟩
    refine ⟨_, rfl, _, rfl, lm, _, (m : Int), .ref md.1, rfl, rfl, gs.seq hms.1, atI_nat (by rw [List.getElem?_map, hmd]; rfl), md.1, _, 1, _, rfl, rfl, gs.seqT hmat.1, rfl, _, rfl, md.2.2.1, _, (j : Int), tv, rfl, rfl, gs.seq hmat.2.1, atI_nat htv, tv, t, rfl, htt2.mono fun _ _ => gs.seqT, hlv, hsz, fun lc H3 us g3 hlcn hlc hus hcl => ⟨lc, rfl, ⟨_, SqL.of hlc⟩, ?_⟩⟩
    have hl2 := congrArg List.length hcl
    rw [List.length_map, List.length_map] at hl2
    have epo : pairsOf ms ((m : Int), (j : Int)) = (cls t).map fun x => (((m : Int), (j : Int)), x.1) := by unfold pairsOf; rw [hra]
    refine for_list (K := K) (xs := Rf us) (fun k σ H4 => ∃ (ds : DsT) (c4 c5 : Option V), σ = [some (.ref lm), some (.ref acc), some (.int (m : Int)), some (.int (j : Int)), c4, c5] ∧ CBs H H4 acc ms ds (((ixUp ms ms.length).take i).flatMap (pairsOf ms) ++ ((cls t).take k).map fun x => (((m : Int), (j : Int)), x.1)) ∧ H4 lr = some (.lst (Rf ts)) ∧ TsAt K H4 ts ∧ H4 lc = some (.lst (Rf us)) ∧ TsAt K H4 us)
      ⟨ds, c4, c5, rfl, by simpa using cb.on g3, g3 _ _ hlr', hts'.mono fun _ _ => g3.seqT, hlc, hus⟩ ?_ ?_ ?_
    · rintro k σ H4 _ ⟨ds, _, _, _, _, _, _, h, _⟩
      exact SqL.of h
    · rintro k x σ H4 hx ⟨ds, c4, c5, rfl, cb, hlr4, hts4, hlc4, hus4⟩
      have hk : k < us.length := by have := (List.getElem?_eq_some_iff.mp hx).1; rwa [List.length_map] at this
      obtain rfl : x = .ref us[k].1 := by
        rw [List.getElem?_map, List.getElem?_eq_getElem hk] at hx
        exact (Option.some.inj hx).symm
      obtain ⟨b, eb⟩ : ∃ b, (cls t)[k]? = some b := ⟨_, List.getElem?_eq_getElem (by omega)⟩
      have eu : us[k].2 = pr b := by
        have e := congrArg (fun l => l[k]?) hcl
        simp only [List.getElem?_map, List.getElem?_eq_getElem hk, eb] at e
        exact Option.some.inj e
      have huu : SqT K H4 us[k].1 [.int b.1, .int b.2] := by have := hus4 _ (List.getElem_mem hk); rw [eu] at this; exact this
      obtain ⟨hb0, hbl⟩ := hcal b (List.mem_of_getElem? eb)
      have hbd : b.1.toNat < ds.length := by rw [cb.len]; exact hbl
      obtain ⟨d, ed⟩ : ∃ d, ds[b.1.toNat]? = some d := ⟨_, List.getElem?_eq_getElem hbd⟩
      have hdm := List.mem_of_getElem? ed
      refine ⟨us[k].1, _, rfl, huu, rfl, _, _, rfl, _, _, rfl, rfl, ?_⟩
      refine ⟨_, rfl, _, rfl, acc, _, b.1, .ref d.1, rfl, rfl, SqL.of cb.li, atI_int hb0 (by rw [List.getElem?_map, ed]; rfl), _, rfl, _, rfl, (by show 2 ≤ sizeLine; decide), fun p hp => ?_⟩
      have gp := same_new hp (.tup [.int (m : Int), .int (j : Int)])
      have cbp := cb.on gp
      have hdd := cbp.dat d hdm
      have few := cbp.few hdm
      have few2 := ixUp_len ok.ten ms.length
      refine ⟨d.1, _, rfl, DPut.t (k := kk ((m : Int), (j : Int))) hdd upd_same (by rw [size_line]; omega), ?_⟩
      have cb2 := cbp.put ed hcm
      have keep : ∀ (a : Addr) (xs : List V), upd H4 p (.tup [.int (m : Int), .int (j : Int)]) a = some (.lst xs) → upd (upd H4 p (.tup [.int (m : Int), .int (j : Int)])) d.1 (.dT (putK d.2 (kk ((m : Int), (j : Int))) (.bl true))) a = some (.lst xs) := fun a xs h => by
        rw [upd_ne (ne_of h hdd (by intro z; cases z))]; exact h
      have keepT : ∀ (a : Addr) (xs : List V), SqT K (upd H4 p (.tup [.int (m : Int), .int (j : Int)])) a xs → SqT K (upd (upd H4 p (.tup [.int (m : Int), .int (j : Int)])) d.1 (.dT (putK d.2 (kk ((m : Int), (j : Int))) (.bl true)))) a xs := fun a xs h => by
        rcases h with h | h
        · rcases h with h | ⟨o, h⟩
          · exact .inl (.inl (by rw [upd_ne (ne_of h hdd (by intro z; cases z))]; exact h))
          · exact .inl (.inr ⟨o, by rw [upd_ne (ne_of h hdd (by intro z; cases z))]; exact h⟩)
        · exact .inr h
      refine ⟨ds.set b.1.toNat (d.1, putK d.2 (kk ((m : Int), (j : Int))) (.bl true)), _, _, rfl, ?_, keep _ _ (gp _ _ hlr4), hts4.mono fun _ _ h => keepT _ _ (gp.seqT h), keep _ _ (gp _ _ hlc4), hus4.mono fun _ _ h => keepT _ _ (gp.seqT h)⟩
      have e2 : ((b.1.toNat : Nat) : Int) = b.1 := Int.toNat_of_nonneg hb0
      rw [e2] at cb2
      rw [List.take_add_one, eb, Option.toList_some, List.map_append, ← List.append_assoc]
      exact cb2
    · rintro σ H4 ⟨ds, c4, c5, rfl, cb, hlr4, hts4, hlc4, hus4⟩
      refine ⟨ds, _, _, _, _, rfl, ?_, hlr4, hts4⟩
      have etk : (cls t).take (Rf us).length = cls t := List.take_of_length_le (by rw [List.length_map]; omega)
      rw [etk] at cb
      rw [List.take_add_one, ec, Option.toList_some, List.flatMap_append]
      simp only [List.flatMap_cons, List.flatMap_nil, List.append_nil]
      rw [epo]
      exact cb
  · rintro σ H' ⟨ds, c2, c3, c4, c5, rfl, cb, _, _⟩
    rw [List.take_of_length_le (by rw [List.length_map]; omega)] at cb
    exact ⟨_, rfl, q acc H' ds cb⟩
end
end K33
namespace L2
open PySem PySem.Spec PyProof.Rows PySem.W
section
variable {κ : Type} [DecidableEq κ]
def mergedH (ps more : List (κ × Addr × Value)) : List (κ × Addr × Value) := more.foldl (fun acc x => storedH acc x.1 x.2.1 x.2.2) ps
theorem mergedH_snoc (ps more : List (κ × Addr × Value)) (i : Nat) (x : κ × Addr × Value) (h : more[i]? = some x) : mergedH ps (more.take (i + 1)) = storedH (mergedH ps (more.take i)) x.1 x.2.1 x.2.2 := by
  unfold mergedH
  rw [List.take_add_one, h, List.foldl_append]
  rfl
theorem storedH_len (ps : List (κ × Addr × Value)) (k : κ) (b : Addr) (v : Value) : (storedH ps k b v).length ≤ ps.length + 1 := by
  unfold storedH
  split
  · rw [List.length_map]; omega
  · rw [List.length_append, List.length_singleton]; exact Nat.le_refl _
theorem mergedH_len : ∀ (more ps : List (κ × Addr × Value)), (mergedH ps more).length ≤ ps.length + more.length
  | [], ps => by show ps.length ≤ ps.length + 0; omega
  | x :: r, ps => by
    have h1 := mergedH_len r (storedH ps x.1 x.2.1 x.2.2)
    have h2 := storedH_len ps x.1 x.2.1 x.2.2
    show (mergedH (storedH ps x.1 x.2.1 x.2.2) r).length ≤ _
    rw [List.length_cons]; omega
theorem atKey_no {ps : List (κ × Addr × Value)} {k : κ} (h : k ∉ ps.map (·.1)) : atKey ps k = none := by
  unfold atKey
  rw [Option.map_eq_none_iff, List.find?_eq_none]
  intro x hx e
  exact h (List.mem_map.mpr ⟨x, hx, of_decide_eq_true e⟩)
theorem mergedH_app : ∀ (more ps : List (κ × Addr × Value)), ((ps ++ more).map (·.1)).Nodup → mergedH ps more = ps ++ more
  | [], ps, _ => (List.append_nil ps).symm
  | x :: r, ps, h => by
    have hx : x.1 ∉ ps.map (·.1) := fun z => by
      rw [List.map_append, List.nodup_append] at h
      exact h.2.2 _ z _ (by rw [List.map_cons]; exact List.mem_cons_self) rfl
    show mergedH (storedH ps x.1 x.2.1 x.2.2) r = _
    rw [storedH_new (atKey_no hx)]
    have e : ps ++ x :: r = (ps ++ [(x.1, x.2.1, x.2.2)]) ++ r := by simp
    rw [e] at h
    rw [mergedH_app r _ h, e]
end
section
variable {prog : Program} {w : World} {κ : Type} [DecidableEq κ] {A : Around} {E : Value → Shared → Prop} {s : Shared}
theorem setHashed_heap {kd : HeapKind prog w κ} {d b : Addr} {ps : List (κ × Addr × Value)} {k : κ} {v : Value} {Q : Unit → Shared → Prop} (room : kd.room A) (isK : kd.is s.heap k b) (D : s.heap.DictOfH kd d ps) (small : ps.length ≤ sizeLine)
    (fin : ∀ h2, h2.DictOfH kd d (storedH ps k b v) → Heap.SameBut d s.heap h2 → Q () { s with heap := h2 }) : wpAny (model prog w) A (dictSetHashed d (.ref b) (kd.hash k) v) Q E s := by
  obtain ⟨ob, ents, ep, gd, exd, dat, eqs, isAll, nod⟩ := D
  unfold dictSetHashed
  try with_reducible refine wpAny_holding ?_
  refine wpAny_bind (wpAny_dictFind_heap room isK gd dat eqs isAll nod (fun miss => ?_) fun j p at_j => ?_)
  · have out : k ∉ ps.map (·.1) := not_mem_keys_of_get miss
    have new := storedH_new (atKey_none_of_get miss) b v
    refine wpAny_bind (wpAny_rule (wpAny_updateDictKeys (hz := by have := size_of_entries eqs; omega) gd dat ?_))
    refine fin _ ⟨_, _, ep + 1, Heap.get?_update_self _ gd (Obj.isFreed_of_dict (Obj.data_mapDictKeys dat _)), exd.mapDictKeys _, Obj.data_mapDictKeys dat _, ?_, ?_, ?_⟩ (Heap.SameBut.update ..)
    · rw [new]; simp [eqs, entryOfKey]
    · rw [new]
      intro y hy
      rcases List.mem_append.mp hy with hy | hy
      · exact kd.keeps (isAll y hy) gd dat (Heap.SameBut.update ..)
      · obtain rfl := List.mem_singleton.mp hy
        exact kd.keeps isK gd dat (Heap.SameBut.update ..)
    · rw [new, List.map_append, List.nodup_append]
      refine ⟨nod, by simp, fun y hy z hz => ?_⟩
      obtain rfl : z = k := by simpa using hz
      exact fun q => out (by rw [← q]; exact hy)
  · have old := storedH_old (atKey_of_get nod at_j) b v
    refine wpAny_bind (wpAny_rule (wpAny_bind (wpAny_updateDict gd dat (wpAny_point ?_))))
    refine fin _ ⟨_, _, ep, Heap.get?_update_self _ gd (Obj.isFreed_of_dict (Obj.data_mapDict dat _)), exd.mapDict _, Obj.data_mapDict dat _, ?_, ?_, ?_⟩ (Heap.SameBut.update ..)
    · rw [old]
      have z := modify_map_putAt (entryOfKey kd) (fun t : DictEntry => { t with val := v }) k v (fun _ _ => rfl) nod at_j
      rw [← eqs] at z
      obtain ⟨l⟩ := ents
      simpa using z
    · rw [old]
      intro y hy
      obtain ⟨z, hz, rfl⟩ := List.mem_map.mp hy
      unfold putAt
      split <;> exact kd.keeps (isAll z hz) gd dat (Heap.SameBut.update ..)
    · rw [old, keys_map_putAt]; exact nod
theorem forEmpty_tup {kn : KeyKind prog w κ} {o : Addr} {ob : Obj} {ents : Array DictEntry} {ep : Nat} {ps : List (List κ × Addr × Value)} {nm : String} {Q : Array DictEntry → Shared → Prop} (go : s.heap.get? o = some ob) (dat : ob.data = .dict ents ep)
    (eqs : ents.toList = ps.map (entryOfKey (tupleKind kn))) (isAll : ∀ x ∈ ps, (tupleKind kn).is s.heap x.1 x.2.1) (one : ∀ t ∈ ents, (ents.filter (·.hash == t.hash)).size ≤ 1) (fin : Q ents s) :
    wpAny (model prog w) A (Builtin.Dict.entriesForEmpty nm o) Q E s := by
  unfold Builtin.Dict.entriesForEmpty
  refine wpAny_bind (wpAny_dictEntries go dat ?_)
  refine wpAny_bind ?_
  rw [← Array.forIn_toList]
  refine wpAny_forIn_list _ (fun rest _ s2 => s2 = s ∧ ∀ t ∈ rest, t ∈ ents) _ ?_ ?_ _ _ ⟨rfl, fun t ht => Array.mem_toList_iff.mp ht⟩
  · rintro t rest u s2 ⟨rfl, mem⟩
    have ht := mem t List.mem_cons_self
    have small := one t ht
    obtain ⟨x, hx, rfl⟩ := List.mem_map.mp (eqs ▸ Array.mem_toList_iff.mpr ht)
    obtain ⟨ok, its, n, g1, g2, _⟩ := isAll x hx
    have hT : s2.TypeIs (.ref x.2.1) "tuple" := ⟨ok, g1, g2⟩
    refine wpAny_bind ?_
    show wpAny _ _ (specialOf (.ref x.2.1) "__eq__" >>= fun r => pure (r == some (.builtin "object.__eq__"))) _ _ _
    refine wpAny_bind (wpAny_specialOf hT F.slot_tuple_eq.lookup (wpAny_pure ?_))
    have small' : ¬ (ents.filter (fun t => t.hash == (entryOfKey (tupleKind kn) x).hash)).size > 1 := by omega
    have done : s2 = s2 ∧ ∀ t ∈ rest, t ∈ ents := ⟨rfl, fun t h => mem t (List.mem_cons_of_mem _ h)⟩
    split
    all_goals first | exact wpAny_pure done | (rw [if_neg small']; exact wpAny_pure done) | (split; exact absurd (by assumption) small'; exact wpAny_pure done)
  · rintro u s2 ⟨rfl, _⟩
    exact wpAny_pure fin
theorem one_hash {kn : KeyKind prog w κ} {ents : Array DictEntry} {ps : List (List κ × Addr × Value)} (eqs : ents.toList = ps.map (entryOfKey (tupleKind kn))) (nod : (ps.map (·.1)).Nodup)
    (apart : ∀ x ∈ ps, ∀ y ∈ ps, (tupleKind kn).hash x.1 = (tupleKind kn).hash y.1 → x.1 = y.1) : ∀ t ∈ ents, (ents.filter (·.hash == t.hash)).size ≤ 1 := by
  intro t ht
  obtain ⟨x, hx, rfl⟩ := List.mem_map.mp (eqs ▸ Array.mem_toList_iff.mpr ht)
  have e : (ents.filter (·.hash == (entryOfKey (tupleKind kn) x).hash)).size = (ps.filter fun y => (tupleKind kn).hash y.1 == (tupleKind kn).hash x.1).length := by
    rw [← Array.length_toList, Array.toList_filter, eqs, List.filter_map, List.length_map]
    rfl
  rw [e]
  have p := pigeon (l := (ps.filter fun y => (tupleKind kn).hash y.1 == (tupleKind kn).hash x.1).map (·.1)) (r := [x.1]) (nod.sublist (List.Sublist.map _ List.filter_sublist)) fun z hz => by
    obtain ⟨y, hy, rfl⟩ := List.mem_map.mp hz
    obtain ⟨h1, h2⟩ := List.mem_filter.mp hy
    rw [apart y h1 x hx (by simpa using h2)]
    exact List.mem_cons_self
  rw [List.length_map] at p
  exact p
theorem mergeDict_tup {kn : KeyKind prog w κ} {d o : Addr} {ps more : List (List κ × Addr × Value)} {nm : String} {Q : Unit → Shared → Prop} (ne : d ≠ o) (os : (o == sysModules) = false) (room : (tupleKind kn).room A)
    (D : s.heap.DictOfH (tupleKind kn) d ps) (M : s.heap.DictOfH (tupleKind kn) o more) (apart : ∀ x ∈ more, ∀ y ∈ more, (tupleKind kn).hash x.1 = (tupleKind kn).hash y.1 → x.1 = y.1) (small : ps.length + more.length ≤ sizeLine)
    (fin : ∀ h2, h2.DictOfH (tupleKind kn) d (mergedH ps more) → Heap.SameBut d s.heap h2 → Q () { s with heap := h2 }) : wpAny (model prog w) A (Builtin.Dict.mergeDict nm d o) Q E s := by
  obtain ⟨ob, entd, epd, gd, exd, datd, eqd, isd, nodd⟩ := id D
  obtain ⟨oo, ento, epo, go, exo, dato, eqo, iso, nodo⟩ := id M
  have sz : ento.size = more.length := size_of_entries eqo
  have noo : (Heap.SameBut d s.heap s.heap) := Heap.SameBut.refl _ _
  unfold Builtin.Dict.mergeDict
  rw [if_neg (by simpa using ne)]
  unfold Builtin.Dict.showsAll
  rw [if_neg (by rw [os]; exact Bool.false_ne_true)]
  refine wpAny_bind (wpAny_pure ?_)
  refine wpAny_bind (wpAny_dictEntries go dato ?_)
  have turn : wpAny (model prog w) A (do
      let epoch ← dictEpoch o
      let l ← dictEntries o
      forIn [:l.size] PUnit.unit fun i (_ : PUnit) => (do
          let l2 ← dictEntries o
          match l2[i]? with
            | some t => do
              holding [t.key, t.val] (dictSetHashed d t.key t.hash t.val)
              let e2 ← dictEpoch o
              if (e2 != epoch) = true then do
                  (unsupported (toString nm ++ toString ":source-changed-during-callback") : Sem PUnit)
                  pure (ForInStep.yield PUnit.unit)
                else pure (ForInStep.yield PUnit.unit)
            | _ => do
              (unsupported "internal:dict-merge" : Sem PUnit)
              pure (ForInStep.yield PUnit.unit) : Sem (ForInStep PUnit))
      pure ()) Q E s := by
    refine wpAny_bind (wpAny_dictEpoch go dato (wpAny_bind (wpAny_dictEntries go dato (wpAny_bind ?_))))
    rw [Std.Legacy.Range.forIn_eq_forIn_range']
    simp only [Std.Legacy.Range.size, Nat.sub_zero, Nat.add_sub_cancel, Nat.div_one]
    refine wpAny_forIn_list _ (fun rest _ s2 => ∃ h2 i, s2 = { s with heap := h2 } ∧ rest = List.range' i (ento.size - i) ∧ i ≤ ento.size ∧ h2.DictOfH (tupleKind kn) d (mergedH ps (more.take i)) ∧ h2.get? o = some oo ∧ Heap.SameBut d s.heap h2) _ ?_ ?_ _ _
      ⟨s.heap, 0, rfl, by simp, Nat.zero_le _, by simpa [mergedH] using D, go, noo⟩
    · rintro y rest u s2 ⟨h2, i, rfl, er, li, D2, go2, sb⟩
      have lt : i < ento.size := by
        rcases Nat.lt_or_ge i ento.size with z | z
        · exact z
        · rw [Nat.sub_eq_zero_of_le z] at er; simp at er
      obtain ⟨rfl, er2⟩ : y = i ∧ rest = List.range' (i + 1) (ento.size - (i + 1)) := by
        have q : ento.size - i = (ento.size - (i + 1)) + 1 := by omega
        rw [q, List.range'_succ] at er
        exact ⟨(List.cons.inj er).1, (List.cons.inj er).2⟩
      refine wpAny_bind (wpAny_dictEntries go2 dato ?_)
      obtain ⟨x, ex⟩ : ∃ x, more[y]? = some x := ⟨_, List.getElem?_eq_getElem (by omega)⟩
      rw [entry_at eqo y, ex]
      show wpAny _ _ (holding [Value.ref x.2.1, x.2.2] (dictSetHashed d (.ref x.2.1) ((tupleKind kn).hash x.1) x.2.2) >>= _) _ _ _
      have few : (mergedH ps (more.take y)).length ≤ sizeLine := by
        have q := mergedH_len (more.take y) ps
        rw [List.length_take] at q
        omega
      have isx := (tupleKind kn).keeps (iso x (List.mem_of_getElem? ex)) gd datd sb
      refine wpAny_bind (wpAny_holding (setHashed_heap (s := { s with heap := h2 }) room isx D2 few fun h3 D3 sb3 => ?_))
      have go3 : h3.get? o = some oo := (sb3.2 o (Ne.symm ne)).trans go2
      refine wpAny_bind (wpAny_dictEpoch go3 dato ?_)
      rw [if_neg (by simp)]
      exact wpAny_pure ⟨h3, y + 1, rfl, er2, lt, by rw [mergedH_snoc ps more y x ex]; exact D3, go3, sb.trans sb3⟩
    · rintro u s2 ⟨h2, i, rfl, er, li, D2, go2, sb⟩
      have q : i = ento.size := by
        rcases Nat.lt_or_ge i ento.size with z | z
        · have q : ento.size - i = (ento.size - (i + 1)) + 1 := by omega
          rw [q, List.range'_succ] at er; cases er
        · exact Nat.le_antisymm li z
      rw [q, sz, List.take_length] at D2
      exact wpAny_pure (fin h2 D2 sb)
  dsimp only
  split
  · refine wpAny_bind (wpAny_dictEntries gd datd ?_)
    split
    · rename_i emp
      have hp : ps = [] := by
        have z := size_of_entries eqd
        rw [Array.isEmpty_iff.mp emp] at z
        exact List.length_eq_zero_iff.mp z.symm
      subst hp
      refine wpAny_bind (forEmpty_tup go dato eqo iso (one_hash eqo nodo apart) ?_)
      have em : mergedH [] more = more := mergedH_app more [] nodo
      rw [em] at fin
      split
      · refine wpAny_bind (wpAny_updateDictKeysTo gd datd (wpAny_pure (fin _ ⟨_, _, epd + 1, Heap.get?_update_self _ gd (Obj.isFreed_of_dict (Obj.data_mapDictKeys datd _)), exd.mapDictKeys _, Obj.data_mapDictKeys datd _, eqo, fun x hx => ?_, nodo⟩ (Heap.SameBut.update ..))) ?_)
        · exact (tupleKind kn).keeps (iso x hx) gd datd (Heap.SameBut.update ..)
        · simp only [List.length_nil, Nat.zero_add] at small
          omega
      · rename_i nemp
        have m0 : more = [] := by
          have z : ento = #[] := Array.isEmpty_iff.mp (by simpa using nemp)
          rw [z] at sz
          exact List.length_eq_zero_iff.mp sz.symm
        subst m0
        exact wpAny_pure (fin _ D noo)
    · exact turn
  · exact turn
end
end L2
namespace L2
open PySem PySem.Spec PyProof.Rows PySem.W
section
variable {prog : Program} {w : World} {κ : Type} [DecidableEq κ]
theorem meets_update_tup (kn : KeyKind prog w κ) (d o : Addr) (ne : d ≠ o) (os : (o == sysModules) = false) :
    MeetsIn prog w (Builtin.«dict.update» ⟨[.ref d, .ref o], []⟩) (fun A R s => (tupleKind kn).room A.in1 ∧ ∃ ps more, s.heap.DictOfH (tupleKind kn) d ps ∧ s.heap.DictOfH (tupleKind kn) o more ∧ ps.length + more.length ≤ sizeLine ∧
      (∀ x ∈ more, ∀ y ∈ more, (tupleKind kn).hash x.1 = (tupleKind kn).hash y.1 → x.1 = y.1) ∧
      ∀ h2, h2.DictOfH (tupleKind kn) d (mergedH ps more) → Heap.SameBut d s.heap h2 → R (.ok (.ret .none)) { s with heap := h2 }) :=
  .of_wp fun A R s ⟨room, ps, more, D, M, small, apart, fin⟩ => by
    unfold Builtin.«dict.update»
    refine wpAny_bind ?_
    unfold Builtin.Dict.selfAndRest
    refine wpAny_bind (wpAny_notOrdered_dict D.typeIs (show wpAny _ _ (pure (d, [Value.ref o])) _ _ s from wpAny_pure ?_))
    show wpAny _ _ (Builtin.Dict.updateFrom "dict.update" d (.ref o) [] .none) _ _ s
    unfold Builtin.Dict.updateFrom
    refine wpAny_bind (wpAny_typeOf M.typeIs ?_)
    rw [if_neg (by decide)]
    refine wpAny_bind ?_
    unfold Builtin.Dict.merge
    refine wpAny_bind ?_
    unfold Builtin.Dict.readDirectly
    refine wpAny_bind (wpAny_isInstance M.typeIs isSubtype_dict_dict ?_)
    simp only [Bool.not_true, Bool.false_eq_true, if_false]
    refine wpAny_bind (wpAny_specialOf M.typeIs F.slot_dict_iter.lookup (wpAny_pure ?_))
    simp only [beq_self_eq_true, if_true]
    refine wpAny_bind (wpAny_pure (mergeDict_tup ne os room D M apart small fun h2 D2 sb => ?_))
    show wpAny _ _ (Builtin.Dict.addKeywords d [] >>= _) _ _ _
    exact wpAny_bind (wpAny_pure (wpAny_pure ⟨.none, rfl, fin h2 D2 sb⟩))
end
def mergeT (kvs more : List (List Key × V)) : List (List Key × V) := more.foldl (fun acc q => putK acc q.1 q.2) kvs
theorem length_mergeT : ∀ (more kvs : List (List Key × V)), (mergeT kvs more).length ≤ kvs.length + more.length
  | [], kvs => by show kvs.length ≤ kvs.length + 0; omega
  | p :: r, kvs => by
    have h1 := length_mergeT r (putK kvs p.1 p.2)
    have h2 := length_putK kvs p.1 p.2
    show (mergeT (putK kvs p.1 p.2) r).length ≤ _
    rw [List.length_cons]; omega
theorem KT.merge {H : Hp} : ∀ {more : List (List Key × V)} {rs : List (List Key × Addr × Value)} {kvs : List (List Key × V)} {xs : List (List Key × Addr × Value)}, KT H more rs → KT H kvs xs → KT H (mergeT kvs more) (mergedH xs rs) := by
  intro more rs kvs xs r
  unfold KT at r
  induction r generalizing kvs xs with
  | nil => intro q; exact q
  | @cons p q ps qs h t ih =>
    intro r0
    have e : KT H (putK kvs p.1 p.2) (storedH xs q.1 q.2.1 q.2.2) := by
      have z := r0.put p.1 h.2.1 h.2.2
      rw [← h.1]; exact z
    exact ih e
theorem KT.mem {H : Hp} {kvs : List (List Key × V)} {xs : List (List Key × Addr × Value)} (r : KT H kvs xs) : xs.map (·.1) = kvs.map (·.1) := by
  unfold KT at r
  induction r with
  | nil => rfl
  | @cons p q ps qs h t ih => rw [List.map_cons, List.map_cons, ih, h.1]
def ApartK (ks : List (List Key)) : Prop := ∀ (P : Program) (w : World), ∀ x ∈ ks, ∀ y ∈ ks, (tupleKind (mixKind P w)).hash x = (tupleKind (mixKind P w)).hash y → x = y
section
variable {X : Cx}
def rUpdate : V → List V → Hp → VK → Prop := fun x vs H Q => ∃ (d o : Addr) (kvs more : List (List Key × V)), x = .ref d ∧ vs = [.ref o] ∧ d ≠ o ∧ H d = some (.dT kvs) ∧ H o = some (.dT more) ∧ kvs.length + more.length ≤ sizeLine ∧ ApartK (more.map (·.1)) ∧
  Q .non (upd H d (.dT (mergeT kvs more)))
theorem mt_update (hu : X.A.units + 1 < cLine) : MtR X "dict.update" rUpdate := by
  intro pins s σ H x vs v us Q I rx rv h
  obtain ⟨d, o, kvs, more, rfl, rfl, ne, hd, ho, small, apart, q⟩ := h
  cases rx
  obtain ⟨u, rfl, ru⟩ := rv.one
  cases ru
  obtain ⟨_, z1, xs, r1, D⟩ := dt_of I.hok hd
  obtain ⟨_, z2, ys, r2, M⟩ := dt_of I.hok ho
  have l1 := Paired.length r1
  have l2 := Paired.length r2
  refine call_meetsIn PySem.F.slot_dict_update D.typeIs PySem.F.entry_dict_update (PySem.F.args_dict_update_2 _ _) (meets_update_tup (mixKind X.prog X.w) d o ne z2) ⟨tupleKind_room_in1 hu, xs, ys, D, M, by omega, fun a ha b hb e => ?_, fun h2 D2 sb => ?_⟩
  · refine apart X.prog X.w _ ?_ _ ?_ e
    · rw [← r2.mem]; exact List.mem_map.mpr ⟨a, ha, rfl⟩
    · rw [← r2.mem]; exact List.mem_map.mpr ⟨b, hb, rfl⟩
  have small2 : (mergeT kvs more).length ≤ sizeLine := Nat.le_trans (length_mergeT more kvs) small
  obtain ⟨ob, es, ep, g1, g2, g3, g4, _, g5⟩ := D2
  have new : ObjOk X.prog X.w (upd H d (.dT (mergeT kvs more))) h2 d (.dT (mergeT kvs more)) := by
    refine ⟨small2, z1, _, (r2.merge r1).keeps fun c zs ec => ?_, ob, es, ep, g1, g2, g3, g4, g5⟩
    rw [upd_ne (ne_of ec hd (fun z => nomatch z))]
    exact ec
  exact ⟨.non, _, d_write I (by rw [hd]; exact True.intro) sb ⟨ob, g1⟩ new, rfl, q⟩
end
end L2
namespace L2
open PySem PySem.Spec PyProof.Rows PySem.W
section
variable {prog : Program} {w : World} {A : Around} {E : Value → Shared → Prop} {s : Shared}
end
section
variable {X : Cx}
end
end L2
namespace L2
open PySem PySem.Spec PyProof.Rows PySem.W
def DEnt (h : Heap) (d : Addr) (ents : Array DictEntry) (ep : Nat) : Prop := ∃ o, h.get? d = some o ∧ o.ExactDict ∧ o.data = .dict ents ep
section
variable {prog : Program} {w : World} {A : Around} {E : Value → Shared → Prop} {s : Shared} {d it : Addr} {ents : Array DictEntry} {ep i : Nat}
theorem DEnt.ty (x : DEnt s.heap d ents ep) : s.TypeIs (.ref d) "dict" := by
  obtain ⟨o, g, e, _⟩ := x
  exact ⟨o, g, e.1⟩
theorem DEnt.lt {h : Heap} (x : DEnt h d ents ep) : d < h.objs.size := by
  obtain ⟨o, g, _⟩ := x
  exact Heap.lt_size g
theorem dent_iter {Q : Value → Shared → Prop} (lo : (d == sysModules) = false) (x : DEnt s.heap d ents ep)
    (fin : Q (.ref s.heap.objs.size) { s with heap := s.heap.push { cls := .type "dict_keyiterator", data := .fields #[.ref d, .int 0 0, .int ents.size 0, .int ep 0] } }) : wpAny (model prog w) A (pyIter (.ref d)) Q E s := by
  have ty := x.ty
  obtain ⟨o, g, ex, dat⟩ := x
  refine wpAny_pyIter_slot ty F.slot_dict_iter (wpAny_call_entry F.slot_dict_iter ty F.entry_dict_iter ?_ (F.args_dict_iter_1 _))
  unfold Builtin.«dict.__iter__» Builtin.Dict.dictSlotNone
  refine wpAny_bind (wpAny_bind (wpAny_notOrdered_dict ty (show wpAny _ _ (pure (Value.ref d)) _ _ s from wpAny_pure ?_)))
  show wpAny _ _ (Builtin.Dict.showsAll d >>= _) _ _ s
  unfold Builtin.Dict.showsAll
  rw [if_neg (by rw [lo]; exact Bool.false_ne_true)]
  refine wpAny_bind (wpAny_pure (wpAny_bind (wpAny_dictEntries g dat (wpAny_bind (wpAny_dictEpoch g dat ?_)))))
  refine wpAny_bind (wpAny_newObj_type (wpAny_pure ⟨_, rfl, "dict_keyiterator", _, ⟨_, Heap.get?_push_size _ rfl, rfl⟩, F.slot_dict_keyiterator_next.lookup, ?_⟩))
  simpa [rawInt] using fin
theorem dent_item {t : DictEntry} {Q : Option Value → Shared → Prop} (hI : s.heap.IsKeyIter it d i ents.size ep) (x : DEnt s.heap d ents ep) (at_i : ents[i]? = some t)
    (fin : ∀ h2, h2.IsKeyIter it d (i + 1) ents.size ep → Heap.SameBut it s.heap h2 → Q (some t.key) { s with heap := h2 }) : wpAny (model prog w) A (pyNext (.ref it)) Q E s := by
  obtain ⟨oi, gi, ci, di⟩ := id hI
  obtain ⟨od, gd, exd, dat⟩ := id x
  unfold pyNext
  refine wpAny_bind (wpAny_attempt (wpAny_callSpecial?_slot (name := Str.ofString "__next__") hI.typeIs F.slot_dict_keyiterator_next (wpAny_call_entry F.slot_dict_keyiterator_next hI.typeIs F.entry_dict_keyiterator_next ?_ (F.args_dict_keyiterator_next_1 _))))
  refine wpAny_bind (wpAny_pure (wpAny_bind (wpAny_bind ?_)))
  first | refine wpAny_bind (wpAny_typeNameOfWhole_keyiter hI.typeIs (wpAny_pure ?_)) | refine wpAny_bind (wpAny_typeNameOf_keyiter hI.typeIs (wpAny_pure ?_))
  refine wpAny_bind (wpAny_fieldsOf gi di ?_)
  have own0 : Builtin.Dict_items.ownsTuple "dict_keyiterator" = false := by decide
  simp only [own0, Bool.false_eq_true, if_false]
  show wpAny _ _ (if (Value.ref d == Value.none) = true then _ else _) _ _ s
  rw [if_neg (show ¬ ((Value.ref d == Value.none) = true) from Bool.false_ne_true)]
  refine wpAny_bind (wpAny_pure (wpAny_bind (wpAny_dictEntries gd dat ?_)))
  rw [if_neg (by simp)]
  refine wpAny_bind (wpAny_pure (wpAny_bind (wpAny_dictEpoch gd dat ?_)))
  rw [if_neg (by simp)]
  refine wpAny_pure ?_
  simp only [show ¬ ((i : Int) < 0) from by omega, if_false, Int.toNat_natCast, at_i]
  refine wpAny_bind ?_
  first | refine wpAny_bind (wpAny_typeNameOfWhole_keyiter hI.typeIs (wpAny_pure ?_)) | refine wpAny_bind (wpAny_typeNameOf_keyiter hI.typeIs (wpAny_pure ?_))
  refine wpAny_bind (wpAny_isOneOf_keyiter hI.typeIs ?_)
  show wpAny _ _ (setField (.ref it) 1 (rawInt ((i : Int) + 1)) >>= _) _ _ s
  refine wpAny_bind (wpAny_setField gi di (by simp) ?_)
  have hI2 : (s.heap.update it (Obj.mapFields (·.setIfInBounds 1 (rawInt ((i : Int) + 1))))).IsKeyIter it d (i + 1) ents.size ep := by
    refine ⟨_, Heap.get?_update_self _ gi (Obj.isFreed_of_fields (Obj.data_mapFields di _)), (Obj.cls_mapFields ..).trans ci, ?_⟩
    rw [Obj.data_mapFields di]; simp [rawInt]
  refine wpAny_bind (wpAny_holding (wpAny_bind (wpAny_isOneOf_keyiter (s := { s with heap := s.heap.update it (Obj.mapFields (·.setIfInBounds 1 (rawInt ((i : Int) + 1)))) }) hI2.typeIs ?_)))
  show wpAny _ _ (pure t.key) _ _ _
  exact wpAny_pure (wpAny_pure ⟨_, rfl, wpAny_pure (fin _ hI2 (Heap.SameBut.update ..))⟩)
theorem dent_end {Q : Option Value → Shared → Prop} (hh : A.handled = none) (hI : s.heap.IsKeyIter it d ents.size ents.size ep) (x : DEnt s.heap d ents ep) (fin : ∀ h2, Heap.ExtBut it s.heap h2 → Q none { s with heap := h2 }) : wpAny (model prog w) A (pyNext (.ref it)) Q E s := by
  obtain ⟨oi, gi, ci, di⟩ := id hI
  obtain ⟨od, gd, exd, dat⟩ := id x
  unfold pyNext
  refine wpAny_bind (wpAny_attempt (wpAny_callSpecial?_slot (name := Str.ofString "__next__") hI.typeIs F.slot_dict_keyiterator_next (wpAny_call_entry F.slot_dict_keyiterator_next hI.typeIs F.entry_dict_keyiterator_next ?_ (F.args_dict_keyiterator_next_1 _))))
  refine wpAny_bind (wpAny_pure (wpAny_bind (wpAny_bind ?_)))
  first | refine wpAny_bind (wpAny_typeNameOfWhole_keyiter hI.typeIs (wpAny_pure ?_)) | refine wpAny_bind (wpAny_typeNameOf_keyiter hI.typeIs (wpAny_pure ?_))
  refine wpAny_bind (wpAny_fieldsOf gi di ?_)
  have own0 : Builtin.Dict_items.ownsTuple "dict_keyiterator" = false := by decide
  simp only [own0, Bool.false_eq_true, if_false]
  show wpAny _ _ (if (Value.ref d == Value.none) = true then _ else _) _ _ s
  rw [if_neg (show ¬ ((Value.ref d == Value.none) = true) from Bool.false_ne_true)]
  refine wpAny_bind (wpAny_pure (wpAny_bind (wpAny_dictEntries gd dat ?_)))
  rw [if_neg (by simp)]
  refine wpAny_bind (wpAny_pure (wpAny_bind (wpAny_dictEpoch gd dat ?_)))
  rw [if_neg (by simp)]
  refine wpAny_pure ?_
  simp only [show ¬ (((ents.size : Nat) : Int) < 0) from by omega, if_false, Int.toNat_natCast, Array.getElem?_eq_none (Nat.le_refl _)]
  refine wpAny_bind ?_
  first | refine wpAny_bind (wpAny_typeNameOfWhole_keyiter hI.typeIs (wpAny_pure ?_)) | refine wpAny_bind (wpAny_typeNameOf_keyiter hI.typeIs (wpAny_pure ?_))
  show wpAny _ _ (setField (.ref it) 0 .none >>= _) _ _ s
  refine wpAny_bind (wpAny_setField gi di (by simp) ?_)
  show wpAny _ _ (newExc (.type "StopIteration") [] >>= _) _ _ _
  refine wpAny_bind ?_
  simp only [newExc, newTuple]
  refine wpAny_bind (wpAny_newObj_type ?_ (by size_fits))
  refine wpAny_bind (m := firstArgMember _ _) (wpAny_of_eq (a := Value.none) (by first | rfl | (simp only [firstArgMember]; rfl)) ?_)
  refine wpAny_newObj_type ?_ (by size_fits)
  simp only [raiseNew]
  refine wpAny_bind (wpAny_handled ?_)
  rw [show A.in1.handled = none from hh]
  refine wpAny_bind (wpAny_pure (wpAny_throw ?_))
  refine wpAny_bind (wpAny_isInstance (T := "StopIteration") (b := true) ⟨_, Heap.get?_push_size _ rfl, rfl⟩ isSubtype_stop ?_)
  exact wpAny_pure (fin _ (((Heap.SameBut.update ..).extBut.push _).push _))
theorem dent_walk (hh : A.handled = none) (ne : d ≠ it) : Walks prog w A it [it, d] [it] ents.size (fun i v => ∃ t, ents[i]? = some t ∧ v = t.key) (fun i h => h.IsKeyIter it d i ents.size ep ∧ DEnt h d ents ep) where
  sub := fun b hb => by simp at hb; simp [hb]
  frame := fun _ h h2 st k => by
    obtain ⟨⟨oi, gi, ri⟩, od, gd, rd⟩ := st
    exact ⟨⟨oi, k it (by simp) oi gi, ri⟩, od, k d (by simp) od gd, rd⟩
  item := fun i s Q E hi st fin => by
    refine dent_item st.1 st.2 (Array.getElem?_eq_getElem hi) fun h2 I2 sb => ?_
    obtain ⟨od, gd, rd⟩ := st.2
    refine fin _ h2 s.toks ⟨_, Array.getElem?_eq_getElem hi, rfl⟩ ⟨I2, od, sb.extBut d od ne gd, rd⟩ fun b o hb e => sb.extBut b o (fun z => hb (by simp [z])) e
  done := fun s Q E st fin => dent_end hh st.1 st.2 fun h2 he => fin h2 s.toks fun b o hb e => he b o (fun z => hb (by simp [z])) e
  self := fun _ _ _ _ st fin => wpAny_pyIter_keyiter st.1 fin
theorem dent_src (lo : (d == sysModules) = false) : KdlSrc prog w "dict" d d ents.size (fun i v => ∃ t, ents[i]? = some t ∧ v = t.key) (fun h => DEnt h d ents ep) where
  type := fun _ x => x.ty
  there := fun _ x => ⟨x.lt, x.lt⟩
  keep := fun _ _ x k => by
    obtain ⟨o, g, r⟩ := x
    exact ⟨o, k d (.inl rfl) o g, r⟩
  notList := by decide
  notTuple := by decide
  hint := fun _ _ _ _ x q => kdl_hint_dict x.ty q
  iter := fun _ _ hh x => ⟨_, _, (fun _ _ q => dent_iter lo x q), dent_walk hh (Nat.ne_of_lt x.lt), ⟨⟨_, Heap.get?_push_size _ rfl, rfl, rfl⟩, by
    obtain ⟨o, g, r⟩ := x
    exact ⟨o, Heap.get?_push_of_some _ g, r⟩⟩⟩
theorem sorted_dent {Q : Value → Shared → Prop} (hh : A.handled = none) (lo : (d == sysModules) = false) (x : DEnt s.heap d ents ep) (h64 : ents.size < 64)
    (fin : ∀ (h1 : Heap) (tk : Nat), (∀ b o, s.heap.get? b = some o → h1.get? b = some o) → (h1.push (seqObj "list" (ents.toList.map (·.key)).toArray 0)).get? h1.objs.size = some (seqObj "list" (ents.toList.map (·.key)).toArray 0) →
      wpAny (model prog w) A.in1.in1 (Builtin.«list.sort» ⟨[.ref h1.objs.size], []⟩) (fun fn s2 => ∃ v, fn = .done (.ret v) ∧ Q (.ref h1.objs.size) s2) E { s with heap := h1.push (seqObj "list" (ents.toList.map (·.key)).toArray 0), toks := tk }) :
    wpAny (model prog w) A (call (.builtin "sorted") [.ref d]) Q E s := by
  refine Calls.call_function_entry kind_sorted plain_sorted entry_sorted (args_sorted1 _) ?_
  unfold Builtin.«sorted»
  refine wpAny_bind (m := checkCount "sorted" 1 1 _) (wpAny_pure ?_)
  refine wpAny_bind (kdu_collect (A := A.in1) (dent_src lo) hh x (by rw [sizeLine_eq]; omega) fun h1 tk acc keep its => ?_)
  have e : acc.toList = ents.toList.map (·.key) := by
    refine List.ext_getElem? fun j => ?_
    rw [List.getElem?_map, Array.getElem?_toList, Array.getElem?_toList]
    by_cases hj : j < ents.size
    · have hj2 : j < acc.size := by rw [its.1]; exact hj
      obtain ⟨t, e1, e2⟩ := its.2 j _ (Array.getElem?_eq_getElem hj2)
      rw [Array.getElem?_eq_getElem hj2, e1, e2]; rfl
    · have hj2 : ¬ j < acc.size := by rw [its.1]; exact hj
      rw [Array.getElem?_eq_none (Nat.not_lt.mp hj2), Array.getElem?_eq_none (Nat.not_lt.mp hj)]; rfl
  rw [e]
  refine wpAny_bind (wpAny_newList ?_ (by rw [List.length_map, Array.length_toList, sizeLine_eq]; omega))
  have new : (h1.push (seqObj "list" (ents.toList.map (·.key)).toArray 0)).get? h1.objs.size = some (seqObj "list" (ents.toList.map (·.key)).toArray 0) := Heap.get?_push_size _ rfl
  refine wpAny_bind (wpAny_holding (wpAny_call_entry slot_list_sort ⟨_, new, rfl⟩ entry_list_sort (wpAny_mono (fin h1 tk keep new) (fun fn s2 hq => ?_) fun _ _ z => z) (args_list_sort _)))
  obtain ⟨v, rfl, q⟩ := hq
  exact ⟨_, rfl, wpAny_pure ⟨_, rfl, q⟩⟩
end
end L2
namespace L2
open PySem PySem.Spec PyProof.Rows PySem.W
abbrev PII := Addr × Int × Int
def PairZ (h : Heap) (t : PII) : Prop := ∃ (u v : Tok), h.IsTuple t.1 [Value.int t.2.1 u, Value.int t.2.2 v].toArray
theorem PairZ.keeps {h h' : Heap} {t : PII} (k : ∀ b o, h.get? b = some o → h'.get? b = some o) (x : PairZ h t) : PairZ h' t := by
  obtain ⟨u, v, z⟩ := x
  exact ⟨u, v, IsTuple.keeps k z⟩
theorem pairZ_tups {h : Heap} : ∀ {ts : List PII}, (∀ t ∈ ts, PairZ h t) → ∃ fs : List Value, KatTups h (ts.map fun t => Value.ref t.1) fs ∧ (∀ v ∈ fs, ∃ x t, v = Value.int x t) ∧ fs.length = ts.length
  | [], _ => ⟨[], KatTups.nil, fun v hv => (nomatch hv), rfl⟩
  | t :: r, ht => by
    obtain ⟨u, v, ⟨o, go, gc, n, gd⟩⟩ := ht t List.mem_cons_self
    obtain ⟨fs, h1, h2, h3⟩ := pairZ_tups fun x hx => ht x (List.mem_cons_of_mem _ hx)
    refine ⟨Value.int t.2.1 u :: fs, KatTups.cons go gc gd rfl h1, fun z hz => ?_, by simp [h3]⟩
    rcases List.mem_cons.mp hz with rfl | hz
    · exact ⟨_, _, rfl⟩
    · exact h2 z hz
section
variable {prog : Program} {w : World} {A : Around} {E : Value → Shared → Prop} {s : Shared}
theorem pairZ_lt {t u : PII} {C : Bool → Shared → Prop} (ht : PairZ s.heap t) (hu : PairZ s.heap u) (h : C (HT.lexLt [t.2.1, t.2.2] [u.2.1, u.2.2]) s) : wpAny (model prog w) A (keyLt' (tuples' true) (.ref t.1) (.ref u.1)) C E s := by
  obtain ⟨a1, a2, ⟨ox, gx, cx, nx, dx⟩⟩ := ht
  obtain ⟨b1, b2, ⟨oy, gy, cy, ny, dy⟩⟩ := hu
  refine kat_lt gx dx gy dy ?_
  show KatLex prog w A true (decide (2 < 2)) C [(Value.int t.2.1 a1, Value.int u.2.1 b1), (Value.int t.2.2 a2, Value.int u.2.2 b2)] 0 s
  refine kat_cons (wpAny_eqBool_int (kat_go (fun e => ?_) fun e => ?_))
  · have e1 : t.2.1 = u.2.1 := by simpa using e
    rw [HT.lexLt_cons, if_pos e1] at h
    refine kat_yes (kat_cons (wpAny_eqBool_int (kat_go (fun e => ?_) fun e => ?_)))
    · have e2 : t.2.2 = u.2.2 := by simpa using e
      rw [HT.lexLt_cons, if_pos e2] at h
      exact kat_yes (kat_nil h)
    · have e2 : ¬ t.2.2 = u.2.2 := by simpa using e
      rw [HT.lexLt_cons, if_neg e2] at h
      exact kat_no (kat_one _ _ (wpAny_lt_int h))
  · have e1 : ¬ t.2.1 = u.2.1 := by simpa using e
    rw [HT.lexLt_cons, if_neg e1] at h
    exact kat_no (oneLt_int h)
theorem sort_pairZ {a : Addr} {ts : List PII} {n : Nat} {P : PySem.Fin → Shared → Prop} (ho : s.heap.get? a = some (seqObj "list" (ts.map fun t => Value.ref t.1).toArray n)) (ht : ∀ t ∈ ts, PairZ s.heap t)
    (h64 : ts.length < 64) (h : ∀ out : List PII, out.Perm ts → P (.done (.ret .none)) { s with heap := sortedHeap s.heap a (ts.map fun t => Value.ref t.1) (out.map fun t => Value.ref t.1).toArray }) :
    wpAny (model prog w) A (Builtin.«list.sort» ⟨[.ref a], []⟩) P E s := by
  let d : PII := (0, 0, 0)
  have gd : ∀ i, i < ts.length → (ts.map fun t => Value.ref t.1).getD i Value.none = .ref (ts.getD i d).1 := fun i hi => by simp [List.getD_eq_getElem?_getD, hi]
  have md : ∀ i, i < ts.length → ts.getD i d ∈ ts := fun i hi => by simp [List.getD_eq_getElem?_getD, hi]
  have hk : ∀ (s' : Shared), (∀ b o, b ≠ a → s.heap.get? b = some o → s'.heap.get? b = some o) → ∀ t ∈ ts, PairZ s'.heap t := fun s' hs t htm => by
    obtain ⟨u, v, ⟨o, go, gc, gn, gdd⟩⟩ := ht t htm
    have hne : t.1 ≠ a := fun z => by
      rw [z, ho] at go
      cases go
      exact absurd (Value.type.inj gc) (by decide)
    exact ⟨u, v, ⟨o, hs _ _ hne go, gc, gn, gdd⟩⟩
  have ek : (Value.type "int" != Value.type "tuple") = true := by decide +kernel
  refine sort_gen lexOrd (fun i => [(ts.getD i d).2.1, (ts.getD i d).2.2]) (tuples' true) ho (by simpa using h64) (fun s' Q' hs h2 hq => ?_) (fun s' i j C hs hi hj hC => ?_) fun pp o1 o2 => ?_
  · obtain ⟨fs, f1, f2, f3⟩ := pairZ_tups (hk s' hs)
    refine kat_kind (T := .type "int") f1 (by rw [f3]; rw [List.length_map] at h2; omega) (fun v hv => ?_) (by decide +kernel) (by rw [ek]; exact hq)
    obtain ⟨x, t, rfl⟩ := f2 v hv
    exact .now
  · rw [List.length_map] at hi hj
    rw [gd i hi, gd j hj]
    exact pairZ_lt (hk s' hs _ (md i hi)) (hk s' hs _ (md j hj)) hC
  · rw [List.length_map] at o1 o2
    have em : (pp.toList.map fun i => (ts.map fun t => Value.ref t.1).getD i Value.none) = (pp.toList.map fun i => ts.getD i d).map fun t => Value.ref t.1 := by
      rw [List.map_map]
      refine List.map_congr_left fun i hi => ?_
      exact gd i (List.mem_range.mp (o1.mem_iff.mp hi))
    rw [em]
    obtain ⟨w1, _⟩ := out_gen (O := lexOrd) (ts := ts) (d := d) (key := fun t => [t.2.1, t.2.2]) o1 o2
    exact h _ w1
end
section
variable {X : Cx}
theorem call_sortedDT (hc : X.calm = true) : CallR X (.builtin "sorted") (fun xs H Q => ∃ (d : Addr) (kvs : List (List Key × V)) (cs : List (Int × Int)), xs = [.ref d] ∧ H d = some (.dT kvs) ∧ kvs.map (·.1) = cs.map (fun c => [Sum.inl c.1, Sum.inl c.2]) ∧ cs.length < 64 ∧
    ∀ (out : List PII) p, (out.map (·.2)).Perm cs → (∀ t ∈ out, H t.1 = some (.tup [.int t.2.1, .int t.2.2])) → H p = none → Q (.ref p) (upd H p (.lst (out.map fun t => V.ref t.1)))) := by
  intro pins s σ H xs us Q I r h
  obtain ⟨d, kvs, cs, rfl, hd, hk, h64, q⟩ := h
  cases r with
  | cons r rr =>
    cases rr
    obtain rfl : _ = Value.ref d := r
    obtain ⟨z, lo, ys, rkv, hD⟩ := dt_of I.hok hd
    have hkeys := rkv.mem
    have hlen : kvs.length = cs.length := by have := congrArg List.length hk; simpa using this
    have hly := Paired.length rkv
    obtain ⟨o, ents, ep, g1, g2, g3, g4, g5, g6⟩ := hD
    have hes : ents.size = ys.length := size_of_entries g4
    have hts : ∃ ts : List PII, ents.toList.map (·.key) = (ts.map fun t => Value.ref t.1) ∧ ts.map (·.2) = cs ∧ ∀ t ∈ ts, H t.1 = some (.tup [.int t.2.1, .int t.2.2]) := by
      rw [g4, List.map_map]
      clear g4 g5 g6 hes hly z hd hlen h64 q
      induction rkv generalizing cs with
      | nil =>
        cases cs with
        | nil => exact ⟨[], rfl, rfl, fun t ht => (nomatch ht)⟩
        | cons _ _ => cases hk
      | @cons p y ps ys h t ih =>
        cases cs with
        | nil => cases hk
        | cons c cs =>
          rw [List.map_cons, List.map_cons] at hk
          injection hk with k1 k2
          rw [List.map_cons, List.map_cons] at hkeys
          injection hkeys with k3 k4
          obtain ⟨ts, e1, e2, e3⟩ := ih cs k2 k4
          refine ⟨(y.2.1, c.1, c.2) :: ts, by rw [List.map_cons, List.map_cons, e1]; rfl, by rw [List.map_cons, e2], fun t ht => ?_⟩
          rcases List.mem_cons.mp ht with rfl | ht
          · have := h.2.1
            rw [k1] at this
            exact this
          · exact e3 t ht
    obtain ⟨ts, e1, e2, e3⟩ := hts
    have htl : ts.length = cs.length := by have := congrArg List.length e2; simpa using this
    have hP : ∀ t ∈ ts, PairZ s.heap t := fun t ht => by
      obtain ⟨its, r1, p1, _⟩ := I.tuple (SqT.of (K := X.K) (e3 t ht))
      obtain ⟨u, v, rfl, ru, rv⟩ := r1.two
      obtain ⟨t1, rfl⟩ := (show ∃ tk, u = Value.int _ tk from ru)
      obtain ⟨t2, rfl⟩ := (show ∃ tk, v = Value.int _ tk from rv)
      exact ⟨t1, t2, p1⟩
    refine sorted_dent (I.ok.hd hc) lo ⟨o, g1, g2, g3⟩ (by omega) fun h1 tk keep new => ?_
    rw [e1] at new ⊢
    have I1 : Inv X pins σ H { s with heap := h1, toks := tk } := I.kept keep
    refine sort_pairZ new (fun t ht => (hP t ht).keeps fun b o e => Heap.get?_push_of_some _ (keep b o e)) (by omega) fun out hperm => ⟨_, rfl, ?_⟩
    have hfr : H h1.objs.size = none := I1.hok.fresh (Nat.le_refl _)
    obtain ⟨e, he⟩ := sortedHeap_at (vs := ts.map fun t => Value.ref t.1) (out := (out.map fun t => Value.ref t.1).toArray) new
    refine ⟨.ref h1.objs.size, _, I1.laid (t' := tk) (o := .lst (out.map fun t => V.ref t.1)) (fun b o g => ?_) (Nat.le_refl _) ?_, rfl, q out _ (by rw [← e2]; exact hperm.map _) (fun t ht => e3 t (hperm.mem_iff.mp ht)) hfr⟩
    · have hlt : b < h1.objs.size := Heap.lt_size g
      exact (sortedHeap_old (Nat.ne_of_lt hlt) (by rw [size_push']; exact Nat.lt_succ_of_lt hlt)).trans (Heap.get?_push_of_some _ g)
    · exact ⟨by rw [List.length_map, hperm.length_eq, sizeLine_eq]; omega, _, e, mapF_vals out, he⟩
end
end L2
namespace L2
open PySem
def SameX (x : Addr) (H H' : Hp) : Prop := ∀ b u, b ≠ x → H b = some u → H' b = some u
theorem SameX.refl (x : Addr) (H : Hp) : SameX x H H := fun _ _ _ e => e
theorem SameX.trans {x : Addr} {H H1 H2 : Hp} (a : SameX x H H1) (b : SameX x H1 H2) : SameX x H H2 := fun c u n e => b c u n (a c u n e)
theorem SameX.of {x : Addr} {H H' : Hp} (h : Same H H') : SameX x H H' := fun b u _ e => h b u e
theorem SameX.upd {x : Addr} {H : Hp} {o : HO} : SameX x H (upd H x o) := fun b u n e => by rw [upd_ne n]; exact e
structure InsAt (H : Hp) (x : Addr) : Prop where
  ex : ∃ C dx fs, H x = some (.ins C dx fs)
theorem InsAt.seqT {K : PySem.W.Frag} {x : Addr} {H H' : Hp} {a : Addr} {xs : List V} (i : InsAt H x) (g : SameX x H H') (h : SqT K H a xs) : SqT K H' a xs := by
  obtain ⟨C, dx, fs, hx⟩ := i.ex
  rcases h with (h | ⟨o, h⟩) | h
  · exact .inl (.inl (g _ _ (ne_of h hx (by intro z; cases z)) h))
  · exact .inl (.inr ⟨o, g _ _ (ne_of h hx (by intro z; cases z)) h⟩)
  · exact .inr h
theorem InsAt.seq {K : PySem.W.Frag} {x : Addr} {H H' : Hp} {a : Addr} {xs : List V} (i : InsAt H x) (g : SameX x H H') (h : SqL K H a xs) : SqL K H' a xs := by
  obtain ⟨C, dx, fs, hx⟩ := i.ex
  rcases h with (h | ⟨o, h⟩) | h
  · exact .inl (.inl (g _ _ (ne_of h hx (by intro z; cases z)) h))
  · exact .inl (.inr ⟨o, g _ _ (ne_of h hx (by intro z; cases z)) h⟩)
  · exact .inr h
theorem InsAt.lst {x : Addr} {H H' : Hp} {a : Addr} {xs : List V} (i : InsAt H x) (g : SameX x H H') (h : H a = some (.lst xs)) : H' a = some (.lst xs) := by
  obtain ⟨C, dx, fs, hx⟩ := i.ex
  exact g _ _ (ne_of h hx (by intro z; cases z)) h
theorem InsAt.dT {x : Addr} {H H' : Hp} {a : Addr} {xs : List (List Key × V)} (i : InsAt H x) (g : SameX x H H') (h : H a = some (.dT xs)) : H' a = some (.dT xs) := by
  obtain ⟨C, dx, fs, hx⟩ := i.ex
  exact g _ _ (ne_of h hx (by intro z; cases z)) h
end L2
namespace ST
open PySem TM TT L2 K11 K9
theorem ModesL.insX {K : PySem.W.Frag} {H H' : Hp} {x lm : Addr} {ms : List MdT} (i : InsAt H x) (g : SameX x H H') (h : ModesL K H lm ms) : ModesL K H' lm ms :=
  ⟨i.seq g h.1, fun m hm => ⟨i.seqT g (h.2 m hm).1, i.seq g (h.2 m hm).2.1, (h.2 m hm).2.2.mono fun _ _ => i.seqT g⟩⟩
def rlOf (ks : List KdT) (ms : List MdT) : Rls := ms.map fun m => rlsOf (rowsK ks m.2.1) m.2.2.2.2
theorem ext_look {S T : List Stp} (hl : S.length = T.length) (h : ∀ m : Nat, lookS S (m : Int) = lookS T (m : Int)) : S = T := by
  refine List.ext_getElem? fun m => ?_
  have e := h m
  unfold lookS at e
  rw [Int.toNat_natCast] at e
  by_cases hm : m < S.length
  · have hm2 : m < T.length := by omega
    rw [List.getElem?_eq_getElem hm, List.getElem?_eq_getElem hm2] at e ⊢
    exact congrArg some e
  · rw [List.getElem?_eq_none (by omega), List.getElem?_eq_none (by omega)]
structure RlAt (ms : List MdT) (rl : Rls) : Prop where
  ok : RlsOk rl
  len : rl.length = ms.length
  fwd : ∀ c ∈ ixUp ms ms.length, ∀ t, ruleAt ms c = some t → ∃ rs b, rl[c.1.toNat]? = some rs ∧ (b, t) ∈ rs
  bwd : ∀ (m : Nat) rs, rl[m]? = some rs → ∀ r ∈ rs, ∃ c ∈ ixUp ms ms.length, c.1 = (m : Int) ∧ ruleAt ms c = some r.2
theorem look_next {rl : Rls} {n m : Nat} {rs : List (Bool × Tm)} (h : rl[m]? = some rs) : lookS (D rl (n + 1)) (m : Int) = nextS (D rl n) rs := by
  show lookS (rl.map (nextS (D rl n))) (m : Int) = _
  rw [lookS_map, Int.toNat_natCast, h]
  rfl
theorem next_bel {ms : List MdT} {rl : Rls} (R : RlAt ms rl) {n : Nat} {c : Int × Int} {t : Tm} (hc : c ∈ ixUp ms ms.length) (ht : ruleAt ms c = some t) : Bel (lookS (D rl (n + 1)) c.1) (rsT (lookS (D rl n)) t) := by
  obtain ⟨rs, b, h1, h2⟩ := R.fwd c hc t ht
  obtain ⟨m, j, rfl, hm, hj⟩ := ixUp_mem.mp hc
  rw [show ((m : Int), (j : Int)).1.toNat = m from Int.toNat_natCast m] at h1
  show Bel (lookS (D rl (n + 1)) (m : Int)) _
  rw [look_next h1]
  exact metA_bel (List.mem_map.mpr ⟨_, h2, rfl⟩)
theorem is_next {ms : List MdT} {rl : Rls} (R : RlAt ms rl) {n : Nat} {T : List Stp} (hl : T.length = rl.length) (h2 : ∀ m : Nat, Bel (lookS (D rl (n + 1)) (m : Int)) (lookS T (m : Int)))
    (h3 : ∀ c ∈ ixUp ms ms.length, ∀ t, ruleAt ms c = some t → Bel (lookS T c.1) (rsT (lookS (D rl n)) t)) : T = D rl (n + 1) := by
  refine ext_look (by rw [hl, D_len]) fun m => ?_
  by_cases hm : m < rl.length
  · have hr := List.getElem?_eq_getElem hm
    have up : Bel (lookS T (m : Int)) (nextS (D rl n) rl[m]) := by
      obtain ⟨⟨r0, hr0, _⟩, _⟩ := R.ok rl[m] (List.getElem_mem hm)
      refine bel_metA (fun z => ?_) fun y hy => ?_
      · have := congrArg List.length z
        rw [List.length_map] at this
        have := List.length_pos_of_mem hr0
        simp_all
      · obtain ⟨r, hr', rfl⟩ := List.mem_map.mp hy
        obtain ⟨c, hc, e, ht⟩ := R.bwd m _ hr r hr'
        have := h3 c hc r.2 ht
        rw [e] at this
        exact this
    rw [← look_next (n := n) hr] at up
    exact Bel.anti up (h2 m)
  · have e1 : lookS T (m : Int) = .op := by unfold lookS; rw [Int.toNat_natCast, List.getElem?_eq_none (by omega)]; rfl
    have e2 : lookS (D rl (n + 1)) (m : Int) = .op := by unfold lookS; rw [Int.toNat_natCast, List.getElem?_eq_none (by rw [D_len]; omega)]; rfl
    rw [e1, e2]
theorem none_wait {ms : List MdT} {rl : Rls} (R : RlAt ms rl) {n : Nat} (h : ∀ c ∈ ixUp ms ms.length, ∀ t, ruleAt ms c = some t → Bel (lookS (D rl n) c.1) (rsT (lookS (D rl n)) t)) : D rl (n + 1) = D rl n :=
  (is_next R (T := D rl n) (D_len _ _) (fun m => D_bel R.ok n m) h).symm
end ST
namespace ST
open PySem TM TT L2 K11 K9
theorem fold_ok {k : Nat} : ∀ (l : List Stp) (x : Stp), SOk x ∧ sl x ≤ k → SOk (l.foldl met x) ∧ sl (l.foldl met x) ≤ k
  | [], x, h => h
  | y :: r, x, h => by
    obtain ⟨o1, o2⟩ := met_ok x y h.1
    exact fold_ok r (met x y) ⟨o1, by omega⟩
theorem metA_ok {k : Nat} {l : List Stp} (hne : l ≠ []) (h : ∀ y ∈ l, SOk y ∧ sl y ≤ k) : SOk (metA l) ∧ sl (metA l) ≤ k := by
  cases l with
  | nil => exact absurd rfl hne
  | cons x r => exact fold_ok r x (h x List.mem_cons_self)
theorem look_at {S : List Stp} {m : Nat} {s : Stp} (h : S[m]? = some s) : lookS S (m : Int) = s := by
  unfold lookS
  rw [Int.toNat_natCast, h]; rfl
theorem D_ok {rl : Rls} (ok : RlsOk rl) {k : Nat} (h : ∀ s ∈ D rl 0, SOk s ∧ sl s ≤ k) : ∀ n, ∀ s ∈ D rl n, SOk s ∧ sl s ≤ k
  | 0 => h
  | n + 1 => fun s hs => by
    obtain ⟨m, hm, e⟩ := List.getElem_of_mem hs
    have e1 := look_at ((List.getElem?_eq_getElem hm).trans (congrArg some e))
    have hm2 : m < (D rl n).length := by rw [D_len] at hm ⊢; exact hm
    have e2 := look_at (List.getElem?_eq_getElem hm2)
    have b := D_bel ok n (m : Int)
    rw [e1, e2] at b
    obtain ⟨i1, i2⟩ := D_ok ok h n _ (List.getElem_mem hm2)
    obtain ⟨o1, o2⟩ := met_ok (D rl n)[m] s i1
    rw [met_comm] at o1 o2
    have b' : met s (D rl n)[m] = s := b
    rw [b'] at o1 o2
    exact ⟨o1, by omega⟩
theorem WoodAt.insX {K : PySem.W.Frag} {H H' : Hp} {x wd : Addr} {ks : List KdT} (i : InsAt H x) (g : SameX x H H') (h : WoodAt K H wd ks) : WoodAt K H' wd ks :=
  ⟨i.seq g h.1, fun k hk => ⟨i.seqT g (h.2 k hk).1, i.seq g (h.2 k hk).2.1, fun t ht => ⟨i.seqT g ((h.2 k hk).2.2 t ht).1, i.seqT g ((h.2 k hk).2.2 t ht).2⟩⟩⟩
end ST
namespace K33
open PySem L2 TM TT ST K9 K11
abbrev sInit : Stmt := inClass (top 14) 0
abbrev sIsLast : Stmt := inClass (top 14) 1
abbrev sGoOn : Stmt := inClass (top 14) 2
structure TuOk (ks : List KdT) (ms : List MdT) : Prop where
  wo : WoodOk ks
  mo : MsOk ms
  kd : ∀ m ∈ ms, ∃ kd ∈ ks, kd.2.1 = m.2.1 ∧ m.2.2.2.2.length = kd.2.2.2.length ∧ (∃ r ∈ kd.2.2.2, r.2.2.2 = []) ∧ ∀ (j : Nat) (r : PNx) (t : Tm), kd.2.2.2[j]? = some r → m.2.2.2.2[j]? = some t → r.2.2.2 = [] → cls t = []
theorem TuOk.rows {ks : List KdT} {ms : List MdT} (T : TuOk ks ms) {m : MdT} (hm : m ∈ ms) : (rowsK ks m.2.1).length = m.2.2.2.2.length ∧ (∃ r ∈ rowsK ks m.2.1, r.2.2.2 = []) ∧ ∀ (j : Nat) (r : PNx) (t : Tm), (rowsK ks m.2.1)[j]? = some r → m.2.2.2.2[j]? = some t → r.2.2.2 = [] → cls t = [] := by
  obtain ⟨kd, hk, e, hl, hb, hf⟩ := T.kd m hm
  have er : rowsK ks m.2.1 = kd.2.2.2 := by rw [← e]; exact rowsK_at T.wo.nd hk
  rw [er]
  exact ⟨hl.symm, hb, hf⟩
theorem rls_at {rows : List PNx} {ts : List Tm} (hl : rows.length = ts.length) {j : Nat} {b : Bool} {t : Tm} : (rlsOf rows ts)[j]? = some (b, t) ↔ ts[j]? = some t ∧ ∃ r, rows[j]? = some r ∧ b = r.2.2.2.isEmpty := by
  unfold rlsOf
  rw [List.getElem?_zipWith]
  by_cases hj : j < ts.length
  · have hj2 : j < rows.length := by omega
    rw [List.getElem?_eq_getElem hj, List.getElem?_eq_getElem hj2]
    simp only [Option.some.injEq, Prod.mk.injEq, exists_eq_left']
    constructor
    · rintro ⟨rfl, rfl⟩; exact ⟨rfl, rfl⟩
    · rintro ⟨rfl, rfl⟩; exact ⟨rfl, rfl⟩
  · rw [List.getElem?_eq_none (by omega : ts.length ≤ j), List.getElem?_eq_none (by omega : rows.length ≤ j)]
    simp
theorem TuOk.rl {ks : List KdT} {ms : List MdT} (T : TuOk ks ms) : RlAt ms (rlOf ks ms) := by
  refine ⟨fun rs hrs => ?_, by unfold rlOf; rw [List.length_map], fun c hc t ht => ?_, fun m rs hm r hr => ?_⟩
  · obtain ⟨m, hm, rfl⟩ := List.mem_map.mp hrs
    obtain ⟨hl, ⟨r, hr, hb⟩, hf⟩ := T.rows hm
    constructor
    · obtain ⟨j, hj, e⟩ := List.getElem_of_mem hr
      have hjt : j < m.2.2.2.2.length := by omega
      refine ⟨(r.2.2.2.isEmpty, m.2.2.2.2[j]), List.mem_of_getElem? ((rls_at hl).mpr ⟨List.getElem?_eq_getElem hjt, r, by rw [← e]; exact List.getElem?_eq_getElem hj, rfl⟩), ?_⟩
      show r.2.2.2.isEmpty = true
      rw [hb]; rfl
    · rintro ⟨b, t⟩ hbt hb1
      obtain ⟨j, hj, e⟩ := List.getElem_of_mem hbt
      obtain ⟨h1, r', h2, h3⟩ := (rls_at hl).mp ((List.getElem?_eq_getElem hj).trans (congrArg some e))
      refine hf j r' t h2 h1 ?_
      have h4 : b = true := hb1
      rw [h3] at h4
      exact List.isEmpty_iff.mp h4
  · obtain ⟨m, j, x, t', rfl, hx, htj, hra⟩ := rule_at hc
    rw [hra] at ht
    obtain rfl := Option.some.inj ht
    obtain ⟨hl, _, _⟩ := T.rows (List.mem_of_getElem? hx)
    have hj : j < (rowsK ks x.2.1).length := by rw [hl]; exact (List.getElem?_eq_some_iff.mp htj).1
    refine ⟨rlsOf (rowsK ks x.2.1) x.2.2.2.2, _, ?_, List.mem_of_getElem? ((rls_at hl).mpr ⟨htj, _, List.getElem?_eq_getElem hj, rfl⟩)⟩
    show (rlOf ks ms)[((m : Int)).toNat]? = _
    unfold rlOf
    rw [Int.toNat_natCast, List.getElem?_map, hx]; rfl
  · unfold rlOf at hm
    rw [List.getElem?_map] at hm
    cases hx : ms[m]? with
    | none => rw [hx] at hm; cases hm
    | some x =>
      rw [hx] at hm
      obtain rfl : rlsOf (rowsK ks x.2.1) x.2.2.2.2 = rs := Option.some.inj hm
      obtain ⟨hl, _, _⟩ := T.rows (List.mem_of_getElem? hx)
      obtain ⟨j, hj, e⟩ := List.getElem_of_mem hr
      obtain ⟨b, t⟩ := r
      obtain ⟨h1, _⟩ := (rls_at hl).mp ((List.getElem?_eq_getElem hj).trans (congrArg some e))
      have hml : m < ms.length := (List.getElem?_eq_some_iff.mp hx).1
      have hjl : j < nRl ms m := by unfold nRl; rw [hx]; exact (List.getElem?_eq_some_iff.mp h1).1
      refine ⟨((m : Int), (j : Int)), ixUp_mem.mpr ⟨m, j, rfl, hml, hjl⟩, rfl, ?_⟩
      unfold ruleAt
      simp only [Int.toNat_natCast]
      rw [hx]; exact h1
structure DsAt (H : Hp) (l : Addr) (ms : List MdT) (ds : DsT) : Prop where
  li : H l = some (.lst (ds.map fun d => V.ref d.1))
  len : ds.length = ms.length
  dat : ∀ d ∈ ds, H d.1 = some (.dT d.2)
  nd : ∀ d ∈ ds, (d.2.map (·.1)).Nodup
  kin : ∀ d ∈ ds, ∀ q ∈ d.2, (∃ c ∈ ixUp ms ms.length, q.1 = kk c) ∧ q.2 = V.bl true
  all : ∀ c ∈ ixUp ms ms.length, ∀ t, ruleAt ms c = some t → ∀ y ∈ cls t, ∀ d, ds[y.1.toNat]? = some d → kk c ∈ d.2.map (·.1)
theorem CBs.ds {H0 H : Hp} {l : Addr} {ms : List MdT} {ds : DsT} (h : CBs H0 H l ms ds ((ixUp ms ms.length).flatMap (pairsOf ms))) : DsAt H l ms ds :=
  ⟨h.li, h.len, h.dat, h.nd, h.kin, fun c hc t ht y hy d hd => h.all (c, y.1) (List.mem_flatMap.mpr ⟨c, hc, by unfold pairsOf; rw [ht]; exact List.mem_map.mpr ⟨y, hy, rfl⟩⟩) d hd⟩
theorem DsAt.insX {H H' : Hp} {x l : Addr} {ms : List MdT} {ds : DsT} (i : InsAt H x) (g : SameX x H H') (h : DsAt H l ms ds) : DsAt H' l ms ds :=
  ⟨i.lst g h.li, h.len, fun d hd => i.dT g (h.dat d hd), h.nd, h.kin, h.all⟩
def flds (lm lc ls lw : Addr) : List (Str × V) := [("modes", .ref lm), ("callers", .ref lc), ("stumps", .ref ls), ("waiting", .ref lw)]
structure StgAt (K : PySem.W.Frag) (C : Addr) (H : Hp) (x lm : Addr) (ms : List MdT) (rl : Rls) (n : Nat) (ls : Addr) (us : List V) (W : List (Int × Int)) (lc lw : Addr) : Prop where
  ob : ∃ (dx : Addr) (ds : DsT) (ts : List (Addr × List Int)), H x = some (.ins C dx (flds lm lc ls lw)) ∧ DsAt H lc ms ds ∧ H lw = some (.lst (Rf ts)) ∧ TsAt K H ts ∧ ts.map (·.2) = W.map pr
  mo : ModesL K H lm ms
  sl : H ls = some (.lst us)
  sa : SAll K H us (D rl n)
  so : ∀ s ∈ D rl n, SOk s ∧ ST.sl s ≤ 3
  win : ∀ c ∈ W, c ∈ ixUp ms ms.length
  few : W.length ≤ 40
  wout : ∀ c ∈ ixUp ms ms.length, c ∉ W → ∀ t, ruleAt ms c = some t → Bel (lookS (D rl n) c.1) (rsT (lookS (D rl n)) t)
structure StgT (K : PySem.W.Frag) (mg : Str → Option Value) (C : Addr) : Prop where
  cl : Cls K C
  nM : NoAttr K C "modes"
  nC : NoAttr K C "callers"
  nS : NoAttr K C "stumps"
  nW : NoAttr K C "waiting"
  mgC : mg "Stages" = some (.ref C)
def spIsLast (K : PySem.W.Frag) (C : Addr) : Sp := fun vs H Q _ => ∃ (x lm ls : Addr) (ms : List MdT) (rl : Rls) (n : Nat) (us : List V) (W : List (Int × Int)) (lc lw : Addr), vs = [.ref x] ∧ StgAt K C H x lm ms rl n ls us W lc lw ∧ Q (.bl (decide (W.length = 0))) H
def spInit (K : PySem.W.Frag) (C : Addr) : Sp := fun vs H Q _ => ∃ (x dx tu wd lm : Addr) (sv : V) (ks : List KdT) (st : Tm) (ms : List MdT), vs = [.ref x, .ref tu] ∧ H x = some (.ins C dx []) ∧ TurnD K H tu wd lm sv ks st ms ∧ TuOk ks ms ∧
  ∀ (H' : Hp) (ls lc lw : Addr) (us : List V), SameX x H H' → H ls = none → StgAt K C H' x lm ms (rlOf ks ms) 0 ls us (ixUp ms ms.length) lc lw → Q .non H'
section
variable {P : Program} {w : World} {K : PySem.W.Frag} {mg : Str → Option Value} {base : Heap} {f : Addr} {fd : FuncData} {C : Addr}
theorem scIL : FnScope ["self"] ["self"] (defScope sIsLast) := ⟨rfl, rfl, rfl, by decide +kernel, rfl, by decide +kernel, by decide +kernel⟩
theorem ok_il (F : Fun K "is_last" "Stages.is_last" sIsLast f fd) (G : Gm mg) (T : StgT K mg C) : FnOk P w K mg base CX0 1 f fd ["self"] (spIsLast K C) := by
  refine F.ok scIL (fun vs H Q E h => ?_) (fun cdv A outer s H vs Q E hr h => ?_)
  · obtain ⟨x, lm, ls, ms, rl, n, us, W, lc, lw, rfl, _⟩ := h
    rfl
  obtain ⟨x, lm, ls, ms, rl, n, us, W, lc, lw, rfl, S, q⟩ := h
  obtain ⟨dx, ds, ts, hx, _, hw, _, ew⟩ := S.ob
  refine ⟨_, (pss_one (ps_ret (pe_cmpR op_eq (pe_callB call_len_seq rfl G.len PySem.boot_len (pa_cons (pe_fld (pv 0) rfl) pa_nil)) pe_int (nomark _)))), ?_⟩
  refine ⟨_, rfl, x, C, dx, _, _, rfl, hx, T.cl, T.nW, rfl, lw, _, rfl, .inl (SqL.of hw), rfl, ?_⟩
  have hl := congrArg List.length ew
  rw [List.length_map, List.length_map] at hl
  have e : decide (V.int (((Rf ts).length : Nat) : Int) = V.int 0) = decide (W.length = 0) := by
    rw [List.length_map]
    by_cases h0 : W.length = 0
    · rw [decide_eq_true h0, decide_eq_true (by rw [hl, h0]; rfl)]
    · rw [decide_eq_false h0, decide_eq_false fun z => h0 (by have := V.int.inj z; omega)]
  show Q (.bl (decide (V.int (((Rf ts).length : Nat) : Int) = V.int 0))) H
  rw [e]
  exact q
end
end K33
namespace K33
open PySem L2 TM TT ST K9 K11
def fl1 (lm : Addr) : List (Str × V) := [("modes", .ref lm)]
def fl2 (lm lc : Addr) : List (Str × V) := [("modes", .ref lm), ("callers", .ref lc)]
def fl3 (lm lc ls : Addr) : List (Str × V) := [("modes", .ref lm), ("callers", .ref lc), ("stumps", .ref ls)]
theorem put_no {f g : Str} {v y : V} {r : List (Str × V)} (h : ¬ g = f) : putF f v ((g, y) :: r) = (g, y) :: putF f v r := by
  show (if g = f then _ else _) = _
  rw [if_neg h]
theorem f1 (lm : Addr) : putF "modes" (.ref lm) [] = fl1 lm := rfl
theorem f2 (lm lc : Addr) : putF "callers" (.ref lc) (fl1 lm) = fl2 lm lc := by
  unfold fl1
  rw [put_no (by decide +kernel)]; rfl
theorem f3 (lm lc ls : Addr) : putF "stumps" (.ref ls) (fl2 lm lc) = fl3 lm lc ls := by
  unfold fl2
  rw [put_no (by decide +kernel), put_no (by decide +kernel)]; rfl
theorem f4 (lm lc ls lw : Addr) : putF "waiting" (.ref lw) (fl3 lm lc ls) = flds lm lc ls lw := by
  unfold fl3
  rw [put_no (by decide +kernel), put_no (by decide +kernel), put_no (by decide +kernel)]; rfl
theorem leaf_ok {ks : List KdT} {ms : List MdT} (T : TuOk ks ms) : ∀ s ∈ D (rlOf ks ms) 0, SOk s ∧ ST.sl s ≤ 3 := fun s hs => by
  obtain ⟨rs, hrs, rfl⟩ := List.mem_map.mp (show s ∈ (rlOf ks ms).map leafS from hs)
  obtain ⟨⟨r0, hr0, hb0⟩, hnc⟩ := T.rl.ok rs hrs
  obtain ⟨m, hm, rfl⟩ := List.mem_map.mp hrs
  refine metA_ok (fun z => ?_) fun y hy => ?_
  · have h1 : rsT (fun _ => .op) r0.2 ∈ (((rlsOf (rowsK ks m.2.1) m.2.2.2.2).filter fun r => r.1).map fun r => rsT (fun _ => .op) r.2) := List.mem_map.mpr ⟨r0, List.mem_filter.mpr ⟨hr0, hb0⟩, rfl⟩
    rw [z] at h1; cases h1
  · obtain ⟨r, hr, rfl⟩ := List.mem_map.mp hy
    obtain ⟨hr1, _⟩ := List.mem_filter.mp hr
    obtain ⟨j, hj, e⟩ := List.getElem_of_mem hr1
    obtain ⟨b, t⟩ := r
    obtain ⟨h1, _⟩ := (rls_at (T.rows hm).1).mp ((List.getElem?_eq_getElem hj).trans (congrArg some e))
    obtain ⟨⟨cs, htd⟩, hlv, _, _⟩ := T.mo.tm m hm t (List.mem_of_getElem? h1)
    obtain ⟨a1, a2⟩ := rs_ok (S := fun _ => Stp.op) (k := 1) (fun _ => by simp only [SOk]) (fun _ => by simp only [ST.sl]; omega) (Nat.le_refl _) t htd
    exact ⟨a1, by show ST.sl (rsT _ t) ≤ 3; omega⟩
section
variable {P : Program} {w : World} {K : PySem.W.Frag} {mg : Str → Option Value} {base : Heap} {f : Addr} {fd : FuncData} {C : Addr}
theorem scInit : FnScope ["self", "turning"] ["self", "turning"] (defScope sInit) := ⟨rfl, rfl, rfl, by decide +kernel, rfl, by decide +kernel, by decide +kernel⟩
theorem ok_init (F : Fun K "__init__" "Stages.__init__" sInit f fd) (G : Gm mg) (T : StgT K mg C) (RC : Fn P w K mg base 5 "callers_by_modes" ["modes"] (spCB K)) (RL : Fn P w K mg base 7 "leaf_stump" ["wood", "kind", "rules"] (spLS K)) (RA : Fn P w K mg base 1 "all_rules" ["modes"] (spAR K)) : FnOk P w K mg base CX0 8 f fd ["self", "turning"] (spInit K C) := by
  refine F.ok scInit (fun vs H Q E h => ?_) (fun cdv A outer s H vs Q E hr h => ?_)
  · obtain ⟨x, dx, tu, wd, lm, sv, ks, st, ms, rfl, _⟩ := h
    rfl
  obtain ⟨x, dx, tu, wd, lm, sv, ks, st, ms, rfl, hx, hT, ok, q⟩ := h
  refine ⟨_, (pss_cons (ps_fld (pv 0) (pe_ix ix_tup (pv 1) pe_int (fun _ _ => rfl)) rfl)
    (pss_cons (ps_fld (pv 0) (pe_fn RC hr (pa_cons (pe_ix ix_tup (pv 1) pe_int (fun _ _ => rfl)) pa_nil)) rfl)
    (pss_cons (ps_fld (pv 0) (pe_lcompG (CompG.many (xs := ["kind", "rules"]) (caps := ["turning"]) (cap := [1]) (cs := [_]) rfl rfl (by decide +kernel) (by decide +kernel) (by decide +kernel) (by decide +kernel) (by decide +kernel) (by decide +kernel) rfl rfl rfl) rfl (pi_list (pe_ix ix_tup (pv 1) pe_int (fun _ _ => rfl))) (pg_c2 (CompG.many (xs := ["kind", "rules"]) (caps := ["turning"]) (cap := [1]) (cs := [_]) rfl rfl (by decide +kernel) (by decide +kernel) (by decide +kernel) (by decide +kernel) (by decide +kernel) (by decide +kernel) rfl rfl rfl) rfl) (fun _ _ _ _ => pf_nil) (fun _ _ _ _ => pe_fn RL hr (pa_cons (pe_ix (r := rIxT K) ix_tup (pv 2) pe_int (fun _ _ => rfl)) (pa_cons (pv 0) (pa_cons (pv 1) pa_nil))))) rfl)
    (pss_one (ps_fld (pv 0) (pe_fn RA hr (pa_cons (pe_ix ix_tup (pv 1) pe_int (fun _ _ => rfl)) pa_nil)) rfl))))), ?_⟩
  have i0 : InsAt H x := ⟨_, _, _, hx⟩
  refine ⟨_, rfl, tu, _, 2, _, rfl, rfl, hT.tu, rfl, _, rfl, x, C, dx, _, rfl, hx, T.cl, T.nM, (by show 0 < 1000; decide), ?_⟩
  rw [f1]
  have g1 : SameX x H (upd H x (.ins C dx (fl1 lm))) := SameX.upd
  generalize hH1 : upd H x (.ins C dx (fl1 lm)) = H1 at g1 ⊢
  have hx1 : H1 x = some (.ins C dx (fl1 lm)) := by rw [← hH1]; exact upd_same
  have i1 : InsAt H1 x := ⟨_, _, _, hx1⟩
  refine ⟨_, rfl, tu, _, 2, _, rfl, rfl, i0.seqT g1 hT.tu, rfl, lm, ms, rfl, ModesL.insX i0 g1 hT.m, ok.mo, fun lc H2 ds cb => ⟨_, rfl, x, C, dx, _, rfl, cb.same _ _ hx1, T.cl, T.nC, (by show 1 < 1000; decide), ?_⟩⟩
  rw [f2]
  have g2 : SameX x H H2 := g1.trans (SameX.of cb.same)
  have d2 := CBs.ds cb
  have hx2 := cb.same _ _ hx1
  have i2 : InsAt H2 x := ⟨_, _, _, hx2⟩
  have g3' : SameX x H2 (upd H2 x (.ins C dx (fl2 lm lc))) := SameX.upd
  generalize hH3 : upd H2 x (.ins C dx (fl2 lm lc)) = H3 at g3' ⊢
  have hx3 : H3 x = some (.ins C dx (fl2 lm lc)) := by rw [← hH3]; exact upd_same
  have i3 : InsAt H3 x := ⟨_, _, _, hx3⟩
  have g3 : SameX x H H3 := g2.trans g3'
  have d3 := DsAt.insX i2 g3' d2
  have hm3 := ModesL.insX i0 g3 hT.m
  have hw3 := WoodAt.insX i0 g3 hT.w
  have ht3 := i0.seqT g3 hT.tu
  have eml : (ms.map fun m => V.ref m.1).length = ms.length := List.length_map ..
  have h4 := ok.mo.four
  refine ⟨_, rfl, tu, _, 2, _, rfl, rfl, ht3, rfl, lm, rfl, ⟨_, hm3.1⟩, fun acc hacc => ?_⟩
  refine c2_list (K := K) (xs := ms.map fun m => V.ref m.1) (cs := [some (.ref tu)]) (tt := fun _ H Q => Q true H) (te := tCall (spLS K) [] E0 (tCons (tOp (rIxT K) (tVar 2) (tC (.int 0))) (tCons (tVar 0) (tCons (tVar 1) tNil)))) (fun i ys H' => H' acc = some (.lst ys) ∧ Same H3 H' ∧ ys.length = i ∧ SAll K H' ys (((rlOf ks ms).take i).map leafS))
    ⟨upd_same, same_new hacc _, rfl, by simp; exact .nil⟩ ?_ ?_ ?_
  · rintro i ys H' _ ⟨_, g, _⟩
    exact g.seq hm3.1
  · rintro i y ys H' hi hy ⟨hya, g, hyl, hys⟩
    have him : i < ms.length := by rw [eml] at hi; exact hi
    obtain rfl : y = .ref ms[i].1 := by
      rw [List.getElem?_map, List.getElem?_eq_getElem him] at hy
      exact (Option.some.inj hy).symm
    have hmm := List.getElem_mem him
    have hmd := hm3.2 _ hmm
    obtain ⟨kd, hk, ek, hl, hb, hf⟩ := ok.kd _ hmm
    refine ⟨ms[i].1, _, _, rfl, g.seqT hmd.1, iteT ⟨_, rfl, tu, _, 0, _, rfl, rfl, g.seqT ht3, rfl, _, rfl, _, rfl, wd, ms[i].2.2.1, ks, kd, ms[i].2.2.2.1, ms[i].2.2.2.2, by rw [ek]; rfl, hw3.same g, ok.wo, hk, g.seq hmd.2.1, hmd.2.2.mono fun _ _ => g.seqT, hl, hb, fun j r t hr ht => ?_, fun v4 H4 g4 hv4 => ?_⟩⟩
    · obtain ⟨h1, h2, _, _⟩ := ok.mo.tm _ hmm t (List.mem_of_getElem? ht)
      exact ⟨h1, h2, hf j r t hr ht⟩
    have hya4 := g4 _ _ hya
    refine comp_next (ys := ys) hi hya4 (by omega) ⟨upd_same, fun b u e => ?_, by simp [hyl], ?_⟩
    · rw [upd_ne (ne_of_none e hacc)]; exact g4 _ _ (g _ _ e)
    · have er : rowsK ks ms[i].2.1 = kd.2.2.2 := by rw [← ek]; exact rowsK_at ok.wo.nd hk
      have e5 : (rlOf ks ms)[i]? = some (rlsOf kd.2.2.2 ms[i].2.2.2.2) := by unfold rlOf; rw [List.getElem?_map, List.getElem?_eq_getElem him, ← er]; rfl
      rw [List.take_add_one, e5, List.map_append]
      exact SAll.append (hys.mono fun _ _ h => (g4.seqT h).put hya4) (.cons (hv4.mono fun _ _ h => h.put hya4) .nil)
  rintro ys H4 ⟨hya, g4, hyl, hys⟩
  have e6 : (rlOf ks ms).take (ms.map fun m => V.ref m.1).length = rlOf ks ms := List.take_of_length_le (by unfold rlOf; rw [List.length_map, List.length_map]; exact Nat.le_refl _)
  rw [e6] at hys
  have hx4 := g4 _ _ hx3
  have i4 : InsAt H4 x := ⟨_, _, _, hx4⟩
  refine ⟨_, rfl, x, C, dx, _, rfl, hx4, T.cl, T.nS, (by show 2 < 1000; decide), ?_⟩
  rw [f3]
  have g5' : SameX x H4 (upd H4 x (.ins C dx (fl3 lm lc acc))) := SameX.upd
  generalize hH5 : upd H4 x (.ins C dx (fl3 lm lc acc)) = H5 at g5' ⊢
  have hx5 : H5 x = some (.ins C dx (fl3 lm lc acc)) := by rw [← hH5]; exact upd_same
  have i5 : InsAt H5 x := ⟨_, _, _, hx5⟩
  have g5 : SameX x H H5 := g3.trans ((SameX.of g4).trans g5')
  refine ⟨_, rfl, tu, _, 2, _, rfl, rfl, i0.seqT g5 hT.tu, rfl, lm, ms, rfl, ModesL.insX i0 g5 hT.m, ok.mo.four, ok.mo.ten, fun lw H6 ts g6 _ hlw hts hix => ⟨_, rfl, x, C, dx, _, rfl, g6 _ _ hx5, T.cl, T.nW, (by show 3 < 1000; decide), ?_⟩⟩
  rw [f4]
  have i6 : InsAt H6 x := ⟨_, _, _, g6 _ _ hx5⟩
  have g7' : SameX x H6 (upd H6 x (.ins C dx (flds lm lc acc lw))) := SameX.upd
  have g47 : SameX x H4 (upd H6 x (.ins C dx (flds lm lc acc lw))) := g5'.trans ((SameX.of g6).trans g7')
  have g7 : SameX x H (upd H6 x (.ins C dx (flds lm lc acc lw))) := g5.trans ((SameX.of g6).trans g7')
  have few := ixUp_len ok.mo.ten ms.length
  have hacc0 : H acc = none := by
    cases e : H acc with
    | none => rfl
    | some o =>
      by_cases hne : acc = x
      · rw [hne, hx3] at hacc; cases hacc
      · rw [g3 _ _ hne e] at hacc; cases hacc
  refine q _ acc lc lw ys g7 hacc0 ⟨⟨dx, ds, ts, upd_same, DsAt.insX i4 g47 (DsAt.insX i3 (SameX.of g4) d3), i6.lst g7' hlw, hts.mono fun _ _ => i6.seqT g7', hix⟩, ModesL.insX i0 g7 hT.m, i4.lst g47 hya, hys.mono fun _ _ => i4.seqT g47, leaf_ok ok, fun c hc => hc, by omega, fun c hc hn => absurd hc hn⟩
end
end K33
namespace ST
open PySem L2 K11
def hz (a : Nat) : Int := reduceHash (Builtin.Tuple.tupleHashOf [hashInt ((a / 10 : Nat) : Int), hashInt ((a % 10 : Nat) : Int)])
def hzs : List Int := [-8458139203682520985, -1950498447580522560, 7204814214171964562, -4734289103435588629, 1773351652666409796, -3119722376306286570, -1010439003188656273, -5903513032161352639, 604127723940645786, -4288946305032050580, -5164621852614943976, 8389048192121911274, -3550055125485641917, -1440771752368011620, -6333845781340707986, 173794974761290439, -4719279054211405927, -2609995681093775630, 3897645075008222795, -995428953964473571, 4685526799349444076, 6794810172467074373, 1901736143494378007, 8409376899596376432, 3516302870623680066, -8422800446983873125, -6313517073866242828, 7240152970870612422, -4698950346736940769, 8854719697999914481, 2248468952609198383, 8756109708711196808, 3863035679738500442, 5972319052856130739, 1079245023883434373, 7586885779985432798, -4352217537622120393, 4803095124130366729, -7136008193477186462, 6417661851259668788]
theorem hz_list : (List.range 40).map hz = hzs := by decide +kernel
theorem hz_nodup : ((List.range 40).map hz).Nodup := by
  rw [hz_list]
  decide +kernel
theorem hz_inj {a b : Nat} (ha : a < 40) (hb : b < 40) (h : hz a = hz b) : a = b := by
  have h1 : ((List.range 40).map hz)[a]? = some (hz a) := by rw [List.getElem?_map, List.getElem?_range ha]; rfl
  have h2 : ((List.range 40).map hz)[b]? = some (hz b) := by rw [List.getElem?_map, List.getElem?_range hb]; rfl
  exact (List.getElem?_inj (by simpa using ha) hz_nodup).mp (by rw [h1, h2, h])
theorem hash_kk (P : Program) (w : World) (m j : Nat) (hm : m < 4) (hj : j < 10) : (tupleKind (mixKind P w)).hash (kk ((m : Int), (j : Int))) = hz (m * 10 + j) := by
  unfold hz
  rw [show (m * 10 + j) / 10 = m by omega, show (m * 10 + j) % 10 = j by omega]
  rfl
theorem apart_kk {ms : List MdT} (h4 : ms.length ≤ 4) (h10 : ∀ m ∈ ms, m.2.2.2.2.length ≤ 10) {ks : List (List Key)} (h : ∀ k ∈ ks, ∃ c ∈ ixUp ms ms.length, k = kk c) : ApartK ks := by
  intro P w x hx y hy e
  have get : ∀ k ∈ ks, ∃ m j : Nat, m < 4 ∧ j < 10 ∧ k = kk ((m : Int), (j : Int)) := fun k hk => by
    obtain ⟨c, hc, rfl⟩ := h k hk
    obtain ⟨m, j, rfl, hm, hj⟩ := ixUp_mem.mp hc
    refine ⟨m, j, by omega, ?_, rfl⟩
    unfold nRl at hj
    rw [List.getElem?_eq_getElem hm] at hj
    exact Nat.lt_of_lt_of_le hj (h10 _ (List.getElem_mem hm))
  obtain ⟨m, j, hm, hj, rfl⟩ := get x hx
  obtain ⟨m', j', hm', hj', rfl⟩ := get y hy
  rw [hash_kk P w m j hm hj, hash_kk P w m' j' hm' hj'] at e
  have := hz_inj (by omega) (by omega) e
  have e1 : m = m' := by omega
  have e2 : j = j' := by omega
  rw [e1, e2]
end ST
namespace L2
open PySem PySem.Spec PyProof.Rows
def ItL (K : PySem.W.Frag) (a : Addr) : It :=
  ⟨fun i H => ∃ xs x, SqL K H a xs ∧ xs[i]? = some x,
   fun i H x H' => ∃ p v, H p = none ∧ x = .ref p ∧ H' = upd H p (.tup [.int (i : Int), v]) ∧ ∀ xs, SqL K H a xs → xs[i]? = some v,
   fun i H => ∃ xs, SqL K H a xs ∧ xs.length ≤ i⟩
theorem turn_enumL {P : Program} {w : World} {K : PySem.W.Frag} {elts : List Expr} {k1 : Nat} {pos : Pos} (a e it : Addr) (hei : e ≠ it) :
    Turn P w K (.Tuple elts k1 pos) (ItL K a) [e, it] e (fun i h => (∃ old, IsEnum h e it (i : Nat) old) ∧ h.IsListIter it a i) where
  mem := by simp
  obj := fun i h st c hc => by
    obtain ⟨⟨old, he⟩, hi⟩ := st
    simp only [List.mem_cons, List.mem_nil_iff, or_false] at hc
    rcases hc with rfl | rfl
    · exact ⟨_, he, fun v z => by have z' : Data.fields _ = Data.cell v := z; cases z'⟩
    · obtain ⟨o, g, c, d⟩ := hi; exact ⟨o, g, fun v z => by rw [d] at z; cases z⟩
  keep := fun i h h' st k => by
    obtain ⟨⟨old, he⟩, hi⟩ := st
    exact ⟨⟨old, k e (by simp) _ he⟩, hi.at fun o g => k it (by simp) o g⟩
  item := by
    intro X hP hw hK hc i pins s σ H E I hf st hg
    subst hP hw hK
    obtain ⟨⟨old, he⟩, hi⟩ := st
    obtain ⟨xs, x, hq, hx⟩ := hg
    obtain ⟨its, rv, p, hz⟩ := I.list hq
    obtain ⟨u, hu, ru⟩ := rv.get hx
    have pt : s.heap.IsList a its.toArray := p.isList
    obtain ⟨oa, ga, ca, na, da⟩ := id pt
    have hae : a ≠ e := fun z => by
      subst z
      have hE : s.heap.get? a = some _ := he
      rw [hE] at ga
      cases ga
      exact absurd (Value.type.inj ca) (by decide)
    have hai : a ≠ it := fun z => by
      subst z
      obtain ⟨o, g, c, d⟩ := hi
      rw [g] at ga
      cases ga
      rw [c] at ca
      exact absurd (Value.type.inj ca) (by decide)
    have hlt : i < its.toArray.size := by
      have := (List.getElem?_eq_some_iff.mp hu).1
      simpa using this
    refine wpAny_pyNext_enum_itemD (Draws.list (prog := X.prog) (w := X.w) (A := X.A.in1) (I.ok.hd hc) it a hai its.toArray) he ⟨hi, pt⟩ hlt hei (by simp only [List.mem_cons, List.mem_nil_iff, or_false, not_or]; exact ⟨hei, Ne.symm hae⟩) fun y h' tk hy ho hst ht hsz hk => ?_
    have hyu : y = u := by
      have : its.toArray[i]? = some u := by simpa using hu
      exact Option.some.inj (hy.symm.trans this)
    subst hyu
    refine ⟨.ref s.heap.objs.size, rfl, wpAny_letOwnedTupleGo_enum (s := { s with heap := h', toks := tk + 1 }) ho fun h'' he'' hs' => ?_⟩
    have lt : ∀ {c o}, s.heap.get? c = some o → c ≠ s.heap.objs.size := fun g => Nat.ne_of_lt (Heap.lt_size g)
    have hse : s.heap.objs.size ≠ e := Ne.symm (lt he)
    have hch : ∀ c ∈ [e, it], FpOk X pins H c := hf
    have I2 : Inv X pins σ (upd H s.heap.objs.size (.tup [.int (i : Int), x])) { s with heap := h'', toks := tk + 1 } := by
      refine I.turnedNew (ch := [e, it]) (fun c o hc g => ?_) hch (Nat.le_refl _) ⟨by show 2 ≤ sizeLine; decide, [.int (i : Int) tk, y], .cons ⟨tk, rfl⟩ (.cons ru .nil), ⟨_, (hs'.2 _ hse).trans ht, rfl, _, rfl⟩⟩
      simp only [List.mem_cons, List.mem_nil_iff, or_false, not_or] at hc
      exact (hs'.2 c hc.1).trans (hk c o hc.1 hc.2 g)
    have hfr : ∀ c ∈ [e, it], upd H s.heap.objs.size (.tup [.int (i : Int), x]) c = none := fun c hc => by
      have : c ≠ s.heap.objs.size := by
        have hc' := hc
        simp only [List.mem_cons, List.mem_nil_iff, or_false] at hc'
        rcases hc' with rfl | rfl
        · exact lt he
        · obtain ⟨o, g, _⟩ := hi; exact lt g
      rw [upd_ne this]; exact (hf c hc).1
    exact ⟨.ref s.heap.objs.size, _, I2, rfl, ⟨s.heap.objs.size, x, I.fresh, rfl, rfl, fun ys hys => by rw [I.list_inj hys hq]; exact hx⟩, ⟨⟨_, he''⟩, hst.1.extBut hs'.extBut (Ne.symm hei)⟩, hfr⟩
  done := by
    intro X hP hw hK hc i pins s σ H E I hf st hg
    subst hP hw hK
    obtain ⟨⟨old, he⟩, hi⟩ := st
    obtain ⟨xs, hq, hx⟩ := hg
    obtain ⟨its, rv, p, hz⟩ := I.list hq
    have pt : s.heap.IsList a its.toArray := p.isList
    have hlen := rv.length
    have hn : its.toArray.size ≤ i := by simp; omega
    have hT : s.TypeIs (.ref e) "enumerate" := ⟨_, he, rfl⟩
    unfold pyNext
    refine wpAny_bind (wpAny_attempt (wpAny_callSpecial?_slot (name := Str.ofString "__next__") hT F.slot_enumerate_next (wpAny_call_entry F.slot_enumerate_next hT F.entry_enumerate_next ?_ (F.args_enumerate_next_1 _))))
    show wpAny _ _ (field (.ref e) 2 >>= _) _ _ _
    refine wpAny_bind (wpAny_field he rfl (x := .ref it) rfl ?_)
    refine wpAny_bind (wpAny_nextOf_list_end (A := X.A.in1) (I.ok.hd hc) hi pt (Array.getElem?_eq_none hn) fun h' y he' hy => ?_)
    obtain ⟨o, ho, hcl⟩ := hy
    refine wpAny_bind (wpAny_isInstance (T := "StopIteration") (b := true) ⟨o, ho, hcl⟩ isSubtype_stop ?_)
    refine wpAny_pure ⟨rfl, I.turnedL (t' := s.toks) (ch := [e, it]) (fun c u hc' g => he' c u (fun z => hc' (by rw [z]; simp)) g) hf⟩
  self := fun _ _ _ _ _ st h => wpAny_pyIter_enum st.1.choose_spec h
section
variable {X : Cx} {elts : List Expr} {k1 : Nat} {tpos : Pos}
def iEnumL (K : PySem.W.Frag) (ta : TA) : TI := fun σ H R => ta σ H fun vs H1 => ∃ a xs, vs = [.ref a] ∧ SqL K H1 a xs ∧ R (ItL K a) H1
theorem pi_enumL {e1 : Expr} {ta : TA} {p pos : Pos} (hg : Gl X "enumerate") (hm : X.mg "enumerate" = none) (ha : PA X [e1] ta) (hb : bootBuiltins "enumerate" = some (.type "enumerate") := by decide +kernel) (hs : starEach [e1] X.env = [(false, eval e1 X.env)] := by rfl) :
    PI X (.Tuple elts k1 tpos) (.Call (.Name "enumerate" p) [e1] [] pos) (iEnumL X.K ta) := by
  intro pins s σ H R I h
  refine Call_ (ld_blt I hg hm hb (PyProof.Rows.callWith_type1 (thn (ha pos pins s σ H _ I h) fun us s1 ⟨vs, H1, I1, r1, q1⟩ => ?_) hs rfl))
  obtain ⟨a, xs, e, hq, q⟩ := q1
  subst e
  cases r1 with
  | cons r rr =>
    cases rr
    obtain rfl : _ = Value.ref a := r
    obtain ⟨its, rv, pt, _⟩ := I1.list hq
    refine call_enumerate_list (show s1.heap.IsList a its.toArray from pt.isList) fun h' he hi hsz hk => ?_
    refine wpAny_pyIter_enum he ?_
    have I2 : Inv X pins σ H1 { s1 with heap := h' } := I1.kept (t' := s1.toks) hk
    refine ⟨s1.heap.objs.size + 1, [s1.heap.objs.size + 1, s1.heap.objs.size], _, _, H1, rfl, I2, turn_enumL a (s1.heap.objs.size + 1) s1.heap.objs.size (nne (by omega)), ⟨⟨_, he⟩, hi⟩, fun c hc => ?_, q⟩
    have hle : @LE.le Nat _ s1.heap.objs.size c := by
      simp only [List.mem_cons, List.mem_nil_iff, or_false] at hc
      rcases hc with rfl | rfl <;> omega
    exact I1.fpOk hle (I1.hok.fresh hle)
theorem for_enumL {K : PySem.W.Frag} {a : Addr} {xs : List V} {g : TG} {tb : TS} {D : Ends} {σ : St} {H : Hp} (Pv : Nat → St → Hp → Prop) (h0 : Pv 0 σ H) (hl : ∀ i σ H, i ≤ xs.length → Pv i σ H → SqL K H a xs)
    (hs : ∀ i v p σ H, xs[i]? = some v → H p = none → Pv i σ H → g (.ref p) σ (upd H p (.tup [.int (i : Int), v])) fun σ2 H2 => tb { D with nx := Pv (i + 1), ct := Pv (i + 1), bk := D.nx } σ2 H2) (hd : ∀ σ H, Pv xs.length σ H → D.nx σ H) :
    ∃ W : Nat → Nat → St → Hp → Prop, (∃ m, W 0 m σ H) ∧ ∀ i m σ H, W i m σ H →
      ((ItL K a).stop i H ∧ D.nx σ H) ∨ ((ItL K a).go i H ∧ ∃ N : St → Hp → Prop, (∀ σ' H', N σ' H' → ∃ m', m' < m ∧ W (i + 1) m' σ' H') ∧ ∀ x H', (ItL K a).yld i H x H' → g x σ H' fun σ2 H2 => tb { D with nx := N, ct := N, bk := D.nx } σ2 H2) := by
  refine ⟨fun i m σ H => m = xs.length - i ∧ i ≤ xs.length ∧ Pv i σ H, ⟨xs.length - 0, rfl, Nat.zero_le _, h0⟩, ?_⟩
  rintro i m σ H ⟨rfl, hi, p⟩
  have hq := hl i σ H hi p
  by_cases h : i < xs.length
  · refine .inr ⟨⟨xs, xs[i], hq, List.getElem?_eq_getElem h⟩, Pv (i + 1), fun σ' H' p' => ⟨xs.length - (i + 1), by omega, rfl, h, p'⟩, ?_⟩
    rintro x H' ⟨p', v, hp, rfl, rfl, hv⟩
    exact hs i v p' σ H (hv xs hq) hp p
  · have e : i = xs.length := by omega
    subst e
    exact .inl ⟨⟨xs, hq, Nat.le_refl _⟩, hd σ H p⟩
end
end L2
namespace ST
open PySem TM TT L2 K11 K9
mutual
theorem sd_eqv : ∀ a b : Stp, PyData.eqv (sd a) (sd b) = true ↔ a = b
  | .op, .op => by simp [sd, PyData.eqv, PyData.eqvAll]
  | .op, .put _ _ _ => by simp [sd, PyData.eqv, PyData.eqvAll]
  | .put _ _ _, .op => by simp [sd, PyData.eqv, PyData.eqvAll]
  | .put n m ps, .put n' m' qs => by
    have ih := sds_eqv ps qs
    simp only [sd, PyData.eqv, PyData.eqvAll, Bool.and_true, Bool.and_eq_true, beq_iff_eq, ih, Stp.put.injEq, true_and]
theorem sds_eqv : ∀ a b : List Stp, PyData.eqvAll (sds a) (sds b) = true ↔ a = b
  | [], [] => by simp [sds, PyData.eqvAll]
  | [], _ :: _ => by simp [sds, PyData.eqvAll]
  | _ :: _, [] => by simp [sds, PyData.eqvAll]
  | p :: r, q :: t => by
    have h1 := sd_eqv p q
    have h2 := sds_eqv r t
    simp only [sds, PyData.eqvAll, Bool.and_eq_true, h1, h2, List.cons.injEq]
end
theorem sd_yes {a b : Stp} (h : a = b) : PyData.eqv (sd a) (sd b) = true := (sd_eqv a b).mpr h
theorem sd_no {a b : Stp} (h : a ≠ b) : PyData.eqv (sd a) (sd b) = false := by
  cases e : PyData.eqv (sd a) (sd b) with
  | true => exact absurd ((sd_eqv a b).mp e) h
  | false => rfl
theorem merge_keys : ∀ (more kvs : List (List Key × V)) (k : List Key), k ∈ kvs.map (·.1) ∨ k ∈ more.map (·.1) → k ∈ (mergeT kvs more).map (·.1)
  | [], kvs, k, h => h.elim id fun z => (nomatch z)
  | q :: r, kvs, k, h => by
    show k ∈ (mergeT (putK kvs q.1 q.2) r).map (·.1)
    refine merge_keys r _ k ?_
    rcases h with h | h
    · exact .inl (put_keys h)
    · rw [List.map_cons] at h
      rcases List.mem_cons.mp h with rfl | h
      · exact .inl (List.mem_map.mpr ⟨_, put_at, rfl⟩)
      · exact .inr h
theorem merge_mem : ∀ (more kvs : List (List Key × V)) (q : List Key × V), q ∈ mergeT kvs more → q ∈ kvs ∨ q ∈ more
  | [], kvs, q, h => .inl h
  | p :: r, kvs, q, h => by
    rcases merge_mem r (putK kvs p.1 p.2) q h with h | h
    · rcases put_mem h with h | h
      · exact .inl h
      · exact .inr (by rw [h]; exact List.mem_cons_self)
    · exact .inr (List.mem_cons_of_mem _ h)
theorem merge_nodup : ∀ (more kvs : List (List Key × V)), (kvs.map (·.1)).Nodup → ((mergeT kvs more).map (·.1)).Nodup
  | [], _, h => h
  | p :: r, kvs, h => merge_nodup r (putK kvs p.1 p.2) (put_nodup h)
theorem keys_are {ms : List MdT} : ∀ {l : List (List Key)}, (∀ k ∈ l, ∃ c ∈ ixUp ms ms.length, k = kk c) → ∃ cs : List (Int × Int), l = cs.map kk ∧ ∀ c ∈ cs, c ∈ ixUp ms ms.length
  | [], _ => ⟨[], rfl, fun c hc => (nomatch hc)⟩
  | k :: r, h => by
    obtain ⟨c, hc, rfl⟩ := h k List.mem_cons_self
    obtain ⟨cs, rfl, h2⟩ := keys_are fun x hx => h x (List.mem_cons_of_mem _ hx)
    refine ⟨c :: cs, rfl, fun x hx => ?_⟩
    rcases List.mem_cons.mp hx with rfl | hx
    · exact hc
    · exact h2 x hx
theorem look_set {S : List Stp} {m k : Nat} {s : Stp} (h : m < S.length) : lookS (S.set m s) (k : Int) = if k = m then s else lookS S (k : Int) := by
  unfold lookS
  rw [Int.toNat_natCast, List.getElem?_set]
  by_cases e : k = m
  · subst e; rw [if_pos rfl, if_pos rfl, if_pos h]; rfl
  · rw [if_neg e, if_neg (Ne.symm e)]
theorem SAll.setAt {K : PySem.W.Frag} {H : Hp} : ∀ {vs : List V} {ts : List Stp} (m : Nat) {v : V} {s : Stp}, SAll K H vs ts → SV K H v s → SAll K H (vs.set m v) (ts.set m s)
  | _, _, _, _, _, .nil, _ => .nil
  | _, _, 0, _, _, .cons _ t, h => .cons h t
  | _, _, m + 1, _, _, .cons a t, h => .cons a (SAll.setAt m t h)
end ST
namespace K33
open PySem L2 TM TT ST K9 K11
theorem g1 (lm lc ls lw l : Addr) : putF "stumps" (.ref l) (flds lm lc ls lw) = flds lm lc l lw := by
  unfold flds
  rw [put_no (by decide +kernel), put_no (by decide +kernel)]
  show _ :: _ :: (if _ then _ else _) = _
  rw [if_pos rfl]
theorem g2 (lm lc ls lw l : Addr) : putF "waiting" (.ref l) (flds lm lc ls lw) = flds lm lc ls l := by
  unfold flds
  rw [put_no (by decide +kernel), put_no (by decide +kernel), put_no (by decide +kernel)]
  show _ :: _ :: _ :: (if _ then _ else _) = _
  rw [if_pos rfl]
def spGo (K : PySem.W.Frag) (C : Addr) : Sp := fun vs H Q _ => ∃ (x lm ls : Addr) (ms : List MdT) (rl : Rls) (n : Nat) (us : List V) (W : List (Int × Int)) (lc lw : Addr), vs = [.ref x] ∧ StgAt K C H x lm ms rl n ls us W lc lw ∧ RlAt ms rl ∧ MsOk ms ∧
  ∀ (H' : Hp) (ls' lw' : Addr) (us' : List V) (W' : List (Int × Int)), SameX x H H' → H ls' = none → H lw' = none → StgAt K C H' x lm ms rl (n + 1) ls' us' W' lc lw' → (D rl (n + 1) = D rl n → W' = []) → Q .non H'
section
variable {P : Program} {w : World} {K : PySem.W.Frag} {mg : Str → Option Value} {base : Heap} {f : Addr} {fd : FuncData} {C : Addr}
theorem scGo : FnScope ["self", "stumps", "mode", "number", "callers", "stump"] ["self"] (defScope sGoOn) := ⟨rfl, rfl, rfl, by decide +kernel, rfl, by decide +kernel, by decide +kernel⟩
theorem ok_go (F : Fun K "go_on" "Stages.go_on" sGoOn f fd) (G : Gm mg) (T : StgT K mg C) (RM : Fn P w K mg base 6 "met" ["one", "other"] (spMet K 5)) (RR : Fn P w K mg base 4 "rule_stump" ["rule", "stumps"] (spRS K 3)) : FnOk P w K mg base CX0 7 f fd ["self"] (spGo K C) := by
  refine F.ok scGo (fun vs H Q E h => ?_) (fun cdv A outer s H vs Q E hr h => ?_)
  · obtain ⟨x, lm, ls, ms, rl, n, us, W, lc, lw, rfl, _⟩ := h
    rfl
  obtain ⟨x, lm, ls, ms, rl, n, us, W, lc, lw, rfl, S, R, ok, q⟩ := h
  obtain ⟨dx, ds, ts, hx, hds, hw, hts, ew⟩ := S.ob
  refine ⟨_, (pss_cons (ps_set (i := 1) scGo.nd rfl (Or.inl rfl) (pe_callTy call_list_of rfl G.lst PyProof.Rows.boot_list (pa_cons (pe_fld (pv 0) rfl) pa_nil)))
    (pss_cons (ps_for PassesOwn.never rfl (pi_list (pe_fld (pv 0) rfl)) (pg_tup rfl (pgs_cons (pg_name (i := 2) scGo.nd rfl (Or.inl rfl)) (pgs_cons (pg_name (i := 3) scGo.nd rfl (Or.inl rfl)) pgs_nil))) (pss_one
      (ps_asg (pe_fn RM hr (pa_cons (pe_ix ix_list (pv 1) (pv 2) (fun _ _ => rfl)) (pa_cons (pe_fn RR hr (pa_cons (pe_ix ix_list (pe_ix ix_tup (pe_ix ix_list (pe_fld (pv 0) rfl) (pv 2) (fun _ _ => rfl)) pe_int (fun _ _ => rfl)) (pv 3) (fun _ _ => rfl)) (pa_cons (pe_fld (pv 0) rfl) pa_nil)) (by decide)) pa_nil))) (pg_sub (pv 1) (pv 2) set_list))))
    (pss_cons (ps_set (i := 4) scGo.nd rfl (Or.inl rfl) pe_dnewT)
    (pss_cons (ps_for PassesOwn.never rfl (pi_enumL rfl G.enu (pa_cons (pv 1) pa_nil)) (pg_tup rfl (pgs_cons (pg_name (i := 2) scGo.nd rfl (Or.inl rfl)) (pgs_cons (pg_name (i := 5) scGo.nd rfl (Or.inl rfl)) pgs_nil))) (pss_one
      (ps_if (pt_cmpR op_neD (pv 5) (pe_ix ix_list (pe_fld (pv 0) rfl) (pv 2) (fun _ _ => rfl)) (nomark _)) (pss_one (ps_expr (pe_bm PySem.F.plainAttrs_dict PySem.F.slot_dict_update PySem.F.type_dict_update (mt_update (hu_of hr)) (pv 4) (pa_cons (pe_ix ix_list (pe_fld (pv 0) rfl) (pv 2) (fun _ _ => rfl)) pa_nil)))) pss_nil)))
    (pss_cons (ps_fld (pv 0) (pv 1) rfl)
    (pss_one (ps_fld (pv 0) (pe_callB (call_sortedDT rfl) rfl G.srt PyProof.Rows.boot_sorted (pa_cons (pv 4) pa_nil)) rfl))))))), ?_⟩
  have Dl := D_len rl n
  have hul := S.sa.length
  have soL : ∀ m, SOk (lookS (D rl n) m) ∧ ST.sl (lookS (D rl n) m) ≤ 3 := fun m => by
    unfold lookS
    cases e : (D rl n)[m.toNat]? with
    | none => simp only [Option.getD_none, SOk, ST.sl]; exact ⟨trivial, by omega⟩
    | some s => exact S.so s (List.mem_of_getElem? e)
  refine ⟨_, rfl, x, C, dx, _, _, rfl, hx, T.cl, T.nS, rfl, ls, us, rfl, .inl (SqL.of S.sl), fun l hl => ?_⟩
  have g0 := same_new hl (.lst us)
  refine ⟨_, rfl, x, C, dx, _, _, rfl, g0 _ _ hx, T.cl, T.nW, rfl, lw, rfl, ⟨_, SqL.of (g0 _ _ hw)⟩, ?_⟩
  have hlW := congrArg List.length ew
  rw [List.length_map, List.length_map] at hlW
  refine for_list (K := K) (xs := Rf ts) (fun i σ H' => ∃ (vs : List V) (TT : List Stp) (c2 c3 : Option V), σ = [some (.ref x), some (.ref l), c2, c3, none, none] ∧ Same H H' ∧ H' l = some (.lst vs) ∧ SAll K H' vs TT ∧ TT.length = rl.length ∧ (∀ s ∈ TT, SOk s ∧ ST.sl s ≤ 3) ∧
      (∀ m : Nat, Bel (lookS TT (m : Int)) (lookS (D rl n) (m : Int))) ∧ (∀ m : Nat, Bel (lookS (D rl (n + 1)) (m : Int)) (lookS TT (m : Int))) ∧ ∀ c ∈ W.take i, ∀ t, ruleAt ms c = some t → Bel (lookS TT c.1) (rsT (lookS (D rl n)) t))
    ⟨us, D rl n, none, none, rfl, g0, upd_same, S.sa.mono fun _ _ => g0.seqT, Dl, S.so, fun m => Bel.refl _, fun m => D_bel R.ok n m, fun c hc => by simp at hc⟩ ?_ ?_ ?_
  · rintro i σ H' _ ⟨vs, TT, c2, c3, _, g, _⟩
    exact SqL.of (g _ _ hw)
  · rintro i y σ H' hy ⟨vs, TT, c2, c3, rfl, g, hl', hvs, hTl, hso, hab, hbe, hru⟩
    have hi : i < ts.length := by have := (List.getElem?_eq_some_iff.mp hy).1; rwa [List.length_map] at this
    obtain rfl : y = .ref ts[i].1 := by
      rw [List.getElem?_map, List.getElem?_eq_getElem hi] at hy
      exact (Option.some.inj hy).symm
    obtain ⟨c, ec⟩ : ∃ c, W[i]? = some c := ⟨_, List.getElem?_eq_getElem (by omega)⟩
    have et : ts[i].2 = pr c := by
      have e := congrArg (fun l => l[i]?) ew
      simp only [List.getElem?_map, List.getElem?_eq_getElem hi, ec] at e
      exact Option.some.inj e
    have htt : SqT K H' ts[i].1 [.int c.1, .int c.2] := by have := g.seqT (hts _ (List.getElem_mem hi)); rw [et] at this; exact this
    have hcm := S.win c (List.mem_of_getElem? ec)
    obtain ⟨m, j, md, t, rfl, hmd, htj, hra⟩ := rule_at hcm
    have hmm := List.mem_of_getElem? hmd
    have hmat := S.mo.2 md hmm
    obtain ⟨⟨cs, htd⟩, hlv, _, hcal⟩ := ok.tm md hmm t (List.mem_of_getElem? htj)
    obtain ⟨tv, htv, htt2⟩ := hmat.2.2.get htj
    have hml : m < ms.length := (List.getElem?_eq_some_iff.mp hmd).1
    have hmT : m < TT.length := by rw [hTl, R.len]; exact hml
    obtain ⟨sv, hsv, hst⟩ := hvs.get (List.getElem?_eq_getElem hmT)
    have hvl := hvs.length
    obtain ⟨o1, o2⟩ := rs_ok (S := lookS (D rl n)) (k := 3) (fun m => (soL m).1) (fun m => (soL m).2) (by omega) t htd
    have hso1 := hso _ (List.getElem_mem hmT)
    refine ⟨ts[i].1, _, rfl, htt, rfl, _, _, rfl, _, _, rfl, rfl, ?_⟩
    refine ⟨_, rfl, _, rfl, l, vs, (m : Int), sv, rfl, rfl, SqL.of hl', atI_nat hsv, _, rfl, x, C, dx, _, _, rfl, g _ _ hx, T.cl, T.nM, rfl, _, rfl, lm, _, (m : Int), .ref md.1, rfl, rfl, g.seq S.mo.1, atI_nat (by rw [List.getElem?_map, hmd]; rfl), md.1, _, 1, _, rfl, rfl, g.seqT hmat.1, rfl, _, rfl, md.2.2.1, _, (j : Int), tv, rfl, rfl, g.seq hmat.2.1, atI_nat htv,
      _, rfl, x, C, dx, _, _, rfl, g _ _ hx, T.cl, T.nS, rfl, tv, ls, us, D rl n, t, cs, rfl, htt2.mono fun _ _ => g.seqT, htd, hlv, SqL.of (g _ _ S.sl), S.sa.mono fun _ _ => g.seqT, (by rw [Dl, R.len]; exact hcal), fun v1 H1 g1 hv1 => ⟨sv, v1, TT[m], _, rfl, hst.mono fun _ _ => g1.seqT, hv1, hso1.1, o1, by omega, fun v2 H2 g2 hv2 => ?_⟩⟩
    have g12 := g1.trans g2
    have hl2 := g12 _ _ hl'
    refine ⟨_, rfl, _, rfl, l, vs, (m : Int), m, rfl, rfl, hl2, ixN_nat (by omega), ?_⟩
    have eT : lookS TT (m : Int) = TT[m] := look_at (List.getElem?_eq_getElem hmT)
    obtain ⟨p1, p2⟩ := met_ok TT[m] (rsT (lookS (D rl n)) t) hso1.1
    refine ⟨_, TT.set m (met TT[m] (rsT (lookS (D rl n)) t)), _, _, rfl, fun b u e => ?_, upd_same, ?_, by rw [List.length_set]; exact hTl, fun z hz => ?_, fun k => ?_, fun k => ?_, fun c' hc' t' ht' => ?_⟩
    · rw [upd_ne (ne_of_none e hl)]; exact g12 _ _ (g _ _ e)
    · exact SAll.setAt m (hvs.mono fun _ _ h => (g12.seqT h).put hl2) (hv2.mono fun _ _ h => h.put hl2)
    · rcases List.mem_or_eq_of_mem_set hz with hz | rfl
      · exact hso z hz
      · exact ⟨p1, by omega⟩
    · rw [look_set hmT]
      by_cases e : k = m
      · subst e
        rw [if_pos rfl]
        have := hab k
        rw [eT] at this
        exact (bel_l _ _).trans this
      · rw [if_neg e]; exact hab k
    · rw [look_set hmT]
      by_cases e : k = m
      · subst e
        rw [if_pos rfl]
        have h1 := hbe k
        rw [eT] at h1
        exact bel_met h1 (next_bel R hcm hra)
      · rw [if_neg e]; exact hbe k
    · rw [List.take_add_one, ec, Option.toList_some] at hc'
      have hcx : c' ∈ ixUp ms ms.length := by
        rcases List.mem_append.mp hc' with z | z
        · exact S.win c' (List.mem_of_mem_take z)
        · obtain rfl := List.mem_singleton.mp z; exact hcm
      obtain ⟨m', j', rfl, _, _⟩ := ixUp_mem.mp hcx
      show Bel (lookS (TT.set m _) (m' : Int)) _
      rw [look_set hmT]
      by_cases e : m' = m
      · subst e
        rw [if_pos rfl]
        rcases List.mem_append.mp hc' with z | z
        · have := hru _ z t' ht'
          have e5 : lookS TT ((m' : Int), (j' : Int)).1 = TT[m'] := eT
          rw [e5] at this
          exact (bel_l _ _).trans this
        · have ez := List.mem_singleton.mp z
          rw [ez] at ht'
          rw [hra] at ht'
          obtain rfl := Option.some.inj ht'
          exact bel_r _ _
      · rw [if_neg e]
        rcases List.mem_append.mp hc' with z | z
        · exact hru _ z t' ht'
        · have ez := List.mem_singleton.mp z
          exact absurd (Int.ofNat.inj (congrArg Prod.fst ez)) e
  rintro σ H1 ⟨vs, TT, c2, c3, rfl, k1, hl1, hvs, hTl, hso, hab, hbe, hru⟩
  have eW : W.take (Rf ts).length = W := List.take_of_length_le (by rw [List.length_map]; omega)
  rw [eW] at hru
  have eN : TT = D rl (n + 1) := is_next R hTl hbe fun c hc t ht => by
    by_cases hcw : c ∈ W
    · exact hru c hcw t ht
    · obtain ⟨m, j, rfl, _, _⟩ := ixUp_mem.mp hc
      exact (hab m).trans (S.wout _ hc hcw t ht)
  subst eN
  intro d hd
  have k2' := same_new hd (.dT [])
  have k2 := k1.trans k2'
  have hvl := hvs.length
  have Dl1 := D_len rl (n + 1)
  refine ⟨_, rfl, l, vs, rfl, SqL.of (k2' _ _ hl1), ?_⟩
  refine for_enumL (K := K) (a := l) (xs := vs) (fun i σ H' => ∃ (kvs : List (List Key × V)) (c2 c5 : Option V), σ = [some (.ref x), some (.ref l), c2, c3, some (.ref d), c5] ∧ Same H1 H' ∧ H' d = some (.dT kvs) ∧ (kvs.map (·.1)).Nodup ∧ (∀ p ∈ kvs, ∃ c ∈ ixUp ms ms.length, p.1 = kk c) ∧
      (∀ k < i, lookS (D rl (n + 1)) (k : Int) ≠ lookS (D rl n) (k : Int) → ∀ dk, ds[k]? = some dk → ∀ z ∈ dk.2.map (·.1), z ∈ kvs.map (·.1)) ∧ (D rl (n + 1) = D rl n → kvs = []))
    ⟨[], c2, none, rfl, k2', upd_same, List.nodup_nil, fun p hp => (nomatch hp), fun k hk => absurd hk (Nat.not_lt_zero _), fun _ => rfl⟩ ?_ ?_ ?_
  · rintro i σ H' _ ⟨kvs, c2, c5, _, g, _⟩
    exact SqL.of (g _ _ hl1)
  · rintro i v p σ H' hv hp ⟨kvs, c2, c5, rfl, g, hd', hnd, hkin, hall, hno⟩
    have hi : i < vs.length := (List.getElem?_eq_some_iff.mp hv).1
    have hiD : i < (D rl (n + 1)).length := by omega
    have hiD0 : i < (D rl n).length := by omega
    have gp := same_new hp (.tup [.int (i : Int), v])
    obtain ⟨sv, hsv, hst⟩ := hvs.get (List.getElem?_eq_getElem hiD)
    obtain rfl : sv = v := Option.some.inj (hsv.symm.trans hv)
    obtain ⟨ov, hov, hot⟩ := S.sa.get (List.getElem?_eq_getElem hiD0)
    have gg := k1.trans (g.trans gp)
    have e1 : lookS (D rl (n + 1)) (i : Int) = (D rl (n + 1))[i] := look_at (List.getElem?_eq_getElem hiD)
    have e0 : lookS (D rl n) (i : Int) = (D rl n)[i] := look_at (List.getElem?_eq_getElem hiD0)
    obtain ⟨a1, a2⟩ := sd_ok _ (hso _ (List.getElem_mem hiD)).1
    obtain ⟨b1, b2⟩ := sd_ok _ (S.so _ (List.getElem_mem hiD0)).1
    have hs1 := (hso _ (List.getElem_mem hiD)).2
    refine ⟨p, _, rfl, SqT.of upd_same, rfl, _, _, rfl, _, _, rfl, rfl, ?_⟩
    refine ⟨_, rfl, _, rfl, x, C, dx, _, _, rfl, gg _ _ hx, T.cl, T.nS, rfl, _, rfl, ls, us, (i : Int), ov, rfl, rfl, SqL.of (gg _ _ S.sl), atI_nat hov, sd (D rl (n + 1))[i], sd (D rl n)[i], (hst.mono fun _ _ => (g.trans gp).seqT).rd, (hot.mono fun _ _ => gg.seqT).rd, a1, b1, hr.fit (by omega), _, rfl, ?_⟩
    rw [if_pos rfl]
    have hdp := gp _ _ hd'
    rcases Classical.em ((D rl (n + 1))[i] = (D rl n)[i]) with hne | hne
    · rw [sd_yes hne]
      refine iteF ⟨kvs, _, _, rfl, g.trans gp, hdp, hnd, hkin, fun k hk hk2 => ?_, hno⟩
      by_cases e : k = i
      · subst e; rw [e1, e0] at hk2; exact absurd hne hk2
      · exact hall k (by omega) hk2
    · rw [sd_no hne]
      have hids : i < ds.length := by rw [hds.len, ← R.len]; omega
      obtain ⟨dk, edk⟩ : ∃ dk, ds[i]? = some dk := ⟨_, List.getElem?_eq_getElem hids⟩
      have hdkm := List.mem_of_getElem? edk
      have hdk := gg _ _ (hds.dat dk hdkm)
      have ned : d ≠ dk.1 := fun z => by
        have h1 := (k1 _ _ (hds.dat dk hdkm))
        rw [← z, hd] at h1; cases h1
      have few2 := ixUp_len ok.ten ms.length
      have few : ∀ kv : List (List Key × V), (kv.map (·.1)).Nodup → (∀ p ∈ kv, ∃ c ∈ ixUp ms ms.length, p.1 = kk c) → kv.length ≤ (ixUp ms ms.length).length := fun kv h1 h2 => by
        have z := pigeon (l := kv.map (·.1)) (r := (ixUp ms ms.length).map kk) h1 fun y hy => by
          obtain ⟨q', hq', rfl⟩ := List.mem_map.mp hy
          obtain ⟨c, hc, e⟩ := h2 q' hq'
          rw [e]; exact List.mem_map.mpr ⟨c, hc, rfl⟩
        simpa using z
      have f1 := few kvs hnd hkin
      have f2 := few dk.2 (hds.nd dk hdkm) fun q' hq' => (hds.kin dk hdkm q' hq').1
      have four := ok.four
      refine iteT ⟨_, rfl, .inr (.inr (.inl ⟨rfl, .inr ⟨_, hdp⟩⟩)), _, rfl, x, C, dx, _, _, rfl, gg _ _ hx, T.cl, T.nC, rfl, _, rfl, lc, _, (i : Int), .ref dk.1, rfl, rfl, SqL.of (gg _ _ hds.li), atI_nat (by rw [List.getElem?_map, edk]; rfl), d, dk.1, kvs, dk.2, rfl, rfl, ned, hdp, hdk, by rw [size_line]; omega, apart_kk ok.four ok.ten fun z hz => ?_, ?_⟩
      · obtain ⟨q', hq', rfl⟩ := List.mem_map.mp hz
        exact (hds.kin dk hdkm q' hq').1
      · refine ⟨mergeT kvs dk.2, _, _, rfl, fun b u e => ?_, upd_same, merge_nodup _ _ hnd, fun q' hq' => ?_, fun k hk hk2 dk' edk' z hz => ?_, fun hD => ?_⟩
        · rw [upd_ne (ne_of_none e hd)]; exact gp _ _ (g _ _ e)
        · rcases merge_mem _ _ q' hq' with z | z
          · exact hkin q' z
          · exact (hds.kin dk hdkm q' z).1
        · by_cases e : k = i
          · subst e
            rw [edk] at edk'
            obtain rfl := Option.some.inj edk'
            exact merge_keys _ _ z (.inr hz)
          · exact merge_keys _ _ z (.inl (hall k (by omega) hk2 dk' edk' z hz))
        · exact absurd (by simp only [hD]) hne
  rintro σ H3 ⟨kvs, c2', c5, rfl, g3, hd3, hnd, hkin, hall, hno⟩
  have kk3 := k1.trans g3
  have hx3 := kk3 _ _ hx
  refine ⟨_, rfl, _, rfl, x, C, dx, _, rfl, hx3, T.cl, T.nS, (by show 4 < 1000; decide), ?_⟩
  rw [K33.g1]
  have i3 : InsAt H3 x := ⟨_, _, _, hx3⟩
  have g4 : SameX x H3 (upd H3 x (.ins C dx (flds lm lc l lw))) := SameX.upd
  generalize hH4 : upd H3 x (.ins C dx (flds lm lc l lw)) = H4 at g4 ⊢
  have hx4 : H4 x = some (.ins C dx (flds lm lc l lw)) := by rw [← hH4]; exact upd_same
  have i4 : InsAt H4 x := ⟨_, _, _, hx4⟩
  obtain ⟨cs, ecs, hcs⟩ := keys_are (l := kvs.map (·.1)) fun k hk => by
    obtain ⟨q', hq', rfl⟩ := List.mem_map.mp hk
    exact hkin q' hq'
  have few2 := ixUp_len ok.ten ms.length
  have four := ok.four
  have csnd : cs.length ≤ (ixUp ms ms.length).length := by
    have z := pigeon (l := kvs.map (·.1)) (r := (ixUp ms ms.length).map kk) hnd fun y hy => by
      rw [ecs] at hy
      obtain ⟨c, hc, rfl⟩ := List.mem_map.mp hy
      exact List.mem_map.mpr ⟨c, hcs c hc, rfl⟩
    rw [ecs] at z
    simpa using z
  refine ⟨_, rfl, d, kvs, cs, rfl, i3.dT g4 hd3, ecs, by omega, fun out p hperm hat hp => ⟨_, rfl, x, C, dx, _, rfl, (same_new hp _) _ _ hx4, T.cl, T.nW, (by show 4 < 1000; decide), ?_⟩⟩
  rw [K33.g2]
  have g5' := same_new hp (.lst (out.map fun t => V.ref t.1))
  have g5 : SameX x H4 (upd (upd H4 p (.lst (out.map fun t => V.ref t.1))) x (.ins C dx (flds lm lc l p))) := (SameX.of g5').trans SameX.upd
  have g35 := g4.trans g5
  have gAll : SameX x H (upd (upd H4 p (.lst (out.map fun t => V.ref t.1))) x (.ins C dx (flds lm lc l p))) := (SameX.of kk3).trans g35
  have i0 : InsAt H x := ⟨_, _, _, hx⟩
  have i1 : InsAt H1 x := ⟨_, _, _, k1 _ _ hx⟩
  have g15 : SameX x H1 (upd (upd H4 p (.lst (out.map fun t => V.ref t.1))) x (.ins C dx (flds lm lc l p))) := (SameX.of g3).trans g35
  have hpx : p ≠ x := fun z => by rw [z, hx4] at hp; cases hp
  have hlen : out.length = cs.length := by have := hperm.length_eq; rwa [List.length_map] at this
  have hp0 : H p = none := by
    cases e : H p with
    | none => rfl
    | some o => rw [((SameX.of kk3).trans g4) _ _ hpx e] at hp; cases hp
  refine q _ l p vs (out.map (·.2)) gAll hl hp0 ⟨⟨dx, ds, out.map fun t => (t.1, [t.2.1, t.2.2]), upd_same, DsAt.insX i0 gAll hds, ?_, fun t ht => ?_, ?_⟩, ModesL.insX i0 gAll S.mo, i1.lst g15 hl1, hvs.mono fun _ _ => i1.seqT g15, hso, fun c hc => ?_, by rw [List.length_map]; omega, fun c hc hcn t ht => ?_⟩ fun hD => ?_
  · have e : Rf (out.map fun t => (t.1, [t.2.1, t.2.2])) = out.map fun t => V.ref t.1 := by
      show (out.map _).map _ = _
      rw [List.map_map]; rfl
    rw [upd_ne hpx, upd_same, e]
  · obtain ⟨u, hu, rfl⟩ := List.mem_map.mp ht
    have h1 := hat u hu
    exact i4.seqT g5 (SqT.of h1)
  · rw [List.map_map, List.map_map]; rfl
  · exact hcs c (hperm.mem_iff.mp hc)
  · have agree : ∀ y ∈ cls t, lookS (D rl (n + 1)) y.1 = lookS (D rl n) y.1 := fun y hy => by
      apply Classical.byContradiction
      intro hne
      obtain ⟨m, j, md, t', rfl, hmd, htj, hra⟩ := rule_at hc
      rw [hra] at ht
      obtain rfl := Option.some.inj ht
      obtain ⟨_, _, _, hcal⟩ := ok.tm md (List.mem_of_getElem? hmd) t' (List.mem_of_getElem? htj)
      obtain ⟨y0, yl⟩ := hcal y hy
      have ey : y.1 = ((y.1.toNat : Nat) : Int) := (Int.toNat_of_nonneg y0).symm
      have hyd : y.1.toNat < ds.length := by rw [hds.len]; exact yl
      obtain ⟨dk, edk⟩ : ∃ dk, ds[y.1.toNat]? = some dk := ⟨_, List.getElem?_eq_getElem hyd⟩
      have h1 := hds.all _ hc t' hra y hy dk edk
      have hyv : y.1.toNat < vs.length := by rw [hvl, Dl1, R.len]; exact yl
      have h2 := hall y.1.toNat hyv (by rw [← ey]; exact hne) dk edk _ h1
      rw [ecs] at h2
      obtain ⟨c2, hc2, e2⟩ := List.mem_map.mp h2
      exact hcn (hperm.mem_iff.mpr (by rw [← kk_inj e2]; exact hc2))
    rw [rs_agree t agree]
    exact next_bel R hc ht
  · have h0 := hno hD
    rw [h0] at ecs
    have hc0 : cs = [] := by
      cases cs with
      | nil => rfl
      | cons _ _ => cases ecs
    rw [hc0] at hlen
    rw [List.length_eq_zero_iff.mp hlen]; rfl
end
end K33
namespace K33
open PySem L2 TM TT ST K9 K11
abbrev sCommons : Stmt := top 11
abbrev sCW : Stmt := top 12
abbrev sSW : Stmt := top 13
structure StgM (P : Program) (w : World) (K : PySem.W.Frag) (mg : Str → Option Value) (base : Heap) (C : Addr) : Prop where
  t : StgT K mg C
  mi : ∃ f fd, Mk K C f ∧ FnOk P w K mg base CX0 8 f fd ["self", "turning"] (spInit K C) ∧ Binds K fd ["self", "turning"] []
  il : ∃ f fd, Meth K C "is_last" f ∧ FnOk P w K mg base CX0 1 f fd ["self"] (spIsLast K C) ∧ Binds K fd ["self"] []
  go : ∃ f fd, Meth K C "go_on" f ∧ FnOk P w K mg base CX0 7 f fd ["self"] (spGo K C) ∧ Binds K fd ["self"] []
def far (rl : Rls) (n : Nat) (W : List (Int × Int)) : Nat := 2 * tsz (D rl n) + (if W = [] then 0 else 1)
theorem far_less {rl : Rls} (ok : RlsOk rl) {n : Nat} {W W' : List (Int × Int)} (hW : W ≠ []) (h : D rl (n + 1) = D rl n → W' = []) : far rl (n + 1) W' < far rl n W := by
  obtain ⟨h1, h2⟩ := D_less ok n
  unfold far
  rw [if_neg hW]
  rcases Classical.em (D rl (n + 1) = D rl n) with e | e
  · rw [if_pos (h e), e]; omega
  · have := h2 e
    split <;> omega
theorem none_left {K : PySem.W.Frag} {C : Addr} {H : Hp} {x lm ls : Addr} {ms : List MdT} {rl : Rls} {n : Nat} {us : List V} {lc lw : Addr} (R : RlAt ms rl) (S : StgAt K C H x lm ms rl n ls us [] lc lw) : D rl (n + 1) = D rl n :=
  none_wait R fun c hc t ht => S.wout c hc (fun z => nomatch z) t ht
def spSW (K : PySem.W.Frag) : Sp := fun vs H Q _ => ∃ (tu wd lm : Addr) (sv : V) (ks : List KdT) (st : Tm) (ms : List MdT) (many : Int), vs = [.ref tu, .int many] ∧ 1 ≤ many ∧ TurnD K H tu wd lm sv ks st ms ∧ TuOk ks ms ∧ tsz (D (rlOf ks ms) 0) ≤ 2000 ∧
  ∀ (l ls : Addr) (ys us : List V) (H' : Hp), Same H H' → H' l = some (.lst (ys ++ [.ref ls])) → H ls = none → H' ls = some (.lst us) → SAll K H' us (D (rlOf ks ms) (many - 1).toNat) → Q (.ref l) H'
def spCW (K : PySem.W.Frag) : Sp := fun vs H Q _ => ∃ (tu wd lm : Addr) (sv : V) (ks : List KdT) (st : Tm) (ms : List MdT) (many : Int), vs = [.ref tu, .int many] ∧ 1 ≤ many ∧ TurnD K H tu wd lm sv ks st ms ∧ TuOk ks ms ∧ tsz (D (rlOf ks ms) 0) ≤ 2000 ∧
  ∀ (ls : Addr) (us : List V) (H' : Hp), Same H H' → H ls = none → H' ls = some (.lst us) → SAll K H' us (D (rlOf ks ms) (many - 1).toNat) → Q (.ref ls) H'
def spCm (K : PySem.W.Frag) : Sp := fun vs H Q _ => ∃ (tu wd lm : Addr) (sv : V) (ks : List KdT) (st : Tm) (ms : List MdT), vs = [.ref tu] ∧ TurnD K H tu wd lm sv ks st ms ∧ TuOk ks ms ∧
  ∀ (ls : Addr) (us : List V) (n : Nat) (H' : Hp), Same H H' → H ls = none → H' ls = some (.lst us) → SAll K H' us (D (rlOf ks ms) n) → D (rlOf ks ms) (n + 1) = D (rlOf ks ms) n → Q (.ref ls) H'
section
variable {P : Program} {w : World} {K : PySem.W.Frag} {mg : Str → Option Value} {base : Heap} {f : Addr} {fd : FuncData} {C : Addr}
theorem scCm : FnScope ["turning", "stages"] ["turning"] (defScope sCommons) := ⟨rfl, rfl, rfl, by decide +kernel, rfl, by decide +kernel, by decide +kernel⟩
theorem ok_cm (F : Fun K "commons" "commons" sCommons f fd) (G : Gm mg) (M : StgM P w K mg base C) : FnOk P w K mg base CX0 10 f fd ["turning"] (spCm K) := by
  obtain ⟨fI, fdI, mkI, FI, bI⟩ := M.mi
  obtain ⟨fL, fdL, mL, FL, bL⟩ := M.il
  obtain ⟨fG, fdG, mG, FG, bG⟩ := M.go
  have T := M.t
  refine F.ok scCm (fun vs H Q E h => ?_) (fun cdv A outer s H vs Q E hr h => ?_)
  · obtain ⟨tu, wd, lm, sv, ks, st, ms, rfl, _⟩ := h
    rfl
  obtain ⟨tu, wd, lm, sv, ks, st, ms, rfl, hT, ok, q⟩ := h
  have hr1 : Room 1 _ := hr.mono (by decide)
  have hr7 : Room 7 _ := hr.mono (by decide)
  refine ⟨_, (pss_cons (ps_set (i := 1) scCm.nd rfl (Or.inl rfl) (pe_make mkI FI hr rfl T.mgC bI .nil pass0 (pa_cons (pv 0) pa_nil)))
    (pss_cons (ps_while PassesOwn.never (pt_not (pt_val (pe_meth0 (pv 1) T.cl mL FL hr1 bL .nil pass0))) (pss_one (ps_expr (pe_meth0 (pv 1) T.cl mG FG hr7 bG .nil pass0))))
    (pss_one (ps_ret (pe_fld (pv 1) rfl))))), ?_⟩
  refine ⟨_, rfl, fun x dx nx ndx ne => ?_⟩
  have s0 : Same H (upd (upd H dx (.own x)) x (.ins C dx [])) := fun b o e => by
    rw [upd_ne (ne_of_none e nx), upd_ne (ne_of_none e ndx)]
    exact e
  refine ⟨x, dx, tu, wd, lm, sv, ks, st, ms, rfl, upd_same, hT.same s0, ok, fun H1 ls lc lw us gx hls S => ⟨rfl, ?_⟩⟩
  have s1 : Same H H1 := fun b o e => gx b o (ne_of_none e nx) (s0 b o e)
  have hls0 : H ls = none := s0.free hls
  refine ⟨fun m σ H' => ∃ (n : Nat) (ls : Addr) (us : List V) (W : List (Int × Int)) (lc lw : Addr), σ = [some (.ref tu), some (.ref x)] ∧ Same H H' ∧ H ls = none ∧ StgAt K C H' x lm ms (rlOf ks ms) n ls us W lc lw ∧ m = far (rlOf ks ms) n W, ⟨_, 0, ls, us, _, lc, lw, rfl, s1, hls0, S, rfl⟩, ?_⟩
  rintro m σ H' ⟨n, ls, us, W, lc, lw, rfl, g, hl, S, rfl⟩
  obtain ⟨dx, ds, ts, hx, _⟩ := S.ob
  refine ⟨_, rfl, x, dx, _, rfl, hx, rfl, x, lm, ls, ms, _, n, us, W, lc, lw, rfl, S, _, rfl, ?_⟩
  rcases Classical.em (W.length = 0) with h0 | h0
  · rw [decide_eq_true h0]
    obtain rfl : W = [] := List.length_eq_zero_iff.mp h0
    refine iteF ⟨_, rfl, x, C, dx, _, _, rfl, hx, T.cl, T.nS, rfl, ?_⟩
    exact q ls us n H' g hl S.sl S.sa (none_left ok.rl S)
  · rw [decide_eq_false h0]
    have hW : W ≠ [] := fun z => h0 (by rw [z]; rfl)
    refine iteT ⟨fun σ' H' => ∃ m', m' < far (rlOf ks ms) n W ∧ ∃ (n : Nat) (ls : Addr) (us : List V) (W : List (Int × Int)) (lc lw : Addr), σ' = [some (.ref tu), some (.ref x)] ∧ Same H H' ∧ H ls = none ∧ StgAt K C H' x lm ms (rlOf ks ms) n ls us W lc lw ∧ m' = far (rlOf ks ms) n W, fun σ' H' z => z, ?_⟩
    refine ⟨_, rfl, x, dx, _, rfl, hx, rfl, x, lm, ls, ms, _, n, us, W, lc, lw, rfl, S, ok.rl, ok.mo, fun H2 ls' lw' us' W' g2 hl' _ S' hw => ?_⟩
    exact ⟨_, far_less ok.rl.ok hW hw, n + 1, ls', us', W', lc, lw', rfl, fun b o e => g2 b o (ne_of_none e nx) (g _ _ e), g.free hl', S', rfl⟩
theorem scCW : FnScope ["turning", "many"] ["turning", "many"] (defScope sCW) := ⟨rfl, rfl, rfl, by decide +kernel, rfl, by decide +kernel, by decide +kernel⟩
theorem ok_cw (F : Fun K "commons_within" "commons_within" sCW f fd) (RS : Fn P w K mg base 10 "stages_within" ["turning", "many"] (spSW K)) : FnOk P w K mg base CX0 11 f fd ["turning", "many"] (spCW K) := by
  refine F.ok scCW (fun vs H Q E h => ?_) (fun cdv A outer s H vs Q E hr h => ?_)
  · obtain ⟨tu, wd, lm, sv, ks, st, ms, many, rfl, _⟩ := h
    rfl
  obtain ⟨tu, wd, lm, sv, ks, st, ms, many, rfl, hm, hT, ok, hz, q⟩ := h
  refine ⟨_, (pss_one (ps_ret (pe_ix ix_list (pe_fn RS hr (pa_cons (pv 0) (pa_cons (pv 1) pa_nil))) (pe_un un_neg pe_int) (fun _ _ => rfl)))), ?_⟩
  refine ⟨_, rfl, _, rfl, tu, wd, lm, sv, ks, st, ms, many, rfl, hm, hT, ok, hz, fun l ls ys us H' g hl hls hlu hsa => ?_⟩
  exact ⟨_, rfl, l, _, _, _, rfl, rfl, SqL.of hl, atI_last _ _, q ls us H' g hls hlu hsa⟩
theorem scSW : FnScope ["turning", "many", "stages", "told"] ["turning", "many"] (defScope sSW) := ⟨rfl, rfl, rfl, by decide +kernel, rfl, by decide +kernel, by decide +kernel⟩
theorem ok_sw (F : Fun K "stages_within" "stages_within" sSW f fd) (G : Gm mg) (M : StgM P w K mg base C) : FnOk P w K mg base CX0 10 f fd ["turning", "many"] (spSW K) := by
  obtain ⟨fI, fdI, mkI, FI, bI⟩ := M.mi
  obtain ⟨fL, fdL, mL, FL, bL⟩ := M.il
  obtain ⟨fG, fdG, mG, FG, bG⟩ := M.go
  have T := M.t
  refine F.ok scSW (fun vs H Q E h => ?_) (fun cdv A outer s H vs Q E hr h => ?_)
  · obtain ⟨tu, wd, lm, sv, ks, st, ms, many, rfl, _⟩ := h
    rfl
  obtain ⟨tu, wd, lm, sv, ks, st, ms, many, rfl, hm, hT, ok, hz, q⟩ := h
  have hr1 : Room 1 _ := hr.mono (by decide)
  have hr7 : Room 7 _ := hr.mono (by decide)
  refine ⟨_, (pss_cons (ps_set (i := 2) scSW.nd rfl (Or.inl rfl) (pe_make mkI FI hr rfl T.mgC bI .nil pass0 (pa_cons (pv 0) pa_nil)))
    (pss_cons (ps_set (i := 3) scSW.nd rfl (Or.inl rfl) (pe_lst (pa_cons (pe_fld (pv 2) rfl) pa_nil)))
    (pss_cons (ps_while PassesOwn.never (PW.pt (pw_and (pt_cmpR op_lt (pe_callB call_len_seq rfl G.len PySem.boot_len (pa_cons (pv 3) pa_nil)) (pv 1) (nomark _)) (pw_and1 (pt_not (pt_val (pe_meth0 (pv 2) T.cl mL FL hr1 bL .nil pass0)))))) (pss_cons (ps_expr (pe_meth0 (pv 2) T.cl mG FG hr7 bG .nil pass0))
    (pss_one (ps_expr (pe_bm PySem.F.plainAttrs_list PySem.F.slot_list_append PySem.F.type_list_append mt_append (pv 3) (pa_cons (pe_fld (pv 2) rfl) pa_nil))))))
    (pss_one (ps_ret (pv 3)))))), ?_⟩
  refine ⟨_, rfl, fun x dx nx ndx ne => ?_⟩
  have s0 : Same H (upd (upd H dx (.own x)) x (.ins C dx [])) := fun b o e => by
    rw [upd_ne (ne_of_none e nx), upd_ne (ne_of_none e ndx)]
    exact e
  refine ⟨x, dx, tu, wd, lm, sv, ks, st, ms, rfl, upd_same, hT.same s0, ok, fun H1 ls lc lw us gx hls S => ⟨rfl, ?_⟩⟩
  have s1 : Same H H1 := fun b o e => gx b o (ne_of_none e nx) (s0 b o e)
  have hls0 : H ls = none := s0.free hls
  obtain ⟨dx1, ds1, ts1, hx1, hds1, hw1, hts1, ew1⟩ := S.ob
  refine ⟨_, rfl, x, C, dx1, _, _, rfl, hx1, T.cl, T.nS, rfl, (by show 1 ≤ sizeLine; decide), fun l hl => ?_⟩
  have gl := same_new hl (.lst [.ref ls])
  have hm1 := S.mo
  have i1 : InsAt H1 x := ⟨_, _, _, hx1⟩
  have nlc : lc ≠ l := ne_of_none hds1.li hl
  have hlx : l ≠ x := fun z => by rw [z, hx1] at hl; cases hl
  have h0l : H l = none := s1.free hl
  have S1 : StgAt K C (upd H1 l (.lst [.ref ls])) x lm ms (rlOf ks ms) 0 ls us (ixUp ms ms.length) lc lw :=
    ⟨⟨dx1, ds1, ts1, gl _ _ hx1, ⟨gl _ _ hds1.li, hds1.len, fun d hd => gl _ _ (hds1.dat d hd), hds1.nd, hds1.kin, hds1.all⟩, gl _ _ hw1, hts1.mono fun _ _ => gl.seqT, ew1⟩, S.mo.same gl, gl _ _ S.sl, S.sa.mono fun _ _ => gl.seqT, S.so, S.win, S.few, S.wout⟩
  let J : Nat → L2.St → Hp → Prop := fun m σ H' => ∃ (n : Nat) (ls : Addr) (us : List V) (W : List (Int × Int)) (lw : Addr) (ys : List V), σ = [some (.ref tu), some (.int many), some (.ref x), some (.ref l)] ∧ Same H H' ∧ SameX x H1 H' ∧ H ls = none ∧ ls ≠ l ∧ lw ≠ l ∧ StgAt K C H' x lm ms (rlOf ks ms) n ls us W lc lw ∧
    H' l = some (.lst (ys ++ [.ref ls])) ∧ ys.length = n ∧ (n : Int) + 1 ≤ many ∧ m = far (rlOf ks ms) n W ∧ n + m ≤ 4001
  have start : far (rlOf ks ms) 0 (ixUp ms ms.length) ≤ 4001 := by
    unfold far
    split <;> omega
  refine ⟨J, ⟨_, 0, ls, us, _, lw, [], rfl, s1.trans gl, SameX.of gl, hls0, ne_of_none S.sl hl, ne_of_none hw1 hl, S1, upd_same, rfl, by omega, rfl, by omega⟩, ?_⟩
  rintro m σ H' ⟨n, ls, us, W, lw, ys, rfl, g, gx1, hls, nls, nlw, S, hl', hyl, hnm, rfl, hfar⟩
  obtain ⟨dx, ds, ts, hx, hds, hw, hts, ew⟩ := S.ob
  have hyl2 : (ys ++ [V.ref ls]).length = n + 1 := by simp [hyl]
  refine ⟨_, rfl, l, _, rfl, .inl (SqL.of hl'), _, rfl, _, _, rfl, rfl, _, rfl, ?_⟩
  rw [hyl2]
  have fin : D (rlOf ks ms) n = D (rlOf ks ms) (many - 1).toNat → Q (.ref l) H' := fun e => q l ls ys us H' g hl' hls S.sl (by rw [← e]; exact S.sa)
  by_cases hlt : (((n + 1 : Nat) : Int) < many)
  · rw [decide_eq_true hlt]
    refine iteT ?_
    refine ⟨_, rfl, x, dx, _, rfl, hx, rfl, x, lm, ls, ms, _, n, us, W, lc, lw, rfl, S, _, rfl, ?_⟩
    rcases Classical.em (W.length = 0) with h0 | h0
    · rw [decide_eq_true h0]
      obtain rfl : W = [] := List.length_eq_zero_iff.mp h0
      refine iteF ⟨_, rfl, fin ?_⟩
      have e := none_left ok.rl S
      have e2 : (many - 1).toNat = n + ((many - 1).toNat - n) := by omega
      rw [e2, D_const e]
    · rw [decide_eq_false h0]
      have hW : W ≠ [] := fun z => h0 (by rw [z]; rfl)
      refine iteT ⟨fun σ' H' => ∃ m', m' < far (rlOf ks ms) n W ∧ J m' σ' H', fun σ' H' z => z, ?_⟩
      refine ⟨_, rfl, x, dx, _, rfl, hx, rfl, x, lm, ls, ms, _, n, us, W, lc, lw, rfl, S, ok.rl, ok.mo, fun H2 ls' lw' us' W' g2 hln hwn S' hw' => ?_⟩
      have i' : InsAt H' x := ⟨_, _, _, hx⟩
      have hl2 : H2 l = some (.lst (ys ++ [.ref ls])) := i'.lst g2 hl'
      obtain ⟨dx2, ds2, ts2, hx2, hds2, hw2, hts2, ew2⟩ := S'.ob
      have nls' : ls' ≠ l := fun z => by rw [z, hl'] at hln; cases hln
      have nlw' : lw' ≠ l := fun z => by rw [z, hl'] at hwn; cases hwn
      refine ⟨_, rfl, .inl ⟨rfl, _, SqL.of hl2⟩, _, rfl, x, C, dx2, _, _, rfl, hx2, T.cl, T.nS, rfl, l, _, _, rfl, rfl, hl2, by rw [hyl2, size_line]; omega, ?_⟩
      have fl := far_less ok.rl.ok hW hw'
      have g3 : ∀ b o, b ≠ l → H2 b = some o → upd H2 l (.lst (ys ++ [V.ref ls] ++ [V.ref ls'])) b = some o := fun b o nb e => by rw [upd_ne nb]; exact e
      have gx3 : SameX x H1 (upd H2 l (.lst (ys ++ [V.ref ls] ++ [V.ref ls']))) := fun b o nb e => g3 b o (ne_of_none e hl) (g2 b o nb (gx1 b o nb e))
      refine ⟨_, fl, n + 1, ls', us', W', lw', ys ++ [V.ref ls], rfl, fun b o e => g3 b o (ne_of_none e h0l) (g2 b o (ne_of_none e nx) (g _ _ e)), gx3, g.free hln, nls', nlw', ?_, upd_same, hyl2, by omega, rfl, by omega⟩
      refine ⟨⟨dx2, ds2, ts2, g3 _ _ (Ne.symm hlx) hx2, ⟨g3 _ _ nlc hds2.li, hds2.len, fun d hd => g3 _ _ (ne_of (hds2.dat d hd) hl2 (by intro z; cases z)) (hds2.dat d hd), hds2.nd, hds2.kin, hds2.all⟩, g3 _ _ nlw' hw2, hts2.mono fun _ _ h => h.put hl2, ew2⟩, ModesL.insX i1 gx3 (ModesL.insX i1 (SameX.refl _ _) ?_), g3 _ _ nls' S'.sl, S'.sa.mono fun _ _ h => h.put hl2, S'.so, S'.win, S'.few, S'.wout⟩
      exact hm1
  · rw [decide_eq_false hlt]
    refine iteF ⟨_, rfl, fin ?_⟩
    have e : (many - 1).toNat = n := by omega
    rw [e]
end
end K33
namespace K33
open PySem L2 TM TT ST K9 K11
abbrev sWhole : Stmt := top 33
abbrev sIsS : Stmt := top 34
def spWhole : Sp := fun vs H Q _ => ∃ i : Int, vs = [.int i] ∧ Q (.bl true) H
def spIsS (K : PySem.W.Frag) (n : Nat) : Sp := fun vs H Q _ => ∃ (v : V) (s : Stp), vs = [v] ∧ SV K H v s ∧ SOk s ∧ sl s ≤ n ∧ ∀ H', Same H H' → Q (.bl true) H'
theorem sd_put_op (n : Str) (m : Int) (ps : List Stp) : PyData.eqv (sd (.put n m ps)) (sd .op) = false := by
  have e : (PUTT == OPEN) = false := by decide +kernel
  simp only [sd, PyData.eqv, PyData.eqvAll, e, Bool.false_and]
theorem four_ne (x y z u : V) : ¬ V.int ((([x, y, z, u] : List V).length : Nat) : Int) = V.int 0 := fun h => by have := V.int.inj h; simp at this
theorem one_ne (x : V) : ¬ V.int ((([x] : List V).length : Nat) : Int) = V.int 0 := fun h => by have := V.int.inj h; simp at this
theorem op_ok : (sd .op).canLay0 = true ∧ (sd .op).depth ≤ 2 := sd_ok .op (by simp only [SOk])
section
variable {P : Program} {w : World} {K : PySem.W.Frag} {mg : Str → Option Value} {base : Heap} {f : Addr} {fd : FuncData}
theorem scWhole : FnScope ["_law_found"] ["_law_found"] (defScope sWhole) := ⟨rfl, rfl, rfl, by decide +kernel, rfl, by decide +kernel, by decide +kernel⟩
theorem ok_whole (F : Fun K "_law_whole" "_law_whole" sWhole f fd) (G : Gm mg) : FnOk P w K mg base CX0 1 f fd ["_law_found"] spWhole := by
  refine F.ok scWhole (fun vs H Q E h => ?_) (fun cdv A outer s H vs Q E hr h => ?_)
  · obtain ⟨i, rfl, _⟩ := h
    rfl
  obtain ⟨i, rfl, q⟩ := h
  refine ⟨_, (pss_one (ps_ret (pe_and (pe_callB call_isinst rfl G.isi PyProof.Rows.boot_isinstance (pa_cons (pv 0) (pa_cons (pe_bltn (v := .ty "int") rfl G.int PyProof.Rows.boot_int rfl) pa_nil))) (pe_one (pe_not (pe_callB call_isinst rfl G.isi PyProof.Rows.boot_isinstance (pa_cons (pv 0) (pa_cons (pe_bltn (v := .ty "bool") rfl G.boo PyProof.Rows.boot_bool rfl) pa_nil)))))))), ?_⟩
  exact ⟨_, rfl, _, "int", _, true, rfl, .int _, rfl, _, rfl, iteT ⟨_, rfl, _, "bool", _, false, rfl, .int _, rfl, _, rfl, q⟩⟩
theorem scIsS : FnScope ["_law_found", "_law_part"] ["_law_found"] (defScope sIsS) := ⟨rfl, rfl, rfl, by decide +kernel, rfl, by decide +kernel, by decide +kernel⟩
theorem ok_isS {n : Nat} (F : Fun K "_law_is_stump" "_law_is_stump" sIsS f fd) (G : Gm mg) (RW : Fn P w K mg base 1 "_law_whole" ["_law_found"] spWhole) (R : Fn P w K mg base (n + 1) "_law_is_stump" ["_law_found"] (spIsS K n)) : FnOk P w K mg base CX0 (n + 2) f fd ["_law_found"] (spIsS K (n + 1)) := by
  refine F.ok scIsS (fun vs H Q E h => ?_) (fun cdv A outer s H vs Q E hr h => ?_)
  · obtain ⟨v, s, rfl, _⟩ := h
    rfl
  obtain ⟨v, st, rfl, hs, hso, hsl, q⟩ := h
  refine ⟨_, (pss_cons (ps_if (PW.pt (pw_or (pt_not (pt_val (pe_callB call_isinstT rfl G.isi PyProof.Rows.boot_isinstance (pa_cons (pv 0) (pa_cons (pe_bltn (v := .ty "tuple") rfl G.tup PyProof.Rows.boot_tuple rfl) pa_nil))))) (pw_or1 (pt_cmpR op_eq (pe_callB call_len_seq rfl G.len PySem.boot_len (pa_cons (pv 0) pa_nil)) pe_int (nomark _))))) (pss_one (ps_ret pe_bl)) pss_nil)
    (pss_cons (ps_if (pt_cmpR op_eqD (pv 0) (pe_tup (pa_cons (pe_str) pa_nil)) (nomark _)) (pss_one (ps_ret pe_bl)) pss_nil)
    (pss_cons (ps_if (PW.pt (pw_or (pt_cmpR op_ne (pe_callB call_len_seq rfl G.len PySem.boot_len (pa_cons (pv 0) pa_nil)) pe_int (nomark _)) (pw_or (pt_cmpR op_ne (pe_ix ix_tup (pv 0) pe_int (fun _ _ => rfl)) pe_str (nomark _)) (pw_or (pt_not (pt_val (pe_callB call_isinst rfl G.isi PyProof.Rows.boot_isinstance (pa_cons (pe_ix ix_tup (pv 0) pe_int (fun _ _ => rfl)) (pa_cons (pe_bltn (v := .ty "str") rfl G.str PyProof.Rows.boot_str rfl) pa_nil))))) (pw_or1 (pt_not (pt_val (pe_fn RW hr (pa_cons (pe_ix ix_tup (pv 0) pe_int (fun _ _ => rfl)) pa_nil) (Nat.le_add_left 1 n))))))))) (pss_one (ps_ret pe_bl)) pss_nil)
    (pss_cons (ps_if (pt_not (pt_val (pe_callB call_isinstT rfl G.isi PyProof.Rows.boot_isinstance (pa_cons (pe_ix ix_tup (pv 0) pe_int (fun _ _ => rfl)) (pa_cons (pe_bltn (v := .ty "tuple") rfl G.tup PyProof.Rows.boot_tuple rfl) pa_nil))))) (pss_one (ps_ret pe_bl)) pss_nil)
    (pss_cons (ps_for PassesOwn.never rfl (pi_tup (pe_ix ix_tup (pv 0) pe_int (fun _ _ => rfl))) (pg_name (i := 1) scIsS.nd rfl (Or.inl rfl)) (pss_one (ps_if (pt_not (pt_val (pe_fn R hr (pa_cons (pv 1) pa_nil) (Nat.le_refl _)))) (pss_one (ps_ret pe_bl)) pss_nil)))
    (pss_one (ps_ret pe_bl))))))), ?_⟩
  obtain ⟨cs, ds⟩ := sd_ok st hso
  rcases sv_open hs with ⟨a, rfl, rfl, h1⟩ | ⟨a, b, bs, nm, m, ps, rfl, rfl, h1, h2, h3⟩
  · refine ⟨_, rfl, a, _, "tuple", true, rfl, h1, rfl, _, rfl, iteF ⟨_, rfl, a, _, rfl, .inr h1, rfl, _, rfl, iteN (one_ne _) ?_⟩⟩
    refine ⟨_, rfl, (by show 1 ≤ sizeLine; decide), fun p hp => ?_⟩
    have g := same_new hp (.tup [.str OPEN])
    refine ⟨sd .op, sd .op, (hs.mono fun _ _ => g.seqT).rd, (SV.op (SqT.of upd_same)).rd, cs, cs, hr.fit (by have := op_ok.2; omega), _, rfl, ?_⟩
    rw [if_neg Bool.false_ne_true, eqv_self _ cs]
    exact iteT (q _ g)
  · have l1 := h3.length
    simp only [SOk] at hso
    simp only [sl] at hsl
    refine ⟨_, rfl, a, _, "tuple", true, rfl, h1, rfl, _, rfl, iteF ⟨_, rfl, a, _, rfl, .inr h1, rfl, _, rfl, iteN (four_ne _ _ _ _) ?_⟩⟩
    refine ⟨_, rfl, (by show 1 ≤ sizeLine; decide), fun p hp => ?_⟩
    have g := same_new hp (.tup [.str OPEN])
    refine ⟨sd (.put nm m ps), sd .op, (hs.mono fun _ _ => g.seqT).rd, (SV.op (SqT.of upd_same)).rd, cs, op_ok.1, hr.fit (by have := op_ok.2; omega), _, rfl, ?_⟩
    rw [if_neg Bool.false_ne_true, sd_put_op]
    refine iteF ?_
    have h1' := g.seqT h1
    have h2' := g.seqT h2
    refine ⟨_, rfl, a, _, rfl, .inr h1', rfl, _, rfl, iteNS rfl ⟨_, rfl, a, _, 0, _, rfl, rfl, h1', rfl, rfl, _, rfl, iteNS rfl ⟨_, rfl, a, _, 1, _, rfl, rfl, h1', rfl, _, "str", _, true, rfl, .str _, rfl, _, rfl, iteF ⟨_, rfl, a, _, 2, _, rfl, rfl, h1', rfl, m, rfl, _, rfl, iteF ?_⟩⟩⟩⟩
    refine ⟨_, rfl, a, _, 3, _, rfl, rfl, h1', rfl, b, _, "tuple", true, rfl, h2', rfl, _, rfl, iteF ?_⟩
    refine ⟨_, rfl, a, _, 3, _, rfl, rfl, h1', rfl, b, rfl, ⟨_, h2'⟩, ?_⟩
    refine for_tup (K := K) (xs := bs) (fun i σ H' => ∃ c1 : Option V, σ = [some (.ref a), c1] ∧ Same H H')
      ⟨none, rfl, g⟩ ?_ ?_ ?_
    · rintro i σ H' _ ⟨c1, _, g'⟩
      exact g'.seqT h2
    · rintro i x σ H' hx ⟨c1, rfl, g'⟩
      have hib : i < ps.length := by
        have := (List.getElem?_eq_some_iff.mp hx).1
        omega
      obtain ⟨cv, hcv, hct⟩ := h3.get (List.getElem?_eq_getElem hib)
      obtain rfl : cv = x := Option.some.inj (hcv.symm.trans hx)
      have a1 := sl_le (List.getElem_mem hib)
      refine ⟨_, rfl, cv, ps[i], rfl, hct.mono fun _ _ => g'.seqT, (SOks_iff ps).mp hso.2.2 _ (List.getElem_mem hib), by omega, fun H4 g4 => ⟨_, rfl, iteF ?_⟩⟩
      exact ⟨some cv, rfl, g'.trans g4⟩
    · rintro σ H' ⟨c1, rfl, g'⟩
      exact q H' g'
theorem none_isS {k : Nat} : FnOk P w K mg base CX0 k f fd ["_law_found"] (spIsS K 0) := by
  have no : ∀ vs H Q E, ¬ spIsS K 0 vs H Q E := fun vs H Q E h => by
    obtain ⟨v, s, _, _, _, h0, _⟩ := h
    have := sl_pos s
    omega
  exact ⟨fun vs H Q E h => absurd h (no vs H Q E), fun A outer s H args us vs Q E _ _ _ _ h => absurd h (no vs H Q E)⟩
theorem all_isS (F : Fun K "_law_is_stump" "_law_is_stump" sIsS f fd) (G : Gm mg) (RW : Fn P w K mg base 1 "_law_whole" ["_law_found"] spWhole) (hb : Binds K fd ["_law_found"] []) (hm : mg "_law_is_stump" = some (.ref f)) : ∀ n : Nat, FnOk P w K mg base CX0 (n + 1) f fd ["_law_found"] (spIsS K n)
  | 0 => none_isS
  | n + 1 => ok_isS F G RW ⟨f, fd, all_isS F G RW hb hm n, hb, F.kp, hm⟩
end
end K33
namespace ST
open PySem TM TT L2 K11 K9
theorem rowsK_key (ks : List KdT) (kind : Str) : rowsK ks kind = (((ks.map keyW).find? fun p => decide (p.1 = kind)).map fun p => p.2).getD [] := by
  unfold rowsK
  rw [List.find?_map, Option.map_map]
  rfl
theorem rl_copy {ks hs : List KdT} {ms ms' : List MdT} (e1 : hs.map keyW = ks.map keyW) (e2 : ms'.map MdT.md = ms.map MdT.md) : rlOf hs ms' = rlOf ks ms := by
  have h : ∀ (ks : List KdT) (ms : List MdT), rlOf ks ms = (ms.map MdT.md).map fun m => rlsOf ((((ks.map keyW).find? fun p => decide (p.1 = m.1)).map fun p => p.2).getD []) m.2 := fun ks ms => by
    unfold rlOf
    rw [List.map_map]
    refine List.map_congr_left fun m _ => ?_
    show rlsOf (rowsK ks m.2.1) m.2.2.2.2 = rlsOf _ m.2.2.2.2
    rw [rowsK_key]
    rfl
  rw [h, h, e1, e2]
mutual
theorem sz_dr {K : PySem.W.Frag} {H : Hp} {cs : List (Int × Int)} : ∀ (t : Tm) (v : V), TmV K H v t → TDr cs t → sz t + 2 ≤ 4 * 4 ^ lv t
  | .node (.call m b) mk bs, v, hv, _ => by
    have e : bs = [] := by cases hv; rfl
    subst e
    simp [sz, szs, lv, lvs]
  | .node (.put n k a) mk bs, v, hv, h => by
    simp only [TDr] at h
    obtain ⟨vs, hvs⟩ : ∃ vs, TmAll K H vs bs := by cases hv; exact ⟨_, by assumption⟩
    have h1 := szs_dr bs vs hvs h.2.2
    have h3 : 1 ≤ 4 ^ lvs bs := Nat.pos_of_ne_zero (by simp)
    simp only [sz, lv]
    rw [Nat.add_comm 1 (lvs bs), Nat.pow_succ]
    have hl : bs.length = 0 ∨ bs.length = 1 ∨ bs.length = 2 ∨ bs.length = 3 := by have := h.2.1; omega
    rcases hl with e | e | e | e <;> rw [e] at h1 <;> omega
theorem szs_dr {K : PySem.W.Frag} {H : Hp} {cs : List (Int × Int)} : ∀ (bs : List Tm) (vs : List V), TmAll K H vs bs → TDrs cs bs → szs bs + 2 * bs.length ≤ bs.length * (4 * 4 ^ lvs bs)
  | [], _, _, _ => by simp [szs]
  | p :: r, _, .cons hp hr, h => by
    simp only [TDrs] at h
    have h1 := sz_dr p _ hp h.1
    have h2 := szs_dr r _ hr h.2
    simp only [szs, List.length_cons, lvs]
    have h3 : 4 ^ lv p ≤ 4 ^ max (lv p) (lvs r) := Nat.pow_le_pow_right (by decide) (Nat.le_max_left _ _)
    have h4 : 4 * 4 ^ lvs r ≤ 4 * 4 ^ max (lv p) (lvs r) := Nat.mul_le_mul_left _ (Nat.pow_le_pow_right (by decide) (Nat.le_max_right _ _))
    have h5 : r.length * (4 * 4 ^ lvs r) ≤ r.length * (4 * 4 ^ max (lv p) (lvs r)) := Nat.mul_le_mul_left _ h4
    have e : (r.length + 1) * (4 * 4 ^ max (lv p) (lvs r)) = r.length * (4 * 4 ^ max (lv p) (lvs r)) + 4 * 4 ^ max (lv p) (lvs r) := Nat.succ_mul _ _
    rw [e]
    generalize r.length * (4 * 4 ^ max (lv p) (lvs r)) = A at *
    generalize r.length * (4 * 4 ^ lvs r) = B at *
    generalize 4 ^ max (lv p) (lvs r) = C at *
    generalize 4 ^ lv p = E at *
    omega
end
mutual
theorem cls_dr {K : PySem.W.Frag} {H : Hp} {cs : List (Int × Int)} : ∀ (t : Tm) (v : V), TmV K H v t → TDr cs t → ∀ y ∈ cls t, y ∈ cs
  | .node (.call m b) mk bs, v, hv, h => by
    have e : bs = [] := by cases hv; rfl
    subst e
    intro y hy
    simp [cls, lcl, clss] at hy
    subst hy
    exact h
  | .node (.put n k a) mk bs, v, hv, h => by
    simp only [TDr] at h
    obtain ⟨vs, hvs⟩ : ∃ vs, TmAll K H vs bs := by cases hv; exact ⟨_, by assumption⟩
    intro y hy
    simp only [cls, lcl, List.nil_append] at hy
    exact clss_dr bs vs hvs h.2.2 y hy
theorem clss_dr {K : PySem.W.Frag} {H : Hp} {cs : List (Int × Int)} : ∀ (bs : List Tm) (vs : List V), TmAll K H vs bs → TDrs cs bs → ∀ y ∈ clss bs, y ∈ cs
  | [], _, _, _ => fun y hy => by simp [clss] at hy
  | p :: r, _, .cons hp hr, h => by
    simp only [TDrs] at h
    intro y hy
    simp only [clss] at hy
    rcases List.mem_append.mp hy with z | z
    · exact cls_dr p _ hp h.1 y z
    · exact clss_dr r _ hr h.2 y z
end
end ST
namespace K33
open PySem L2 TM TT ST K9 K11
theorem tuOk {K : PySem.W.Frag} {H : Hp} {tu wd lm : Addr} {sv : V} {c : Int} {ks : List KdT} {st : Tm} {ms : List MdT} (hT : TurnD K H tu wd lm sv ks st ms) (hW : DWood c ks) (hD : DTurn ks st ms) : TuOk ks ms := by
  have get : ∀ m ∈ ms, ∃ kd ∈ ks, kd.2.1 = m.2.1 ∧ m.2.2.2.2.length = kd.2.2.2.length ∧ ∀ (j : Nat) (r : PNx) (t : Tm), kd.2.2.2[j]? = some r → m.2.2.2.2[j]? = some t → TFitD (ms.map fun m => m.2.1) r.2.2.2 t ∧ lv t ≤ 3 := fun m hm => (hD.md m hm).ex
  refine ⟨hW.ok, ⟨hD.four, fun m hm => ?_, fun m hm t ht => ?_⟩, fun m hm => ?_⟩
  · obtain ⟨kd, hk, _, hl, _⟩ := get m hm
    have := hW.few kd hk
    omega
  · obtain ⟨kd, hk, _, hl, hf⟩ := get m hm
    obtain ⟨j, hj, e⟩ := List.getElem_of_mem ht
    have hjr : j < kd.2.2.2.length := by omega
    obtain ⟨⟨cs, hcs, htd⟩, hlv⟩ := hf j _ _ (List.getElem?_eq_getElem hjr) ((List.getElem?_eq_getElem hj).trans (congrArg some e))
    obtain ⟨v, _, hv⟩ := (hT.m.2 m hm).2.2.get ((List.getElem?_eq_getElem hj).trans (congrArg some e))
    have hsz := sz_dr t v hv htd
    have h64 : 4 ^ lv t ≤ 4 ^ 3 := Nat.pow_le_pow_right (by decide) hlv
    refine ⟨⟨cs, htd⟩, hlv, by omega, fun y hy => ?_⟩
    obtain ⟨k, i, z, e2, h1, _⟩ := hcs y (cls_dr t v hv htd y hy)
    rw [e2]
    have hkl := (List.getElem?_eq_some_iff.mp h1).1
    rw [List.length_map] at hkl
    exact ⟨by show (0 : Int) ≤ (k : Int); omega, by show ((k : Int)).toNat < ms.length; omega⟩
  · obtain ⟨kd, hk, e, hl, hf⟩ := get m hm
    refine ⟨kd, hk, e, hl, hW.bare kd hk, fun j r t hr ht hb => ?_⟩
    obtain ⟨⟨cs, hcs, htd⟩, _⟩ := hf j r t hr ht
    obtain ⟨v, _, hv⟩ := (hT.m.2 m hm).2.2.get ht
    cases ec : cls t with
    | nil => rfl
    | cons y _ =>
      obtain ⟨k, i, z, _, _, h2⟩ := hcs y (cls_dr t v hv htd y (by rw [ec]; exact List.mem_cons_self))
      rw [hb] at h2
      cases h2
theorem tu_copy {ks hs : List KdT} {ms ms' : List MdT} (e1 : hs.map keyW = ks.map keyW) (e2 : ms'.map MdT.md = ms.map MdT.md) (h : TuOk ks ms) : TuOk hs ms' := by
  have hlm : ms'.length = ms.length := by have := congrArg List.length e2; simpa using this
  have hlk : hs.length = ks.length := by have := congrArg List.length e1; simpa using this
  have gm : ∀ m' ∈ ms', ∃ m ∈ ms, m.2.1 = m'.2.1 ∧ m.2.2.2.2 = m'.2.2.2.2 := fun m' hm' => by
    have z : m'.md ∈ ms.map MdT.md := by rw [← e2]; exact List.mem_map.mpr ⟨m', hm', rfl⟩
    obtain ⟨m, hm, e⟩ := List.mem_map.mp z
    have f1 := congrArg Prod.fst e
    have f2 := congrArg Prod.snd e
    exact ⟨m, hm, f1, f2⟩
  have gk : ∀ k' ∈ hs, ∃ k ∈ ks, k.2.1 = k'.2.1 ∧ k.2.2.2 = k'.2.2.2 := fun k' hk' => by
    have z : keyW k' ∈ ks.map keyW := by rw [← e1]; exact List.mem_map.mpr ⟨k', hk', rfl⟩
    obtain ⟨k, hk, e⟩ := List.mem_map.mp z
    have f1 := congrArg Prod.fst e
    have f2 := congrArg Prod.snd e
    exact ⟨k, hk, f1, f2⟩
  have gk' : ∀ k ∈ ks, ∃ k' ∈ hs, k'.2.1 = k.2.1 ∧ k'.2.2.2 = k.2.2.2 := fun k hk => by
    have z : keyW k ∈ hs.map keyW := by rw [e1]; exact List.mem_map.mpr ⟨k, hk, rfl⟩
    obtain ⟨k', hk', e⟩ := List.mem_map.mp z
    have f1 := congrArg Prod.fst e
    have f2 := congrArg Prod.snd e
    exact ⟨k', hk', f1, f2⟩
  refine ⟨⟨?_, by rw [hlk]; exact h.wo.len, fun k' hk' => ?_⟩, ⟨by rw [hlm]; exact h.mo.four, fun m' hm' => ?_, fun m' hm' t ht => ?_⟩, fun m' hm' => ?_⟩
  · have z : (hs.map fun k => k.2.1) = ks.map fun k => k.2.1 := by
      have := congrArg (fun l => l.map Prod.fst) e1
      simp only [List.map_map] at this
      exact this
    rw [z]; exact h.wo.nd
  · obtain ⟨k, hk, _, e⟩ := gk k' hk'
    rw [← e]; exact h.wo.rows k hk
  · obtain ⟨m, hm, _, e⟩ := gm m' hm'
    rw [← e]; exact h.mo.ten m hm
  · obtain ⟨m, hm, _, e⟩ := gm m' hm'
    rw [← e] at ht
    rw [hlm]; exact h.mo.tm m hm t ht
  · obtain ⟨m, hm, e3, e4⟩ := gm m' hm'
    obtain ⟨kd, hk, h1, h2, h3, h4⟩ := h.kd m hm
    obtain ⟨k', hk', e5, e6⟩ := gk' kd hk
    refine ⟨k', hk', by rw [e5, h1, e3], by rw [e6, ← e4]; exact h2, by rw [e6]; exact h3, fun j r t hr ht => ?_⟩
    rw [e6] at hr
    rw [← e4] at ht
    exact h4 j r t hr ht
theorem tsz_le {ks : List KdT} {ms : List MdT} (h : TuOk ks ms) : tsz (D (rlOf ks ms) 0) ≤ 2000 := by
  have h1 := leaf_ok h
  have h2 : SOks (D (rlOf ks ms) 0) := (SOks_iff _).mpr fun s hs => (h1 s hs).1
  have h3 := sszs_le _ h2
  have h4 : sls (D (rlOf ks ms) 0) ≤ 3 := by
    have : ∀ l : List Stp, (∀ s ∈ l, ST.sl s ≤ 3) → sls l ≤ 3 := fun l => by
      induction l with
      | nil => intro _; simp [sls]
      | cons p r ih =>
        intro hl
        have a := hl p List.mem_cons_self
        have b := ih fun s hs => hl s (List.mem_cons_of_mem _ hs)
        simp only [sls]; omega
    exact this _ fun s hs => (h1 s hs).2
  have h5 : 4 ^ sls (D (rlOf ks ms) 0) ≤ 4 ^ 3 := Nat.pow_le_pow_right (by decide) h4
  have h6 : (D (rlOf ks ms) 0).length ≤ 4 := by rw [D_len, h.rl.len]; exact h.mo.four
  have h7 : (D (rlOf ks ms) 0).length * (4 * 4 ^ sls (D (rlOf ks ms) 0)) ≤ 4 * (4 * 4 ^ 3) := Nat.mul_le_mul h6 (Nat.mul_le_mul_left _ h5)
  unfold tsz
  omega
end K33
namespace ST
open PySem TM TT L2 K9
mutual
def OfK (rw : Str → List PNx) : Tree Str → Str → Prop
  | .node n _ bs, k => ∃ r ∈ rw k, r.2.1 = n ∧ OfKs rw bs r.2.2.2
def OfKs (rw : Str → List PNx) : List (Tree Str) → List Str → Prop
  | [], ks => ks = []
  | b :: r, ks => ∃ k ks', ks = k :: ks' ∧ OfK rw b k ∧ OfKs rw r ks'
end
theorem OfKs.len {rw : Str → List PNx} : ∀ {bs : List (Tree Str)} {ks : List Str}, OfKs rw bs ks → bs.length = ks.length
  | [], ks, h => by simp only [OfKs] at h; rw [h]; rfl
  | b :: r, ks, h => by
    simp only [OfKs] at h
    obtain ⟨k, ks', rfl, _, h2⟩ := h
    rw [List.length_cons, List.length_cons, OfKs.len h2]
theorem OfKs.get {rw : Str → List PNx} : ∀ {bs : List (Tree Str)} {ks : List Str} {j : Nat} {k : Str}, OfKs rw bs ks → ks[j]? = some k → ∃ b, bs[j]? = some b ∧ OfK rw b k
  | [], ks, j, k, h, e => by simp only [OfKs] at h; rw [h] at e; cases e
  | b :: r, ks, j, k, h, e => by
    simp only [OfKs] at h
    obtain ⟨k0, ks', rfl, h1, h2⟩ := h
    cases j with
    | zero => obtain rfl : k0 = k := by simpa using e
              exact ⟨b, rfl, h1⟩
    | succ j =>
      obtain ⟨b', e1, e2⟩ := OfKs.get (j := j) (k := k) h2 (by simpa using e)
      exact ⟨b', by simpa using e1, e2⟩
theorem OfKs.snoc {rw : Str → List PNx} {b : Tree Str} {k : Str} (hb : OfK rw b k) : ∀ {bs : List (Tree Str)} {ks : List Str}, OfKs rw bs ks → OfKs rw (bs ++ [b]) (ks ++ [k])
  | [], ks, h => by
    simp only [OfKs] at h
    subst h
    show OfKs rw [b] [k]
    simp only [OfKs]
    exact ⟨k, [], rfl, hb, rfl⟩
  | a :: r, ks, h => by
    simp only [OfKs] at h
    obtain ⟨k0, ks', rfl, h1, h2⟩ := h
    show OfKs rw (a :: (r ++ [b])) (k0 :: (ks' ++ [k]))
    simp only [OfKs]
    exact ⟨k0, _, rfl, h1, OfKs.snoc hb h2⟩
theorem lvs0 {bs : List (Tree Str)} (h : lvs bs = 0) : bs = [] := by
  cases bs with
  | nil => rfl
  | cons b r =>
    have := lv_bs b
    simp only [lvs] at h
    omega
theorem mets_fix : ∀ {ps qs : List Stp}, ps.length = qs.length → (mets ps qs = ps ↔ ∀ (i : Nat) x y, ps[i]? = some x → qs[i]? = some y → Bel x y)
  | [], [], _ => by simp [mets]
  | [], _ :: _, h => by simp at h
  | _ :: _, [], h => by simp at h
  | p :: ps, q :: qs, h => by
    have ih := mets_fix (ps := ps) (qs := qs) (by simpa using h)
    simp only [mets, List.cons.injEq]
    constructor
    · rintro ⟨h1, h2⟩ i x y hx hy
      cases i with
      | zero =>
        obtain rfl : p = x := by simpa using hx
        obtain rfl : q = y := by simpa using hy
        exact h1
      | succ i => exact ih.mp h2 i x y (by simpa using hx) (by simpa using hy)
    · intro z
      exact ⟨z 0 p q rfl rfl, ih.mpr fun i x y hx hy => z (i + 1) x y (by simpa using hx) (by simpa using hy)⟩
theorem bel_mk {n : Str} {m : Int} {ps qs : List Stp} (hl : ps.length = qs.length) (h : ∀ (i : Nat) x y, ps[i]? = some x → qs[i]? = some y → Bel x y) : Bel (.put n m ps) (.put n m qs) := by
  unfold Bel
  rw [met_pp, if_pos ⟨rfl, rfl, hl⟩, (mets_fix hl).mpr h]
theorem bel_inv {n n' : Str} {m m' : Int} {ps qs : List Stp} (h : Bel (.put n m ps) (.put n' m' qs)) : n = n' ∧ m = m' ∧ ps.length = qs.length ∧ ∀ (i : Nat) x y, ps[i]? = some x → qs[i]? = some y → Bel x y := by
  unfold Bel at h
  rw [met_pp] at h
  by_cases hc : n = n' ∧ m = m' ∧ ps.length = qs.length
  · rw [if_pos hc] at h
    injection h with _ _ h3
    exact ⟨hc.1, hc.2.1, hc.2.2, (mets_fix hc.2.2).mp h3⟩
  · rw [if_neg hc] at h; cases h
theorem made_ok {rl : Rls} (ok : RlsOk rl) {m : Nat} {rs : List (Bool × Tm)} {b : Bool} {t : Tm} (hm : rl[m]? = some rs) (hr : (b, t) ∈ rs) {bs : List (Tree Str)} (hb : bs = [] → b = true) {r : Stp}
    (G : ∀ i, lvs bs ≤ i + 1 → Bel (rsT (lookS (D rl i)) t) r) : ∀ i, 1 + lvs bs ≤ i + 1 → Bel (lookS (D rl i) (m : Int)) r
  | 0, h => by
    have e0 := lvs0 (bs := bs) (by omega)
    have hb1 := hb e0
    have hc := (ok rs (List.mem_of_getElem? hm)).2 (b, t) hr hb1
    have g := G 0 (by omega)
    rw [rs_agree (S' := fun _ => Stp.op) t (fun c hc' => by rw [hc] at hc'; cases hc')] at g
    simp only [D]
    rw [lookS_map, Int.toNat_natCast, hm]
    refine Bel.trans (metA_bel ?_) g
    exact List.mem_map.mpr ⟨(b, t), List.mem_filter.mpr ⟨hr, hb1⟩, rfl⟩
  | i + 1, h => by
    simp only [D]
    rw [lookS_map, Int.toNat_natCast, hm]
    exact Bel.trans (metA_bel (List.mem_map.mpr ⟨(b, t), hr, rfl⟩)) (G i (by omega))
end ST
namespace K33
open PySem L2 TM TT ST K9 K11
abbrev sRO : Stmt := top 35
abbrev sMade : Stmt := top 36
abbrev sMB : Stmt := top 37
def spRuO (K : PySem.W.Frag) : Sp := fun vs H Q _ => ∃ (tu wd lm : Addr) (sv : V) (ks : List KdT) (st : Tm) (ms : List MdT) (m : Nat) (md : MdT) (kd : KdT) (j : Nat) (r : PNx) (t : Tm), vs = [.ref tu, .int (m : Int), .str r.2.1] ∧ TurnD K H tu wd lm sv ks st ms ∧ WoodOk ks ∧ ms[m]? = some md ∧ kd ∈ ks ∧ kd.2.1 = md.2.1 ∧ md.2.2.2.2.length = kd.2.2.2.length ∧ kd.2.2.2[j]? = some r ∧ md.2.2.2.2[j]? = some t ∧
  ∀ (v : V) (H' : Hp), Same H H' → TmV K H' v t → Q v H'
theorem name_only {rs : List PNx} (h : (rs.map fun t => t.2.1).Nodup) {i j : Nat} {a b : PNx} (ha : rs[i]? = some a) (hb : rs[j]? = some b) (e : a.2.1 = b.2.1) : i = j := by
  obtain ⟨hi, ei⟩ := List.getElem?_eq_some_iff.mp ha
  obtain ⟨hj, ej⟩ := List.getElem?_eq_some_iff.mp hb
  have nd := List.pairwise_iff_getElem.mp (List.nodup_iff_pairwise_ne.mp h)
  rcases Nat.lt_trichotomy i j with z | z | z
  · exact absurd (by rw [List.getElem_map, List.getElem_map, ei, ej]; exact e) (nd i j (by rw [List.length_map]; exact hi) (by rw [List.length_map]; exact hj) z)
  · exact z
  · exact absurd (by rw [List.getElem_map, List.getElem_map, ei, ej]; exact e.symm) (nd j i (by rw [List.length_map]; exact hj) (by rw [List.length_map]; exact hi) z)
section
variable {P : Program} {w : World} {K : PySem.W.Frag} {mg : Str → Option Value} {base : Heap} {f : Addr} {fd : FuncData}
theorem scRO : FnScope ["_law_turning_here", "_law_mode", "_law_name_here", "_law_kind", "_law_rules"] ["_law_turning_here", "_law_mode", "_law_name_here"] (defScope sRO) := ⟨rfl, rfl, rfl, by decide +kernel, rfl, by decide +kernel, by decide +kernel⟩
theorem ok_ruo (F : Fun K "_law_rule_of" "_law_rule_of" sRO f fd) (G : Gm mg) (RO : Fn P w K mg base 1 "_law_rows" ["_law_wood_here", "_law_kind"] (spRows K)) : FnOk P w K mg base CX0 2 f fd ["_law_turning_here", "_law_mode", "_law_name_here"] (spRuO K) := by
  refine F.ok scRO (fun vs H Q E h => ?_) (fun cdv A outer s H vs Q E hr h => ?_)
  · obtain ⟨tu, wd, lm, sv, ks, st, ms, m, md, kd, j, r, t, rfl, _⟩ := h
    rfl
  obtain ⟨tu, wd, lm, sv, ks, st, ms, m, md, kd, j, r, t, rfl, hT, wo, hm, hkd, ekd, hlen, hr1, ht1, q⟩ := h
  refine ⟨_, (pss_cons (ps_asg (pe_ix ix_list (pe_ix ix_tup (pv 0) pe_int (fun _ _ => rfl)) (pv 1) (fun _ _ => rfl)) (pg_tup rfl (pgs_cons (pg_name (i := 3) scRO.nd rfl (Or.inl rfl)) (pgs_cons (pg_name (i := 4) scRO.nd rfl (Or.inl rfl)) pgs_nil))))
    (pss_one (ps_ret (pe_ix ix_list (pe_lcompG (CompG.many (xs := ["_law_row", "_law_rule_here"]) (caps := ["_law_name_here"]) (cap := [2]) (cs := [_]) rfl rfl (by decide +kernel) (by decide +kernel) (by decide +kernel) (by decide +kernel) (by decide +kernel) (by decide +kernel) rfl rfl rfl) rfl (pi_zip rfl G.zip (pa_cons (pe_fn RO hr (pa_cons (pe_ix ix_tup (pv 0) pe_int (fun _ _ => rfl)) (pa_cons (pv 3) pa_nil))) (pa_cons (pv 4) pa_nil))) (pg_c2 (CompG.many (xs := ["_law_row", "_law_rule_here"]) (caps := ["_law_name_here"]) (cap := [2]) (cs := [_]) rfl rfl (by decide +kernel) (by decide +kernel) (by decide +kernel) (by decide +kernel) (by decide +kernel) (by decide +kernel) rfl rfl rfl) rfl) (fun _ _ _ _ => pf_one (pt_cmpR op_eq (pe_ix (r := rIxT K) ix_tup (pv 0) pe_int (fun _ _ => rfl)) (pv 2) (nomark _))) (fun _ _ _ _ => pv 1)) pe_int (fun _ _ => rfl))))), ?_⟩
  have hmd := List.mem_of_getElem? hm
  obtain ⟨m1, m2, m3⟩ := hT.m.2 md hmd
  have hlu := m3.length
  have hl10 := (wo.rows kd hkd).len
  obtain ⟨uj, huj, hjt⟩ := m3.get ht1
  have hjl : j < kd.2.2.2.length := (List.getElem?_eq_some_iff.mp hr1).1
  refine ⟨_, rfl, tu, _, 2, _, rfl, rfl, hT.tu, rfl, _, rfl, lm, _, _, .ref md.1, rfl, rfl, hT.m.1, atI_nat (j := m) (by rw [List.getElem?_map, hm]; rfl), md.1, _, rfl, m1, rfl, _, _, rfl, _, _, rfl, rfl, ?_⟩
  refine ⟨_, rfl, tu, _, 0, _, rfl, rfl, hT.tu, rfl, _, rfl, wd, ks, kd, by rw [ekd]; rfl, hT.w, wo.nd, wo.len, hkd, fun H1 g1 => ⟨_, rfl, kd.2.2.1, md.2.2.1, _, md.2.2.2.1, rfl, g1.seq (hT.w.2 kd hkd).2.1, g1.seq m2, fun acc hacc => ?_⟩⟩
  have hz : (kd.2.2.2.map fun t => V.ref t.1).length = md.2.2.2.1.length := by rw [List.length_map]; omega
  have hrow := (hT.w.2 kd hkd).2
  refine c2_zip (K := K) (xs := kd.2.2.2.map fun t => V.ref t.1) (zs := md.2.2.2.1) (cs := [some (.str r.2.1)]) (te := tVar 1) hz (fun i ys H' => H' acc = some (.lst ys) ∧ Same H1 H' ∧ ys = if i ≤ j then [] else [uj])
    ⟨upd_same, same_new hacc _, by rw [if_pos (Nat.zero_le _)]⟩ ?_ ?_ ?_
  · rintro i ys H' _ ⟨_, g, _⟩
    exact ⟨g.seq (g1.seq hrow.1), g.seq (g1.seq m2)⟩
  · rintro i u v p ys H' hi hu hv hp ⟨hya, g, hys⟩
    have hir : i < kd.2.2.2.length := by simpa using hi
    obtain rfl : u = .ref kd.2.2.2[i].1 := by
      rw [List.getElem?_map, List.getElem?_eq_getElem hir] at hu
      exact (Option.some.inj hu).symm
    have gp := same_new hp (.tup [.ref kd.2.2.2[i].1, v])
    have ggp := g.trans gp
    have hra := hrow.2 _ (List.getElem_mem hir)
    refine ⟨_, rfl, _, _, 0, _, rfl, rfl, (g1.trans ggp).seqT hra.1, rfl, _, rfl, rfl, _, rfl, ?_⟩
    have hya2 := gp _ _ hya
    by_cases hc : kd.2.2.2[i].2.1 = r.2.1
    · have hij := name_only (wo.rows kd hkd).nd (List.getElem?_eq_getElem hir) hr1 hc
      obtain rfl : uj = v := by rw [hij] at hv; exact Option.some.inj (huj.symm.trans hv)
      have hy0 : ys = [] := by rw [hys, if_pos (by omega)]
      have e : decide (V.str kd.2.2.2[i].2.1 = V.str r.2.1) = true := decide_eq_true (by rw [hc])
      rw [e]
      refine iteT ⟨_, rfl, comp_next (ys := ys) hi hya2 (by rw [hy0]; decide) ⟨upd_same, fun b u e => ?_, by rw [hy0, if_neg (by omega)]; rfl⟩⟩
      rw [upd_ne (ne_of_none e hacc)]; exact ggp _ _ e
    · have hij : i ≠ j := fun z => hc (by
        subst z
        rw [List.getElem?_eq_getElem hir] at hr1
        rw [Option.some.inj hr1])
      have e : decide (V.str kd.2.2.2[i].2.1 = V.str r.2.1) = false := decide_eq_false fun z => hc (V.str.inj z)
      rw [e]
      refine iteF (comp_skip hi (ys := ys) ⟨hya2, ggp, ?_⟩)
      rw [hys]
      by_cases h2 : i < j
      · rw [if_pos (by omega), if_pos (by omega)]
      · rw [if_neg (by omega), if_neg (by omega)]
  rintro ys H2 ⟨hya, g2, hys⟩
  rw [List.length_map, if_neg (by omega)] at hys
  subst hys
  exact ⟨acc, _, 0, uj, rfl, rfl, SqL.of hya, atI_nat (j := 0) rfl, q uj H2 (g1.trans g2) (hjt.mono fun _ _ => (g1.trans g2).seqT)⟩
end
end K33
namespace K33
open PySem L2 TM TT ST K9 K11
def spMB (K : PySem.W.Frag) (n j : Nat) : Sp := fun vs H Q _ => ∃ (tu wd lm : Addr) (sv : V) (ks : List KdT) (st : Tm) (ms : List MdT) (c : Int) (tv v : V) (t : Tm) (T : Tree Str) (kb : List Str), vs = [.ref tu, tv, v] ∧ TurnD K H tu wd lm sv ks st ms ∧ DWood c ks ∧ DTurn ks st ms ∧ TmV K H tv t ∧ TFitD (ms.map fun m => m.2.1) kb t ∧ lv t ≤ j ∧ TrV K H v T ∧ OfKs (rowsK ks) T.bs kb ∧ lvs T.bs ≤ n ∧
  ∀ (v' : V) (H' : Hp) (r : Tree Str), Same H H' → TrV K H' v' r → TOk r → (∀ i, lvs T.bs ≤ i + 1 → Bel (rsT (lookS (D (rlOf ks ms) i)) t) (stOf r)) → Q v' H'
def spMade (K : PySem.W.Frag) (n : Nat) : Sp := fun vs H Q _ => ∃ (tu wd lm : Addr) (sv : V) (ks : List KdT) (st : Tm) (ms : List MdT) (c : Int) (m : Nat) (md : MdT) (v : V) (T : Tree Str), vs = [.ref tu, .int (m : Int), v] ∧ TurnD K H tu wd lm sv ks st ms ∧ DWood c ks ∧ DTurn ks st ms ∧ ms[m]? = some md ∧ TrV K H v T ∧ OfK (rowsK ks) T md.2.1 ∧ lv T ≤ n ∧
  ∀ (v' : V) (H' : Hp) (r : Tree Str), Same H H' → TrV K H' v' r → TOk r → (∀ i, lv T ≤ i + 1 → Bel (lookS (D (rlOf ks ms) i) (m : Int)) (stOf r)) → Q v' H'
section
variable {P : Program} {w : World} {K : PySem.W.Frag} {mg : Str → Option Value} {base : Heap} {f f2 : Addr} {fd fd2 : FuncData}
theorem scMB : FnScope ["_law_turning_here", "_law_term_here", "_law_tree_here", "_law_parts"] ["_law_turning_here", "_law_term_here", "_law_tree_here"] (defScope sMB) := ⟨rfl, rfl, rfl, by decide +kernel, rfl, by decide +kernel, by decide +kernel⟩
theorem ok_mb {n j : Nat} (F : Fun K "_law_made_by" "_law_made_by" sMB f fd) (G : Gm mg) (RM : Fn P w K mg base (5 * n + 3) "_law_made" ["_law_turning_here", "_law_mode", "_law_tree_here"] (spMade K n))
    (R : Fn P w K mg base (5 * n + j + 4) "_law_made_by" ["_law_turning_here", "_law_term_here", "_law_tree_here"] (spMB K n j)) : FnOk P w K mg base CX0 (5 * n + j + 5) f fd ["_law_turning_here", "_law_term_here", "_law_tree_here"] (spMB K n (j + 1)) := by
  refine F.ok scMB (fun vs H Q E h => ?_) (fun cdv A outer s H vs Q E hr h => ?_)
  · obtain ⟨tu, wd, lm, sv, ks, st, ms, c, tv, v, t, T, kb, rfl, _⟩ := h
    rfl
  obtain ⟨tu, wd, lm, sv, ks, st, ms, c, tv, v, t, T, kb, rfl, hT, hW, hD, ht, hfit, hlv, htr, hof, hn, q⟩ := h
  refine ⟨_, (pss_cons (ps_if (pt_cmpR op_eq (pe_ix ix_tup (pv 1) pe_int (fun _ _ => rfl)) pe_str (nomark _)) (pss_one (ps_ret (pe_fn RM hr (pa_cons (pv 0) (pa_cons (pe_ix ix_tup (pv 1) pe_int (fun _ _ => rfl)) (pa_cons (pe_ix ix_tup (pe_ix ix_tup (pv 2) pe_int (fun _ _ => rfl)) (pe_ix ix_tup (pv 1) pe_int (fun _ _ => rfl)) (fun _ _ => rfl)) pa_nil))) (by omega)))) pss_nil)
    (pss_cons (ps_setG (i := 3) (CompG.many (xs := ["_law_part"]) (caps := ["_law_tree_here", "_law_turning_here"]) (cap := [2, 0]) (cs := [_, _]) rfl rfl (by decide +kernel) (by decide +kernel) (by decide +kernel) (by decide +kernel) (by decide +kernel) (by decide +kernel) rfl rfl rfl) rfl (pi_tup (pe_ix ix_tup (pv 1) pe_int (fun _ _ => rfl))) (pg_c1 (CompG.many (xs := ["_law_part"]) (caps := ["_law_tree_here", "_law_turning_here"]) (cap := [2, 0]) (cs := [_, _]) rfl rfl (by decide +kernel) (by decide +kernel) (by decide +kernel) (by decide +kernel) (by decide +kernel) (by decide +kernel) rfl rfl rfl)) (fun _ _ _ _ => pf_nil) (fun _ _ _ _ => pe_fn R hr (pa_cons (pv 2) (pa_cons (pv 0) (pa_cons (pv 1) pa_nil))) (Nat.le_refl _)) scMB.nd rfl rfl)
    (pss_one (ps_ret (pe_tup (pa_cons (pe_ix ix_tup (pv 1) pe_int (fun _ _ => rfl)) (pa_cons (pe_op op_add (pe_ix ix_tup (pv 1) pe_int (fun _ _ => rfl)) (pe_op op_mul (pe_ix ix_tup (pv 2) pe_int (fun _ _ => rfl)) (pe_callTy call_int1 rfl G.int PyProof.Rows.boot_int (pa_cons (pe_ix ix_tup (pv 1) pe_int (fun _ _ => rfl)) pa_nil)))) (pa_cons (pe_callTy call_tuple_of rfl G.tup PyProof.Rows.boot_tuple (pa_cons (pv 3) pa_nil)) pa_nil)))))))), ?_⟩
  obtain ⟨ta, tb, tvs, tn, tm, tbs, rfl, rfl, k1, k2, k3, k4⟩ := trv_open htr
  have hof' : OfKs (rowsK ks) tbs kb := hof
  have hn' : lvs tbs ≤ n := hn
  obtain ⟨cs, hcs, htd⟩ := hfit
  rcases tm_op ht with ⟨a, m, b, rfl, rfl, h1⟩ | ⟨a, b, bs, nm, k, ad, ts, rfl, rfl, h1, h2, h3, h4⟩
  · refine ⟨_, rfl, a, _, 0, _, rfl, rfl, h1, rfl, rfl, _, rfl, iteP rfl ?_⟩
    simp only [TDr] at htd
    obtain ⟨k, i, z, e, hk, hi⟩ := hcs _ htd
    obtain ⟨rfl, rfl⟩ : m = (k : Int) ∧ b = (i : Int) := by injection e with e1 e2; exact ⟨e1, e2⟩
    rw [List.getElem?_map] at hk
    obtain ⟨md, hmd, ez⟩ : ∃ md, ms[k]? = some md ∧ md.2.1 = z := by
      cases em : ms[k]? with
      | none => rw [em] at hk; cases hk
      | some md => rw [em] at hk; exact ⟨md, rfl, Option.some.inj hk⟩
    obtain ⟨T', hT', hof2⟩ := hof'.get hi
    obtain ⟨v', hv', htv'⟩ := k3.get hT'
    have hle : lv T' ≤ lvs tbs := lv_le (List.mem_of_getElem? hT')
    refine ⟨_, rfl, _, rfl, a, _, 1, _, rfl, rfl, h1, rfl, _, rfl, ta, _, 2, _, rfl, rfl, k1, rfl, _, rfl, a, _, 2, _, rfl, rfl, h1, rfl, tb, tvs, _, v', rfl, rfl, k2, atI_nat (j := i) hv', ?_⟩
    refine ⟨tu, wd, lm, sv, ks, st, ms, c, k, md, v', T', rfl, hT, hW, hD, hmd, htv', by rw [ez]; exact hof2, by omega, fun v2 H2 r g2 hr2 hok hB => ?_⟩
    exact q v2 H2 r g2 hr2 hok fun i' hi' => by
      simp only [rsT]
      exact hB i' (by have : lvs tbs ≤ i' + 1 := hi'; omega)
  have l3 := h3.length
  simp only [TDr] at htd
  simp only [lv] at hlv
  refine ⟨_, rfl, a, _, 0, _, rfl, rfl, h1, rfl, rfl, _, rfl, iteN (fun z => by cases z) ?_⟩
  refine ⟨_, rfl, a, _, 4, _, rfl, rfl, h1, rfl, b, rfl, ⟨_, h2⟩, fun acc hacc => ?_⟩
  refine c1_tup (K := K) (xs := bs) (cs := [some (.ref ta), some (.ref tu)]) (tt := fun _ H Q => Q true H) (te := tCall (spMB K n j) [] E0 (tCons (tVar 2) (tCons (tVar 0) (tCons (tVar 1) tNil)))) (fun i ys H' => ∃ us : List (Tree Str), H' acc = some (.lst ys) ∧ Same H H' ∧ TrAll K H' ys us ∧ us.length = i ∧ (∀ u ∈ us, TOk u) ∧ ∀ (x : Nat) (p : Tm) (u : Tree Str), ts[x]? = some p → us[x]? = some u → ∀ i, lvs tbs ≤ i + 1 → Bel (rsT (lookS (D (rlOf ks ms) i)) p) (stOf u))
    ⟨[], upd_same, same_new hacc _, .nil, rfl, fun t ht => (nomatch ht), fun x p u _ z => by cases z⟩ ?_ ?_ ?_
  · rintro i ys H' _ ⟨us, _, g, _⟩
    exact g.seqT h2
  · rintro i x ys H' hi hx ⟨us, hya, g, hus, hul, hok, hB⟩
    have hit : i < ts.length := by omega
    have hlen := hus.length
    obtain ⟨cv, hcv, hct⟩ := h3.get (List.getElem?_eq_getElem hit)
    obtain rfl : cv = x := Option.some.inj (hcv.symm.trans hx)
    have hm := List.getElem_mem hit
    have a1 := lv_le hm
    refine iteT ⟨_, rfl, _, rfl, _, rfl, tu, wd, lm, sv, ks, st, ms, c, cv, .ref ta, ts[i], .node tn tm tbs, kb, rfl, hT.same g, hW, hD, hct.mono fun _ _ => g.seqT, ⟨cs, hcs, (TDrs_iff _ ts).mp htd.2.2 _ hm⟩, by omega, htr.mono fun _ _ => g.seqT, hof, hn, fun v4 H4 r4 g4 hv4 hok4 hB4 => ?_⟩
    have hya4 := g4 _ _ hya
    refine comp_next (ys := ys) hi hya4 (by omega) ⟨us ++ [r4], upd_same, fun b u e => ?_, ?_, by simp [hul], fun u hu => ?_, fun x p u hp hu => ?_⟩
    · rw [upd_ne (ne_of_none e hacc)]; exact g4 _ _ (g _ _ e)
    · exact TrAll.append (hus.mono fun _ _ h => (g4.seqT h).put hya4) (.cons (hv4.mono fun _ _ h => h.put hya4) .nil)
    · rcases List.mem_append.mp hu with z | z
      · exact hok u z
      · obtain rfl : u = r4 := by simpa using z
        exact hok4
    · by_cases hxi : x < us.length
      · rw [List.getElem?_append_left hxi] at hu
        exact hB x p u hp hu
      · rw [List.getElem?_append_right (by omega)] at hu
        have hx0 : x - us.length = 0 := by
          have := (List.getElem?_eq_some_iff.mp hu).1
          simp at this; omega
        obtain rfl : x = i := by omega
        rw [hx0] at hu
        obtain rfl : r4 = u := by simpa using hu
        rw [List.getElem?_eq_getElem hit] at hp
        obtain rfl := Option.some.inj hp
        exact hB4
  rintro ys H4 ⟨us, hya, g4, hus, hul, hok, hB⟩
  have hlen := hus.length
  have h14 := g4.seqT h1
  refine ⟨_, rfl, a, _, 1, _, rfl, rfl, h14, rfl, _, rfl, a, _, 3, _, rfl, rfl, h14, rfl, _, rfl, ta, _, 1, _, rfl, rfl, g4.seqT k1, rfl, _, rfl, a, _, 2, _, rfl, rfl, h14, rfl, .inr ⟨k, rfl, _, _, rfl, rfl, .inr ?_, _, _, rfl, rfl, ?_⟩⟩
  · cases k <;> exact ⟨by decide, by decide⟩
  refine ⟨_, rfl, acc, ys, rfl, .inl ⟨SqL.of hya, fun pt hpt => ⟨(by show 3 ≤ sizeLine; decide), fun pp hpp => ?_⟩⟩⟩
  have ga := same_new hpt (.tup ys)
  have gb := same_new hpp (.tup [.str nm, .int (ad + tm * (if k = true then 1 else 0)), .ref pt])
  have gab := ga.trans gb
  refine q (.ref pp) _ (.node nm (ad + tm * (if k = true then 1 else 0)) us) (g4.trans gab) (.mk (SqT.of upd_same) (gb.seqT (SqT.of upd_same)) (hus.mono fun _ _ => gab.seqT) (by omega)) ?_ fun i hi => ?_
  · simp only [TOk]
    exact ⟨htd.1, by omega, (TOks_iff us).mpr hok⟩
  · have hi' : lvs tbs ≤ i + 1 := hi
    simp only [rsT, stOf]
    cases k with
    | true => rw [if_pos rfl]; exact bel_op _
    | false =>
      rw [if_neg Bool.false_ne_true, if_neg Bool.false_ne_true, Int.mul_zero, Int.add_zero]
      refine bel_mk (by rw [rsTs_len, stOfs_map, List.length_map]; omega) fun x s y hs hy => ?_
      rw [rsTs_map, List.getElem?_map] at hs
      rw [stOfs_map, List.getElem?_map] at hy
      cases e1 : ts[x]? with
      | none => rw [e1] at hs; cases hs
      | some p =>
        cases e2 : us[x]? with
        | none => rw [e2] at hy; cases hy
        | some u =>
          rw [e1] at hs; rw [e2] at hy
          obtain rfl := Option.some.inj hs
          obtain rfl := Option.some.inj hy
          exact hB x p u e1 e2 i hi'
theorem none_mb {n k : Nat} : FnOk P w K mg base CX0 k f fd ["_law_turning_here", "_law_term_here", "_law_tree_here"] (spMB K n 0) := by
  have no : ∀ vs H Q E, ¬ spMB K n 0 vs H Q E := fun vs H Q E h => by
    obtain ⟨tu, wd, lm, sv, ks, st, ms, c, tv, v, t, T, kb, _, _, _, _, _, _, h0, _⟩ := h
    rw [lv_bs] at h0; omega
  exact ⟨fun vs H Q E h => absurd h (no vs H Q E), fun A outer s H args us vs Q E _ _ _ _ h => absurd h (no vs H Q E)⟩
theorem scMade : FnScope ["_law_turning_here", "_law_mode", "_law_tree_here"] ["_law_turning_here", "_law_mode", "_law_tree_here"] (defScope sMade) := ⟨rfl, rfl, rfl, by decide +kernel, rfl, by decide +kernel, by decide +kernel⟩
theorem ok_made {n : Nat} (F : Fun K "_law_made" "_law_made" sMade f fd) (RR : Fn P w K mg base 2 "_law_rule_of" ["_law_turning_here", "_law_mode", "_law_name_here"] (spRuO K))
    (RB : Fn P w K mg base (5 * n + 7) "_law_made_by" ["_law_turning_here", "_law_term_here", "_law_tree_here"] (spMB K n 3)) : FnOk P w K mg base CX0 (5 * n + 8) f fd ["_law_turning_here", "_law_mode", "_law_tree_here"] (spMade K (n + 1)) := by
  refine F.ok scMade (fun vs H Q E h => ?_) (fun cdv A outer s H vs Q E hr h => ?_)
  · obtain ⟨tu, wd, lm, sv, ks, st, ms, c, m, md, v, T, rfl, _⟩ := h
    rfl
  obtain ⟨tu, wd, lm, sv, ks, st, ms, c, m, md, v, T, rfl, hT, hW, hD, hm, htr, hof, hlv, q⟩ := h
  refine ⟨_, (pss_one (ps_ret (pe_fn RB hr (pa_cons (pv 0) (pa_cons (pe_fn RR hr (pa_cons (pv 0) (pa_cons (pv 1) (pa_cons (pe_ix ix_tup (pv 2) pe_int (fun _ _ => rfl)) pa_nil))) (by omega)) (pa_cons (pv 2) pa_nil))) (Nat.le_refl _)))), ?_⟩
  obtain ⟨ta, tb, tvs, tn, tm, tbs, rfl, rfl, k1, k2, k3, k4⟩ := trv_open htr
  have ok := tuOk hT hW hD
  have hmd := List.mem_of_getElem? hm
  obtain ⟨kd, hkd, ekd, hlen, hf⟩ := (hD.md md hmd).ex
  simp only [OfK] at hof
  have er : rowsK ks md.2.1 = kd.2.2.2 := by rw [← ekd]; exact rowsK_at hW.ok.nd hkd
  rw [er] at hof
  obtain ⟨r, hr1, rfl, hofs⟩ := hof
  obtain ⟨j, hj, ej⟩ := List.getElem_of_mem hr1
  have hrj : kd.2.2.2[j]? = some r := (List.getElem?_eq_getElem hj).trans (congrArg some ej)
  have hjt : j < md.2.2.2.2.length := by omega
  have htj := List.getElem?_eq_getElem hjt
  obtain ⟨hfit, hlt⟩ := hf j r _ hrj htj
  simp only [lv] at hlv
  refine ⟨_, rfl, _, rfl, _, rfl, _, rfl, ta, _, 0, _, rfl, rfl, k1, rfl, tu, wd, lm, sv, ks, st, ms, m, md, kd, j, r, md.2.2.2.2[j], rfl, hT, hW.ok, hm, hkd, ekd, hlen, hrj, htj, fun tv H1 g1 htv => ?_⟩
  refine ⟨_, rfl, tu, wd, lm, sv, ks, st, ms, c, tv, .ref ta, md.2.2.2.2[j], .node r.2.1 tm tbs, r.2.2.2, rfl, hT.same g1, hW, hD, htv, hfit, hlt, htr.mono fun _ _ => g1.seqT, hofs, by show lvs tbs ≤ n; omega, fun v2 H2 r2 g2 hr2 hok hB => ?_⟩
  refine q v2 H2 r2 (g1.trans g2) hr2 hok fun i hi => ?_
  have hrl : (rowsK ks md.2.1).length = md.2.2.2.2.length := by rw [er]; omega
  refine made_ok ok.rl.ok (rs := rlsOf (rowsK ks md.2.1) md.2.2.2.2) (b := r.2.2.2.isEmpty) (t := md.2.2.2.2[j]) (bs := tbs) ?_ ?_ ?_ hB i ?_
  · unfold rlOf
    rw [List.getElem?_map, hm]; rfl
  · exact List.mem_of_getElem? ((rls_at hrl).mpr ⟨htj, r, by rw [er]; exact hrj, rfl⟩)
  · intro z
    have := hofs.len
    rw [z] at this
    exact List.isEmpty_iff.mpr (List.length_eq_zero_iff.mp this.symm)
  · simp only [lv] at hi; exact hi
theorem none_made {k : Nat} : FnOk P w K mg base CX0 k f fd ["_law_turning_here", "_law_mode", "_law_tree_here"] (spMade K 0) := by
  have no : ∀ vs H Q E, ¬ spMade K 0 vs H Q E := fun vs H Q E h => by
    obtain ⟨tu, wd, lm, sv, ks, st, ms, c, m, md, v, T, _, _, _, _, _, _, _, h0, _⟩ := h
    rw [lv_bs] at h0; omega
  exact ⟨fun vs H Q E h => absurd h (no vs H Q E), fun A outer s H args us vs Q E _ _ _ _ h => absurd h (no vs H Q E)⟩
theorem all_mb {n : Nat} (F : Fun K "_law_made_by" "_law_made_by" sMB f fd) (G : Gm mg) (RM : Fn P w K mg base (5 * n + 3) "_law_made" ["_law_turning_here", "_law_mode", "_law_tree_here"] (spMade K n)) (hb : Binds K fd ["_law_turning_here", "_law_term_here", "_law_tree_here"] []) (hm : mg "_law_made_by" = some (.ref f)) : ∀ j : Nat, FnOk P w K mg base CX0 (5 * n + j + 4) f fd ["_law_turning_here", "_law_term_here", "_law_tree_here"] (spMB K n j)
  | 0 => none_mb
  | j + 1 => ok_mb F G RM ⟨f, fd, all_mb F G RM hb hm j, hb, F.kp, hm⟩
theorem all_made (F : Fun K "_law_made" "_law_made" sMade f fd) (F2 : Fun K "_law_made_by" "_law_made_by" sMB f2 fd2) (G : Gm mg) (RR : Fn P w K mg base 2 "_law_rule_of" ["_law_turning_here", "_law_mode", "_law_name_here"] (spRuO K)) (hb : Binds K fd ["_law_turning_here", "_law_mode", "_law_tree_here"] []) (hm : mg "_law_made" = some (.ref f))
    (hb2 : Binds K fd2 ["_law_turning_here", "_law_term_here", "_law_tree_here"] []) (hm2 : mg "_law_made_by" = some (.ref f2)) : ∀ n : Nat, FnOk P w K mg base CX0 (5 * n + 3) f fd ["_law_turning_here", "_law_mode", "_law_tree_here"] (spMade K n)
  | 0 => none_made
  | n + 1 => ok_made F RR ⟨f2, fd2, all_mb F2 G ⟨f, fd, all_made F F2 G RR hb hm hb2 hm2 n, hb, F.kp, hm⟩ hb2 hm2 3, hb2, F2.kp, hm2⟩
end
end K33
namespace K33
open PySem L2 TM TT ST K9 K11
abbrev sTree : Stmt := top 38
def spTree (K : PySem.W.Frag) (n : Nat) : Sp := fun vs H Q _ => ∃ (d wd : Addr) (c : Int) (ks : List KdT) (kd : KdT) (dp : Nat), vs = [.ref d, .ref wd, .str kd.2.1, .int (dp : Int)] ∧ Dk H d ∧ WoodD K H d wd ks ∧ DWood c ks ∧ kd ∈ ks ∧ 1 ≤ dp ∧ dp ≤ n ∧
  ∀ (v : V) (H' : Hp) (T : Tree Str), SameD d H H' → Dk H' d → TrV K H' v T → OfK (rowsK ks) T kd.2.1 → lv T ≤ dp → Q v H'
theorem eqv_nilS (p : List Str) : PyData.eqv (.tuple (p.map PyData.str)) (.tuple []) = p.isEmpty := by
  cases p <;> simp [PyData.eqv, PyData.eqvAll]
theorem rd_strs {K : PySem.W.Frag} {H : Hp} : ∀ p : List Str, RdAll K H (p.map V.str) (p.map PyData.str)
  | [] => .nil
  | x :: r => .cons (.str x) (rd_strs r)
section
variable {P : Program} {w : World} {K : PySem.W.Frag} {mg : Str → Option Value} {base : Heap} {f : Addr} {fd : FuncData}
theorem scTree : FnScope ["_law_deck", "_law_wood_here", "_law_kind", "_law_deep", "_law_rows_here", "_law_name_here", "_law_branches", "_law_mark_here"] ["_law_deck", "_law_wood_here", "_law_kind", "_law_deep"] (defScope sTree) := ⟨rfl, rfl, rfl, by decide +kernel, rfl, by decide +kernel, by decide +kernel⟩
theorem ok_tree {n : Nat} (F : Fun K "_law_tree" "_law_tree" sTree f fd) (G : Gm mg) (RD : Fn P w K mg base 1 "_law_draw" ["_law_deck", "_law_most"] spDraw) (RM : Fn P w K mg base 2 "_law_mark" ["_law_deck"] spMark) (RO : Fn P w K mg base 1 "_law_rows" ["_law_wood_here", "_law_kind"] (spRows K))
    (R : Fn P w K mg base (n + 2) "_law_tree" ["_law_deck", "_law_wood_here", "_law_kind", "_law_deep"] (spTree K n)) : FnOk P w K mg base CX0 (n + 3) f fd ["_law_deck", "_law_wood_here", "_law_kind", "_law_deep"] (spTree K (n + 1)) := by
  refine F.ok scTree (fun vs H Q E h => ?_) (fun cdv A outer s H vs Q E hr h => ?_)
  · obtain ⟨d, wd, c, ks, kd, dp, rfl, _⟩ := h
    rfl
  obtain ⟨d, wd, c, ks, kd, dp, rfl, hd, hw, hW, hkd, hd1, hdn, q⟩ := h
  refine ⟨_, (pss_cons (ps_set (i := 4) scTree.nd rfl (Or.inl rfl) (pe_fn RO hr (pa_cons (pv 1) (pa_cons (pv 2) pa_nil)) (by omega)))
    (pss_cons (ps_cut (ps_if (pt_cmpR op_eq (pv 3) pe_int (nomark _)) (pss_one (ps_setG (i := 4) (CompG.many (xs := ["_law_row"]) (caps := []) (cap := []) (cs := []) rfl rfl (by decide +kernel) (by decide +kernel) (by decide +kernel) (by decide +kernel) (by decide +kernel) (by decide +kernel) rfl rfl rfl) rfl (pi_list (pv 4)) (pg_c1 (CompG.many (xs := ["_law_row"]) (caps := []) (cap := []) (cs := []) rfl rfl (by decide +kernel) (by decide +kernel) (by decide +kernel) (by decide +kernel) (by decide +kernel) (by decide +kernel) rfl rfl rfl)) (fun _ _ _ _ => pf_one (pt_cmpR (r := rEqD K (A.deeper (PyProof.Rows.envOfC "_law_tree" (defScope sTree) s.heap.objs.size f cdv)) false) op_eqD (pe_ix (r := rIxT K) ix_tup (pv 0) pe_int (fun _ _ => rfl)) (pe_tup pa_nil) (nomark _))) (fun _ _ _ _ => pv 0) scTree.nd rfl rfl)) pss_nil))
    (pss_cons (ps_asg (pe_ix ix_list (pv 4) (pe_fn RD hr (pa_cons (pv 0) (pa_cons (pe_callB call_len_seq rfl G.len PySem.boot_len (pa_cons (pv 4) pa_nil)) pa_nil)) (by omega)) (fun _ _ => rfl)) (pg_tup rfl (pgs_cons (pg_name (i := 5) scTree.nd rfl (Or.inl rfl)) (pgs_cons (pg_name (i := 6) scTree.nd rfl (Or.inl rfl)) pgs_nil))))
    (pss_cons (ps_set (i := 7) scTree.nd rfl (Or.inl rfl) (pe_fn RM hr (pa_cons (pv 0) pa_nil) (Nat.le_add_left 2 n)))
    (pss_one (ps_ret (pe_tup (pa_cons (pv 5) (pa_cons (pv 7) (pa_cons (pe_callTy call_tuple_of rfl G.tup PyProof.Rows.boot_tuple (pa_cons (pe_lcompG (CompG.many (xs := ["_law_branch"]) (caps := ["_law_deck", "_law_deep", "_law_wood_here"]) (cap := [0, 3, 1]) (cs := [_, _, _]) rfl rfl (by decide +kernel) (by decide +kernel) (by decide +kernel) (by decide +kernel) (by decide +kernel) (by decide +kernel) rfl rfl rfl) rfl (pi_tup (pv 6)) (pg_c1 (CompG.many (xs := ["_law_branch"]) (caps := ["_law_deck", "_law_deep", "_law_wood_here"]) (cap := [0, 3, 1]) (cs := [_, _, _]) rfl rfl (by decide +kernel) (by decide +kernel) (by decide +kernel) (by decide +kernel) (by decide +kernel) (by decide +kernel) rfl rfl rfl)) (fun _ _ _ _ => pf_nil) (fun _ _ _ _ => pe_fn R hr (pa_cons (pv 1) (pa_cons (pv 3) (pa_cons (pv 0) (pa_cons (pe_op op_sub (pv 2) pe_int) pa_nil)))) (Nat.le_refl _))) pa_nil)) pa_nil)))))))))), ?_⟩
  have hrl := (hw.1.2 kd hkd).2
  have hl3 := hW.few kd hkd
  refine ⟨_, rfl, _, rfl, wd, ks, kd, rfl, hw.1, hW.ok.nd, hW.ok.len, hkd, fun H1 g1 => ?_⟩
  have hd1' := hd.same g1
  have hrl1 := hrl.same g1
  refine ⟨fun σ' H' => ∃ (lr : Addr) (rs : List PNx), σ' = [some (.ref d), some (.ref wd), some (.str kd.2.1), some (.int (dp : Int)), some (.ref lr), none, none, none] ∧ Same H H' ∧ RowsL K H' lr rs ∧ lr ≠ d ∧ rs ≠ [] ∧ rs.length ≤ 3 ∧ (∀ r ∈ rs, r ∈ kd.2.2.2) ∧ (dp = 1 → ∀ r ∈ rs, r.2.2.2 = []), ?_, ?_⟩
  · obtain ⟨r0, hr0, er0⟩ := hW.bare kd hkd
    refine ⟨_, rfl, rfl, _, rfl, ite2 (fun hc => ?_) (fun hc => ?_)⟩
    · refine ⟨_, rfl, kd.2.2.1, rfl, ⟨_, hrl1.1⟩, fun acc hacc => ?_⟩
      refine c1_list (K := K) (xs := kd.2.2.2.map fun t => V.ref t.1) (cs := []) (te := tVar 0) (fun i ys H' => ys = ((kd.2.2.2.take i).filter fun r => r.2.2.2.isEmpty).map (fun r => V.ref r.1) ∧ H' acc = some (.lst ys) ∧ Same H1 H')
        ⟨rfl, upd_same, same_new hacc _⟩ ?_ ?_ ?_
      · rintro i ys H' _ ⟨_, _, g⟩
        exact (hrl1.same g).1
      · rintro i x ys H' hi hx ⟨rfl, hya, g⟩
        have hik : i < kd.2.2.2.length := by simpa using hi
        obtain rfl : x = .ref kd.2.2.2[i].1 := by
          rw [List.getElem?_map, List.getElem?_eq_getElem hik] at hx
          exact (Option.some.inj hx).symm
        have hra := (hrl1.same g).2 _ (List.getElem_mem hik)
        have hkn := (hW.ok.rows kd hkd).kn _ (List.getElem_mem hik)
        refine ⟨_, rfl, _, _, 1, _, rfl, rfl, hra.1, rfl, (by show 0 ≤ sizeLine; decide), fun p hp => ?_⟩
        have gp := same_new hp (.tup [])
        have cl : (PyData.tuple (kd.2.2.2[i].2.2.2.map PyData.str)).canLay0 = true := by
          simp only [PyData.canLay0]
          exact lay_strs _ hkn
        refine ⟨.tuple (kd.2.2.2[i].2.2.2.map PyData.str), .tuple [], .tup (gp.seqT hra.2) (rd_strs _), .tup (SqT.of upd_same) .nil, cl, by decide, hr.fit (Nat.le_trans (Nat.min_le_right _ _) (by simp [PyData.depth, PyData.depthAll])), _, rfl, ?_⟩
        rw [if_neg Bool.false_ne_true, eqv_nilS]
        have hya2 := gp _ _ hya
        have elen : (((kd.2.2.2.take i).filter fun r => r.2.2.2.isEmpty).map (fun r => V.ref r.1)).length < 5000 := by
          rw [List.length_map]
          exact Nat.lt_of_le_of_lt (List.length_filter_le _ _) (by rw [List.length_take]; omega)
        refine iteB (fun hb => ?_) (fun hb => ?_)
        · refine ⟨_, rfl, comp_next hi hya2 elen ⟨?_, upd_same, fun x u e => by rw [upd_ne (ne_of_none e hacc)]; exact gp _ _ (g _ _ e)⟩⟩
          rw [List.take_add_one, List.getElem?_eq_getElem hik, List.filter_append, List.map_append]
          simp [hb]
        · refine comp_skip hi (ys := ((kd.2.2.2.take i).filter fun r => r.2.2.2.isEmpty).map (fun r => V.ref r.1)) ⟨?_, hya2, g.trans gp⟩
          rw [List.take_add_one, List.getElem?_eq_getElem hik, List.filter_append]
          simp [hb]
      rintro ys H2 ⟨rfl, hya, g2⟩
      rw [List.length_map, List.take_length] at hya
      have hacc0 : H acc = none := g1.free hacc
      refine ⟨acc, kd.2.2.2.filter fun r => r.2.2.2.isEmpty, rfl, g1.trans g2, ⟨SqL.of hya, fun t ht => (hrl1.same g2).2 t (List.mem_filter.mp ht).1⟩, hd.ne hacc0, fun z => ?_, Nat.le_trans (List.length_filter_le _ _) hl3, fun r hr => (List.mem_filter.mp hr).1, fun _ r hr => List.isEmpty_iff.mp (List.mem_filter.mp hr).2⟩
      have : r0 ∈ kd.2.2.2.filter fun r => r.2.2.2.isEmpty := List.mem_filter.mpr ⟨hr0, by rw [er0]; rfl⟩
      rw [z] at this; cases this
    · refine ⟨kd.2.2.1, kd.2.2.2, rfl, g1, hrl1, hw.2.2 kd hkd, fun z => (by rw [z] at hr0; cases hr0), hl3, fun r hr => hr, fun z => ?_⟩
      exact absurd (decide_eq_true (by rw [z]; rfl)) hc
  rintro σ' H2 ⟨lr, rs, rfl, g2, hrs, hlr, hne, hrs3, hsub, hbare⟩
  have hd2 := hd.same g2
  have hpos : 0 < rs.length := List.length_pos_iff.mpr hne
  refine ⟨_, rfl, _, rfl, _, rfl, lr, _, rfl, .inl hrs.1, d, _, rfl, hd2, (by rw [List.length_map]; show (0 : Int) < ((rs.length : Nat) : Int); omega), fun x H3 g3 hd3 x0 x1 => ?_⟩
  rw [List.length_map] at x1
  obtain ⟨r, hrx⟩ : ∃ r, rs[x.toNat]? = some r := ⟨_, List.getElem?_eq_getElem (by omega)⟩
  have hrm := List.mem_of_getElem? hrx
  have hra := hrs.2 r hrm
  refine ⟨lr, _, _, .ref r.1, rfl, rfl, g3.seqL hlr hrs.1, atI_int x0 (by rw [List.getElem?_map, hrx]; rfl), r.1, _, rfl, g3.seqT hd2 hra.1, rfl, _, _, rfl, _, _, rfl, rfl, ?_⟩
  refine ⟨_, rfl, d, rfl, hd3, fun mk H4 g4 hd4 => ?_⟩
  have g24 := g3.trans g4
  have gH4 : SameD d H H4 := (SameD.of g2).trans g24
  have hb4 : SqT K H4 r.2.2.1 (r.2.2.2.map V.str) := g24.seqT hd2 hra.2
  have hw4 : WoodD K H4 d wd ks := hw.sameD gH4 hd
  have hrk := hsub r hrm
  have hkl := (hW.ok.rows kd hkd).kl r hrk
  refine ⟨_, rfl, _, rfl, _, rfl, r.2.2.1, rfl, ⟨_, hb4⟩, fun acc hacc => ?_⟩
  have had := hd4.ne hacc
  refine c1_tup (K := K) (xs := r.2.2.2.map V.str) (cs := [some (.ref d), some (.int (dp : Int)), some (.ref wd)]) (tt := fun _ H Q => Q true H) (te := tCall (spTree K n) [] E0 (tCons (tVar 1) (tCons (tVar 3) (tCons (tVar 0) (tCons (tOp (rI0 fun i j => .int (i - j)) (tVar 2) (tC (.int 1))) tNil))))) (fun i ys H' => ∃ us : List (Tree Str), H' acc = some (.lst ys) ∧ SameD d H4 H' ∧ Dk H' d ∧ TrAll K H' ys us ∧ us.length = i ∧ (∀ u ∈ us, lv u ≤ dp - 1) ∧ OfKs (rowsK ks) us (r.2.2.2.take i))
    ⟨[], upd_same, SameD.new hacc, hd4.upd had, .nil, rfl, fun u hu => (nomatch hu), by simp only [OfKs]; rfl⟩ ?_ ?_ ?_
  · rintro i ys H' _ ⟨us, _, g, _⟩
    exact g.seqT hd4 hb4
  · rintro i x ys H' hi hx ⟨us, hya, g, hdk, hus, hul, hlv, hof⟩
    have hir : i < r.2.2.2.length := by simpa using hi
    have hlen := hus.length
    obtain rfl : x = .str r.2.2.2[i] := by
      rw [List.getElem?_map, List.getElem?_eq_getElem hir] at hx
      exact (Option.some.inj hx).symm
    have hdp : dp ≠ 1 := fun z => by
      have := hbare z r hrm
      rw [this] at hir; exact absurd hir (Nat.not_lt_zero _)
    obtain ⟨kd2, hkd2, ek⟩ := List.mem_map.mp (hW.kin kd hkd r hrk _ (List.getElem_mem hir))
    refine iteT ⟨_, rfl, _, rfl, _, rfl, _, rfl, _, _, rfl, rfl, d, wd, c, ks, kd2, dp - 1, ?_, hdk, hw4.sameD g hd4, hW, hkd2, by omega, by omega, fun v5 H5 T5 g5 hd5 hv5 hof5 hlv5 => ?_⟩
    · have e1 : ((dp - 1 : Nat) : Int) = (dp : Int) - 1 := by omega
      rw [ek, e1]; rfl
    have hya5 := g5 _ _ had hya
    refine comp_next (ys := ys) hi hya5 (by omega) ⟨us ++ [T5], upd_same, (g.trans g5).put hacc, hd5.upd had, ?_, by simp [hul], fun u hu => ?_, ?_⟩
    · exact TrAll.append (hus.mono fun _ _ h => (g5.seqT hdk h).put hya5) (.cons (hv5.mono fun _ _ h => h.put hya5) .nil)
    · rcases List.mem_append.mp hu with z | z
      · exact hlv u z
      · obtain rfl : u = T5 := by simpa using z
        exact hlv5
    · rw [List.take_add_one, List.getElem?_eq_getElem hir]
      exact OfKs.snoc (by rw [← ek]; exact hof5) hof
  rintro ys H5 ⟨us, hya, g5, hd5, hus, hul, hlv, hof⟩
  rw [List.length_map] at hul hof
  rw [List.take_length] at hof
  have hlen := hus.length
  refine ⟨acc, ys, rfl, .inl ⟨SqL.of hya, fun pt hpt => ⟨(by show 3 ≤ sizeLine; decide), fun pp hpp => ?_⟩⟩⟩
  have ga := same_new hpt (.tup ys)
  have gb := same_new hpp (.tup [.str r.2.1, .int mk, .ref pt])
  have gab := ga.trans gb
  refine q (.ref pp) _ (.node r.2.1 mk us) (gH4.trans (g5.trans (SameD.of gab))) (hd5.same gab) (.mk (SqT.of upd_same) (gb.seqT (SqT.of upd_same)) (hus.mono fun _ _ => gab.seqT) (by omega)) ?_ ?_
  · simp only [OfK]
    exact ⟨r, by rw [rowsK_at hW.ok.nd hkd]; exact hrk, rfl, hof⟩
  · simp only [lv]
    have := lvs_all hlv
    omega
theorem none_tree {k : Nat} : FnOk P w K mg base CX0 k f fd ["_law_deck", "_law_wood_here", "_law_kind", "_law_deep"] (spTree K 0) := by
  have no : ∀ vs H Q E, ¬ spTree K 0 vs H Q E := fun vs H Q E h => by
    obtain ⟨d, wd, c, ks, kd, dp, _, _, _, _, _, h1, h0, _⟩ := h
    omega
  exact ⟨fun vs H Q E h => absurd h (no vs H Q E), fun A outer s H args us vs Q E _ _ _ _ h => absurd h (no vs H Q E)⟩
theorem all_tree (F : Fun K "_law_tree" "_law_tree" sTree f fd) (G : Gm mg) (RD : Fn P w K mg base 1 "_law_draw" ["_law_deck", "_law_most"] spDraw) (RM : Fn P w K mg base 2 "_law_mark" ["_law_deck"] spMark) (RO : Fn P w K mg base 1 "_law_rows" ["_law_wood_here", "_law_kind"] (spRows K))
    (hb : Binds K fd ["_law_deck", "_law_wood_here", "_law_kind", "_law_deep"] []) (hm : mg "_law_tree" = some (.ref f)) : ∀ n : Nat, FnOk P w K mg base CX0 (n + 2) f fd ["_law_deck", "_law_wood_here", "_law_kind", "_law_deep"] (spTree K n)
  | 0 => none_tree
  | n + 1 => ok_tree F G RD RM RO ⟨f, fd, all_tree F G RD RM RO hb hm n, hb, F.kp, hm⟩
end
end K33
namespace K33
open PySem L2 TM TT ST K9 K11
abbrev sBeg : Stmt := top 39
abbrev sSts : Stmt := top 40
def spBeg (K : PySem.W.Frag) (n : Nat) : Sp := fun vs H Q _ => ∃ (v tv : V) (s : Stp) (T : Tree Str), vs = [v, tv] ∧ SV K H v s ∧ SOk s ∧ ST.sl s ≤ n ∧ TrV K H tv T ∧ TOk T ∧ Bel s (stOf T) ∧ ∀ H', Same H H' → Q (.bl true) H'
def spSts (K : PySem.W.Frag) : Sp := fun vs H Q _ => ∃ (l : Addr) (us : List V) (S : List Stp), vs = [.ref l, .int (us.length : Int)] ∧ H l = some (.lst us) ∧ SAll K H us S ∧ (∀ s ∈ S, SOk s ∧ ST.sl s ≤ 3) ∧ ∀ H', Same H H' → Q (.bl true) H'
section
variable {P : Program} {w : World} {K : PySem.W.Frag} {mg : Str → Option Value} {base : Heap} {f : Addr} {fd : FuncData}
theorem scBeg : FnScope ["_law_stump", "_law_tree_here", "_law_part", "_law_branch"] ["_law_stump", "_law_tree_here"] (defScope sBeg) := ⟨rfl, rfl, rfl, by decide +kernel, rfl, by decide +kernel, by decide +kernel⟩
theorem ok_beg {n : Nat} (F : Fun K "_law_begins" "_law_begins" sBeg f fd) (G : Gm mg) (R : Fn P w K mg base (n + 1) "_law_begins" ["_law_stump", "_law_tree_here"] (spBeg K n)) : FnOk P w K mg base CX0 (n + 2) f fd ["_law_stump", "_law_tree_here"] (spBeg K (n + 1)) := by
  refine F.ok scBeg (fun vs H Q E h => ?_) (fun cdv A outer s H vs Q E hr h => ?_)
  · obtain ⟨v, tv, s, T, rfl, _⟩ := h
    rfl
  obtain ⟨v, tv, st, T, rfl, hs, hso, hsl, ht, hto, hB, q⟩ := h
  refine ⟨_, (pss_cons (ps_if (pt_cmpR op_eq (pe_ix ix_tup (pv 0) pe_int (fun _ _ => rfl)) pe_str (nomark _)) (pss_one (ps_ret pe_bl)) pss_nil)
    (pss_cons (ps_if (pt_cmpR op_neD (pe_tup (pa_cons (pe_ix ix_tup (pv 0) pe_int (fun _ _ => rfl)) (pa_cons (pe_ix ix_tup (pv 0) pe_int (fun _ _ => rfl)) (pa_cons (pe_callB call_len_seq rfl G.len PySem.boot_len (pa_cons (pe_ix ix_tup (pv 0) pe_int (fun _ _ => rfl)) pa_nil)) pa_nil)))) (pe_tup (pa_cons (pe_ix ix_tup (pv 1) pe_int (fun _ _ => rfl)) (pa_cons (pe_ix ix_tup (pv 1) pe_int (fun _ _ => rfl)) (pa_cons (pe_callB call_len_seq rfl G.len PySem.boot_len (pa_cons (pe_ix ix_tup (pv 1) pe_int (fun _ _ => rfl)) pa_nil)) pa_nil)))) (nomark _)) (pss_one (ps_ret pe_bl)) pss_nil)
    (pss_cons (ps_for PassesOwn.never rfl (pi_zipT rfl G.zip (pa_cons (pe_ix ix_tup (pv 0) pe_int (fun _ _ => rfl)) (pa_cons (pe_ix ix_tup (pv 1) pe_int (fun _ _ => rfl)) pa_nil))) (pg_tup rfl (pgs_cons (pg_name (i := 2) scBeg.nd rfl (Or.inl rfl)) (pgs_cons (pg_name (i := 3) scBeg.nd rfl (Or.inl rfl)) pgs_nil))) (pss_one (ps_if (pt_not (pt_val (pe_fn R hr (pa_cons (pv 2) (pa_cons (pv 3) pa_nil)) (Nat.le_refl _)))) (pss_one (ps_ret pe_bl)) pss_nil)))
    (pss_one (ps_ret pe_bl))))), ?_⟩
  rcases sv_open hs with ⟨a, rfl, rfl, h1⟩ | ⟨a, b, bs, nm, m, ps, rfl, rfl, h1, h2, h3⟩
  · exact ⟨_, rfl, a, _, 0, _, rfl, rfl, h1, rfl, rfl, _, rfl, iteP rfl (q H (Same.refl _))⟩
  obtain ⟨ta, tb, tvs, tn, tm, tbs, rfl, rfl, k1, k2, k3, k4⟩ := trv_open ht
  have l1 := h3.length
  have l2 := k3.length
  simp only [SOk] at hso
  simp only [TOk] at hto
  simp only [ST.sl] at hsl
  simp only [stOf] at hB
  obtain ⟨en, em, el, hBs⟩ := bel_inv hB
  rw [stOfs_map, List.length_map] at el
  refine ⟨_, rfl, a, _, 0, _, rfl, rfl, h1, rfl, rfl, _, rfl, iteN (fun z => by cases z) ?_⟩
  refine ⟨_, rfl, a, _, 1, _, rfl, rfl, h1, rfl, _, rfl, a, _, 2, _, rfl, rfl, h1, rfl, _, rfl, a, _, 3, _, rfl, rfl, h1, rfl, b, bs, rfl, .inr h2, (by show 3 ≤ sizeLine; decide), fun p hp => ?_⟩
  have g1 := same_new hp (.tup [.str nm, .int m, .int (bs.length : Int)])
  refine ⟨_, rfl, ta, _, 0, _, rfl, rfl, g1.seqT k1, rfl, _, rfl, ta, _, 1, _, rfl, rfl, g1.seqT k1, rfl, _, rfl, ta, _, 2, _, rfl, rfl, g1.seqT k1, rfl, tb, tvs, rfl, .inr (g1.seqT k2), (by show 3 ≤ sizeLine; decide), fun p2 hp2 => ?_⟩
  have g2 := same_new hp2 (.tup [.str tn, .int tm, .int (tvs.length : Int)])
  have g12 := g1.trans g2
  obtain ⟨ca3, da3⟩ := hd3_ok hso.1 m bs.length
  obtain ⟨cb3, db3⟩ := hd3_ok hto.1 tm tvs.length
  refine ⟨hd3 nm m bs.length, hd3 tn tm tvs.length, .tup (g2.seqT (SqT.of upd_same)) (.cons (.str _) (.cons (.int _) (.cons (.int _) .nil))), .tup (SqT.of upd_same) (.cons (.str _) (.cons (.int _) (.cons (.int _) .nil))), ca3, cb3, hr.fit (by omega), _, rfl, ?_⟩
  rw [if_pos rfl, hd3_eqv, decide_eq_true ⟨en, em, by omega⟩]
  refine iteF ?_
  refine ⟨_, rfl, a, _, 3, _, rfl, rfl, g12.seqT h1, rfl, _, rfl, ta, _, 2, _, rfl, rfl, g12.seqT k1, rfl, b, tb, bs, tvs, rfl, g12.seqT h2, g12.seqT k2, ?_⟩
  generalize hH2 : upd (upd H p (.tup [.str nm, .int m, .int (bs.length : Int)])) p2 (.tup [.str tn, .int tm, .int (tvs.length : Int)]) = H2 at *
  refine for_zipT (K := K) (xs := bs) (ys := tvs) (by omega) (fun i σ H' => ∃ c2 c3 : Option V, σ = [some (.ref a), some (.ref ta), c2, c3] ∧ Same H H') ⟨none, none, rfl, g12⟩ ?_ ?_ ?_
  · rintro i σ H' _ ⟨_, _, _, g⟩
    exact ⟨g.seqT h2, g.seqT k2⟩
  · rintro i u v pp σ H' hu hv hpp ⟨c2, c3, rfl, g⟩
    have hi : i < bs.length := (List.getElem?_eq_some_iff.mp hu).1
    have his : i < ps.length := by omega
    have hib : i < tbs.length := by omega
    obtain ⟨cv, hcv, hct⟩ := h3.get (List.getElem?_eq_getElem his)
    obtain rfl : cv = u := Option.some.inj (hcv.symm.trans hu)
    obtain ⟨dv, hdv, hdt⟩ := k3.get (List.getElem?_eq_getElem hib)
    obtain rfl : dv = v := Option.some.inj (hdv.symm.trans hv)
    have gp := same_new hpp (.tup [cv, dv])
    have gg := g.trans gp
    have a1 := sl_le (List.getElem_mem his)
    refine ⟨pp, _, rfl, SqT.of upd_same, rfl, _, _, rfl, _, _, rfl, rfl, _, rfl, _, rfl, cv, dv, ps[i], tbs[i], rfl, hct.mono fun _ _ => gg.seqT, (SOks_iff ps).mp hso.2.2 _ (List.getElem_mem his), by omega, hdt.mono fun _ _ => gg.seqT, (TOks_iff tbs).mp hto.2.2 _ (List.getElem_mem hib), ?_, fun H4 g4 => ⟨_, rfl, iteF ⟨_, _, rfl, gg.trans g4⟩⟩⟩
    exact hBs i _ _ (List.getElem?_eq_getElem his) (by rw [stOfs_map, List.getElem?_map, List.getElem?_eq_getElem hib]; rfl)
  · rintro σ H' ⟨_, _, rfl, g⟩
    exact q H' g
theorem none_beg {k : Nat} : FnOk P w K mg base CX0 k f fd ["_law_stump", "_law_tree_here"] (spBeg K 0) := by
  have no : ∀ vs H Q E, ¬ spBeg K 0 vs H Q E := fun vs H Q E h => by
    obtain ⟨v, tv, s, T, _, _, _, h0, _⟩ := h
    have := sl_pos s
    omega
  exact ⟨fun vs H Q E h => absurd h (no vs H Q E), fun A outer s H args us vs Q E _ _ _ _ h => absurd h (no vs H Q E)⟩
theorem all_beg (F : Fun K "_law_begins" "_law_begins" sBeg f fd) (G : Gm mg) (hb : Binds K fd ["_law_stump", "_law_tree_here"] []) (hm : mg "_law_begins" = some (.ref f)) : ∀ n : Nat, FnOk P w K mg base CX0 (n + 1) f fd ["_law_stump", "_law_tree_here"] (spBeg K n)
  | 0 => none_beg
  | n + 1 => ok_beg F G ⟨f, fd, all_beg F G hb hm n, hb, F.kp, hm⟩
theorem scSts : FnScope ["_law_found", "_law_count", "_law_stump"] ["_law_found", "_law_count"] (defScope sSts) := ⟨rfl, rfl, rfl, by decide +kernel, rfl, by decide +kernel, by decide +kernel⟩
theorem ok_sts (F : Fun K "_law_stumps" "_law_stumps" sSts f fd) (G : Gm mg) (RI : Fn P w K mg base 6 "_law_is_stump" ["_law_found"] (spIsS K 5)) : FnOk P w K mg base CX0 7 f fd ["_law_found", "_law_count"] (spSts K) := by
  refine F.ok scSts (fun vs H Q E h => ?_) (fun cdv A outer s H vs Q E hr h => ?_)
  · obtain ⟨l, us, S, rfl, _⟩ := h
    rfl
  obtain ⟨l, us, S, rfl, hl, hus, hso, q⟩ := h
  refine ⟨_, (pss_cons (ps_if (PW.pt (pw_or (pt_not (pt_val (pe_callB call_isinst rfl G.isi PyProof.Rows.boot_isinstance (pa_cons (pv 0) (pa_cons (pe_bltn (v := .ty "list") rfl G.lst PyProof.Rows.boot_list rfl) pa_nil))))) (pw_or1 (pt_cmpR op_ne (pe_callB call_len_seq rfl G.len PySem.boot_len (pa_cons (pv 0) pa_nil)) (pv 1) (nomark _))))) (pss_one (ps_ret pe_bl)) pss_nil)
    (pss_cons (ps_for PassesOwn.never rfl (pi_list (pv 0)) (pg_name (i := 2) scSts.nd rfl (Or.inl rfl)) (pss_one (ps_if (pt_not (pt_val (pe_fn RI hr (pa_cons (pv 2) pa_nil)))) (pss_one (ps_ret pe_bl)) pss_nil)))
    (pss_one (ps_ret pe_bl)))), ?_⟩
  have l1 := hus.length
  refine ⟨_, rfl, _, "list", _, true, rfl, .lst hl, rfl, _, rfl, iteF ⟨_, rfl, l, us, rfl, .inl (SqL.of hl), _, rfl, rfl, _, rfl, iteNS rfl ?_⟩⟩
  refine ⟨_, rfl, l, rfl, ⟨_, SqL.of hl⟩, ?_⟩
  refine for_list (K := K) (xs := us) (fun i σ H' => ∃ c2 : Option V, σ = [some (.ref l), some (.int (us.length : Int)), c2] ∧ Same H H') ⟨none, rfl, Same.refl _⟩ ?_ ?_ ?_
  · rintro i σ H' _ ⟨c2, _, g⟩
    exact SqL.of (g _ _ hl)
  · rintro i x σ H' hx ⟨c2, rfl, g⟩
    have hi : i < S.length := by have := (List.getElem?_eq_some_iff.mp hx).1; omega
    obtain ⟨cv, hcv, hct⟩ := hus.get (List.getElem?_eq_getElem hi)
    obtain rfl : cv = x := Option.some.inj (hcv.symm.trans hx)
    have ho := hso _ (List.getElem_mem hi)
    exact ⟨_, rfl, cv, S[i], rfl, hct.mono fun _ _ => g.seqT, ho.1, by omega, fun H4 g4 => ⟨_, rfl, iteF ⟨some cv, rfl, g.trans g4⟩⟩⟩
  · rintro σ H' ⟨c2, rfl, g⟩
    exact q H' g
end
end K33
namespace ST
open PySem TM TT L2 K11 K9
theorem sd_seqR {K : PySem.W.Frag} {d a : Addr} {H H' : Hp} {xs : List V} (g : SameD d H H') (hd : Dk H d) (hx : ∃ b, V.ref b ∈ xs) (h : SqL K H a xs) : SqL K H' a xs := by
  obtain ⟨ys, e⟩ := hd
  obtain ⟨b, hb⟩ := hx
  rcases h with (h | ⟨ob, h⟩) | h
  · refine .inl (.inl (g _ _ (fun z => ?_) h))
    rw [z, e] at h
    injection h with h
    injection h with h
    rw [← h] at hb
    obtain ⟨_, _, z⟩ := List.mem_map.mp hb
    cases z
  · refine .inl (.inr ⟨ob, g _ _ (fun z => ?_) h⟩)
    rw [z, e] at h
    injection h with h
    cases h
  · exact .inr h
theorem TurnD.sameD {K : PySem.W.Frag} {H H' : Hp} {d tu wd lm : Addr} {sv : V} {ks : List KdT} {st : Tm} {ms : List MdT} (g : SameD d H H') (hd : Dk H d) (hk : 0 < ks.length) (hr : ∀ k ∈ ks, ∃ r, r ∈ k.2.2.2) (hm : 0 < ms.length) (ht : ∀ m ∈ ms, 0 < m.2.2.2.2.length) (h : TurnD K H tu wd lm sv ks st ms) : TurnD K H' tu wd lm sv ks st ms := by
  have kT : ∀ a xs, SqT K H a xs → SqT K H' a xs := fun _ _ => g.seqT hd
  refine ⟨kT _ _ h.tu, ⟨sd_seqR g hd ⟨ks[0].1, List.mem_map.mpr ⟨_, List.getElem_mem hk, rfl⟩⟩ h.w.1, fun k hk' => ?_⟩, h.s.mono kT, ⟨sd_seqR g hd ⟨ms[0].1, List.mem_map.mpr ⟨_, List.getElem_mem hm, rfl⟩⟩ h.m.1, fun m hm' => ?_⟩⟩
  · obtain ⟨a1, a2, a3⟩ := h.w.2 k hk'
    obtain ⟨r, hr'⟩ := hr k hk'
    exact ⟨kT _ _ a1, sd_seqR g hd ⟨r.1, List.mem_map.mpr ⟨r, hr', rfl⟩⟩ a2, fun t ht => ⟨kT _ _ (a3 t ht).1, kT _ _ (a3 t ht).2⟩⟩
  · obtain ⟨a1, a2, a3⟩ := h.m.2 m hm'
    obtain ⟨v, hv, hvt⟩ := a3.get (List.getElem?_eq_getElem (ht m hm'))
    obtain ⟨b, rfl⟩ : ∃ b, v = .ref b := by
      generalize m.2.2.2.2[0]'(ht m hm') = t at hvt
      cases hvt <;> exact ⟨_, rfl⟩
    exact ⟨kT _ _ a1, sd_seqR g hd ⟨b, List.mem_of_getElem? hv⟩ a2, a3.mono kT⟩
inductive TbL (K : PySem.W.Frag) (H B : Hp) : List Addr → List (List Stp) → Prop where
  | nil : TbL K H B [] []
  | cons {l : Addr} {ls : List Addr} {us : List V} {S : List Stp} {Ss : List (List Stp)} : B l = none → H l = some (.lst us) → SAll K H us S → TbL K H B ls Ss → TbL K H B (l :: ls) (S :: Ss)
theorem TbL.mono {K : PySem.W.Frag} {H H' B B' : Hp} (kL : ∀ l us, B l = none → H l = some (.lst us) → H' l = some (.lst us) ∧ B' l = none) (kT : ∀ a xs, SqT K H a xs → SqT K H' a xs) : ∀ {ls : List Addr} {Ss : List (List Stp)}, TbL K H B ls Ss → TbL K H' B' ls Ss
  | _, _, .nil => .nil
  | _, _, .cons b h s r => .cons (kL _ _ b h).2 (kL _ _ b h).1 (s.mono kT) (r.mono kL kT)
theorem TbL.same {K : PySem.W.Frag} {H H' B : Hp} (g : Same H H') {ls : List Addr} {Ss : List (List Stp)} (h : TbL K H B ls Ss) : TbL K H' B ls Ss := h.mono (fun l us b e => ⟨g _ _ e, b⟩) fun _ _ => g.seqT
theorem TbL.sameD {K : PySem.W.Frag} {H H' B : Hp} {d : Addr} (g : SameD d H H') (hd : Dk H d) (hb : Dk B d) {ls : List Addr} {Ss : List (List Stp)} (h : TbL K H B ls Ss) : TbL K H' B ls Ss := h.mono (fun l us b e => ⟨g _ _ (hb.ne b) e, b⟩) fun _ _ => g.seqT hd
theorem TbL.put {K : PySem.W.Frag} {H B : Hp} {a : Addr} {xs : List V} {o : HO} (ha : H a = some (.lst xs)) (hb : ∃ u, B a = some u) {ls : List Addr} {Ss : List (List Stp)} (h : TbL K H B ls Ss) : TbL K (upd H a o) B ls Ss := by
  refine h.mono (fun l us b e => ⟨?_, b⟩) fun _ _ k => k.put ha
  rw [upd_ne (fun z => by obtain ⟨u, hu⟩ := hb; rw [z, hu] at b; cases b)]
  exact e
theorem TbL.app {K : PySem.W.Frag} {H B : Hp} {l2 : List Addr} {S2 : List (List Stp)} (k : TbL K H B l2 S2) : ∀ {ls : List Addr} {Ss : List (List Stp)}, TbL K H B ls Ss → TbL K H B (ls ++ l2) (Ss ++ S2)
  | _, _, .nil => k
  | _, _, .cons b h s r => .cons b h s (TbL.app k r)
theorem TbL.get {K : PySem.W.Frag} {H B : Hp} : ∀ {ls : List Addr} {Ss : List (List Stp)} {i : Nat} {l : Addr}, TbL K H B ls Ss → ls[i]? = some l → ∃ us S, Ss[i]? = some S ∧ B l = none ∧ H l = some (.lst us) ∧ SAll K H us S
  | _, _, _, _, .nil, e => by simp at e
  | _, _, 0, _, .cons b h s r, e => by simp at e; subst e; exact ⟨_, _, rfl, b, h, s⟩
  | _, _, i + 1, l, .cons b h s r, e => by
    obtain ⟨us, S, e1, e2⟩ := TbL.get (i := i) (l := l) r (by simpa using e)
    exact ⟨us, S, by simpa using e1, e2⟩
theorem TbL.rd {K : PySem.W.Frag} {H B : Hp} : ∀ {ls : List Addr} {Ss : List (List Stp)}, TbL K H B ls Ss → RdAll K H (ls.map V.ref) (Ss.map fun S => PyData.list (sds S))
  | _, _, .nil => .nil
  | _, _, .cons _ h s r => .cons (.lst (SqL.of h) s.rd) r.rd
theorem TbL.rev {K : PySem.W.Frag} {H B : Hp} : ∀ {ls : List Addr} {Ss : List (List Stp)}, TbL K H B ls Ss → TbL K H B ls.reverse Ss.reverse
  | _, _, .nil => .nil
  | _, _, .cons b h s r => by
    rw [List.reverse_cons, List.reverse_cons]
    exact TbL.app (.cons b h s .nil) r.rev
theorem sls_of {k : Nat} : ∀ l : List Stp, (∀ s ∈ l, sl s ≤ k) → sls l ≤ k
  | [], _ => by simp [sls]
  | p :: r, hl => by
    have a := hl p List.mem_cons_self
    have b := sls_of r fun s hs => hl s (List.mem_cons_of_mem _ hs)
    simp only [sls]; omega
theorem lay_tbs : ∀ Ss : List (List Stp), (∀ S ∈ Ss, ∀ s ∈ S, SOk s ∧ sl s ≤ 3) → PyData.canLayAll0 (Ss.map fun S => PyData.list (sds S)) = true ∧ PyData.depthAll (Ss.map fun S => PyData.list (sds S)) ≤ 8
  | [], _ => by simp [PyData.canLayAll0, PyData.depthAll]
  | S :: r, h => by
    obtain ⟨h1, h2⟩ := lay_tbs r fun S hS => h S (List.mem_cons_of_mem _ hS)
    have hS := h S List.mem_cons_self
    obtain ⟨a1, a2⟩ := sds_ok S ((SOks_iff S).mpr fun s hs => (hS s hs).1)
    have a3 := sls_of S fun s hs => (hS s hs).2
    simp only [List.map_cons, PyData.canLayAll0, PyData.canLay0, PyData.depthAll, PyData.depth]
    exact ⟨by rw [a1, h1]; rfl, by omega⟩
end ST
namespace K33
open PySem L2 TM TT ST K9 K11
abbrev sLaw : Stmt := top 41
def spLaw (K : PySem.W.Frag) : Sp := fun vs H Q _ => ∃ (a : Addr) (ns : List Int), vs = [.ref a] ∧ SqL K H a (ns.map V.int) ∧ ns.length ≤ 63 ∧ ∀ H', Q (.bl true) H'
theorem five {α : Type} {ls : List α} (h : ls.length = 5) : ∃ a b c d e, ls = [a, b, c, d, e] := by
  match ls, h with
  | [a, b, c, d, e], _ => exact ⟨a, b, c, d, e, rfl⟩
theorem cut_mid (x0 x1 x2 x3 x4 : V) {dp : Nat} (h1 : 1 ≤ dp) (h3 : dp ≤ 3) : ∃ y z, cutV [x0, x1, x2, x3, x4] (some ((dp : Int) - 1)) (some ((dp : Int) + 1)) = [y, z] ∧ [x0, x1, x2, x3, x4][dp - 1]? = some y ∧ [x0, x1, x2, x3, x4][dp]? = some z := by
  match dp, h1, h3 with
  | 1, _, _ => exact ⟨_, _, rfl, rfl, rfl⟩
  | 2, _, _ => exact ⟨_, _, rfl, rfl, rfl⟩
  | 3, _, _ => exact ⟨_, _, rfl, rfl, rfl⟩
theorem cut_last (x0 x1 x2 x3 x4 : V) : cutV [x0, x1, x2, x3, x4] (some 4) none = [x4] := rfl
section
variable {P : Program} {w : World} {K : PySem.W.Frag} {mg : Str → Option Value} {base : Heap} {f : Addr} {fd : FuncData}
theorem scLaw : FnScope ["_law_script", "_law_deck", "_law_code", "_law_turning_here", "_law_handed", "_law_count", "_law_tables", "_law_table", "_law_kept", "_law_mode", "_law_k", "_law_deep", "_law_tree_here", "_law_due", "_law_again"] ["_law_script"] (defScope sLaw) := ⟨rfl, rfl, rfl, by decide +kernel, rfl, by decide +kernel, by decide +kernel⟩
theorem ok_law (F : Fun K "law" "law" sLaw f fd) (G : Gm mg) (RU : Fn P w K mg base 1 "_law_numbers" ["_law_script", "_law_most"] (spNum K)) (RD : Fn P w K mg base 1 "_law_draw" ["_law_deck", "_law_most"] spDraw) (RW : Fn P w K mg base 2 "_law_wood" ["_law_deck", "_law_code"] (spWood K))
    (RT : Fn P w K mg base 7 "_law_turning" ["_law_deck", "_law_code", "_law_wood_here"] (spTurn K)) (RC : Fn P w K mg base 1 "_law_copy" ["_law_turning_here"] (spCopy K)) (RS : Fn P w K mg base 7 "_law_stumps" ["_law_found", "_law_count"] (spSts K)) (RE : Fn P w K mg base 5 "_law_tree" ["_law_deck", "_law_wood_here", "_law_kind", "_law_deep"] (spTree K 3)) (RM : Fn P w K mg base 18 "_law_made" ["_law_turning_here", "_law_mode", "_law_tree_here"] (spMade K 3)) (RB : Fn P w K mg base 4 "_law_begins" ["_law_stump", "_law_tree_here"] (spBeg K 3))
    (RI : Fn P w K mg base 11 "commons_within" ["turning", "many"] (spCW K)) (RA : Fn P w K mg base 10 "commons" ["turning"] (spCm K)) : FnOk P w K mg base CX0 20 f fd ["_law_script"] (spLaw K) := by
  refine F.ok scLaw (fun vs H Q E h => ?_) (fun cdv A outer s H vs Q E hr h => ?_)
  · obtain ⟨a, ns, rfl, _⟩ := h
    rfl
  obtain ⟨a, ns, rfl, hS, h63, q⟩ := h
  refine ⟨_, (pss_cons (ps_set (i := 1) scLaw.nd rfl (Or.inl rfl) (pe_fn RU hr (pa_cons (pv 0) (pa_cons (pe_int) pa_nil))))
    (pss_cons (ps_set (i := 2) scLaw.nd rfl (Or.inl rfl) (pe_fn RD hr (pa_cons (pv 1) (pa_cons (pe_op op_pow pe_int pe_int) pa_nil))))
    (pss_cons (ps_set (i := 3) scLaw.nd rfl (Or.inl rfl) (pe_fn RT hr (pa_cons (pv 1) (pa_cons (pv 2) (pa_cons (pe_fn RW hr (pa_cons (pv 1) (pa_cons (pv 2) pa_nil))) pa_nil)))))
    (pss_cons (ps_set (i := 4) scLaw.nd rfl (Or.inr rfl) (pe_fn RC hr (pa_cons (pv 3) pa_nil)))
    (pss_cons (ps_set (i := 5) scLaw.nd rfl (Or.inl rfl) (pe_callB call_len_seq rfl G.len PySem.boot_len (pa_cons (pe_ix ix_tup (pv 3) pe_int (fun _ _ => rfl)) pa_nil)))
    (pss_cons (ps_set (i := 6) scLaw.nd rfl (Or.inl rfl) (pe_op op_catL (pe_lcompG (CompG.many (xs := ["_law_deep"]) (caps := ["_law_handed"]) (cap := [4]) (cs := [_]) rfl rfl (by decide +kernel) (by decide +kernel) (by decide +kernel) (by decide +kernel) (by decide +kernel) (by decide +kernel) rfl rfl rfl) rfl (pi_list (pe_lst (pa_cons (pe_int) (pa_cons (pe_int) (pa_cons (pe_int) (pa_cons (pe_int) pa_nil)))))) (pg_c1 (CompG.many (xs := ["_law_deep"]) (caps := ["_law_handed"]) (cap := [4]) (cs := [_]) rfl rfl (by decide +kernel) (by decide +kernel) (by decide +kernel) (by decide +kernel) (by decide +kernel) (by decide +kernel) rfl rfl rfl)) (fun _ _ _ _ => pf_nil) (fun _ _ _ _ => pe_fn RI hr (pa_cons (pv 1) (pa_cons (pv 0) pa_nil)))) (pe_lst (pa_cons (pe_fn RA hr (pa_cons (pv 4) pa_nil)) pa_nil))))
    (pss_cons (ps_for PassesOwn.never rfl (pi_list (pv 6)) (pg_name (i := 7) scLaw.nd rfl (Or.inl rfl)) (pss_one (ps_if (pt_not (pt_val (pe_fn RS hr (pa_cons (pv 7) (pa_cons (pv 5) pa_nil))))) (pss_one (ps_ret pe_bl)) pss_nil)))
    (pss_cons (ps_setG (i := 8) (CompG.many (xs := ["_law_table"]) (caps := []) (cap := []) (cs := []) rfl rfl (by decide +kernel) (by decide +kernel) (by decide +kernel) (by decide +kernel) (by decide +kernel) (by decide +kernel) rfl rfl rfl) rfl (pi_list (pv 6)) (pg_c1 (CompG.many (xs := ["_law_table"]) (caps := []) (cap := []) (cs := []) rfl rfl (by decide +kernel) (by decide +kernel) (by decide +kernel) (by decide +kernel) (by decide +kernel) (by decide +kernel) rfl rfl rfl)) (fun _ _ _ _ => pf_nil) (fun _ _ _ _ => pe_callTy (r := rLstOf K) call_list_of rfl G.lst PyProof.Rows.boot_list (pa_cons (pv 0) pa_nil)) scLaw.nd rfl rfl)
    (pss_cons (ps_for PassesOwn.never rfl (pi_range1 rfl G.rng (pa_cons (pv 5) pa_nil)) (pg_name (i := 9) scLaw.nd rfl (Or.inl rfl)) (pss_one (ps_for PassesOwn.never rfl (pi_range1 rfl G.rng (pa_cons (pe_int) pa_nil)) (pg_name (i := 10) scLaw.nd rfl (Or.inl rfl)) (pss_cons (ps_set (i := 11) scLaw.nd rfl (Or.inl rfl) (pe_op op_add pe_int (pe_op op_mod (pv 10) pe_int)))
    (pss_cons (ps_set (i := 12) scLaw.nd rfl (Or.inl rfl) (pe_fn RE hr (pa_cons (pv 1) (pa_cons (pe_ix ix_tup (pv 3) pe_int (fun _ _ => rfl)) (pa_cons (pe_ix ix_tup (pe_ix ix_list (pe_ix ix_tup (pv 3) pe_int (fun _ _ => rfl)) (pv 9) (fun _ _ => rfl)) pe_int (fun _ _ => rfl)) (pa_cons (pv 11) pa_nil))))))
    (pss_cons (ps_set (i := 13) scLaw.nd rfl (Or.inl rfl) (pe_fn RM hr (pa_cons (pv 3) (pa_cons (pv 9) (pa_cons (pv 12) pa_nil)))))
    (pss_one (ps_for PassesOwn.never rfl (pi_list (pe_op op_catL (pe_slice sl_list (pv 6) (po_some (pe_op op_sub (pv 11) pe_int)) (po_some (pe_op op_add (pv 11) pe_int))) (pe_slice sl_list (pv 6) (po_some pe_int) po_none))) (pg_name (i := 7) scLaw.nd rfl (Or.inl rfl)) (pss_one (ps_if (pt_not (pt_val (pe_fn RB hr (pa_cons (pe_ix ix_list (pv 7) (pv 9) (fun _ _ => rfl)) (pa_cons (pv 13) pa_nil))))) (pss_one (ps_ret pe_bl)) pss_nil))))))))))
    (pss_cons (ps_for PassesOwn.never rfl (pi_list (pv 6)) (pg_name (i := 7) scLaw.nd rfl (Or.inl rfl)) (pss_cons (ps_expr (pe_bm0 PySem.F.plainAttrs_list PySem.F.slot_list_reverse PySem.F.type_list_reverse mt_reverse (pv 7)))
    (pss_one (ps_expr (pe_bm PySem.F.plainAttrs_list PySem.F.slot_list_append PySem.F.type_list_append mt_append (pv 7) (pa_cons ((pe_tup (pa_cons (pe_str) pa_nil))) pa_nil))))))
    (pss_cons (ps_set (i := 14) scLaw.nd rfl (Or.inl rfl) (pe_op op_catL (pe_lst (pa_cons (pe_fn RA hr (pa_cons (pv 4) pa_nil)) pa_nil)) (pe_lcompG (CompG.many (xs := ["_law_k"]) (caps := ["_law_handed"]) (cap := [4]) (cs := [_]) rfl rfl (by decide +kernel) (by decide +kernel) (by decide +kernel) (by decide +kernel) (by decide +kernel) (by decide +kernel) rfl rfl rfl) rfl (pi_range1 rfl G.rng (pa_cons (pe_int) pa_nil)) (pg_c1 (CompG.many (xs := ["_law_k"]) (caps := ["_law_handed"]) (cap := [4]) (cs := [_]) rfl rfl (by decide +kernel) (by decide +kernel) (by decide +kernel) (by decide +kernel) (by decide +kernel) (by decide +kernel) rfl rfl rfl)) (fun _ _ _ _ => pf_nil) (fun _ _ _ _ => pe_fn RI hr (pa_cons (pv 1) (pa_cons (pe_op op_sub pe_int (pv 0)) pa_nil))))))
    (pss_one (ps_ret (pe_and (pe_cmpR op_eqD (pe_listRev rfl (pv 14) (hm := G.lst) (hm2 := G.rev)) (pv 8) (nomark _)) (pe_one (pe_cmpR op_eqD (pv 4) (pv 3) (nomark _))))))))))))))))), ?_⟩
  refine ⟨_, rfl, a, ns, rfl, hS, h63, fun d H1 _ _ hd1 => ?_⟩
  refine ⟨_, rfl, _, _, rfl, rfl, ⟨by decide, by decide, by decide⟩, d, _, rfl, hd1, (by decide), fun c H2 _ hd2 _ _ => ?_⟩
  refine ⟨_, rfl, _, rfl, _, rfl, _, rfl, d, c, rfl, hd2, fun wd H4 ks g4 hd4 hwd hdw => ⟨d, c, wd, ks, rfl, hd4, hwd, hdw, fun tu lm sv st ms H5 g5 hd5 hT hDT hlmd hmd => ?_⟩⟩
  have h4 := hDT.four
  refine ⟨_, rfl, tu, wd, lm, sv, ks, st, ms, rfl, hT, hdw.ok, by omega, fun tu' wd' lm' hs ms' H6 g6 hT' e1 e2 => ?_⟩
  have hT6 := hT.same g6
  have hd6 := hd5.same g6
  have ok := tuOk hT hdw hDT
  have ok' := tu_copy e1 e2 ok
  have erl := rl_copy e1 e2
  have R := ok.rl
  have so := D_ok R.ok (leaf_ok ok)
  have hz := tsz_le ok
  have hz' : tsz (D (rlOf hs ms') 0) ≤ 2000 := by rw [erl]; exact hz
  have Dl : ∀ n, (D (rlOf ks ms) n).length = ms.length := fun n => by rw [D_len, R.len]
  refine ⟨_, rfl, tu, _, 2, _, rfl, rfl, hT6.tu, rfl, lm, _, rfl, .inl hT6.m.1, ?_⟩
  rw [List.length_map]
  refine ⟨(by show 4 ≤ sizeLine; decide), fun l0 hl0 => ⟨l0, rfl, ⟨_, SqL.of upd_same⟩, fun acc hacc => ?_⟩⟩
  have g60 := same_new hl0 (.lst [.int 1, .int 2, .int 3, .int 4])
  have hacc6 : H6 acc = none := g60.free hacc
  refine c1_list (K := K) (xs := [.int 1, .int 2, .int 3, .int 4]) (cs := [some (.ref tu')]) (tt := fun _ H Q => Q true H) (te := tCall (spCW K) [] E0 (tCons (tVar 1) (tCons (tVar 0) tNil))) (fun i ys H' => ∃ ls : List Addr, ys = ls.map V.ref ∧ ls.length = i ∧ H' acc = some (.lst ys) ∧ Same (upd H6 l0 (.lst [.int 1, .int 2, .int 3, .int 4])) H' ∧ TbL K H' (upd H6 acc (.lst [])) ls ((List.range i).map (D (rlOf ks ms))))
    ⟨[], rfl, rfl, upd_same, same_new hacc _, .nil⟩ ?_ ?_ ?_
  · rintro i ys H' _ ⟨ls, _, _, _, g, _⟩
    exact SqL.of (g _ _ upd_same)
  · rintro i x ys H' hi hx ⟨ls, rfl, hll, hya, g, htb⟩
    obtain rfl : x = .int ((i : Int) + 1) := by
      match i, hx with
      | 0, hx => exact (Option.some.inj hx).symm
      | 1, hx => exact (Option.some.inj hx).symm
      | 2, hx => exact (Option.some.inj hx).symm
      | 3, hx => exact (Option.some.inj hx).symm
      | k + 4, hx => cases hx
    have hi4 : i < 4 := hi
    refine iteT ⟨_, rfl, _, rfl, tu', wd', lm', sv, hs, st, ms', (i : Int) + 1, rfl, by omega, hT'.same (g60.trans g), ok', hz', fun l us H9 g9 hln hl hus => ?_⟩
    rw [erl, show ((i : Int) + 1 - 1).toNat = i by omega] at hus
    have hya9 := g9 _ _ hya
    have hla : l ≠ acc := fun z => by rw [z, hya] at hln; cases hln
    have hl6 : H6 l = none := (g60.trans g).free hln
    have bacc : ∃ u, upd H6 acc (.lst []) acc = some u := ⟨_, upd_same⟩
    refine comp_next (ys := ls.map V.ref) hi hya9 (by rw [List.length_map]; omega) ⟨ls ++ [l], by simp, by simp [hll], upd_same, fun b u e => ?_, ?_⟩
    · rw [upd_ne (ne_of_none e hacc)]; exact g9 _ _ (g _ _ e)
    · rw [List.range_succ, List.map_append]
      exact TbL.put hya9 bacc (TbL.app (.cons (by rw [upd_ne hla]; exact hl6) hl hus .nil) (htb.same g9))
  rintro ys H7 ⟨ls4, rfl, hll4, hya, g7, htb⟩
  have hll4' : ls4.length = 4 := hll4
  have g67 := g60.trans g7
  refine ⟨_, rfl, tu', wd', lm', sv, hs, st, ms', rfl, hT'.same g67, ok', fun l5 us5 nn H8 g8 hl5n hl5 hus5 hD5 => ⟨(by show 1 ≤ sizeLine; decide), fun lx hlx => ?_⟩⟩
  rw [erl] at hus5 hD5
  have g8x := same_new hlx (.lst [.ref l5])
  have g78 := g8.trans g8x
  refine ⟨acc, lx, _, _, rfl, rfl, SqL.of (g78 _ _ hya), SqL.of upd_same, (by rw [List.length_map, hll4']; show 4 + 1 ≤ sizeLine; decide), fun tb htbn => ?_⟩
  have gtb := same_new htbn (.lst (ls4.map V.ref ++ [.ref l5]))
  have hls5 : ∃ ls : List Addr, ls = ls4 ++ [l5] := ⟨_, rfl⟩
  obtain ⟨ls, els⟩ := hls5
  have elr : ls4.map V.ref ++ [V.ref l5] = ls.map V.ref := by rw [els]; simp
  have TB : TbL K (upd (upd H8 lx (.lst [.ref l5])) tb (.lst (ls4.map V.ref ++ [.ref l5]))) H6 ls ((List.range 4).map (D (rlOf ks ms)) ++ [D (rlOf ks ms) nn]) := by
    rw [els]
    refine (TbL.app (.cons (g67.free hl5n) hl5 hus5 .nil) (TbL.mono (fun l us b e => ⟨g8 _ _ e, ?_⟩) (fun _ _ => g8.seqT) htb)).same (g8x.trans gtb)
    by_cases z : l = acc
    · rw [z, upd_same] at b; cases b
    · rw [upd_ne z] at b; exact b
  have gA : Same H6 (upd (upd H8 lx (.lst [.ref l5])) tb (.lst (ls4.map V.ref ++ [.ref l5]))) := g67.trans (g78.trans gtb)
  have htbv : (upd (upd H8 lx (.lst [.ref l5])) tb (.lst (ls4.map V.ref ++ [.ref l5]))) tb = some (.lst (ls.map V.ref)) := by rw [upd_same, elr]
  have hll : ls.length = 5 := by rw [els, List.length_append, hll4']; rfl
  have htb6 : H6 tb = none := (g67.trans g78).free htbn
  generalize upd (upd H8 lx (.lst [.ref l5])) tb (.lst (ls4.map V.ref ++ [.ref l5])) = HA at TB gA htbv ⊢
  have hne_tb : ∀ l ∈ ls, l ≠ tb := fun l hl z => by
    rw [els] at hl
    rw [z] at hl
    have hcon : ∃ u, (upd H8 lx (.lst [.ref l5])) tb = some u := by
      rcases List.mem_append.mp hl with h | h
      · obtain ⟨i, hi, e⟩ := List.getElem_of_mem h
        obtain ⟨us, S, _, _, h2, _⟩ := htb.get ((List.getElem?_eq_getElem hi).trans (congrArg some e))
        exact ⟨_, g78 _ _ h2⟩
      · obtain rfl : tb = l5 := by simpa using h
        exact ⟨_, g8x _ _ hl5⟩
    obtain ⟨u, hu⟩ := hcon
    rw [htbn] at hu; cases hu
  clear g7 htb hya g8 hl5n hl5 hus5 g8x g78 htbn gtb elr g67 hlx
  obtain ⟨Ss, eSs⟩ : ∃ Ss, Ss = (List.range 4).map (D (rlOf ks ms)) ++ [D (rlOf ks ms) nn] := ⟨_, rfl⟩
  rw [← eSs] at TB
  have hSn : ∀ S ∈ Ss, ∃ n, S = D (rlOf ks ms) n := fun S hS => by
    rw [eSs] at hS
    rcases List.mem_append.mp hS with h | h
    · obtain ⟨n, _, rfl⟩ := List.mem_map.mp h; exact ⟨n, rfl⟩
    · exact ⟨nn, by simpa using h⟩
  have hSo : ∀ S ∈ Ss, ∀ s ∈ S, SOk s ∧ ST.sl s ≤ 3 := fun S hS => by obtain ⟨n, rfl⟩ := hSn S hS; exact so n
  have hSl : ∀ S ∈ Ss, S.length = ms.length := fun S hS => by obtain ⟨n, rfl⟩ := hSn S hS; exact Dl n
  have hSB : ∀ (i : Nat) (S : List Stp), Ss[i]? = some S → ∀ (j : Nat) (m : Int) (x : Stp), j ≤ 3 → j ≤ i + 1 → (∀ k, j ≤ k + 1 → Bel (lookS (D (rlOf ks ms) k) m) x) → Bel (lookS S m) x := fun i S hS j m x hj3 hji hk => by
    rw [eSs] at hS
    by_cases hi : i < 4
    · rw [List.getElem?_append_left (by simpa using hi), List.getElem?_map, List.getElem?_range hi] at hS
      obtain rfl := Option.some.inj hS
      exact hk i hji
    · rw [List.getElem?_append_right (by simpa using hi)] at hS
      have h5 : S = D (rlOf ks ms) nn := by
        have := List.mem_of_getElem? hS
        simpa using this
      rw [h5, ← D_const hD5 3]
      exact hk (nn + 3) (by omega)
  have hSl5 : Ss.length = 5 := by rw [eSs]; simp
  refine ⟨_, rfl, tb, rfl, ⟨_, SqL.of htbv⟩, ?_⟩
  refine for_list (K := K) (xs := ls.map V.ref) (fun i σ H' => ∃ c7 : Option V, σ = [some (.ref a), some (.ref d), some (.int c), some (.ref tu), some (.ref tu'), some (.int (ms.length : Int)), some (.ref tb), c7, none, none, none, none, none, none, none] ∧ Same HA H')
    ⟨none, rfl, Same.refl _⟩ ?_ ?_ ?_
  · rintro i σ H' _ ⟨_, _, g⟩
    exact SqL.of (g _ _ htbv)
  · rintro i x σ H' hx ⟨c7, rfl, g⟩
    obtain ⟨l, hl, rfl⟩ : ∃ l, ls[i]? = some l ∧ V.ref l = x := by
      rw [List.getElem?_map] at hx
      cases e : ls[i]? with
      | none => rw [e] at hx; cases hx
      | some l => rw [e] at hx; exact ⟨l, rfl, Option.some.inj hx⟩
    obtain ⟨us, S, hS, _, hlu, hus⟩ := TB.get hl
    have hSm := List.mem_of_getElem? hS
    have hul : us.length = ms.length := by rw [hus.length, hSl S hSm]
    exact ⟨_, rfl, _, rfl, l, us, S, by rw [hul]; rfl, g _ _ hlu, hus.mono fun _ _ => g.seqT, hSo S hSm, fun H4 g4 => ⟨_, rfl, iteF ⟨_, rfl, g.trans g4⟩⟩⟩
  rintro σ HB ⟨c7, rfl, gAB⟩
  have TB2 := TB.same gAB
  have htb2 := gAB _ _ htbv
  have gB := gA.trans gAB
  clear TB htbv gA gAB
  refine ⟨_, rfl, tb, rfl, ⟨_, SqL.of htb2⟩, fun kp hkp => ?_⟩
  refine c1_list (K := K) (xs := ls.map V.ref) (cs := []) (tt := fun _ H Q => Q true H) (te := tCB (rLstOf K) (tCons (tVar 0) tNil)) (fun i ys H' => ∃ kl : List Addr, ys = kl.map V.ref ∧ kl.length = i ∧ H' kp = some (.lst ys) ∧ Same HB H' ∧ TbL K H' (upd HB kp (.lst [])) kl (Ss.take i))
    ⟨[], rfl, rfl, upd_same, same_new hkp _, .nil⟩ ?_ ?_ ?_
  · rintro i ys H' _ ⟨kl, _, _, _, g, _⟩
    exact SqL.of (g _ _ htb2)
  · rintro i x ys H' hi hx ⟨kl, rfl, hkl, hya, g, hkb⟩
    obtain ⟨l, hl, rfl⟩ : ∃ l, ls[i]? = some l ∧ V.ref l = x := by
      rw [List.getElem?_map] at hx
      cases e : ls[i]? with
      | none => rw [e] at hx; cases hx
      | some l => rw [e] at hx; exact ⟨l, rfl, Option.some.inj hx⟩
    obtain ⟨us, S, hS, _, hlu, hus⟩ := TB2.get hl
    have hi5 : i < 5 := by rw [List.length_map, hll] at hi; exact hi
    refine iteT ⟨_, rfl, l, us, rfl, .inl (SqL.of (g _ _ hlu)), fun k2 hk2 => ?_⟩
    have g2 := same_new hk2 (.lst us)
    have hya2 := g2 _ _ hya
    have hk2p : k2 ≠ kp := fun z => by rw [z, hya] at hk2; cases hk2
    refine comp_next (ys := kl.map V.ref) hi hya2 (by rw [List.length_map]; omega) ⟨kl ++ [k2], by simp, by simp [hkl], upd_same, fun b u e => ?_, ?_⟩
    · rw [upd_ne (ne_of_none e hkp)]; exact g2 _ _ (g _ _ e)
    · rw [List.take_add_one, hS]
      exact TbL.put hya2 ⟨_, upd_same⟩ (TbL.app (.cons (by rw [upd_ne hk2p]; exact g.free hk2) upd_same (hus.mono fun _ _ => (g.trans g2).seqT) .nil) (hkb.same g2))
  rintro ys HC ⟨kl, rfl, hkl, hkp2, gBC, hkb⟩
  rw [List.length_map, hll] at hkl hkb
  rw [List.take_of_length_le (by omega)] at hkb
  have KB : TbL K HC HB kl Ss := TbL.mono (fun l us b e => ⟨e, by
    by_cases z : l = kp
    · rw [z, upd_same] at b; cases b
    · rw [upd_ne z] at b; exact b⟩) (fun _ _ h => h) hkb
  clear hkb
  have TB3 := TB2.same gBC
  have htb3 := gBC _ _ htb2
  have g6C := gB.trans gBC
  have hdC := hd6.same g6C
  have hT7 := hT6.same g6C
  have hTs := hT'.same g6C
  have nW : 0 < ks.length := hdw.pos
  have nWr : ∀ k ∈ ks, ∃ r, r ∈ k.2.2.2 := fun k hk => by obtain ⟨r, hr, _⟩ := hdw.bare k hk; exact ⟨r, hr⟩
  have nM : 0 < ms.length := hDT.pos
  have nMr : ∀ m ∈ ms, 0 < m.2.2.2.2.length := fun m hm => by
    obtain ⟨kd, hk, _, hl, _⟩ := (hDT.md m hm).ex
    obtain ⟨r, hr, _⟩ := hdw.bare kd hk
    rw [hl]; exact List.length_pos_of_mem hr
  have hwd7 : WoodD K HC d wd ks := ⟨hT7.w, hwd.2.1, hwd.2.2⟩
  refine ⟨_, rfl, _, rfl, (by show -(2 ^ 62 : Int) ≤ (ms.length : Int); omega), (by show (ms.length : Int) < 2 ^ 62; omega), ?_⟩
  refine for_range (lo := 0) (n := (ms.length : Int).toNat) (fun i σ H' => ∃ c7 c9 c10 c11 c12 c13 : Option V, σ = [some (.ref a), some (.ref d), some (.int c), some (.ref tu), some (.ref tu'), some (.int (ms.length : Int)), some (.ref tb), c7, some (.ref kp), c9, c10, c11, c12, c13, none] ∧ SameD d HC H' ∧ Dk H' d)
    ⟨_, none, none, none, none, none, rfl, SameD.refl _ _, hdC⟩ ?_ ?_
  · rintro i σ H' hi ⟨c7, c9, c10, c11, c12, c13, rfl, g, hdk⟩
    have him : i < ms.length := by rw [Int.toNat_natCast] at hi; exact hi
    have hmi := List.getElem?_eq_getElem him
    refine ⟨8, rfl, (by decide), (by decide), ?_⟩
    refine for_range (lo := 0) (n := 8) (fun j σ H' => ∃ c7 c10 c11 c12 c13 : Option V, σ = [some (.ref a), some (.ref d), some (.int c), some (.ref tu), some (.ref tu'), some (.int (ms.length : Int)), some (.ref tb), c7, some (.ref kp), some (.int (0 + (i : Int))), c10, c11, c12, c13, none] ∧ SameD d HC H' ∧ Dk H' d)
      ⟨_, _, _, _, _, rfl, g, hdk⟩ ?_ ?_
    · clear g hdk c7 c9 c10 c11 c12 c13
      rintro j σ H1 hj ⟨c7, c10, c11, c12, c13, rfl, g, hdk⟩
      refine ⟨_, rfl, _, _, rfl, rfl, (by show (0 : Int) < 3; decide), _, _, rfl, rfl, ?_⟩
      obtain ⟨dp, hdp, h1, h3⟩ : ∃ dp : Nat, 1 + (0 + (j : Int)) % 3 = (dp : Int) ∧ 1 ≤ dp ∧ dp ≤ 3 := ⟨(1 + (0 + (j : Int)) % 3).toNat, by omega, by omega, by omega⟩
      show gName 11 (V.int (1 + (0 + (j : Int)) % 3)) _ _ _
      rw [hdp]
      have hT1 := TurnD.sameD g hdC nW nWr nM nMr hT7
      obtain ⟨kd, hkd, ekd, _, _⟩ := (hDT.md _ (List.getElem_mem him)).ex
      refine ⟨_, rfl, _, rfl, tu, _, 0, _, rfl, rfl, hT1.tu, rfl, _, rfl, tu, _, 2, _, rfl, rfl, hT1.tu, rfl, _, rfl, lm, _, _, .ref ms[i].1, rfl, rfl, hT1.m.1, by rw [Int.zero_add]; exact atI_nat (j := i) (by rw [List.getElem?_map, hmi]; rfl), _, _, 0, _, rfl, rfl, (hT1.m.2 _ (List.getElem_mem him)).1, rfl, _, rfl, d, wd, c, ks, kd, dp, by rw [ekd]; rfl, hdk, hwd7.sameD g hdC, hdw, hkd, h1, h3, fun tv H2 T g2 hd2 htv hof hlv => ?_⟩
      have g02 := g.trans g2
      have hT2 := TurnD.sameD g02 hdC nW nWr nM nMr hT7
      refine ⟨_, rfl, _, rfl, _, rfl, tu, wd, lm, sv, ks, st, ms, c, i, ms[i], tv, T, by rw [Int.zero_add]; rfl, hT2, hdw, hDT, hmi, htv, by rw [← ekd]; exact hof, by omega, fun rv H3 r g3 hrv hrok hB => ?_⟩
      have g03 : SameD d HC H3 := g02.trans (SameD.of g3)
      have hd3 := hd2.same g3
      have htd : tb ≠ d := hd6.ne htb6
      have htb4 : H3 tb = some (.lst (ls.map V.ref)) := g03 _ _ htd htb3
      refine ⟨_, rfl, _, rfl, _, _, rfl, rfl, _, rfl, _, rfl, _, _, rfl, rfl, _, rfl, tb, _, rfl, SqL.of htb4, fun p1 hp1 => ?_⟩
      have gp1 := same_new hp1 (.lst (cutV (ls.map V.ref) (some ((dp : Int) - 1)) (some ((dp : Int) + 1))))
      refine ⟨_, rfl, _, rfl, tb, _, rfl, SqL.of (gp1 _ _ htb4), fun p2 hp2 => ?_⟩
      obtain ⟨x0, x1, x2, x3, x4, e5⟩ := five hll
      have gp2 := same_new hp2 (.lst (cutV (ls.map V.ref) (some 4) none))
      have em : ls.map V.ref = [V.ref x0, V.ref x1, V.ref x2, V.ref x3, V.ref x4] := by rw [e5]; rfl
      obtain ⟨y, z, ec, ey, ez⟩ := cut_mid (.ref x0) (.ref x1) (.ref x2) (.ref x3) (.ref x4) h1 h3
      have ec1 : cutV (ls.map V.ref) (some ((dp : Int) - 1)) (some ((dp : Int) + 1)) = [y, z] := by rw [em]; exact ec
      have ec2 : cutV (ls.map V.ref) (some 4) none = [.ref x4] := by rw [em]; exact cut_last _ _ _ _ _
      rw [← em] at ey ez
      rw [ec1] at gp1 gp2
      have w1 : (upd (upd H3 p1 (.lst [y, z])) p2 (.lst (cutV (ls.map V.ref) (some 4) none))) p1 = some (.lst [y, z]) := gp2 _ _ upd_same
      rw [ec1]
      rw [ec2] at gp2 w1 ⊢
      refine ⟨p1, p2, [y, z], [.ref x4], rfl, rfl, SqL.of w1, SqL.of upd_same, (by show 2 + 1 ≤ sizeLine; decide), fun lq hlq => ⟨lq, rfl, ⟨_, SqL.of upd_same⟩, ?_⟩⟩
      have gq := same_new hlq (.lst ([y, z] ++ [.ref x4]))
      have g3q : Same H3 _ := gp1.trans (gp2.trans gq)
      generalize hHq : upd (upd (upd H3 p1 (.lst [y, z])) p2 (.lst [.ref x4])) lq (.lst ([y, z] ++ [.ref x4])) = Hq at g3q gq ⊢
      have hq : Hq lq = some (.lst ([y, z] ++ [.ref x4])) := by rw [← hHq]; exact upd_same
      have g0q : SameD d HC Hq := g03.trans (SameD.of g3q)
      have hdq := hd3.same g3q
      have TB5 := TbL.sameD g0q hdC hd6 TB3
      refine for_list (K := K) (xs := [y, z] ++ [.ref x4]) (fun k σ H' => ∃ c7 : Option V, σ = [some (.ref a), some (.ref d), some (.int c), some (.ref tu), some (.ref tu'), some (.int (ms.length : Int)), some (.ref tb), c7, some (.ref kp), some (.int (0 + (i : Int))), some (.int (0 + (j : Int))), some (.int (dp : Int)), some tv, some rv, none] ∧ Same Hq H')
        ⟨c7, rfl, Same.refl _⟩ ?_ ?_ ?_
      · rintro k σ H' _ ⟨_, _, g⟩
        exact SqL.of (g _ _ hq)
      · rintro k x σ H' hx ⟨c7, rfl, gk⟩
        obtain ⟨b, hb, hbj⟩ : ∃ b : Nat, (ls.map V.ref)[b]? = some x ∧ dp ≤ b + 1 := by
          match k, hx with
          | 0, hx => exact ⟨dp - 1, by rw [ey]; exact hx, by omega⟩
          | 1, hx => exact ⟨dp, by rw [ez]; exact hx, by omega⟩
          | 2, hx => exact ⟨4, by rw [em]; exact hx, by omega⟩
          | k + 3, hx => cases hx
        obtain ⟨l, hl, rfl⟩ : ∃ l, ls[b]? = some l ∧ V.ref l = x := by
          rw [List.getElem?_map] at hb
          cases e : ls[b]? with
          | none => rw [e] at hb; cases hb
          | some l => rw [e] at hb; exact ⟨l, rfl, Option.some.inj hb⟩
        obtain ⟨us, S, hS, _, hlu, hus⟩ := TB5.get hl
        have hSm := List.mem_of_getElem? hS
        have hiS : i < S.length := by rw [hSl S hSm]; exact him
        obtain ⟨sv', hsv, hsV⟩ := hus.get (List.getElem?_eq_getElem hiS)
        have hso := hSo S hSm _ (List.getElem_mem hiS)
        refine ⟨_, rfl, _, rfl, l, us, _, sv', rfl, rfl, SqL.of (gk _ _ hlu), by rw [Int.zero_add]; exact atI_nat (j := i) hsv, _, rfl, sv', rv, S[i], r, rfl, hsV.mono fun _ _ => gk.seqT, hso.1, hso.2, hrv.mono fun _ _ => (g3q.trans gk).seqT, hrok, ?_, fun H9 g9 => ⟨_, rfl, iteF ⟨_, rfl, gk.trans g9⟩⟩⟩
        rw [← look_at (List.getElem?_eq_getElem hiS)]
        exact hSB b S hS dp _ _ h3 hbj fun k hk => hB k (Nat.le_trans hlv hk)
      · rintro σ H' ⟨c7, rfl, gk⟩
        exact ⟨_, _, _, _, _, rfl, g0q.trans (SameD.of gk), hdq.same gk⟩
    · rintro σ H1 ⟨c7, c10, c11, c12, c13, rfl, g, hdk⟩
      exact ⟨_, _, _, _, _, _, rfl, g, hdk⟩
  clear c7
  rintro σ HD ⟨c7, c9, c10, c11, c12, c13, rfl, gCD, hdD⟩
  have htd : tb ≠ d := hd6.ne htb6
  have htb4 := gCD _ _ htd htb3
  have TB4 := TbL.sameD gCD hdC hd6 TB3
  have hdB := hd6.same gB
  have KB2 := TbL.sameD gCD hdC hdB KB
  have hkpd : kp ≠ d := hdB.ne hkp
  have hkp3 := gCD _ _ hkpd hkp2
  have g6D : SameD d H6 HD := (SameD.of g6C).trans gCD
  refine ⟨_, rfl, tb, rfl, ⟨_, SqL.of htb4⟩, ?_⟩
  refine for_list (K := K) (xs := ls.map V.ref) (fun i σ H' => ∃ c7 : Option V, σ = [some (.ref a), some (.ref d), some (.int c), some (.ref tu), some (.ref tu'), some (.int (ms.length : Int)), some (.ref tb), c7, some (.ref kp), c9, c10, c11, c12, c13, none] ∧ SameD d H6 H' ∧ Dk H' d ∧ H' tb = some (.lst (ls.map V.ref)) ∧ H' kp = some (.lst (kl.map V.ref)) ∧ TbL K H' HB kl Ss ∧ ∀ l ∈ ls, ∃ us, H' l = some (.lst us) ∧ us.length ≤ 4 + i)
    ⟨c7, rfl, g6D, hdD, htb4, hkp3, KB2, fun l hl => ?_⟩ ?_ ?_ ?_
  · obtain ⟨i, hi, e⟩ := List.getElem_of_mem hl
    obtain ⟨us, S, hS, _, hlu, hus⟩ := TB4.get ((List.getElem?_eq_getElem hi).trans (congrArg some e))
    have := hSl S (List.mem_of_getElem? hS)
    exact ⟨us, hlu, by rw [hus.length]; omega⟩
  · rintro i σ H' _ ⟨_, _, _, _, h, _⟩
    exact SqL.of h
  · rintro i x σ H' hx ⟨c7, rfl, g, hdk, htb5, hkp5, hkb, hls⟩
    obtain ⟨l, hl, rfl⟩ : ∃ l, ls[i]? = some l ∧ V.ref l = x := by
      rw [List.getElem?_map] at hx
      cases e : ls[i]? with
      | none => rw [e] at hx; cases hx
      | some l => rw [e] at hx; exact ⟨l, rfl, Option.some.inj hx⟩
    have hlm := List.mem_of_getElem? hl
    have hi5 : i < 5 := by rw [← hll]; exact (List.getElem?_eq_some_iff.mp hl).1
    obtain ⟨_, _, _, hl6, hlB, _⟩ := TB2.get hl
    obtain ⟨us, hlu, hul⟩ := hls l hlm
    have hld : l ≠ d := hd6.ne hl6
    have hlt := hne_tb l hlm
    have hlk : l ≠ kp := fun z => by rw [z, hkp] at hlB; cases hlB
    refine ⟨_, rfl, .inl ⟨rfl, _, SqL.of hlu⟩, l, us, rfl, rfl, hlu, ?_⟩
    refine ⟨_, rfl, .inl ⟨rfl, _, SqL.of upd_same⟩, (by show 1 ≤ sizeLine; decide), fun p hp => ?_⟩
    have gp := same_new hp (.tup [.str OPEN])
    refine ⟨l, us.reverse, _, rfl, rfl, gp _ _ upd_same, by rw [List.length_reverse, size_line]; omega, ?_⟩
    have step : ∀ b u, b ≠ l → H' b = some u → upd (upd (upd H' l (.lst us.reverse)) p (.tup [.str OPEN])) l (.lst (us.reverse ++ [.ref p])) b = some u := fun b u hb e => by
      rw [upd_ne hb]; exact gp _ _ (by rw [upd_ne hb]; exact e)
    refine ⟨_, rfl, fun b u hbd e => ?_, ?_, step _ _ (Ne.symm hlt) htb5, step _ _ (Ne.symm hlk) hkp5, ?_, fun l2 hl2 => ?_⟩
    · exact step b u (fun z => by rw [z, hl6] at e; cases e) (g b u hbd e)
    · obtain ⟨xs, hxs⟩ := hdk
      exact ⟨xs, step _ _ (Ne.symm hld) hxs⟩
    · exact TbL.put (gp _ _ upd_same) ⟨_, hlB⟩ ((TbL.put hlu ⟨_, hlB⟩ hkb).same gp)
    · by_cases z : l2 = l
      · rw [z]
        exact ⟨_, upd_same, by rw [List.length_append, List.length_reverse, List.length_singleton]; omega⟩
      · obtain ⟨us2, h2, h2l⟩ := hls l2 hl2
        exact ⟨us2, step _ _ z h2, by omega⟩
  clear c7
  rintro σ HE ⟨c7, rfl, g6E, hdE, _, hkpE, KBE, _⟩
  have nW' : 0 < hs.length := by have := congrArg List.length e1; rw [List.length_map, List.length_map] at this; omega
  have nM' : 0 < ms'.length := by have := congrArg List.length e2; rw [List.length_map, List.length_map] at this; omega
  have nWr' : ∀ k ∈ hs, ∃ r, r ∈ k.2.2.2 := fun k hk => by
    have z : keyW k ∈ ks.map keyW := by rw [← e1]; exact List.mem_map.mpr ⟨k, hk, rfl⟩
    obtain ⟨k0, hk0, e⟩ := List.mem_map.mp z
    obtain ⟨r, hr⟩ := nWr k0 hk0
    have f1 := congrArg Prod.snd e
    have f2 : k0.2.2.2 = k.2.2.2 := f1
    exact ⟨r, by rw [← f2]; exact hr⟩
  have nMr' : ∀ m ∈ ms', 0 < m.2.2.2.2.length := fun m hm => by
    have z : m.md ∈ ms.map MdT.md := by rw [← e2]; exact List.mem_map.mpr ⟨m, hm, rfl⟩
    obtain ⟨m0, hm0, e⟩ := List.mem_map.mp z
    have f1 := congrArg Prod.snd e
    have f2 : m0.2.2.2.2 = m.2.2.2.2 := f1
    rw [← f2]; exact nMr m0 hm0
  have hTE := TurnD.sameD g6E hd6 nW nWr nM nMr hT6
  have hTE' := TurnD.sameD g6E hd6 nW' nWr' nM' nMr' hT'
  refine ⟨_, rfl, tu', wd', lm', sv, hs, st, ms', rfl, hTE', ok', fun la usa n2 H9 g9 hlan hla husa hDa => ⟨(by show 1 ≤ sizeLine; decide), fun ly hly => ?_⟩⟩
  rw [erl] at husa hDa
  rw [D_same hDa hD5] at husa
  have g9y := same_new hly (.lst [.ref la])
  have gEy := g9.trans g9y
  generalize hHy : upd H9 ly (.lst [.ref la]) = Hy at g9y gEy ⊢
  have hlyv : Hy ly = some (.lst [.ref la]) := by rw [← hHy]; exact upd_same
  refine ⟨4, rfl, (by decide), (by decide), fun acc2 hacc2 => ?_⟩
  refine c1_range (lo := 0) (n := (4 : Int).toNat) (cs := [some (.ref tu')]) (tt := fun _ H Q => Q true H) (te := tCall (spCW K) [] E0 (tCons (tVar 1) (tCons (tOp (rI0 fun i j => .int (i - j)) (tC (.int 4)) (tVar 0)) tNil))) (fun i ys H' => ∃ al : List Addr, ys = al.map V.ref ∧ al.length = i ∧ H' acc2 = some (.lst ys) ∧ Same Hy H' ∧ TbL K H' (upd Hy acc2 (.lst [])) al ((List.range i).map fun k => D (rlOf ks ms) (3 - k)))
    ⟨[], rfl, rfl, upd_same, same_new hacc2 _, .nil⟩ ?_ ?_
  · rintro i ys H' hi ⟨al, rfl, hal, hya, g, htb⟩
    have hi4 : i < 4 := hi
    refine iteT ⟨_, rfl, _, rfl, _, _, rfl, rfl, tu', wd', lm', sv, hs, st, ms', 4 - (0 + (i : Int)), rfl, by omega, hTE'.same (gEy.trans g), ok', hz', fun l us H10 g10 hln hl hus => ?_⟩
    rw [erl, show (4 - (0 + (i : Int)) - 1).toNat = 3 - i by omega] at hus
    have hya10 := g10 _ _ hya
    have hla2 : l ≠ acc2 := fun z => by rw [z, hya] at hln; cases hln
    refine comp_next (ys := al.map V.ref) hi hya10 (by rw [List.length_map]; omega) ⟨al ++ [l], by simp, by simp [hal], upd_same, fun b u e => ?_, ?_⟩
    · rw [upd_ne (ne_of_none e hacc2)]; exact g10 _ _ (g _ _ e)
    · rw [List.range_succ, List.map_append]
      exact TbL.put hya10 ⟨_, upd_same⟩ (TbL.app (.cons (by rw [upd_ne hla2]; exact g.free hln) hl hus .nil) (htb.same g10))
  rintro ys H10 ⟨al, rfl, hal, hya, g10, htb⟩
  have hal4 : al.length = 4 := hal
  refine ⟨ly, acc2, _, _, rfl, rfl, SqL.of (g10 _ _ hlyv), SqL.of hya, (by rw [List.length_map, hal4]; show 1 + 4 ≤ sizeLine; decide), fun ag hag => ?_⟩
  have gag := same_new hag (.lst ([.ref la] ++ al.map V.ref))
  refine ⟨_, rfl, ag, _, rfl, SqL.of upd_same, (by rw [List.length_append, List.length_map, hal4]; show 1 + 4 ≤ sizeLine; decide), fun dr hdr => ?_⟩
  have gdr := same_new hdr (.lst ([V.ref la] ++ al.map V.ref).reverse)
  have gEZ := gEy.trans (g10.trans (gag.trans gdr))
  have AL : TbL K _ HE (la :: al) (D (rlOf ks ms) nn :: (List.range 4).map fun k => D (rlOf ks ms) (3 - k)) := TbL.same (gag.trans gdr) (.cons hlan (g10 _ _ (g9y _ _ hla)) (husa.mono fun _ _ => (g9y.trans g10).seqT) (TbL.mono (fun l us b e => ⟨e, by
    by_cases z : l = acc2
    · rw [z, upd_same] at b; cases b
    · rw [upd_ne z] at b; exact gEy.free b⟩) (fun _ _ h => h) htb))
  have AR := AL.rev
  have eS : (D (rlOf ks ms) nn :: (List.range 4).map fun k => D (rlOf ks ms) (3 - k)).reverse = Ss := by rw [eSs]; rfl
  rw [eS] at AR
  have elr : ([V.ref la] ++ al.map V.ref).reverse = (la :: al).reverse.map V.ref := by rw [List.map_reverse]; rfl
  rw [elr] at AR gEZ gdr ⊢
  obtain ⟨cl, cd⟩ := lay_tbs Ss hSo
  have lay : (PyData.list (Ss.map fun S => PyData.list (sds S))).canLay0 = true := by simp only [PyData.canLay0]; exact cl
  have KBZ := KBE.same gEZ
  refine ⟨_, rfl, .list (Ss.map fun S => PyData.list (sds S)), .list (Ss.map fun S => PyData.list (sds S)), .lst (SqL.of upd_same) AR.rd, .lst (SqL.of (gEZ _ _ hkpE)) KBZ.rd, lay, lay, hr.fit (by simp only [PyData.depth]; omega), ?_⟩
  rw [if_neg Bool.false_ne_true, eqv_self _ lay]
  refine ⟨_, rfl, iteT ?_⟩
  have ed : turnDat hs st ms' = turnDat ks st ms := by unfold turnDat; rw [e1, e2]
  obtain ⟨⟨cs0, _, htd0⟩, hlv0⟩ := hDT.st _ (List.getElem?_eq_getElem nW)
  obtain ⟨cT, dT⟩ := lay_turn (t := st) hdw.nm hdw.ok.rows (htd0.mok.mono (by omega)) fun m hm => ⟨by
      obtain ⟨kd, hk, e, _⟩ := (hDT.md m hm).ex
      rw [← e]; exact hdw.nm kd hk, fun t ht => by
      obtain ⟨⟨cs, htd⟩, hlv, _⟩ := ok.mo.tm m hm t ht
      exact htd.mok.mono (by omega)⟩
  refine ⟨_, rfl, _, rfl, turnDat hs st ms', turnDat ks st ms, rd_turn (hTE'.same gEZ), rd_turn (hTE.same gEZ), by rw [ed]; exact cT, cT, hr.fit (by rw [ed]; omega), ?_⟩
  rw [if_neg Bool.false_ne_true, ed, eqv_self _ cT]
  exact q _
end
end K33
namespace L2
theorem ln1 {α : Type} {us : List α} (h : us.length = 1) : ∃ a, us = [a] := List.length_eq_one_iff.mp h
theorem ln2 {α : Type} {us : List α} (h : us.length = 2) : ∃ a b, us = [a, b] := by
  match us, h with
  | [a, b], _ => exact ⟨a, b, rfl⟩
theorem ln3 {α : Type} {us : List α} (h : us.length = 3) : ∃ a b c, us = [a, b, c] := by
  match us, h with
  | [a, b, c], _ => exact ⟨a, b, c, rfl⟩
theorem ln4 {α : Type} {us : List α} (h : us.length = 4) : ∃ a b c d, us = [a, b, c, d] := by
  match us, h with
  | [a, b, c, d], _ => exact ⟨a, b, c, d, rfl⟩
end L2
namespace L2
open PySem
structure MethAt (K : PySem.W.Frag) (C : Addr) (m qual : Str) (st : Stmt) : Prop where
  ex : ∃ (f : Addr) (oc : Value) (od : Option Addr) (kV doc pm : Value) (an : Option Addr) (cdv ct : Value) (osl : Array (Option Value)),
    PySem.W.findIn K (.ref C) m = some (some (.ref f)) ∧ PySem.W.isFn K (.ref f) = true ∧ K.lookup f = some ⟨oc, od, .func (PySem.W.fnOf m qual (defArgs st) (defBody st) (defScope st) .none kV doc pm an cdv ct), osl⟩ ∧ PySem.W.codeIn K cdv qual = true ∧ PySem.W.keepIn K (.ref f) = true
theorem MethAt.mk' {K : PySem.W.Frag} {C : Addr} {m qual : Str} {st : Stmt} {f : Addr} {oc : Value} {od : Option Addr} {kV doc pm : Value} {an : Option Addr} {cdv ct : Value} {osl : Array (Option Value)}
    (a : PySem.W.findIn K (.ref C) m = some (some (.ref f))) (i : PySem.W.isFn K (.ref f) = true) (l : K.lookup f = some ⟨oc, od, .func (PySem.W.fnOf m qual (defArgs st) (defBody st) (defScope st) .none kV doc pm an cdv ct), osl⟩) (c : PySem.W.codeIn K cdv qual = true) (k : PySem.W.keepIn K (.ref f) = true) : MethAt K C m qual st :=
  ⟨f, oc, od, kV, doc, pm, an, cdv, ct, osl, a, i, l, c, k⟩
end L2
namespace K33
open PySem L2
structure StgK (K : PySem.W.Frag) : Prop where
  ex : ∃ C : Addr, PySem.W.nsIn K mainGlobals "Stages" = some (some (.ref C)) ∧ Cls K C ∧ NoAttr K C "modes" ∧ NoAttr K C "callers" ∧ NoAttr K C "stumps" ∧ NoAttr K C "waiting" ∧ PySem.W.makesIn K C = true ∧ PySem.W.keepIn K (.ref C) = true ∧
    MethAt K C "__init__" "Stages.__init__" sInit ∧ MethAt K C "is_last" "Stages.is_last" sIsLast ∧ MethAt K C "go_on" "Stages.go_on" sGoOn
theorem StgK.mk' {K : PySem.W.Frag} {C : Addr} (aC : PySem.W.nsIn K mainGlobals "Stages" = some (some (.ref C))) (pg : PySem.W.plainGet K C Str.empty = true) (hd : PySem.W.hasDictIn K C = true) (po : PySem.W.plainOver K C = true)
    (sa : PySem.W.findIn K (.ref C) "__setattr__" = some (some (.builtin "object.__setattr__"))) (n1 : PySem.W.findIn K (.ref C) "modes" = some none) (n2 : PySem.W.findIn K (.ref C) "callers" = some none) (n3 : PySem.W.findIn K (.ref C) "stumps" = some none) (n4 : PySem.W.findIn K (.ref C) "waiting" = some none)
    (mk : PySem.W.makesIn K C = true) (kc : PySem.W.keepIn K (.ref C) = true) (m1 : MethAt K C "__init__" "Stages.__init__" sInit) (m2 : MethAt K C "is_last" "Stages.is_last" sIsLast) (m3 : MethAt K C "go_on" "Stages.go_on" sGoOn) : StgK K :=
  ⟨C, aC, ⟨pg, hd, po, sa⟩, n1, n2, n3, n4, mk, kc, m1, m2, m3⟩
theorem StgK.m {P : Program} {w : World} {K : PySem.W.Frag} {mg : Str → Option Value} {base h : Heap} (S : StgK K) (X : K.In h) (N : h.Ns mainGlobals mg) (G : Gm mg) (RC : Fn P w K mg base 5 "callers_by_modes" ["modes"] (spCB K)) (RL : Fn P w K mg base 7 "leaf_stump" ["wood", "kind", "rules"] (spLS K))
    (RA : Fn P w K mg base 1 "all_rules" ["modes"] (spAR K)) (RM : Fn P w K mg base 6 "met" ["one", "other"] (spMet K 5)) (RR : Fn P w K mg base 4 "rule_stump" ["rule", "stumps"] (spRS K 3)) : ∃ C, StgM P w K mg base C := by
  obtain ⟨C, aC, cl, n1, n2, n3, n4, mk, kc, m1, m2, m3⟩ := S.ex
  have T : StgT K mg C := ⟨cl, n1, n2, n3, n4, PySem.W.mg_of X N aC⟩
  obtain ⟨f1, oc1, od1, kV1, doc1, pm1, an1, cdv1, ct1, osl1, a1, i1, l1, c1, k1⟩ := m1.ex
  obtain ⟨f2, oc2, od2, kV2, doc2, pm2, an2, cdv2, ct2, osl2, a2, i2, l2, c2, k2⟩ := m2.ex
  obtain ⟨f3, oc3, od3, kV3, doc3, pm3, an3, cdv3, ct3, osl3, a3, i3, l3, c3, k3⟩ := m3.ex
  have F1 := fun_mk (st := sInit) l1 c1 k1
  have F2 := fun_mk (st := sIsLast) l2 c2 k2
  have F3 := fun_mk (st := sGoOn) l3 c3 k3
  have b1 : Binds K _ ["self", "turning"] [] := F1.binds fun _ _ _ _ _ _ us hl => by obtain ⟨a1, a2, rfl⟩ := ln2 hl; rfl
  have b2 : Binds K _ ["self"] [] := F2.binds fun _ _ _ _ _ _ us hl => by obtain ⟨a1, rfl⟩ := ln1 hl; rfl
  have b3 : Binds K _ ["self"] [] := F3.binds fun _ _ _ _ _ _ us hl => by obtain ⟨a1, rfl⟩ := ln1 hl; rfl
  exact ⟨C, T, ⟨f1, _, ⟨mk, a1, i1, kc⟩, ok_init F1 G T RC RL RA, b1⟩, ⟨f2, _, ⟨a2, i2, k2⟩, ok_il F2 G T, b2⟩, ⟨f3, _, ⟨a3, i3, k3⟩, ok_go F3 G T RM RR, b3⟩⟩
end K33
namespace K33
open PySem L2
theorem all_mk {l : PySem.W.OpenLaw} {w : World} {K : PySem.W.Frag} {h : Heap} {mg : Str → Option Value} {fa : Addr} (X : K.In h) (N : h.Ns mainGlobals mg) (hfa : mg "law" = some (.ref fa))
    (d1 : DefAt K "is_open" sIsO) (d2 : DefAt K "head" sHead) (d3 : DefAt K "met" sMet) (d4 : DefAt K "is_call" sIsC) (d5 : DefAt K "calls_of" sCO) (d6 : DefAt K "rows_of" sRowsOf) (d7 : DefAt K "commons" sCommons) (d8 : DefAt K "commons_within" sCW) (d9 : DefAt K "stages_within" sSW) (d10 : DefAt K "all_rules" sAR) (d11 : DefAt K "callers_by_modes" sCB) (d12 : DefAt K "leaf_stump" sLS) (d13 : DefAt K "rule_stump" sRS) (d14 : DefAt K "_law_numbers" sNum) (d15 : DefAt K "_law_draw" sDraw) (d16 : DefAt K "_law_mark" sMark) (d17 : DefAt K "_law_name" sName) (d18 : DefAt K "_law_wood" sWood) (d19 : DefAt K "_law_rows" sRows) (d20 : DefAt K "_law_term" sTerm) (d21 : DefAt K "_law_changed" sChg) (d22 : DefAt K "_law_calls" sCalls) (d23 : DefAt K "_law_rule" sRule) (d24 : DefAt K "_law_turning" sTurn) (d25 : DefAt K "_law_bare" sBare) (d26 : DefAt K "_law_copy" sCopy) (d27 : DefAt K "_law_whole" sWhole) (d28 : DefAt K "_law_is_stump" sIsS) (d29 : DefAt K "_law_rule_of" sRO) (d30 : DefAt K "_law_made" sMade) (d31 : DefAt K "_law_made_by" sMB) (d32 : DefAt K "_law_tree" sTree) (d33 : DefAt K "_law_begins" sBeg) (d34 : DefAt K "_law_stumps" sSts) (d35 : DefAt K "law" sLaw)
    (z1 : PySem.W.nsIn K mainGlobals "len" = some none) (z2 : PySem.W.nsIn K mainGlobals "isinstance" = some none) (z3 : PySem.W.nsIn K mainGlobals "int" = some none) (z4 : PySem.W.nsIn K mainGlobals "bool" = some none) (z5 : PySem.W.nsIn K mainGlobals "str" = some none) (z6 : PySem.W.nsIn K mainGlobals "tuple" = some none) (z7 : PySem.W.nsIn K mainGlobals "list" = some none) (z8 : PySem.W.nsIn K mainGlobals "range" = some none) (z9 : PySem.W.nsIn K mainGlobals "sum" = some none) (z10 : PySem.W.nsIn K mainGlobals "reversed" = some none) (z11 : PySem.W.nsIn K mainGlobals "zip" = some none) (z12 : PySem.W.nsIn K mainGlobals "all" = some none) (z13 : PySem.W.nsIn K mainGlobals "enumerate" = some none) (z14 : PySem.W.nsIn K mainGlobals "sorted" = some none) (z15 : PySem.W.nsIn K mainGlobals "dict" = some none) (o1 : OneAt K "OPEN" OPEN) (s1 : StgK K) :
    ∃ fd : FuncData, (∀ (s : Shared) (v : Value), BindsTo s fd ⟨[v], []⟩ [("_law_script", v)]) ∧ ∀ base : Heap, K.In base → base.Ns mainGlobals mg → FnOk l.prog w K mg base CX0 20 fa fd ["_law_script"] (spLaw K) := by
  have G : Gm mg := ⟨PySem.W.mg_none_of X N z1, PySem.W.mg_none_of X N z2, PySem.W.mg_none_of X N z3, PySem.W.mg_none_of X N z4, PySem.W.mg_none_of X N z5, PySem.W.mg_none_of X N z6, PySem.W.mg_none_of X N z7, PySem.W.mg_none_of X N z8, PySem.W.mg_none_of X N z9, PySem.W.mg_none_of X N z10, PySem.W.mg_none_of X N z11, PySem.W.mg_none_of X N z12, PySem.W.mg_none_of X N z13, PySem.W.mg_none_of X N z14, PySem.W.mg_none_of X N z15⟩
  obtain ⟨f, oc, od, kV, doc, pm, an, cdv, ct, osl, a, lk, c, kp⟩ := d35.ex
  have e := hfa.symm.trans (PySem.W.mg_of X N a)
  cases e
  have F := fun_mk (st := sLaw) lk c kp
  refine ⟨PySem.W.fnOf "law" "law" (defArgs sLaw) (defBody sLaw) (defScope sLaw) .none kV doc pm an cdv ct, fun s v => .of_eq rfl, fun base _ _ => ?_⟩
  obtain ⟨oa1, hO1, hOA1⟩ := o1.at X N
  have rO : Fn l.prog w K mg base 1 "is_open" ["stump"] (spIsO K) := d1.fn X N (fun f fd F => ok_isO F) fun _ _ _ _ _ _ us hl => by obtain ⟨a1, rfl⟩ := ln1 hl; rfl
  have rH : Fn l.prog w K mg base 1 "head" ["stump"] (spHead K) := d2.fn X N (fun f fd F => ok_head F G) fun _ _ _ _ _ _ us hl => by obtain ⟨a1, rfl⟩ := ln1 hl; rfl
  have rM : Fn l.prog w K mg base 6 "met" ["one", "other"] (spMet K 5) := by
    obtain ⟨f, oc, od, kV, doc, pm, an, cdv, ct, osl, a, lk, c, kp⟩ := d3.ex
    have F := fun_mk (st := sMet) lk c kp
    have hb : Binds K _ ["one", "other"] [] := F.binds fun _ _ _ _ _ _ us hl => by obtain ⟨a1, a2, rfl⟩ := ln2 hl; rfl
    exact ⟨f, _, all_met F G hO1 hOA1 rO rH hb (PySem.W.mg_of X N a) 5, hb, kp, PySem.W.mg_of X N a⟩
  have rIC : Fn l.prog w K mg base 1 "is_call" ["term"] (spIsC K) := d4.fn X N (fun f fd F => ok_isC F) fun _ _ _ _ _ _ us hl => by obtain ⟨a1, rfl⟩ := ln1 hl; rfl
  have rCO : Fn l.prog w K mg base 4 "calls_of" ["term"] (spCO K 3) := by
    obtain ⟨f, oc, od, kV, doc, pm, an, cdv, ct, osl, a, lk, c, kp⟩ := d5.ex
    have F := fun_mk (st := sCO) lk c kp
    have hb : Binds K _ ["term"] [] := F.binds fun _ _ _ _ _ _ us hl => by obtain ⟨a1, rfl⟩ := ln1 hl; rfl
    exact ⟨f, _, all_co F G rIC hb (PySem.W.mg_of X N a) 3, hb, kp, PySem.W.mg_of X N a⟩
  have rRO : Fn l.prog w K mg base 1 "rows_of" ["wood", "kind"] (spRowsOf K) := d6.fn X N (fun f fd F => ok_rowsOf F G) fun _ _ _ _ _ _ us hl => by obtain ⟨a1, a2, rfl⟩ := ln2 hl; rfl
  have rRS : Fn l.prog w K mg base 4 "rule_stump" ["rule", "stumps"] (spRS K 3) := by
    obtain ⟨f, oc, od, kV, doc, pm, an, cdv, ct, osl, a, lk, c, kp⟩ := d13.ex
    have F := fun_mk (st := sRS) lk c kp
    have hb : Binds K _ ["rule", "stumps"] [] := F.binds fun _ _ _ _ _ _ us hl => by obtain ⟨a1, a2, rfl⟩ := ln2 hl; rfl
    exact ⟨f, _, all_rs F G hO1 hOA1 rIC hb (PySem.W.mg_of X N a) 3, hb, kp, PySem.W.mg_of X N a⟩
  have rLS : Fn l.prog w K mg base 7 "leaf_stump" ["wood", "kind", "rules"] (spLS K) := d12.fn X N (fun f fd F => ok_ls F G rRO rRS rM) fun _ _ _ _ _ _ us hl => by obtain ⟨a1, a2, a3, rfl⟩ := ln3 hl; rfl
  have rAR : Fn l.prog w K mg base 1 "all_rules" ["modes"] (spAR K) := d10.fn X N (fun f fd F => ok_ar F G) fun _ _ _ _ _ _ us hl => by obtain ⟨a1, rfl⟩ := ln1 hl; rfl
  have rCB : Fn l.prog w K mg base 5 "callers_by_modes" ["modes"] (spCB K) := d11.fn X N (fun f fd F => ok_cb F G rAR rCO) fun _ _ _ _ _ _ us hl => by obtain ⟨a1, rfl⟩ := ln1 hl; rfl
  obtain ⟨C, M⟩ := s1.m (P := l.prog) (w := w) (base := base) X N G rCB rLS rAR rM rRS
  have rSW : Fn l.prog w K mg base 10 "stages_within" ["turning", "many"] (spSW K) := d9.fn X N (fun f fd F => ok_sw F G M) fun _ _ _ _ _ _ us hl => by obtain ⟨a1, a2, rfl⟩ := ln2 hl; rfl
  have rCW : Fn l.prog w K mg base 11 "commons_within" ["turning", "many"] (spCW K) := d8.fn X N (fun f fd F => ok_cw F rSW) fun _ _ _ _ _ _ us hl => by obtain ⟨a1, a2, rfl⟩ := ln2 hl; rfl
  have rCm : Fn l.prog w K mg base 10 "commons" ["turning"] (spCm K) := d7.fn X N (fun f fd F => ok_cm F G M) fun _ _ _ _ _ _ us hl => by obtain ⟨a1, rfl⟩ := ln1 hl; rfl
  have rU : Fn l.prog w K mg base 1 "_law_numbers" ["_law_script", "_law_most"] (spNum K) := d14.fn X N (fun f fd F => ok_num F G) fun _ _ _ _ _ _ us hl => by obtain ⟨a1, a2, rfl⟩ := ln2 hl; rfl
  have rD : Fn l.prog w K mg base 1 "_law_draw" ["_law_deck", "_law_most"] spDraw := d15.fn X N (fun f fd F => ok_draw F) fun _ _ _ _ _ _ us hl => by obtain ⟨a1, a2, rfl⟩ := ln2 hl; rfl
  have rK : Fn l.prog w K mg base 2 "_law_mark" ["_law_deck"] spMark := d16.fn X N (fun f fd F => ok_mark F rD) fun _ _ _ _ _ _ us hl => by obtain ⟨a1, rfl⟩ := ln1 hl; rfl
  have rN : Fn l.prog w K mg base 1 "_law_name" ["_law_code", "_law_k"] spName := d17.fn X N (fun f fd F => ok_name F G) fun _ _ _ _ _ _ us hl => by obtain ⟨a1, a2, rfl⟩ := ln2 hl; rfl
  have rW : Fn l.prog w K mg base 2 "_law_wood" ["_law_deck", "_law_code"] (spWood K) := d18.fn X N (fun f fd F => ok_wood F G rD rN) fun _ _ _ _ _ _ us hl => by obtain ⟨a1, a2, rfl⟩ := ln2 hl; rfl
  have rR : Fn l.prog w K mg base 1 "_law_rows" ["_law_wood_here", "_law_kind"] (spRows K) := d19.fn X N (fun f fd F => ok_rows F) fun _ _ _ _ _ _ us hl => by obtain ⟨a1, a2, rfl⟩ := ln2 hl; rfl
  have rT : Fn l.prog w K mg base 5 "_law_term" ["_law_deck", "_law_code", "_law_calls_here", "_law_deep"] (spTerm K 3) := by
    obtain ⟨f, oc, od, kV, doc, pm, an, cdv, ct, osl, a, lk, c, kp⟩ := d20.ex
    have F := fun_mk (st := sTerm) lk c kp
    have hb : Binds K _ ["_law_deck", "_law_code", "_law_calls_here", "_law_deep"] [] := F.binds fun _ _ _ _ _ _ us hl => by obtain ⟨a1, a2, a3, a4, rfl⟩ := ln4 hl; rfl
    exact ⟨f, _, all_term F G rD rK rN hb (PySem.W.mg_of X N a) 3, hb, kp, PySem.W.mg_of X N a⟩
  have rC : Fn l.prog w K mg base 5 "_law_changed" ["_law_deck", "_law_code", "_law_term_here", "_law_calls_here"] (spChg K 3) := by
    obtain ⟨f, oc, od, kV, doc, pm, an, cdv, ct, osl, a, lk, c, kp⟩ := d21.ex
    have F := fun_mk (st := sChg) lk c kp
    have hb : Binds K _ ["_law_deck", "_law_code", "_law_term_here", "_law_calls_here"] [] := F.binds fun _ _ _ _ _ _ us hl => by obtain ⟨a1, a2, a3, a4, rfl⟩ := ln4 hl; rfl
    exact ⟨f, _, all_chg F G rD rK rN hb (PySem.W.mg_of X N a) 3, hb, kp, PySem.W.mg_of X N a⟩
  have rL : Fn l.prog w K mg base 6 "_law_rule" ["_law_deck", "_law_code", "_law_base", "_law_calls_here"] (spRule K) := d23.fn X N (fun f fd F => ok_rule F rD rC rT) fun _ _ _ _ _ _ us hl => by obtain ⟨a1, a2, a3, a4, rfl⟩ := ln4 hl; rfl
  have rA : Fn l.prog w K mg base 1 "_law_calls" ["_law_kinds", "_law_branches"] (spCalls K) := d22.fn X N (fun f fd F => ok_calls F G) fun _ _ _ _ _ _ us hl => by obtain ⟨a1, a2, rfl⟩ := ln2 hl; rfl
  have rB : Fn l.prog w K mg base 3 "_law_bare" ["_law_term_here"] (spBare K 3) := by
    obtain ⟨f, oc, od, kV, doc, pm, an, cdv, ct, osl, a, lk, c, kp⟩ := d25.ex
    have F := fun_mk (st := sBare) lk c kp
    have hb : Binds K _ ["_law_term_here"] [] := F.binds fun _ _ _ _ _ _ us hl => by obtain ⟨a1, rfl⟩ := ln1 hl; rfl
    exact ⟨f, _, all_bare F G hb (PySem.W.mg_of X N a) 3, hb, kp, PySem.W.mg_of X N a⟩
  have rTu : Fn l.prog w K mg base 7 "_law_turning" ["_law_deck", "_law_code", "_law_wood_here"] (spTurn K) := d24.fn X N (fun f fd F => ok_turn F G rD rT rL rA rR rB) fun _ _ _ _ _ _ us hl => by obtain ⟨a1, a2, a3, rfl⟩ := ln3 hl; rfl
  have rCp : Fn l.prog w K mg base 1 "_law_copy" ["_law_turning_here"] (spCopy K) := d26.fn X N (fun f fd F => ok_copy F G) fun _ _ _ _ _ _ us hl => by obtain ⟨a1, rfl⟩ := ln1 hl; rfl
  have rWh : Fn l.prog w K mg base 1 "_law_whole" ["_law_found"] spWhole := d27.fn X N (fun f fd F => ok_whole F G) fun _ _ _ _ _ _ us hl => by obtain ⟨a1, rfl⟩ := ln1 hl; rfl
  have rIs : Fn l.prog w K mg base 6 "_law_is_stump" ["_law_found"] (spIsS K 5) := by
    obtain ⟨f, oc, od, kV, doc, pm, an, cdv, ct, osl, a, lk, c, kp⟩ := d28.ex
    have F := fun_mk (st := sIsS) lk c kp
    have hb : Binds K _ ["_law_found"] [] := F.binds fun _ _ _ _ _ _ us hl => by obtain ⟨a1, rfl⟩ := ln1 hl; rfl
    exact ⟨f, _, all_isS F G rWh hb (PySem.W.mg_of X N a) 5, hb, kp, PySem.W.mg_of X N a⟩
  have rRu : Fn l.prog w K mg base 2 "_law_rule_of" ["_law_turning_here", "_law_mode", "_law_name_here"] (spRuO K) := d29.fn X N (fun f fd F => ok_ruo F G rR) fun _ _ _ _ _ _ us hl => by obtain ⟨a1, a2, a3, rfl⟩ := ln3 hl; rfl
  have rMd : Fn l.prog w K mg base 18 "_law_made" ["_law_turning_here", "_law_mode", "_law_tree_here"] (spMade K 3) := by
    obtain ⟨f, oc, od, kV, doc, pm, an, cdv, ct, osl, a, lk, c, kp⟩ := d30.ex
    have F := fun_mk (st := sMade) lk c kp
    have hb : Binds K _ ["_law_turning_here", "_law_mode", "_law_tree_here"] [] := F.binds fun _ _ _ _ _ _ us hl => by obtain ⟨a1, a2, a3, rfl⟩ := ln3 hl; rfl
    obtain ⟨f2, oc2, od2, kV2, doc2, pm2, an2, cdv2, ct2, osl2, a2, lk2, c2, kp2⟩ := d31.ex
    have F2 := fun_mk (st := sMB) lk2 c2 kp2
    have hb2 : Binds K _ ["_law_turning_here", "_law_term_here", "_law_tree_here"] [] := F2.binds fun _ _ _ _ _ _ us hl => by obtain ⟨a1, a2, a3, rfl⟩ := ln3 hl; rfl
    exact ⟨f, _, all_made F F2 G rRu hb (PySem.W.mg_of X N a) hb2 (PySem.W.mg_of X N a2) 3, hb, kp, PySem.W.mg_of X N a⟩
  have rTr : Fn l.prog w K mg base 5 "_law_tree" ["_law_deck", "_law_wood_here", "_law_kind", "_law_deep"] (spTree K 3) := by
    obtain ⟨f, oc, od, kV, doc, pm, an, cdv, ct, osl, a, lk, c, kp⟩ := d32.ex
    have F := fun_mk (st := sTree) lk c kp
    have hb : Binds K _ ["_law_deck", "_law_wood_here", "_law_kind", "_law_deep"] [] := F.binds fun _ _ _ _ _ _ us hl => by obtain ⟨a1, a2, a3, a4, rfl⟩ := ln4 hl; rfl
    exact ⟨f, _, all_tree F G rD rK rR hb (PySem.W.mg_of X N a) 3, hb, kp, PySem.W.mg_of X N a⟩
  have rBe : Fn l.prog w K mg base 4 "_law_begins" ["_law_stump", "_law_tree_here"] (spBeg K 3) := by
    obtain ⟨f, oc, od, kV, doc, pm, an, cdv, ct, osl, a, lk, c, kp⟩ := d33.ex
    have F := fun_mk (st := sBeg) lk c kp
    have hb : Binds K _ ["_law_stump", "_law_tree_here"] [] := F.binds fun _ _ _ _ _ _ us hl => by obtain ⟨a1, a2, rfl⟩ := ln2 hl; rfl
    exact ⟨f, _, all_beg F G hb (PySem.W.mg_of X N a) 3, hb, kp, PySem.W.mg_of X N a⟩
  have rSs : Fn l.prog w K mg base 7 "_law_stumps" ["_law_found", "_law_count"] (spSts K) := d34.fn X N (fun f fd F => ok_sts F G rIs) fun _ _ _ _ _ _ us hl => by obtain ⟨a1, a2, rfl⟩ := ln2 hl; rfl
  exact ok_law F G rU rD rW rTu rCp rSs rTr rMd rBe rCW rCm
theorem walk {l : PySem.W.OpenLaw} {q : Program} {loose : List Str} {XP : (Str → Option Value) → Heap → Prop} {YP : World → Heap → Prop} {d : DefRec} {K : Params → PySem.W.Frag} (hn : l.most = some 63) (hdf : d.params.defaults = [])
    (hY : ∀ (w : World) (h : Heap), YP w h → (K w.params).In h)
    (F : ∀ (w : World) (mg : Str → Option Value) (fa : Addr) (h : Heap), (K w.params).In h → h.Ns mainGlobals mg → mg d.name = some (.ref fa) →
      ∃ fd : FuncData, (∀ (s : Shared) (u : Value), BindsTo s fd ⟨[u], []⟩ [("_law_script", u)]) ∧ ∀ base : Heap, (K w.params).In base → base.Ns mainGlobals mg → FnOk l.prog w (K w.params) mg base CX0 20 fa fd ["_law_script"] (spLaw (K w.params))) :
    PySem.W.WalkO q loose XP YP l.row.toRowW d [] (fun f vs => PySem.call f vs) :=
  L2.walk_of (n := 63) (k := 20) (x := "_law_script") (CX := fun _ => CX0) (sp := fun w => spLaw (K w.params)) hn (by decide) hdf ⟨rfl, by decide, by decide⟩ hY F (fun _ _ a ns hl hO hS => ⟨a, ns, rfl, hS, hl, fun _ => rfl⟩) fun _ _ _ _ _ z => z
end K33
section
open PySem
noncomputable def K33.vS (x : String) (n : Nat) : Value := .str (Str.ofString x) n
noncomputable def K33.vR (a : Nat) : Value := .ref a
noncomputable def K33.vI (i : Int) (n : Nat) : Value := .int i n
noncomputable def K33.hE (P : Params) (x : String) (n : Nat) (v : Value) : DictEntry := ⟨PyData.keyHash P (Str.ofString x), .str (Str.ofString x) n, v⟩
noncomputable def K33.vN : Value := .none
noncomputable def K33.vF : Value := .type "function"
noncomputable def K33.vT : Value := .bool true
noncomputable def K33.i0 : Value := .int 0 0
noncomputable def K33.i3 : Value := .int 3 0
noncomputable def K33.i1 : Value := .int 181 0
noncomputable def K33.cP (k : Nat) : Value := .str (Str.ofString "/claim/cut.py") k
noncomputable def K33.oT (x : Array Value) : Obj := Obj.mk (Value.type "tuple") none (Data.seq x) #[]
noncomputable def K33.oC (x : Array Value) : Obj := Obj.mk (Value.type "code") none (Data.fields x) #[]
noncomputable def K33.oF (c : Value) (x y : String) (s : Stmt) (k : Nat) (pm cd : Value) : Obj := Obj.mk c none (Data.func (FuncData.mk (Str.ofString x) (Str.ofString y) (L2.defArgs s) (.stmts (L2.defBody s)) (L2.defScope s) k [] Value.none Value.none Value.none pm none cd Value.none 0)) #[]
open K33 in
noncomputable def K33.hp : Params → PySem.W.Frag := fun P => [ (2, Obj.mk vN none (Data.dict #[]) #[])
, (3, Obj.mk (Value.type "dict") none (Data.dict #[hE P "__name__" 165 (vS "law_turnery_k33_outcomes_begin_so" 340), hE P "__doc__" 166 vN, hE P "__package__" 167 vN, hE P "__loader__" 168 (Value.builtin "__main__.__loader__#opaque"), hE P "__spec__" 169 vN, hE P "__annotations__" 170 (vR 6), hE P "__builtins__" 171 (vR 4), hE P "__file__" 173 (cP 172), hE P "__cached__" 174 vN, hE P "OPEN" 190 (vR 15), hE P "is_open" 197 (vR 22), hE P "head" 204 (vR 29), hE P "met" 210 (vR 34), hE P "is_call" 219 (vR 41), hE P "calls_of" 228 (vR 48), hE P "rows_of" 238 (vR 55), hE P "commons" 248 (vR 62), hE P "commons_within" 256 (vR 69), hE P "stages_within" 266 (vR 76), hE P "Stages" 315 (vR 105), hE P "all_rules" 321 (vR 114), hE P "callers_by_modes" 327 (vR 119), hE P "leaf_stump" 333 (vR 124), hE P "rule_stump" 339 (vR 129), hE P "_law_numbers" 347 (vR 134), hE P "_law_draw" 355 (vR 141), hE P "_law_mark" 363 (vR 148), hE P "_law_name" 378 (vR 155), hE P "_law_wood" 384 (vR 160), hE P "_law_rows" 390 (vR 165), hE P "_law_term" 405 (vR 172), hE P "_law_changed" 411 (vR 177), hE P "_law_calls" 422 (vR 184), hE P "_law_rule" 433 (vR 191), hE P "_law_turning" 451 (vR 198), hE P "_law_bare" 457 (vR 203), hE P "_law_copy" 463 (vR 208), hE P "_law_whole" 470 (vR 215), hE P "_law_is_stump" 478 (vR 222), hE P "_law_rule_of" 484 (vR 227), hE P "_law_made" 493 (vR 234), hE P "_law_made_by" 499 (vR 239), hE P "_law_tree" 505 (vR 244), hE P "_law_begins" 515 (vR 251), hE P "_law_stumps" 524 (vR 258), hE P "law" 530 (vR 263)] 46) #[])
, (15, oT #[vS "open" 189])
, (16, oT #[])
, (18, oT #[vS "stump" 194])
, (19, oT #[])
, (21, oC #[vS "is_open" 191, vS "is_open" 192, cP 193, vI 3 0, vI 1 0, i0, i0, i3, vR 16, vT, i1, vR 17, vN, vR 18, vR 19, vR 20, vI 195 0, vI 3 0, cP 196])
, (22, oF vF "is_open" "is_open" (top 2) 3 (vS "turnery.stumps" 187) (vR 21))
, (23, oT #[])
, (25, oT #[vS "stump" 201])
, (26, oT #[])
, (28, oC #[vS "head" 198, vS "head" 199, cP 200, vI 5 0, vI 1 0, i0, i0, i3, vR 23, vT, i1, vR 24, vN, vR 25, vR 26, vR 27, vI 202 0, vI 5 0, cP 203])
, (29, oF vF "head" "head" (top 3) 3 (vS "turnery.stumps" 187) (vR 28))
, (30, oT #[])
, (33, oC #[vS "met" 205, vS "met" 206, cP 207, vI 7 0, vI 2 0, i0, i0, i3, vR 30, vT, i1, vR 31, vN, vN, vN, vR 32, vI 208 0, vI 7 0, cP 209])
, (34, oF vF "met" "met" (top 4) 3 (vS "turnery.stumps" 187) (vR 33))
, (35, oT #[])
, (37, oT #[vS "term" 216])
, (38, oT #[])
, (40, oC #[vS "is_call" 213, vS "is_call" 214, cP 215, vI 12 0, vI 1 0, i0, i0, i3, vR 35, vT, i1, vR 36, vN, vR 37, vR 38, vR 39, vI 217 0, vI 12 0, cP 218])
, (41, oF vF "is_call" "is_call" (top 6) 3 (vS "turnery.terms" 211) (vR 40))
, (42, oT #[])
, (44, oT #[vS "term" 223, vS "told" 224, vS "part" 225])
, (45, oT #[])
, (47, oC #[vS "calls_of" 220, vS "calls_of" 221, cP 222, vI 14 0, vI 1 0, i0, i0, i3, vR 42, vT, i1, vR 43, vN, vR 44, vR 45, vR 46, vI 226 0, vI 14 0, cP 227])
, (48, oF vF "calls_of" "calls_of" (top 7) 3 (vS "turnery.terms" 211) (vR 47))
, (49, oT #[])
, (51, oT #[vS "wood" 234, vS "kind" 235])
, (52, oT #[])
, (54, oC #[vS "rows_of" 231, vS "rows_of" 232, cP 233, vI 22 0, vI 2 0, i0, i0, i3, vR 49, vT, i1, vR 50, vN, vR 51, vR 52, vR 53, vI 236 0, vI 22 0, cP 237])
, (55, oF vF "rows_of" "rows_of" (top 9) 3 (vS "turnery.woods" 229) (vR 54))
, (56, oT #[])
, (58, oT #[vS "turning" 244, vS "stages" 245])
, (59, oT #[])
, (61, oC #[vS "commons" 241, vS "commons" 242, cP 243, vI 25 0, vI 1 0, i0, i0, i3, vR 56, vT, i1, vR 57, vN, vR 58, vR 59, vR 60, vI 246 0, vI 25 0, cP 247])
, (62, oF vF "commons" "commons" (top 11) 3 (vS "turnery.commons" 239) (vR 61))
, (63, oT #[])
, (65, oT #[vS "turning" 252, vS "many" 253])
, (66, oT #[])
, (68, oC #[vS "commons_within" 249, vS "commons_within" 250, cP 251, vI 30 0, vI 2 0, i0, i0, i3, vR 63, vT, i1, vR 64, vN, vR 65, vR 66, vR 67, vI 254 0, vI 30 0, cP 255])
, (69, oF vF "commons_within" "commons_within" (top 12) 3 (vS "turnery.commons" 239) (vR 68))
, (70, oT #[])
, (72, oT #[vS "turning" 260, vS "many" 261, vS "stages" 262, vS "told" 263])
, (73, oT #[])
, (75, oC #[vS "stages_within" 257, vS "stages_within" 258, cP 259, vI 32 0, vI 2 0, i0, i0, i3, vR 70, vT, i1, vR 71, vN, vR 72, vR 73, vR 74, vI 264 0, vI 32 0, cP 265])
, (76, oF vF "stages_within" "stages_within" (top 13) 3 (vS "turnery.commons" 239) (vR 75))
, (84, oT #[])
, (87, oC #[vS "__init__" 279, vS "Stages.__init__" 280, cP 281, vI 41 0, vI 2 0, i0, i0, i3, vR 84, vT, i1, vR 85, vN, vN, vN, vR 86, vI 282 0, vI 41 0, cP 283])
, (88, oF vF "__init__" "Stages.__init__" (L2.inClass (top 14) 0) 3 (vS "turnery.commons" 239) (vR 87))
, (89, oT #[])
, (91, oT #[vS "self" 288])
, (92, oT #[])
, (94, oC #[vS "is_last" 285, vS "Stages.is_last" 286, cP 287, vI 47 0, vI 1 0, i0, i0, i3, vR 89, vT, i1, vR 90, vN, vR 91, vR 92, vR 93, vI 289 0, vI 47 0, cP 290])
, (95, oF vF "is_last" "Stages.is_last" (L2.inClass (top 14) 1) 3 (vS "turnery.commons" 239) (vR 94))
, (96, oT #[])
, (98, oT #[vS "self" 295, vS "stumps" 296, vS "mode" 297, vS "number" 298, vS "callers" 299, vS "stump" 300])
, (99, oT #[])
, (101, oC #[vS "go_on" 292, vS "Stages.go_on" 293, cP 294, vI 50 0, vI 1 0, i0, i0, i3, vR 96, vT, i1, vR 97, vN, vR 98, vR 99, vR 100, vI 301 0, vI 50 0, cP 302])
, (102, oF vF "go_on" "Stages.go_on" (L2.inClass (top 14) 2) 3 (vS "turnery.commons" 239) (vR 101))
, (103, oT #[vS "callers" 304, vS "modes" 305, vS "stumps" 306, vS "waiting" 307])
, (104, Obj.mk (Value.type "dict") none (Data.dict #[hE P "__module__" 274 (vS "turnery.commons" 239), hE P "__firstlineno__" 278 (vI 39 277), hE P "__init__" 284 (vR 88), hE P "is_last" 291 (vR 95), hE P "go_on" 303 (vR 102), hE P "__static_attributes__" 308 (vR 103), hE P "__dict__" 310 (vR 106), hE P "__weakref__" 312 (vR 107), hE P "__doc__" 313 vN] 4) #[])
, (105, Obj.mk (Value.type "type") none (Data.cls (ClassData.mk (Str.ofString "Stages") [Value.type "object"] [vR 105, Value.type "object"] 104 (Str.ofString "Stages") true [] [] false none false)) #[none, none, some (vS "Stages" 267), some (vS "Stages" 275), some (Value.builtin "object.__new__"), some (Value.bool true)])
, (106, Obj.mk (Value.type "getset_descriptor") none (Data.fields #[vS "__dict__" 309, vR 105, Value.builtin "function.__dict__", Value.builtin "function.__dict__#set"]) #[])
, (107, Obj.mk (Value.type "getset_descriptor") none (Data.fields #[vS "__weakref__" 311, vR 105, Value.builtin "ExceptionGroup.__weakref__", vN]) #[])
, (110, oT #[])
, (113, oC #[vS "all_rules" 316, vS "all_rules" 317, cP 318, vI 60 0, vI 1 0, i0, i0, i3, vR 110, vT, i1, vR 111, vN, vN, vN, vR 112, vI 319 0, vI 60 0, cP 320])
, (114, oF vF "all_rules" "all_rules" (top 15) 3 (vS "turnery.commons" 239) (vR 113))
, (115, oT #[])
, (118, oC #[vS "callers_by_modes" 322, vS "callers_by_modes" 323, cP 324, vI 65 0, vI 1 0, i0, i0, i3, vR 115, vT, i1, vR 116, vN, vN, vN, vR 117, vI 325 0, vI 65 0, cP 326])
, (119, oF vF "callers_by_modes" "callers_by_modes" (top 16) 3 (vS "turnery.commons" 239) (vR 118))
, (120, oT #[])
, (123, oC #[vS "leaf_stump" 328, vS "leaf_stump" 329, cP 330, vI 71 0, vI 3 0, i0, i0, i3, vR 120, vT, i1, vR 121, vN, vN, vN, vR 122, vI 331 0, vI 71 0, cP 332])
, (124, oF vF "leaf_stump" "leaf_stump" (top 17) 3 (vS "turnery.commons" 239) (vR 123))
, (125, oT #[])
, (128, oC #[vS "rule_stump" 334, vS "rule_stump" 335, cP 336, vI 77 0, vI 2 0, i0, i0, i3, vR 125, vT, i1, vR 126, vN, vN, vN, vR 127, vI 337 0, vI 77 0, cP 338])
, (129, oF vF "rule_stump" "rule_stump" (top 18) 3 (vS "turnery.commons" 239) (vR 128))
, (130, oT #[])
, (133, oC #[vS "_law_numbers" 342, vS "_law_numbers" 343, cP 344, vI 84 0, vI 2 0, i0, i0, i3, vR 130, vT, i1, vR 131, vN, vN, vN, vR 132, vI 345 0, vI 84 0, cP 346])
, (134, oF vF "_law_numbers" "_law_numbers" (top 20) 3 (vS "law_turnery_k33_outcomes_begin_so" 340) (vR 133))
, (135, oT #[])
, (137, oT #[vS "_law_deck" 351, vS "_law_most" 352])
, (138, oT #[])
, (140, oC #[vS "_law_draw" 348, vS "_law_draw" 349, cP 350, vI 91 0, vI 2 0, i0, i0, i3, vR 135, vT, i1, vR 136, vN, vR 137, vR 138, vR 139, vI 353 0, vI 91 0, cP 354])
, (141, oF vF "_law_draw" "_law_draw" (top 21) 3 (vS "law_turnery_k33_outcomes_begin_so" 340) (vR 140))
, (142, oT #[])
, (144, oT #[vS "_law_deck" 359, vS "_law_number" 360])
, (145, oT #[])
, (147, oC #[vS "_law_mark" 356, vS "_law_mark" 357, cP 358, vI 95 0, vI 1 0, i0, i0, i3, vR 142, vT, i1, vR 143, vN, vR 144, vR 145, vR 146, vI 361 0, vI 95 0, cP 362])
, (148, oF vF "_law_mark" "_law_mark" (top 22) 3 (vS "law_turnery_k33_outcomes_begin_so" 340) (vR 147))
, (149, oT #[])
, (151, oT #[vS "_law_code" 367, vS "_law_k" 368, vS "_law_letters" 369, vS "_law_first" 370, vS "_law_long" 371, vS "_law_told" 372, vS "_law_name_here" 373, vS "_law_j" 374, vS "_law_step" 375])
, (152, oT #[])
, (154, oC #[vS "_law_name" 364, vS "_law_name" 365, cP 366, vI 100 0, vI 2 0, i0, i0, i3, vR 149, vT, i1, vR 150, vN, vR 151, vR 152, vR 153, vI 376 0, vI 100 0, cP 377])
, (155, oF vF "_law_name" "_law_name" (top 23) 3 (vS "law_turnery_k33_outcomes_begin_so" 340) (vR 154))
, (156, oT #[])
, (159, oC #[vS "_law_wood" 379, vS "_law_wood" 380, cP 381, vI 114 0, vI 2 0, i0, i0, i3, vR 156, vT, i1, vR 157, vN, vN, vN, vR 158, vI 382 0, vI 114 0, cP 383])
, (160, oF vF "_law_wood" "_law_wood" (top 24) 3 (vS "law_turnery_k33_outcomes_begin_so" 340) (vR 159))
, (161, oT #[])
, (164, oC #[vS "_law_rows" 385, vS "_law_rows" 386, cP 387, vI 125 0, vI 2 0, i0, i0, i3, vR 161, vT, i1, vR 162, vN, vN, vN, vR 163, vI 388 0, vI 125 0, cP 389])
, (165, oF vF "_law_rows" "_law_rows" (top 25) 3 (vS "law_turnery_k33_outcomes_begin_so" 340) (vR 164))
, (166, oT #[])
, (168, oT #[vS "_law_deck" 394, vS "_law_code" 395, vS "_law_calls_here" 396, vS "_law_deep" 397, vS "_law_pick" 398, vS "_law_parts" 399, vS "_law_count" 400, vS "_law_k" 401, vS "_law_name_here" 402])
, (169, oT #[])
, (171, oC #[vS "_law_term" 391, vS "_law_term" 392, cP 393, vI 127 0, vI 4 0, i0, i0, i3, vR 166, vT, i1, vR 167, vN, vR 168, vR 169, vR 170, vI 403 0, vI 127 0, cP 404])
, (172, oF vF "_law_term" "_law_term" (top 26) 3 (vS "law_turnery_k33_outcomes_begin_so" 340) (vR 171))
, (173, oT #[])
, (176, oC #[vS "_law_changed" 406, vS "_law_changed" 407, cP 408, vI 138 0, vI 4 0, i0, i0, i3, vR 173, vT, i1, vR 174, vN, vN, vN, vR 175, vI 409 0, vI 138 0, cP 410])
, (177, oF vF "_law_changed" "_law_changed" (top 27) 3 (vS "law_turnery_k33_outcomes_begin_so" 340) (vR 176))
, (178, oT #[])
, (180, oT #[vS "_law_kinds" 415, vS "_law_branches" 416, vS "_law_found" 417, vS "_law_k" 418, vS "_law_j" 419])
, (181, oT #[])
, (183, oC #[vS "_law_calls" 412, vS "_law_calls" 413, cP 414, vI 147 0, vI 2 0, i0, i0, i3, vR 178, vT, i1, vR 179, vN, vR 180, vR 181, vR 182, vI 420 0, vI 147 0, cP 421])
, (184, oF vF "_law_calls" "_law_calls" (top 28) 3 (vS "law_turnery_k33_outcomes_begin_so" 340) (vR 183))
, (185, oT #[])
, (187, oT #[vS "_law_deck" 426, vS "_law_code" 427, vS "_law_base" 428, vS "_law_calls_here" 429, vS "_law_way" 430])
, (188, oT #[])
, (190, oC #[vS "_law_rule" 423, vS "_law_rule" 424, cP 425, vI 154 0, vI 4 0, i0, i0, i3, vR 185, vT, i1, vR 186, vN, vR 187, vR 188, vR 189, vI 431 0, vI 154 0, cP 432])
, (191, oF vF "_law_rule" "_law_rule" (top 29) 3 (vS "law_turnery_k33_outcomes_begin_so" 340) (vR 190))
, (192, oT #[])
, (194, oT #[vS "_law_deck" 437, vS "_law_code" 438, vS "_law_wood_here" 439, vS "_law_kinds" 440, vS "_law_k" 441, vS "_law_modes" 442, vS "_law_kind" 443, vS "_law_base" 444, vS "_law_rules" 445, vS "_law_name_here" 446, vS "_law_branches" 447, vS "_law_start" 448])
, (195, oT #[])
, (197, oC #[vS "_law_turning" 434, vS "_law_turning" 435, cP 436, vI 161 0, vI 3 0, i0, i0, i3, vR 192, vT, i1, vR 193, vN, vR 194, vR 195, vR 196, vI 449 0, vI 161 0, cP 450])
, (198, oF vF "_law_turning" "_law_turning" (top 30) 3 (vS "law_turnery_k33_outcomes_begin_so" 340) (vR 197))
, (199, oT #[])
, (202, oC #[vS "_law_bare" 452, vS "_law_bare" 453, cP 454, vI 174 0, vI 1 0, i0, i0, i3, vR 199, vT, i1, vR 200, vN, vN, vN, vR 201, vI 455 0, vI 174 0, cP 456])
, (203, oF vF "_law_bare" "_law_bare" (top 31) 3 (vS "law_turnery_k33_outcomes_begin_so" 340) (vR 202))
, (204, oT #[])
, (207, oC #[vS "_law_copy" 458, vS "_law_copy" 459, cP 460, vI 178 0, vI 1 0, i0, i0, i3, vR 204, vT, i1, vR 205, vN, vN, vN, vR 206, vI 461 0, vI 178 0, cP 462])
, (208, oF vF "_law_copy" "_law_copy" (top 32) 3 (vS "law_turnery_k33_outcomes_begin_so" 340) (vR 207))
, (209, oT #[])
, (211, oT #[vS "_law_found" 467])
, (212, oT #[])
, (214, oC #[vS "_law_whole" 464, vS "_law_whole" 465, cP 466, vI 181 0, vI 1 0, i0, i0, i3, vR 209, vT, i1, vR 210, vN, vR 211, vR 212, vR 213, vI 468 0, vI 181 0, cP 469])
, (215, oF vF "_law_whole" "_law_whole" (top 33) 3 (vS "law_turnery_k33_outcomes_begin_so" 340) (vR 214))
, (216, oT #[])
, (218, oT #[vS "_law_found" 474, vS "_law_part" 475])
, (219, oT #[])
, (221, oC #[vS "_law_is_stump" 471, vS "_law_is_stump" 472, cP 473, vI 183 0, vI 1 0, i0, i0, i3, vR 216, vT, i1, vR 217, vN, vR 218, vR 219, vR 220, vI 476 0, vI 183 0, cP 477])
, (222, oF vF "_law_is_stump" "_law_is_stump" (top 34) 3 (vS "law_turnery_k33_outcomes_begin_so" 340) (vR 221))
, (223, oT #[])
, (226, oC #[vS "_law_rule_of" 479, vS "_law_rule_of" 480, cP 481, vI 196 0, vI 3 0, i0, i0, i3, vR 223, vT, i1, vR 224, vN, vN, vN, vR 225, vI 482 0, vI 196 0, cP 483])
, (227, oF vF "_law_rule_of" "_law_rule_of" (top 35) 3 (vS "law_turnery_k33_outcomes_begin_so" 340) (vR 226))
, (228, oT #[])
, (230, oT #[vS "_law_turning_here" 488, vS "_law_mode" 489, vS "_law_tree_here" 490])
, (231, oT #[])
, (233, oC #[vS "_law_made" 485, vS "_law_made" 486, cP 487, vI 199 0, vI 3 0, i0, i0, i3, vR 228, vT, i1, vR 229, vN, vR 230, vR 231, vR 232, vI 491 0, vI 199 0, cP 492])
, (234, oF vF "_law_made" "_law_made" (top 36) 3 (vS "law_turnery_k33_outcomes_begin_so" 340) (vR 233))
, (235, oT #[])
, (238, oC #[vS "_law_made_by" 494, vS "_law_made_by" 495, cP 496, vI 201 0, vI 3 0, i0, i0, i3, vR 235, vT, i1, vR 236, vN, vN, vN, vR 237, vI 497 0, vI 201 0, cP 498])
, (239, oF vF "_law_made_by" "_law_made_by" (top 37) 3 (vS "law_turnery_k33_outcomes_begin_so" 340) (vR 238))
, (240, oT #[])
, (243, oC #[vS "_law_tree" 500, vS "_law_tree" 501, cP 502, vI 206 0, vI 4 0, i0, i0, i3, vR 240, vT, i1, vR 241, vN, vN, vN, vR 242, vI 503 0, vI 206 0, cP 504])
, (244, oF vF "_law_tree" "_law_tree" (top 38) 3 (vS "law_turnery_k33_outcomes_begin_so" 340) (vR 243))
, (245, oT #[])
, (247, oT #[vS "_law_stump" 509, vS "_law_tree_here" 510, vS "_law_part" 511, vS "_law_branch" 512])
, (248, oT #[])
, (250, oC #[vS "_law_begins" 506, vS "_law_begins" 507, cP 508, vI 213 0, vI 2 0, i0, i0, i3, vR 245, vT, i1, vR 246, vN, vR 247, vR 248, vR 249, vI 513 0, vI 213 0, cP 514])
, (251, oF vF "_law_begins" "_law_begins" (top 39) 3 (vS "law_turnery_k33_outcomes_begin_so" 340) (vR 250))
, (252, oT #[])
, (254, oT #[vS "_law_found" 519, vS "_law_count" 520, vS "_law_stump" 521])
, (255, oT #[])
, (257, oC #[vS "_law_stumps" 516, vS "_law_stumps" 517, cP 518, vI 222 0, vI 2 0, i0, i0, i3, vR 252, vT, i1, vR 253, vN, vR 254, vR 255, vR 256, vI 522 0, vI 222 0, cP 523])
, (258, oF vF "_law_stumps" "_law_stumps" (top 40) 3 (vS "law_turnery_k33_outcomes_begin_so" 340) (vR 257))
, (259, oT #[])
, (262, oC #[vS "law" 525, vS "law" 526, cP 527, vI 229 0, vI 1 0, i0, i0, i3, vR 259, vT, i1, vR 260, vN, vN, vN, vR 261, vI 528 0, vI 229 0, cP 529])
, (263, oF vF "law" "law" (top 41) 3 (vS "law_turnery_k33_outcomes_begin_so" 340) (vR 262)) ]
end
noncomputable def PySem.W.Fast.tw1520393999086656176 : PySem.Params → PySem.W.Frag := K33.hp
theorem PySem.W.Fast.te1520393999086656176 : K33.hp = PySem.W.Fast.tw1520393999086656176 := rfl
namespace PySem.W.Fast
open PySem K33
noncomputable def tw9246504171183477479 : Params → Obj := fun P => oF vN "_law_rule_of" "_law_rule_of" (top 35) 0 vN vN
theorem te9246504171183477479 : tw9246504171183477479 = tw9246504171183477479 := rfl
noncomputable def tw8879241876006783642 : Params → Obj := fun P => oF vN "_law_stumps" "_law_stumps" (top 40) 0 vN vN
theorem te8879241876006783642 : tw8879241876006783642 = tw8879241876006783642 := rfl
noncomputable def tw16845983512526360115 : Params → Obj := fun P => oF vN "is_call" "is_call" (top 6) 0 vN vN
theorem te16845983512526360115 : tw16845983512526360115 = tw16845983512526360115 := rfl
noncomputable def tw15438666123376846579 : Params → Obj := fun P => oF vF "commons_within" "commons_within" (top 12) 3 (vS "turnery.commons" 239) (vR 68)
theorem te15438666123376846579 : tw15438666123376846579 = tw15438666123376846579 := rfl
noncomputable def tw5276588392932788417 : Params → Obj := fun P => oF vN "commons" "commons" (top 11) 0 vN vN
theorem te5276588392932788417 : tw5276588392932788417 = tw5276588392932788417 := rfl
noncomputable def tw11659682140121978125 : Params → Obj := fun P => oF vN "_law_term" "_law_term" (top 26) 0 vN vN
theorem te11659682140121978125 : tw11659682140121978125 = tw11659682140121978125 := rfl
noncomputable def tw10546917478838962183 : Params → Obj := fun P => oF vN "_law_made" "_law_made" (top 36) 0 vN vN
theorem te10546917478838962183 : tw10546917478838962183 = tw10546917478838962183 := rfl
noncomputable def tw15058622224023645995 : Params → Obj := fun P => oF vN "_law_name" "_law_name" (top 23) 0 vN vN
theorem te15058622224023645995 : tw15058622224023645995 = tw15058622224023645995 := rfl
noncomputable def tw17219265238446569802 : Params → Obj := fun P => oF vF "_law_is_stump" "_law_is_stump" (top 34) 3 (vS "law_turnery_k33_outcomes_begin_so" 340) (vR 221)
theorem te17219265238446569802 : tw17219265238446569802 = tw17219265238446569802 := rfl
noncomputable def tw9379247412728520342 : Params → Obj := fun P => oF vF "_law_draw" "_law_draw" (top 21) 3 (vS "law_turnery_k33_outcomes_begin_so" 340) (vR 140)
theorem te9379247412728520342 : tw9379247412728520342 = tw9379247412728520342 := rfl
noncomputable def tw17173552814536648662 : Params → Obj := fun P => oF vN "_law_numbers" "_law_numbers" (top 20) 0 vN vN
theorem te17173552814536648662 : tw17173552814536648662 = tw17173552814536648662 := rfl
noncomputable def tw8592320856750235166 : Params → Obj := fun P => oF vF "law" "law" (top 41) 3 (vS "law_turnery_k33_outcomes_begin_so" 340) (vR 262)
theorem te8592320856750235166 : tw8592320856750235166 = tw8592320856750235166 := rfl
noncomputable def tw12756698919237270295 : Params → Obj := fun P => oF vF "_law_tree" "_law_tree" (top 38) 3 (vS "law_turnery_k33_outcomes_begin_so" 340) (vR 243)
theorem te12756698919237270295 : tw12756698919237270295 = tw12756698919237270295 := rfl
noncomputable def tw11442320703329011747 : Params → Obj := fun P => oF vF "leaf_stump" "leaf_stump" (top 17) 3 (vS "turnery.commons" 239) (vR 123)
theorem te11442320703329011747 : tw11442320703329011747 = tw11442320703329011747 := rfl
noncomputable def tw6106277406979164134 : Params → Obj := fun P => oF vF "_law_copy" "_law_copy" (top 32) 3 (vS "law_turnery_k33_outcomes_begin_so" 340) (vR 207)
theorem te6106277406979164134 : tw6106277406979164134 = tw6106277406979164134 := rfl
noncomputable def tw15840930310985682801 : Params → Obj := fun P => oF vF "_law_term" "_law_term" (top 26) 3 (vS "law_turnery_k33_outcomes_begin_so" 340) (vR 171)
theorem te15840930310985682801 : tw15840930310985682801 = tw15840930310985682801 := rfl
noncomputable def tw8897308440068574476 : Params → Obj := fun P => oF vF "_law_mark" "_law_mark" (top 22) 3 (vS "law_turnery_k33_outcomes_begin_so" 340) (vR 147)
theorem te8897308440068574476 : tw8897308440068574476 = tw8897308440068574476 := rfl
noncomputable def tw786221646147394113 : Params → Obj := fun P => oF vF "callers_by_modes" "callers_by_modes" (top 16) 3 (vS "turnery.commons" 239) (vR 118)
theorem te786221646147394113 : tw786221646147394113 = tw786221646147394113 := rfl
noncomputable def tw7317236098178924460 : Params → Obj := fun P => oF vF "_law_begins" "_law_begins" (top 39) 3 (vS "law_turnery_k33_outcomes_begin_so" 340) (vR 250)
theorem te7317236098178924460 : tw7317236098178924460 = tw7317236098178924460 := rfl
noncomputable def tw2885294998252549471 : Params → Obj := fun P => oF vF "_law_numbers" "_law_numbers" (top 20) 3 (vS "law_turnery_k33_outcomes_begin_so" 340) (vR 133)
theorem te2885294998252549471 : tw2885294998252549471 = tw2885294998252549471 := rfl
noncomputable def tw16971621592341266046 : Params → Obj := fun P => oF vF "is_call" "is_call" (top 6) 3 (vS "turnery.terms" 211) (vR 40)
theorem te16971621592341266046 : tw16971621592341266046 = tw16971621592341266046 := rfl
noncomputable def tw10853208225690094393 : Params → Obj := fun P => oF vF "_law_wood" "_law_wood" (top 24) 3 (vS "law_turnery_k33_outcomes_begin_so" 340) (vR 159)
theorem te10853208225690094393 : tw10853208225690094393 = tw10853208225690094393 := rfl
noncomputable def tw2277333441467765297 : Params → Obj := fun P => oF vN "_law_begins" "_law_begins" (top 39) 0 vN vN
theorem te2277333441467765297 : tw2277333441467765297 = tw2277333441467765297 := rfl
noncomputable def tw5571556115535322395 : Params → Obj := fun P => oF vN "_law_wood" "_law_wood" (top 24) 0 vN vN
theorem te5571556115535322395 : tw5571556115535322395 = tw5571556115535322395 := rfl
noncomputable def tw4536473369373028237 : Params → Obj := fun P => oF vN "_law_calls" "_law_calls" (top 28) 0 vN vN
theorem te4536473369373028237 : tw4536473369373028237 = tw4536473369373028237 := rfl
noncomputable def tw15965793821279062835 : Params → Obj := fun P => oF vF "__init__" "Stages.__init__" (L2.inClass (top 14) 0) 3 (vS "turnery.commons" 239) (vR 87)
theorem te15965793821279062835 : tw15965793821279062835 = tw15965793821279062835 := rfl
noncomputable def tw10723340779538466638 : Params → Obj := fun P => oF vF "_law_rule" "_law_rule" (top 29) 3 (vS "law_turnery_k33_outcomes_begin_so" 340) (vR 190)
theorem te10723340779538466638 : tw10723340779538466638 = tw10723340779538466638 := rfl
noncomputable def tw14903536782841237028 : Params → Obj := fun P => oF vF "commons" "commons" (top 11) 3 (vS "turnery.commons" 239) (vR 61)
theorem te14903536782841237028 : tw14903536782841237028 = tw14903536782841237028 := rfl
noncomputable def tw16189482849250502187 : Params → Obj := fun P => oF vF "rule_stump" "rule_stump" (top 18) 3 (vS "turnery.commons" 239) (vR 128)
theorem te16189482849250502187 : tw16189482849250502187 = tw16189482849250502187 := rfl
noncomputable def tw6743250727613565751 : Params → Obj := fun P => oF vF "_law_made" "_law_made" (top 36) 3 (vS "law_turnery_k33_outcomes_begin_so" 340) (vR 233)
theorem te6743250727613565751 : tw6743250727613565751 = tw6743250727613565751 := rfl
noncomputable def tw6581214303212804933 : Params → Obj := fun P => oF vN "_law_copy" "_law_copy" (top 32) 0 vN vN
theorem te6581214303212804933 : tw6581214303212804933 = tw6581214303212804933 := rfl
noncomputable def tw8474128200019875611 : Params → Obj := fun P => oF vN "commons_within" "commons_within" (top 12) 0 vN vN
theorem te8474128200019875611 : tw8474128200019875611 = tw8474128200019875611 := rfl
noncomputable def tw10500427546659016441 : Params → Obj := fun P => oF vN "_law_draw" "_law_draw" (top 21) 0 vN vN
theorem te10500427546659016441 : tw10500427546659016441 = tw10500427546659016441 := rfl
noncomputable def tw18102184152061406349 : Params → Obj := fun P => oF vF "go_on" "Stages.go_on" (L2.inClass (top 14) 2) 3 (vS "turnery.commons" 239) (vR 101)
theorem te18102184152061406349 : tw18102184152061406349 = tw18102184152061406349 := rfl
noncomputable def tw8701694741179921224 : Params → Obj := fun P => oF vF "all_rules" "all_rules" (top 15) 3 (vS "turnery.commons" 239) (vR 113)
theorem te8701694741179921224 : tw8701694741179921224 = tw8701694741179921224 := rfl
noncomputable def tw5287048692290925102 : Params → Obj := fun P => oF vN "_law_turning" "_law_turning" (top 30) 0 vN vN
theorem te5287048692290925102 : tw5287048692290925102 = tw5287048692290925102 := rfl
noncomputable def tw8737159538163509497 : Params → Obj := fun P => oF vF "_law_whole" "_law_whole" (top 33) 3 (vS "law_turnery_k33_outcomes_begin_so" 340) (vR 214)
theorem te8737159538163509497 : tw8737159538163509497 = tw8737159538163509497 := rfl
noncomputable def tw13734976559882507292 : Params → Obj := fun P => oF vN "stages_within" "stages_within" (top 13) 0 vN vN
theorem te13734976559882507292 : tw13734976559882507292 = tw13734976559882507292 := rfl
noncomputable def tw9335190411765657898 : Params → Obj := fun P => oF vF "_law_stumps" "_law_stumps" (top 40) 3 (vS "law_turnery_k33_outcomes_begin_so" 340) (vR 257)
theorem te9335190411765657898 : tw9335190411765657898 = tw9335190411765657898 := rfl
noncomputable def tw12719837224120367476 : Params → Obj := fun P => oF vN "_law_tree" "_law_tree" (top 38) 0 vN vN
theorem te12719837224120367476 : tw12719837224120367476 = tw12719837224120367476 := rfl
noncomputable def tw8702688576261399863 : Params → Obj := fun P => oF vN "is_last" "Stages.is_last" (L2.inClass (top 14) 1) 0 vN vN
theorem te8702688576261399863 : tw8702688576261399863 = tw8702688576261399863 := rfl
noncomputable def tw17729350973376629759 : Params → Obj := fun P => oF vF "_law_name" "_law_name" (top 23) 3 (vS "law_turnery_k33_outcomes_begin_so" 340) (vR 154)
theorem te17729350973376629759 : tw17729350973376629759 = tw17729350973376629759 := rfl
noncomputable def tw2366339043277292701 : Params → Obj := fun P => oF vN "__init__" "Stages.__init__" (L2.inClass (top 14) 0) 0 vN vN
theorem te2366339043277292701 : tw2366339043277292701 = tw2366339043277292701 := rfl
noncomputable def tw17120940656533057436 : Params → Obj := fun P => oF vF "_law_rule_of" "_law_rule_of" (top 35) 3 (vS "law_turnery_k33_outcomes_begin_so" 340) (vR 226)
theorem te17120940656533057436 : tw17120940656533057436 = tw17120940656533057436 := rfl
noncomputable def tw17460159653078257063 : Params → Obj := fun P => oF vN "is_open" "is_open" (top 2) 0 vN vN
theorem te17460159653078257063 : tw17460159653078257063 = tw17460159653078257063 := rfl
noncomputable def tw829011236942839730 : Params → Obj := fun P => oF vN "_law_changed" "_law_changed" (top 27) 0 vN vN
theorem te829011236942839730 : tw829011236942839730 = tw829011236942839730 := rfl
noncomputable def tw16782388547574971891 : Params → Obj := fun P => oF vN "rows_of" "rows_of" (top 9) 0 vN vN
theorem te16782388547574971891 : tw16782388547574971891 = tw16782388547574971891 := rfl
noncomputable def tw9616096020343078162 : Params → Obj := fun P => oF vN "go_on" "Stages.go_on" (L2.inClass (top 14) 2) 0 vN vN
theorem te9616096020343078162 : tw9616096020343078162 = tw9616096020343078162 := rfl
noncomputable def tw18039023290926179384 : Params → Obj := fun P => oF vN "leaf_stump" "leaf_stump" (top 17) 0 vN vN
theorem te18039023290926179384 : tw18039023290926179384 = tw18039023290926179384 := rfl
noncomputable def tw16107033086104764220 : Params → Obj := fun P => oF vN "_law_bare" "_law_bare" (top 31) 0 vN vN
theorem te16107033086104764220 : tw16107033086104764220 = tw16107033086104764220 := rfl
noncomputable def tw17932200464089123098 : Params → Obj := fun P => oF vN "_law_mark" "_law_mark" (top 22) 0 vN vN
theorem te17932200464089123098 : tw17932200464089123098 = tw17932200464089123098 := rfl
noncomputable def tw8855265845219571343 : Params → Obj := fun P => oF vN "_law_rows" "_law_rows" (top 25) 0 vN vN
theorem te8855265845219571343 : tw8855265845219571343 = tw8855265845219571343 := rfl
noncomputable def tw2016741899132660376 : Params → Obj := fun P => oF vF "calls_of" "calls_of" (top 7) 3 (vS "turnery.terms" 211) (vR 47)
theorem te2016741899132660376 : tw2016741899132660376 = tw2016741899132660376 := rfl
noncomputable def tw7400837866848119972 : Params → Obj := fun P => oF vF "_law_calls" "_law_calls" (top 28) 3 (vS "law_turnery_k33_outcomes_begin_so" 340) (vR 183)
theorem te7400837866848119972 : tw7400837866848119972 = tw7400837866848119972 := rfl
noncomputable def tw9436109075387146838 : Params → Obj := fun P => oF vN "met" "met" (top 4) 0 vN vN
theorem te9436109075387146838 : tw9436109075387146838 = tw9436109075387146838 := rfl
noncomputable def tw2077996021202617322 : Params → Obj := fun P => oF vN "rule_stump" "rule_stump" (top 18) 0 vN vN
theorem te2077996021202617322 : tw2077996021202617322 = tw2077996021202617322 := rfl
noncomputable def tw15202718937462996784 : Params → Obj := fun P => oF vF "is_open" "is_open" (top 2) 3 (vS "turnery.stumps" 187) (vR 21)
theorem te15202718937462996784 : tw15202718937462996784 = tw15202718937462996784 := rfl
noncomputable def tw1392466862736155683 : Params → Obj := fun P => oF vN "calls_of" "calls_of" (top 7) 0 vN vN
theorem te1392466862736155683 : tw1392466862736155683 = tw1392466862736155683 := rfl
noncomputable def tw8442891895542504428 : Params → Obj := fun P => oF vF "rows_of" "rows_of" (top 9) 3 (vS "turnery.woods" 229) (vR 54)
theorem te8442891895542504428 : tw8442891895542504428 = tw8442891895542504428 := rfl
noncomputable def tw3042006233228180017 : Params → Obj := fun P => oF vF "head" "head" (top 3) 3 (vS "turnery.stumps" 187) (vR 28)
theorem te3042006233228180017 : tw3042006233228180017 = tw3042006233228180017 := rfl
noncomputable def tw1402694918938518443 : Params → Obj := fun P => oF vF "stages_within" "stages_within" (top 13) 3 (vS "turnery.commons" 239) (vR 75)
theorem te1402694918938518443 : tw1402694918938518443 = tw1402694918938518443 := rfl
noncomputable def tw15799988512343590821 : Params → Obj := fun P => oF vN "_law_whole" "_law_whole" (top 33) 0 vN vN
theorem te15799988512343590821 : tw15799988512343590821 = tw15799988512343590821 := rfl
noncomputable def tw6834322728313088736 : Params → Obj := fun P => oF vF "_law_made_by" "_law_made_by" (top 37) 3 (vS "law_turnery_k33_outcomes_begin_so" 340) (vR 238)
theorem te6834322728313088736 : tw6834322728313088736 = tw6834322728313088736 := rfl
noncomputable def tw4932922386636783950 : Params → Obj := fun P => oF vF "_law_rows" "_law_rows" (top 25) 3 (vS "law_turnery_k33_outcomes_begin_so" 340) (vR 164)
theorem te4932922386636783950 : tw4932922386636783950 = tw4932922386636783950 := rfl
noncomputable def tw615461231702936750 : Params → Obj := fun P => oF vN "callers_by_modes" "callers_by_modes" (top 16) 0 vN vN
theorem te615461231702936750 : tw615461231702936750 = tw615461231702936750 := rfl
noncomputable def tw3318465808778282597 : Params → Obj := fun P => oF vN "all_rules" "all_rules" (top 15) 0 vN vN
theorem te3318465808778282597 : tw3318465808778282597 = tw3318465808778282597 := rfl
noncomputable def tw4170586024394193003 : Params → Obj := fun P => oF vF "_law_changed" "_law_changed" (top 27) 3 (vS "law_turnery_k33_outcomes_begin_so" 340) (vR 176)
theorem te4170586024394193003 : tw4170586024394193003 = tw4170586024394193003 := rfl
noncomputable def tw1908062483211302108 : Params → Obj := fun P => oF vF "met" "met" (top 4) 3 (vS "turnery.stumps" 187) (vR 33)
theorem te1908062483211302108 : tw1908062483211302108 = tw1908062483211302108 := rfl
noncomputable def tw14399303587393449430 : Params → Obj := fun P => oF vF "is_last" "Stages.is_last" (L2.inClass (top 14) 1) 3 (vS "turnery.commons" 239) (vR 94)
theorem te14399303587393449430 : tw14399303587393449430 = tw14399303587393449430 := rfl
noncomputable def tw18318401222094982688 : Params → Obj := fun P => oF vN "_law_rule" "_law_rule" (top 29) 0 vN vN
theorem te18318401222094982688 : tw18318401222094982688 = tw18318401222094982688 := rfl
noncomputable def tw11435834405830494611 : Params → Obj := fun P => oF vN "_law_made_by" "_law_made_by" (top 37) 0 vN vN
theorem te11435834405830494611 : tw11435834405830494611 = tw11435834405830494611 := rfl
noncomputable def tw14283805928830854597 : Params → Obj := fun P => oF vF "_law_turning" "_law_turning" (top 30) 3 (vS "law_turnery_k33_outcomes_begin_so" 340) (vR 197)
theorem te14283805928830854597 : tw14283805928830854597 = tw14283805928830854597 := rfl
noncomputable def tw14472051073610589529 : Params → Obj := fun P => oF vN "law" "law" (top 41) 0 vN vN
theorem te14472051073610589529 : tw14472051073610589529 = tw14472051073610589529 := rfl
noncomputable def tw9095687890656970 : Params → Obj := fun P => oF vN "head" "head" (top 3) 0 vN vN
theorem te9095687890656970 : tw9095687890656970 = tw9095687890656970 := rfl
noncomputable def tw9053295451046093975 : Params → Obj := fun P => oF vF "_law_bare" "_law_bare" (top 31) 3 (vS "law_turnery_k33_outcomes_begin_so" 340) (vR 202)
theorem te9053295451046093975 : tw9053295451046093975 = tw9053295451046093975 := rfl
noncomputable def tw7012733542069042342 : Params → Obj := fun P => oF vN "_law_is_stump" "_law_is_stump" (top 34) 0 vN vN
theorem te7012733542069042342 : tw7012733542069042342 = tw7012733542069042342 := rfl
end PySem.W.Fast
noncomputable def PySem.W.Fast.tw4276127342978711860 : PySem.Program := PySem.Challenge.pw_turnery_k33_outcomes_begin_so
theorem PySem.W.Fast.te4276127342978711860 : (PySem.Challenge.pw_turnery_k33_outcomes_begin_so : PySem.Program) = PySem.W.Fast.tw4276127342978711860 := rfl
noncomputable def PySem.W.Fast.tw10056173163059522901 : PySem.Program := { PySem.Challenge.pw_turnery_k33_outcomes_begin_so with main := { PySem.Challenge.pw_turnery_k33_outcomes_begin_so.main with body := [K33.top 1, K33.top 2, K33.top 3, K33.top 4, K33.top 6, K33.top 7, K33.top 9, K33.top 11, K33.top 12, K33.top 13, K33.top 14, K33.top 15, K33.top 16, K33.top 17, K33.top 18, K33.top 20, K33.top 21, K33.top 22, K33.top 23, K33.top 24, K33.top 25, K33.top 26, K33.top 27, K33.top 28, K33.top 29, K33.top 30, K33.top 31, K33.top 32, K33.top 33, K33.top 34, K33.top 35, K33.top 36, K33.top 37, K33.top 38, K33.top 39, K33.top 40, K33.top 41] } }
theorem PySem.W.Fast.te10056173163059522901 : ({ PySem.Challenge.pw_turnery_k33_outcomes_begin_so with main := { PySem.Challenge.pw_turnery_k33_outcomes_begin_so.main with body := [K33.top 1, K33.top 2, K33.top 3, K33.top 4, K33.top 6, K33.top 7, K33.top 9, K33.top 11, K33.top 12, K33.top 13, K33.top 14, K33.top 15, K33.top 16, K33.top 17, K33.top 18, K33.top 20, K33.top 21, K33.top 22, K33.top 23, K33.top 24, K33.top 25, K33.top 26, K33.top 27, K33.top 28, K33.top 29, K33.top 30, K33.top 31, K33.top 32, K33.top 33, K33.top 34, K33.top 35, K33.top 36, K33.top 37, K33.top 38, K33.top 39, K33.top 40, K33.top 41] } } : PySem.Program) = PySem.W.Fast.tw10056173163059522901 := rfl
noncomputable def PySem.W.Fast.tw16726748820727779737 : List PySem.Stmt := (PySem.Challenge.pw_turnery_k33_outcomes_begin_so.main.body.drop 0).take 14
theorem PySem.W.Fast.te16726748820727779737 : ((PySem.Challenge.pw_turnery_k33_outcomes_begin_so.main.body.drop 0).take 14 : List PySem.Stmt) = PySem.W.Fast.tw16726748820727779737 := rfl
noncomputable def PySem.W.Fast.tw7730600977564746449 : List PySem.Stmt := (PySem.Challenge.pw_turnery_k33_outcomes_begin_so.main.body.drop 14).take 5
theorem PySem.W.Fast.te7730600977564746449 : ((PySem.Challenge.pw_turnery_k33_outcomes_begin_so.main.body.drop 14).take 5 : List PySem.Stmt) = PySem.W.Fast.tw7730600977564746449 := rfl
noncomputable def PySem.W.Fast.tw16373492748665962512 : List PySem.Stmt := (PySem.Challenge.pw_turnery_k33_outcomes_begin_so.main.body.drop 19).take 13
theorem PySem.W.Fast.te16373492748665962512 : ((PySem.Challenge.pw_turnery_k33_outcomes_begin_so.main.body.drop 19).take 13 : List PySem.Stmt) = PySem.W.Fast.tw16373492748665962512 := rfl
noncomputable def PySem.W.Fast.tw15257622695713751642 : List PySem.Stmt := (PySem.Challenge.pw_turnery_k33_outcomes_begin_so.main.body.drop 32).take 10
theorem PySem.W.Fast.te15257622695713751642 : ((PySem.Challenge.pw_turnery_k33_outcomes_begin_so.main.body.drop 32).take 10 : List PySem.Stmt) = PySem.W.Fast.tw15257622695713751642 := rfl
open PySem PySem.W PyProof.Rows
set_option maxRecDepth 100000 in
set_option maxHeartbeats 0 in
theorem PySem.Challenge.cw_turnery_k33_outcomes_begin_so_holds : PySem.Challenge.rw_turnery_k33_outcomes_begin_so.Holds := by
  w_on; o_law; k_head; (case hw => w_witness2)
  k_fill
  refine K33.walk (l := PySem.Challenge.rw_turnery_k33_outcomes_begin_so) rfl rfl (fun w h Y => PySem.W.kIn_of Y) ?F
  case F =>
    intro w mg fa h KX G hmg
    refine' K33.all_mk KX G hmg ?d1 ?d2 ?d3 ?d4 ?d5 ?d6 ?d7 ?d8 ?d9 ?d10 ?d11 ?d12 ?d13 ?d14 ?d15 ?d16 ?d17 ?d18 ?d19 ?d20 ?d21 ?d22 ?d23 ?d24 ?d25 ?d26 ?d27 ?d28 ?d29 ?d30 ?d31 ?d32 ?d33 ?d34 ?d35 ?z1 ?z2 ?z3 ?z4 ?z5 ?z6 ?z7 ?z8 ?z9 ?z10 ?z11 ?z12 ?z13 ?z14 ?z15 ?o1 ?s1
    (case d1 => refine' L2.DefAt.mk' ?a ?l ?c ?k; (case a => k_is); (case l => k_is); (case c => k_is); (case k => k_is))
    (case d2 => refine' L2.DefAt.mk' ?a ?l ?c ?k; (case a => k_is); (case l => k_is); (case c => k_is); (case k => k_is))
    (case d3 => refine' L2.DefAt.mk' ?a ?l ?c ?k; (case a => k_is); (case l => k_is); (case c => k_is); (case k => k_is))
    (case d4 => refine' L2.DefAt.mk' ?a ?l ?c ?k; (case a => k_is); (case l => k_is); (case c => k_is); (case k => k_is))
    (case d5 => refine' L2.DefAt.mk' ?a ?l ?c ?k; (case a => k_is); (case l => k_is); (case c => k_is); (case k => k_is))
    (case d6 => refine' L2.DefAt.mk' ?a ?l ?c ?k; (case a => k_is); (case l => k_is); (case c => k_is); (case k => k_is))
    (case d7 => refine' L2.DefAt.mk' ?a ?l ?c ?k; (case a => k_is); (case l => k_is); (case c => k_is); (case k => k_is))
    (case d8 => refine' L2.DefAt.mk' ?a ?l ?c ?k; (case a => k_is); (case l => k_is); (case c => k_is); (case k => k_is))
    (case d9 => refine' L2.DefAt.mk' ?a ?l ?c ?k; (case a => k_is); (case l => k_is); (case c => k_is); (case k => k_is))
    (case d10 => refine' L2.DefAt.mk' ?a ?l ?c ?k; (case a => k_is); (case l => k_is); (case c => k_is); (case k => k_is))
    (case d11 => refine' L2.DefAt.mk' ?a ?l ?c ?k; (case a => k_is); (case l => k_is); (case c => k_is); (case k => k_is))
    (case d12 => refine' L2.DefAt.mk' ?a ?l ?c ?k; (case a => k_is); (case l => k_is); (case c => k_is); (case k => k_is))
    (case d13 => refine' L2.DefAt.mk' ?a ?l ?c ?k; (case a => k_is); (case l => k_is); (case c => k_is); (case k => k_is))
    (case d14 => refine' L2.DefAt.mk' ?a ?l ?c ?k; (case a => k_is); (case l => k_is); (case c => k_is); (case k => k_is))
    (case d15 => refine' L2.DefAt.mk' ?a ?l ?c ?k; (case a => k_is); (case l => k_is); (case c => k_is); (case k => k_is))
    (case d16 => refine' L2.DefAt.mk' ?a ?l ?c ?k; (case a => k_is); (case l => k_is); (case c => k_is); (case k => k_is))
    (case d17 => refine' L2.DefAt.mk' ?a ?l ?c ?k; (case a => k_is); (case l => k_is); (case c => k_is); (case k => k_is))
    (case d18 => refine' L2.DefAt.mk' ?a ?l ?c ?k; (case a => k_is); (case l => k_is); (case c => k_is); (case k => k_is))
    (case d19 => refine' L2.DefAt.mk' ?a ?l ?c ?k; (case a => k_is); (case l => k_is); (case c => k_is); (case k => k_is))
    (case d20 => refine' L2.DefAt.mk' ?a ?l ?c ?k; (case a => k_is); (case l => k_is); (case c => k_is); (case k => k_is))
    (case d21 => refine' L2.DefAt.mk' ?a ?l ?c ?k; (case a => k_is); (case l => k_is); (case c => k_is); (case k => k_is))
    (case d22 => refine' L2.DefAt.mk' ?a ?l ?c ?k; (case a => k_is); (case l => k_is); (case c => k_is); (case k => k_is))
    (case d23 => refine' L2.DefAt.mk' ?a ?l ?c ?k; (case a => k_is); (case l => k_is); (case c => k_is); (case k => k_is))
    (case d24 => refine' L2.DefAt.mk' ?a ?l ?c ?k; (case a => k_is); (case l => k_is); (case c => k_is); (case k => k_is))
    (case d25 => refine' L2.DefAt.mk' ?a ?l ?c ?k; (case a => k_is); (case l => k_is); (case c => k_is); (case k => k_is))
    (case d26 => refine' L2.DefAt.mk' ?a ?l ?c ?k; (case a => k_is); (case l => k_is); (case c => k_is); (case k => k_is))
    (case d27 => refine' L2.DefAt.mk' ?a ?l ?c ?k; (case a => k_is); (case l => k_is); (case c => k_is); (case k => k_is))
    (case d28 => refine' L2.DefAt.mk' ?a ?l ?c ?k; (case a => k_is); (case l => k_is); (case c => k_is); (case k => k_is))
    (case d29 => refine' L2.DefAt.mk' ?a ?l ?c ?k; (case a => k_is); (case l => k_is); (case c => k_is); (case k => k_is))
    (case d30 => refine' L2.DefAt.mk' ?a ?l ?c ?k; (case a => k_is); (case l => k_is); (case c => k_is); (case k => k_is))
    (case d31 => refine' L2.DefAt.mk' ?a ?l ?c ?k; (case a => k_is); (case l => k_is); (case c => k_is); (case k => k_is))
    (case d32 => refine' L2.DefAt.mk' ?a ?l ?c ?k; (case a => k_is); (case l => k_is); (case c => k_is); (case k => k_is))
    (case d33 => refine' L2.DefAt.mk' ?a ?l ?c ?k; (case a => k_is); (case l => k_is); (case c => k_is); (case k => k_is))
    (case d34 => refine' L2.DefAt.mk' ?a ?l ?c ?k; (case a => k_is); (case l => k_is); (case c => k_is); (case k => k_is))
    (case d35 => refine' L2.DefAt.mk' ?a ?l ?c ?k; (case a => k_is); (case l => k_is); (case c => k_is); (case k => k_is))
    (case z1 => k_is); (case z2 => k_is); (case z3 => k_is); (case z4 => k_is); (case z5 => k_is); (case z6 => k_is); (case z7 => k_is); (case z8 => k_is); (case z9 => k_is); (case z10 => k_is); (case z11 => k_is); (case z12 => k_is); (case z13 => k_is); (case z14 => k_is); (case z15 => k_is)
    (case o1 => refine' L2.OneAt.mk' ?a ?l; (case a => k_is); (case l => k_is))
    case s1 =>
      refine' K33.StgK.mk' ?aC ?pg ?hd ?po ?sa ?n1 ?n2 ?n3 ?n4 ?mk ?kc ?m1 ?m2 ?m3
      (case aC => k_is); (case pg => k_is); (case hd => k_is); (case po => k_is); (case sa => k_is); (case n1 => k_is); (case n2 => k_is); (case n3 => k_is); (case n4 => k_is); (case mk => k_is); (case kc => k_is)
      (case m1 => refine' L2.MethAt.mk' ?a ?i ?l ?c ?k; (case a => k_is); (case i => k_is); (case l => k_is); (case c => k_is); (case k => k_is))
      (case m2 => refine' L2.MethAt.mk' ?a ?i ?l ?c ?k; (case a => k_is); (case i => k_is); (case l => k_is); (case c => k_is); (case k => k_is))
      (case m3 => refine' L2.MethAt.mk' ?a ?i ?l ?c ?k; (case a => k_is); (case i => k_is); (case l => k_is); (case c => k_is); (case k => k_is))
