import PyProof.Rows.All
import Wide.All
import OpenK.AllK
import Wide.FinOn
import Lean
import PyProof.EqAt
import PyProof.EqKinds
import PyProof.TupleCall
import KE.KSortTup
import KE.KRevIter
import PySem.Challenge.RW_turnery_k60_starts_that_stray
noncomputable section
set_option Elab.async false
set_option linter.all false
set_option maxRecDepth 100000
namespace L2
open PySem PySem.Spec PyProof.Rows
abbrev Key := Sum Int Str
def keyIs : Key → Value → Bool
  | .inl k, v => Value.isInt k v
  | .inr x, v => Value.isStrOf x v
def keyH (w : World) : Key → Int
  | .inl k => hashInt k
  | .inr x => hashStr w x
theorem keyIs_shape : ∀ {k : Key} {v : Value}, keyIs k v = true → (∃ i t, k = Sum.inl i ∧ v = Value.int i t) ∨ (∃ x t, k = Sum.inr x ∧ v = Value.str x t)
  | .inl i, v, h => by
    obtain ⟨t, e⟩ := Value.isInt_shape (k := i) (v := v) h
    exact .inl ⟨i, t, rfl, e⟩
  | .inr x, v, h => by
    obtain ⟨t, e⟩ := Value.isStrOf_shape (x := x) (v := v) h
    exact .inr ⟨x, t, rfl, e⟩
theorem keyIs_int (i : Int) (t : Tok) : keyIs (.inl i) (.int i t) = true := by simp [keyIs, Value.isInt]
theorem keyIs_str (x : Str) (t : Tok) : keyIs (.inr x) (.str x t) = true := by simp [keyIs, Value.isStrOf]
theorem key_ll (a b : Int) : decide ((Sum.inl a : Key) = Sum.inl b) = (a == b) := by
  by_cases e : a = b
  · subst e; simp
  · have h : ¬ (Sum.inl a : Key) = Sum.inl b := fun q => e (Sum.inl.inj q)
    rw [decide_eq_false h]
    exact (beq_eq_false_iff_ne.mpr e).symm
theorem key_rr (a b : Str) : decide ((Sum.inr a : Key) = Sum.inr b) = decide (a = b) := by
  by_cases e : a = b
  · subst e; simp
  · have h : ¬ (Sum.inr a : Key) = Sum.inr b := fun q => e (Sum.inr.inj q)
    rw [decide_eq_false h, decide_eq_false e]
theorem key_lr (a : Int) (b : Str) : decide ((Sum.inl a : Key) = Sum.inr b) = false := decide_eq_false (fun q => nomatch q)
theorem key_rl (a : Str) (b : Int) : decide ((Sum.inr a : Key) = Sum.inl b) = false := decide_eq_false (fun q => nomatch q)
def mixKind (prog : Program) (w : World) : PySem.KeyKind prog w Key where
  is := keyIs
  hash := keyH w
  inj := fun v a b ha hb => by
    rcases keyIs_shape ha with ⟨i, t, rfl, rfl⟩ | ⟨x, t, rfl, rfl⟩
    · rcases keyIs_shape hb with ⟨j, u, rfl, e⟩ | ⟨y, u, rfl, e⟩
      · injection e with e1 _; rw [e1]
      · exact nomatch e
    · rcases keyIs_shape hb with ⟨j, u, rfl, e⟩ | ⟨y, u, rfl, e⟩
      · exact nomatch e
      · injection e with e1 _; rw [e1]
  byValue := fun k v h => by
    rcases keyIs_shape h with ⟨i, t, rfl, rfl⟩ | ⟨x, t, rfl, rfl⟩ <;> rfl
  pyHash := fun hv h => by
    rcases keyIs_shape hv with ⟨i, t, rfl, rfl⟩ | ⟨x, t, rfl, rfl⟩
    · exact wpAny_pyHash_int h
    · exact wpAny_pyHash_str h
  eqBool := fun hu hv h => by
    rcases keyIs_shape hu with ⟨i, t, rfl, rfl⟩ | ⟨x, t, rfl, rfl⟩
    · rcases keyIs_shape hv with ⟨j, u, rfl, rfl⟩ | ⟨y, u, rfl, rfl⟩
      · rw [key_ll] at h; exact wpAny_eqBool_int h
      · rw [key_lr] at h; exact SeqAt.EqAt.int_str i t y u _ _ _ _ h
    · rcases keyIs_shape hv with ⟨j, u, rfl, rfl⟩ | ⟨y, u, rfl, rfl⟩
      · rw [key_rl] at h; exact SeqAt.EqAt.str_int x t j u _ _ _ _ h
      · rw [key_rr] at h; exact wpAny_eqBool_str h
  «strs» := fun k x t v h => by
    rcases keyIs_shape h with ⟨i, u, rfl, e⟩ | ⟨y, u, rfl, e⟩
    · exact nomatch e
    · injection e with e1 _
      subst e1
      cases v <;> rfl
theorem mixKind_int (prog : Program) (w : World) (i : Int) (t : Tok) : (mixKind prog w).is (.inl i) (.int i t) = true := keyIs_int i t
theorem mixKind_str (prog : Program) (w : World) (x : Str) (t : Tok) : (mixKind prog w).is (.inr x) (.str x t) = true := keyIs_str x t
end L2
namespace L2
open PySem PySem.Spec PyProof.Rows
inductive V where
  | non | bl (b : Bool) | int (i : Int) | str (x : Str) | byt (b : Array UInt8) | flt (b : UInt64) | ref (a : Addr) | ty (n : String)
  deriving DecidableEq
def RelV : V → Value → Prop
  | .non, u => u = Value.none
  | .bl b, u => u = Value.bool b
  | .int i, u => ∃ t, u = Value.int i t
  | .str x, u => ∃ t, u = Value.str x t
  | .byt b, u => ∃ t, u = Value.bytes b t
  | .flt b, u => ∃ t, u = Value.float b t
  | .ref a, u => u = Value.ref a
  | .ty n, u => u = Value.type n
abbrev Vals : List V → List Value → Prop := Paired RelV
theorem Vals.length {xs : List V} {us : List Value} (r : Vals xs us) : xs.length = us.length := Paired.length r
theorem Vals.get : ∀ {xs : List V} {us : List Value} {i : Nat} {x : V}, Vals xs us → xs[i]? = some x → ∃ u, us[i]? = some u ∧ RelV x u
  | _, _, _, _, .nil, e => by simp at e
  | _, _, 0, _, .cons r _, e => by simp at e; subst e; exact ⟨_, rfl, r⟩
  | _, _, i + 1, x, .cons _ t, e => by
    obtain ⟨u, h1, h2⟩ := Vals.get (i := i) (x := x) t (by simpa using e)
    exact ⟨u, by simpa using h1, h2⟩
theorem Vals.set {x : V} {u : Value} (r : RelV x u) : ∀ {xs : List V} {us : List Value} (i : Nat), Vals xs us → Vals (xs.set i x) (us.set i u)
  | _, _, _, .nil => .nil
  | _, _, 0, .cons _ t => .cons r t
  | _, _, i + 1, .cons q t => .cons q (Vals.set r i t)
theorem Vals.append : ∀ {xs ys : List V} {us ws : List Value}, Vals xs us → Vals ys ws → Vals (xs ++ ys) (us ++ ws)
  | _, _, _, _, .nil, s => s
  | _, _, _, _, .cons r t, s => .cons r (Vals.append t s)
theorem Vals.take : ∀ {xs : List V} {us : List Value} (n : Nat), Vals xs us → Vals (xs.take n) (us.take n)
  | _, _, 0, _ => .nil
  | _, _, _ + 1, .nil => .nil
  | _, _, n + 1, .cons r t => .cons r (Vals.take n t)
theorem Vals.drop : ∀ {xs : List V} {us : List Value} (n : Nat), Vals xs us → Vals (xs.drop n) (us.drop n)
  | _, _, 0, r => r
  | _, _, _ + 1, .nil => .nil
  | _, _, n + 1, .cons _ t => Vals.drop n t
def RelO : Option V → Option Value → Prop
  | some v, some u => RelV v u
  | none, none => True
  | _, _ => False
def KV {κ : Type} : List (κ × V) → List (κ × Value) → Prop := Paired fun (p : κ × V) (q : κ × Value) => p.1 = q.1 ∧ RelV p.2 q.2
def kV : Key → V
  | .inl i => .int i
  | .inr x => .str x
inductive HO where
  /-- a list -/
  | lst (xs : List V)
  /-- a tuple (never changes) -/
  | tup (xs : List V)
  /-- a dict whose keys are ints and texts; one whose keys are tuples of ints and texts (the empty one is both) -/
  | dK (kvs : List (Key × V)) | dT (kvs : List (List Key × V))
  /-- a set of ints: its members, its size -/
  | set (S : Int → Bool) (n : Nat)
  /-- an instance of the class at C, its dict at dx, its attributes -/
  | ins (C dx : Addr) (fs : List (Str × V))
  /-- the dict of the instance at x -/
  | own (x : Addr)
  /-- the dict of an exception -/
  | xd (fs : List (Str × V))
  /-- a bound method, f of x -/
  | met (f x : Addr)
  /-- a range object lo, lo + 1, .. below hi -/
  | rng (lo hi : Int)
  /-- a thing that is known to the object (the script; a dict while a loop walks it): read, never written while it is so -/
  | frz (o : Obj) (u : HO)
  /-- a code object's table -/
  | tbl (ps : Array Value)
  /-- any other thing, by what is true of its one object (a def of one's own: SetO a S n := HO.ext fun h => ..) -/
  | ext (φ : Heap → Prop)
abbrev Hp := Addr → Option HO
def upd (H : Hp) (a : Addr) (o : HO) : Hp := fun b => if b = a then some o else H b
theorem upd_same {H : Hp} {a : Addr} {o : HO} : upd H a o a = some o := by unfold upd; rw [if_pos rfl]
theorem upd_ne {H : Hp} {a b : Addr} {o : HO} (h : b ≠ a) : upd H a o b = H b := by unfold upd; rw [if_neg h]
theorem ne_of {H : Hp} {a b : Addr} {o u : HO} (h : H a = some o) (h' : H b = some u) (d : o ≠ u) : a ≠ b := by
  intro e; subst e; rw [h] at h'; exact d (Option.some.inj h')
theorem ne_of_none {H : Hp} {a b : Addr} {o : HO} (h : H a = some o) (h' : H b = none) : a ≠ b := by
  intro e; subst e; rw [h] at h'; cases h'
section
variable (P : Program) (w : World)
def ObjOk (H : Hp) (h : Heap) (a : Addr) : HO → Prop
  | .lst xs => xs.length ≤ sizeLine ∧ ∃ (its : List Value) (n : Nat), Vals xs its ∧ h.get? a = some { cls := .type "list", data := .seq its.toArray n }
  | .tup xs => xs.length ≤ sizeLine ∧ ∃ its : List Value, Vals xs its ∧ IsTup h a its.toArray
  | .dK kvs => kvs.length ≤ sizeLine ∧ (a == sysModules) = false ∧ ∃ vs, KV kvs vs ∧ h.DictOf (mixKind P w) a vs
  | .dT kvs => kvs.length ≤ sizeLine ∧ (a == sysModules) = false ∧ ∃ xs : List (List Key × Addr × Value),
      Paired (fun (p : List Key × V) (q : List Key × Addr × Value) => p.1 = q.1 ∧ H q.2.1 = some (.tup (p.1.map kV)) ∧ RelV p.2 q.2.2) kvs xs ∧
      ∃ o es ep, h.get? a = some o ∧ o.ExactDict ∧ o.data = .dict es ep ∧ es.toList = xs.map (entryOfKey (tupleKind (mixKind P w))) ∧ (xs.map (·.1)).Nodup
  | .set S n => h.SetOf (intKind P w) a S n
  | .ins C dx fs => H dx = some (.own a) ∧ fs.length ≤ 1000 ∧ dx ≠ a ∧ h.get? a = some (PySem.W.instObj C dx) ∧
      ∃ mA, h.Ns1 dx mA ∧ (∀ f, RelO (fs.lookup f) (mA f)) ∧ PySem.Within mA (fs.map (·.1))
  | .own _ => ∃ o, h.get? a = some o
  | .xd fs => ∃ mA, h.Ns1 a mA ∧ ∀ f, RelO (fs.lookup f) (mA f)
  | .rng lo hi => ∃ t u v, h.get? a = some { cls := .type "range", data := .fields #[.int lo t, .int hi u, .int 1 v] }
  | .frz o u => h.get? a = some o ∧ ObjOk H h a u
  | .tbl ps => h.get? a = some { cls := .none, data := .fields ps }
  | .met f x => h.get? a = some (PySem.W.methodObj (.ref f) (.ref x))
  | .ext φ => φ h ∧ (∃ o, h.get? a = some o) ∧ ∀ h1 h2 : Heap, φ h1 → (∀ o, h1.get? a = some o → h2.get? a = some o) → φ h2
def HOk (H : Hp) (h : Heap) : Prop := ∀ a o, H a = some o → ObjOk P w H h a o
end
section
variable {P : Program} {w : World} {H H' : Hp} {h h' : Heap} {a : Addr} {o : HO}
theorem ObjOk.lt (x : ObjOk P w H h a o) : a < h.objs.size := by
  cases o with
  | lst xs => obtain ⟨_, _, _, _, e⟩ := x; exact Heap.lt_size e
  | tup xs => obtain ⟨_, _, _, p⟩ := x; exact p.lt
  | dK kvs => obtain ⟨_, _, _, _, o, _, _, e, _⟩ := x; exact Heap.lt_size e
  | dT kvs => obtain ⟨_, _, _, _, o, _, _, e, _⟩ := x; exact Heap.lt_size e
  | set S n => obtain ⟨o, _, _, _, e, _⟩ := x; exact Heap.lt_size e
  | ins C dx fs => obtain ⟨_, _, _, e, _⟩ := x; exact Heap.lt_size e
  | own y => obtain ⟨_, e⟩ := x; exact Heap.lt_size e
  | xd fs => obtain ⟨_, ⟨_, _, _, e, _⟩, _⟩ := x; exact Heap.lt_size e
  | rng lo hi => obtain ⟨_, _, _, e⟩ := x; exact Heap.lt_size e
  | frz ob u => obtain ⟨e, _⟩ := x; exact Heap.lt_size e
  | tbl ps => exact Heap.lt_size (show h.get? a = some _ from x)
  | met f y => exact Heap.lt_size (show h.get? a = some _ from x)
  | ext φ => obtain ⟨_, ⟨_, e⟩, _⟩ := x; exact Heap.lt_size e
theorem Paired.mapP {α β : Type} {F G : α → β → Prop} : ∀ {l₁ : List α} {l₂ : List β}, Paired F l₁ l₂ → (∀ a b, F a b → G a b) → Paired G l₁ l₂
  | _, _, .nil, _ => .nil
  | _, _, .cons r t, f => .cons (f _ _ r) (Paired.mapP t f)
theorem ObjOk.stay (x : ObjOk P w H h a o) (k : ∀ b u, (b = a ∨ H b = some (.own a)) → h.get? b = some u → h'.get? b = some u)
    (ho : ∀ b, H b = some (.own a) → H' b = some (.own a)) (ht : ∀ b xs, H b = some (.tup xs) → H' b = some (.tup xs)) : ObjOk P w H' h' a o := by
  induction o with
  | lst xs => obtain ⟨z, its, n, r, e⟩ := x; exact ⟨z, its, n, r, k _ _ (.inl rfl) e⟩
  | tup xs => obtain ⟨z, its, r, ob, e, c⟩ := x; exact ⟨z, its, r, ob, k _ _ (.inl rfl) e, c⟩
  | dK kvs => obtain ⟨z, y, vs, r, ob, es, ep, e, c⟩ := x; exact ⟨z, y, vs, r, ob, es, ep, k _ _ (.inl rfl) e, c⟩
  | dT kvs =>
    obtain ⟨z, y, xs, r, ob, es, ep, e, c⟩ := x
    exact ⟨z, y, xs, Paired.mapP r fun p q z => ⟨z.1, ht _ _ z.2.1, z.2.2⟩, ob, es, ep, k _ _ (.inl rfl) e, c⟩
  | set S n => obtain ⟨ob, es, ep, t, e, c⟩ := x; exact ⟨ob, es, ep, t, k _ _ (.inl rfl) e, c⟩
  | ins C dx fs =>
    obtain ⟨d, z, ne, e, mA, ⟨od, es, ep, e2, c⟩, r⟩ := x
    exact ⟨ho _ d, z, ne, k _ _ (.inl rfl) e, mA, ⟨od, es, ep, k _ _ (.inr d) e2, c⟩, r⟩
  | own y => obtain ⟨ob, e⟩ := x; exact ⟨ob, k _ _ (.inl rfl) e⟩
  | xd fs => obtain ⟨mA, ⟨od, es, ep, e, c⟩, r⟩ := x; exact ⟨mA, ⟨od, es, ep, k _ _ (.inl rfl) e, c⟩, r⟩
  | rng lo hi => obtain ⟨t, u, v, e⟩ := x; exact ⟨t, u, v, k _ _ (.inl rfl) e⟩
  | frz ob u ih => obtain ⟨e, q⟩ := x; exact ⟨k _ _ (.inl rfl) e, ih q⟩
  | tbl ps =>
    have e : h.get? a = some { cls := .none, data := .fields ps } := x
    show h'.get? a = some { cls := .none, data := .fields ps }
    exact k a _ (.inl rfl) e
  | met f y =>
    have e : h.get? a = some (PySem.W.methodObj (.ref f) (.ref y)) := x
    show h'.get? a = some (PySem.W.methodObj (.ref f) (.ref y))
    exact k a _ (.inl rfl) e
  | ext φ => obtain ⟨p, ⟨o, e⟩, st⟩ := x; exact ⟨st _ _ p fun o q => k _ _ (.inl rfl) q, ⟨o, k _ _ (.inl rfl) e⟩, st⟩
theorem HOk.lt (x : HOk P w H h) (e : H a = some o) : a < h.objs.size := (x a o e).lt
theorem HOk.fresh (x : HOk P w H h) (e : h.objs.size ≤ a) : H a = none := by
  cases q : H a with
  | none => rfl
  | some u => exact absurd (Nat.lt_of_lt_of_le (x.lt q) e) (Nat.lt_irrefl _)
theorem HOk.kept (x : HOk P w H h) (k : ∀ b u, h.get? b = some u → h'.get? b = some u) : HOk P w H h' := fun a o e =>
  (x a o e).stay (fun b u _ q => k b u q) (fun _ q => q) fun _ _ q => q
theorem HOk.laid (x : HOk P w H h) (k : ∀ b u, h.get? b = some u → h'.get? b = some u) (hp : h.objs.size ≤ a) (new : ObjOk P w (upd H a o) h' a o) : HOk P w (upd H a o) h' := fun b u e => by
  have hn := x.fresh hp
  by_cases hb : b = a
  · subst hb; rw [upd_same] at e; cases e; exact new
  · rw [upd_ne hb] at e
    exact (x b u e).stay (fun c v _ q => k c v q) (fun c q => by rw [upd_ne (ne_of_none q hn)]; exact q) fun c xs q => by rw [upd_ne (ne_of_none q hn)]; exact q
end
def Rd (H : Hp) (a : Addr) (u : HO) : Prop := H a = some u ∨ ∃ o, H a = some (.frz o u)
theorem Rd.ok {P : Program} {w : World} {H : Hp} {h : Heap} {a : Addr} {u : HO} (r : Rd H a u) (x : HOk P w H h) : ObjOk P w H h a u := by
  rcases r with r | ⟨o, r⟩
  · exact x a u r
  · obtain ⟨_, q⟩ := x a _ r
    exact q
def Mut : Option HO → Prop
  | some (.lst _) => True
  | some (.dK _) => True
  | some (.dT _) => True
  | some (.set _ _) => True
  | some (.ins _ _ _) => True
  | some (.ext _) => True
  | _ => False
section
variable {P : Program} {w : World} {H : Hp} {h h' : Heap} {x e : Addr} {o' : HO}
theorem HOk.write (ok : HOk P w H h) (mu : Mut (H x)) (he : e = x ∨ H e = some (.own x)) (k : ∀ b u, b ≠ e → h.get? b = some u → h'.get? b = some u) (heo : ∃ u, h'.get? e = some u)
    (new : ObjOk P w (upd H x o') h' x o') : HOk P w (upd H x o') h' := fun b u q => by
  have nown : ∀ c y, H c = some (.own y) → c ≠ x := fun c y r z => by subst z; rw [r] at mu; exact mu
  have ntup : ∀ c xs, H c = some (.tup xs) → c ≠ x := fun c xs r z => by subst z; rw [r] at mu; exact mu
  by_cases hb : b = x
  · subst hb; rw [upd_same] at q; cases q; exact new
  · rw [upd_ne hb] at q
    by_cases hbe : b = e
    · have q' : H b = some (.own x) := by
        rcases he with z | z
        · exact absurd (hbe.trans z) hb
        · rw [hbe]; exact z
      rw [q] at q'; cases q'
      obtain ⟨v, hv⟩ := heo
      exact ⟨v, by rw [hbe]; exact hv⟩
    · refine (ok b u q).stay (fun c v hc r => k c v ?_ r) (fun c r => by rw [upd_ne (nown c b r)]; exact r) fun c xs r => by rw [upd_ne (ntup c xs r)]; exact r
      rcases hc with rfl | hc
      · exact hbe
      · rintro rfl
        rcases he with z | z
        · exact nown c b hc z
        · rw [hc] at z; cases z; exact hb rfl
end
structure Un (fs ex : List Addr) (H H' : Hp) (h h' : Heap) : Prop where
  keep : ∀ b o, h.get? b = some o → H b = none → b ∉ fs → b ∉ ex → h'.get? b = some o
  slot : ∀ b o, h.get? b = some o → H b = none → b ∈ fs → b ∉ ex → ∃ sl, h'.get? b = some { o with slots := sl }
  free : ∀ b o, h.get? b = some o → H b = none → b ∉ ex → H' b = none
  there : ∀ b o, h.get? b = some o → b ∉ ex → ∃ o', h'.get? b = some o'
  tups : ∀ b xs, H b = some (.tup xs) → H' b = some (.tup xs)
  frzs : ∀ b o u, H b = some (.frz o u) → H' b = some (.frz o u)
  tbls : ∀ b ps, H b = some (.tbl ps) → ∃ more, H' b = some (.tbl (ps ++ more))
section
variable {fs fs' ex ex' : List Addr} {H H1 H2 : Hp} {h h1 h2 h' : Heap} {a x e : Addr} {o : HO}
theorem Un.any (u : Un fs ex H H1 h h1) {b : Addr} {ob : Obj} (q : h.get? b = some ob) (n : H b = none) (hx : b ∉ ex) : ∃ sl, h1.get? b = some { ob with slots := sl } := by
  by_cases hb : b ∈ fs
  · exact u.slot b ob q n hb hx
  · exact ⟨ob.slots, u.keep b ob q n hb hx⟩
theorem Un.kept (k : ∀ b u, h.get? b = some u → h'.get? b = some u) : Un fs ex H H h h' :=
  ⟨fun b ob q _ _ _ => k b ob q, fun b ob q _ _ _ => ⟨ob.slots, k b ob q⟩, fun _ _ _ n _ => n, fun b ob q _ => ⟨ob, k b ob q⟩, fun _ _ q => q, fun _ _ _ q => q, fun _ ps q => ⟨#[], by rw [q]; simp⟩⟩
theorem Un.refl : Un fs ex H H h h := Un.kept fun _ _ q => q
theorem Un.laid (k : ∀ b u, h.get? b = some u → h'.get? b = some u) (hp : h.objs.size ≤ a) (hn : H a = none) : Un fs ex H (upd H a o) h h' where
  keep := fun b u q _ _ _ => k b u q
  slot := fun b u q _ _ _ => ⟨u.slots, k b u q⟩
  free := fun b u q n _ => by rw [upd_ne (Nat.ne_of_lt (Nat.lt_of_lt_of_le (Heap.lt_size q) hp))]; exact n
  there := fun b u q _ => ⟨u, k b u q⟩
  tups := fun b xs q => by rw [upd_ne (ne_of_none q hn)]; exact q
  frzs := fun b u xs q => by rw [upd_ne (ne_of_none q hn)]; exact q
  tbls := fun b ps q => ⟨#[], by rw [upd_ne (ne_of_none q hn), q]; simp⟩
theorem Un.write (mu : Mut (H x)) (he : e = x ∨ H e = some (.own x)) (k : ∀ b u, b ≠ e → h.get? b = some u → h'.get? b = some u) (heo : ∃ u, h'.get? e = some u) : Un fs ex H (upd H x o) h h' := by
  have hx : ∀ b, H b = none → b ≠ x := fun b n z => by subst z; rw [n] at mu; exact mu
  have hb : ∀ b, H b = none → b ≠ e := fun b n z => by
    subst z
    rcases he with r | r
    · exact hx b n r
    · rw [n] at r; cases r
  have hm : ∀ b u, H b = some u → ¬ Mut (some u) → b ≠ x := fun b u q nm z => by subst z; rw [q] at mu; exact nm mu
  refine ⟨fun b u q n _ _ => k b u (hb b n) q, fun b u q n _ _ => ⟨u.slots, k b u (hb b n) q⟩, fun b u q n _ => by rw [upd_ne (hx b n)]; exact n, fun b u q _ => ?_,
    fun b xs q => by rw [upd_ne (hm b _ q fun z => z)]; exact q, fun b u xs q => by rw [upd_ne (hm b _ q fun z => z)]; exact q, fun b ps q => ⟨#[], by rw [upd_ne (hm b _ q fun z => z), q]; simp⟩⟩
  by_cases hbe : b = e
  · subst hbe; exact heo
  · exact ⟨u, k b u hbe q⟩
end
def trk (h : Heap) (H : Hp) : List Addr := (List.range h.objs.size).filter fun a => (H a).isSome
def hidT (h : Heap) (H : Hp) : Heap := PySem.W.hideAll h (trk h H)
theorem hidT_size (h : Heap) (H : Hp) : (hidT h H).objs.size = h.objs.size := PySem.W.hideAll_size _ _
theorem hidT_get {h : Heap} {H : Hp} {b : Addr} {o : Obj} (e : h.get? b = some o) (n : H b = none) : (hidT h H).get? b = some o :=
  PySem.W.hideAll_get _ e fun hm => by
    have q : (H b).isSome = true := (List.mem_filter.mp hm).2
    rw [n] at q; simp at q
theorem of_hidT {h : Heap} {H : Hp} {b : Addr} {o : Obj} (e : (hidT h H).get? b = some o) : h.get? b = some o ∧ H b = none := by
  have e' : h.get? b = some o := PySem.W.of_hideAll (trk h H) e
  refine ⟨e', ?_⟩
  cases q : H b with
  | none => rfl
  | some x =>
    have hm : b ∈ trk h H := List.mem_filter.mpr ⟨List.mem_range.mpr (Heap.lt_size e'), by simp [q]⟩
    have z : (hidT h H).get? b = none := PySem.W.hideAll_none (trk h H) hm
    rw [z] at e; cases e
def allNews (g h : Heap) (L : Addr) : List (Addr × Obj) := (List.range h.objs.size).filterMap fun a => if a = L ∨ (g.get? a).isSome = true then none else (h.get? a).map fun o => (a, o)
def rest (g h : Heap) (L d : Addr) : List (Addr × Obj) := (allNews g h L).filter fun p => decide (p.1 ≠ d)
end L2
namespace L2
open PySem PySem.Spec PyProof.Rows
structure Mod (K : PySem.W.Frag) (mg : Str → Option Value) (base : Heap) : Prop where
  kin : K.In base
  glob : base.Ns mainGlobals mg
  blt : ∃ mb, base.Ns builtinsNs mb ∧ ∀ x : Str, x ≠ "__name__" → mb x = bootBuiltins x
  nolimit : base.NoLimit
structure Cx where
  prog : Program
  w : World
  K : PySem.W.Frag
  mg : Str → Option Value
  base : Heap
  A : Around
  N : List Str
  s₀ : Shared
  H₀ : Hp
  env : Env
  outer : List Env
  stack : List Env
  ex : List Addr
  fn : Str → Bool
  calm : Bool
  pn : List (Addr × Obj)
  xe : Value → Shared → Prop
def frs (l : List Env) : List Addr := l.filterMap (·.frame)
abbrev Cx.fs (X : Cx) : List Addr := frs X.outer
def Vis (sc : Scope) (x : Str) : Prop := sc.names.lookup x = some .local ∨ sc.names.lookup x = some .cell ∨ sc.names.lookup x = some .free
def Loc (sc : Scope) (x : Str) : Prop := sc.names.lookup x = some .local ∨ sc.names.lookup x = some .cell
def Look (env : Env) (h : Heap) (m : Str → Option Value) (x : Str) (u : Value) : Prop :=
  (env.kindOf x = some .local ∧ m x = some u) ∨ ((env.kindOf x = some .cell ∨ env.kindOf x = some .free) ∧ ∃ c, env.cells.lookup x = some c ∧ h.IsCell c (some u))
structure Cx.Ok (X : Cx) : Prop where
  mod : Mod X.K X.mg X.base
  kind : X.env.scope.kind = .function
  glob : X.env.globals = mainGlobals
  blt : X.env.builtins = builtinsNs
  above : X.s₀.heap.objs.size ≤ X.env.locals
  inj : ∀ x y c, X.env.cells.lookup x = some c → X.env.cells.lookup y = some c → x = y
  has : ∀ x, (X.env.kindOf x = some .cell ∨ X.env.kindOf x = some .free) → ∃ c, X.env.cells.lookup x = some c
  cab : ∀ x c, X.fn x = true → X.env.cells.lookup x = some c → X.s₀.heap.objs.size ≤ c
  hd : X.calm = true → X.A.handled = none
  frames : X.A.frames = some X.stack
  stk : X.stack = X.outer ∨ (X.stack = X.env :: X.outer ∧ X.env.frame = some X.env.locals)
  exf : ∀ b ∈ X.ex, b ≠ X.env.locals ∧ ∀ x c, X.env.cells.lookup x = some c → c ≠ b
  bs : ∀ b o, X.base.get? b = some o → X.s₀.heap.get? b = some o ∧ X.H₀ b = none
  bsz : X.base.objs.size ≤ X.s₀.heap.objs.size
  noex : ∀ b o, X.base.get? b = some o → b ∉ X.ex
  exfs : ∀ b ∈ X.ex, b ∉ X.fs
  funs : X.s₀.heap.FunFrames X.base X.outer
  frf : ∀ b ∈ X.fs, X.H₀ b = none
structure Inv (X : Cx) (pins : List (Addr × Obj)) (σ : List (Option V)) (H : Hp) (s : Shared) : Prop where
  ok : X.Ok
  os : s.os = X.s₀.os
  bare : AllBare s.gens
  base : Un X.fs X.ex X.H₀ H X.s₀.heap s.heap
  loc : ∃ m, s.heap.Ns X.env.locals m ∧ ∀ (i : Nat) (x : Str) (v : V), X.N[i]? = some x → σ[i]? = some (some v) → Vis X.env.scope x → ∃ u, RelV v u ∧ Look X.env s.heap m x u
  cell : ∀ x c, X.env.cells.lookup x = some c → ∃ v, s.heap.IsCell c v
  free : H X.env.locals = none
  freeC : ∀ x c, X.env.cells.lookup x = some c → H c = none
  pin : ∀ p ∈ X.pn ++ pins, s.heap.get? p.1 = some p.2 ∧ H p.1 = none ∧ p.1 ≠ X.env.locals ∧ p.1 ∉ X.fs ∧ ∀ v, p.2.data ≠ .cell v
  hok : HOk X.prog X.w H s.heap
  len : σ.length = X.N.length
section
variable {X : Cx} {pins : List (Addr × Obj)} {σ : List (Option V)} {H H' : Hp} {s : Shared} {h' : Heap}
theorem Cx.Ok.nofr (ok : X.Ok) {b : Addr} {o : Obj} (e : X.base.get? b = some o) : b ∉ X.fs := fun hb => by
  have := (ok.funs.mem hb).1
  rw [e] at this; cases this
theorem Inv.bs (I : Inv X pins σ H s) : ∀ b o, X.base.get? b = some o → s.heap.get? b = some o ∧ H b = none := fun b o e =>
  ⟨I.base.keep b o (I.ok.bs b o e).1 (I.ok.bs b o e).2 (I.ok.nofr e) (I.ok.noex b o e), I.base.free b o (I.ok.bs b o e).1 (I.ok.bs b o e).2 (I.ok.noex b o e)⟩
theorem Inv.bk (I : Inv X pins σ H s) : ∀ b o, X.base.get? b = some o → s.heap.get? b = some o := fun b o e => (I.bs b o e).1
theorem Inv.mod (I : Inv X pins σ H s) : Mod X.K X.mg X.base := I.ok.mod
theorem Inv.kIn (I : Inv X pins σ H s) : X.K.In s.heap := I.ok.mod.kin.keeps I.bk
theorem Inv.lt (I : Inv X pins σ H s) : X.env.locals < s.heap.objs.size := let ⟨_, hn, _⟩ := I.loc; hn.lt
theorem Inv.sz (I : Inv X pins σ H s) : X.s₀.heap.objs.size ≤ s.heap.objs.size := Nat.le_trans I.ok.above (Nat.le_of_lt I.lt)
theorem Inv.nofs (I : Inv X pins σ H s) {a : Addr} (h : s.heap.objs.size ≤ a) : a ∉ X.fs := fun hb => by
  obtain ⟨_, o, ho, _⟩ := I.ok.funs.mem hb
  exact absurd (Nat.lt_of_lt_of_le (Heap.lt_size ho) (Nat.le_trans I.sz h)) (Nat.lt_irrefl _)
theorem Inv.cne (I : Inv X pins σ H s) : ∀ x c, X.env.cells.lookup x = some c → c ≠ X.env.locals := fun x c e z => by
  obtain ⟨v, o, ho, hd⟩ := I.cell x c e
  obtain ⟨m, ⟨o', es, ep, ho', hd', _⟩, _⟩ := I.loc
  rw [z, ho'] at ho; cases ho; rw [hd'] at hd; cases hd
theorem Inv.funs (I : Inv X pins σ H s) : s.heap.FunFrames X.base X.outer := by
  have all : ∀ (l : List Env), (∀ b ∈ frs l, b ∈ X.fs) → X.s₀.heap.FunFrames X.base l → s.heap.FunFrames X.base l := by
    intro l
    induction l with
    | nil => intro _ _; trivial
    | cons env r ih =>
      intro hs hl
      obtain ⟨hk, ⟨L, o, hf, hn, ho, hd⟩, hr⟩ := hl
      have hL : L ∈ X.fs := hs L (by unfold frs; rw [List.filterMap_cons, hf]; exact List.mem_cons_self)
      obtain ⟨sl, e⟩ := I.base.slot L o ho (I.ok.frf L hL) hL fun z => I.ok.exfs L z hL
      exact ⟨hk, ⟨L, _, hf, hn, e, hd⟩, ih (fun b hb => hs b (by unfold frs; rw [List.filterMap_cons, hf]; exact List.mem_cons_of_mem _ hb)) hr⟩
  exact all X.outer (fun _ hb => hb) I.ok.funs
theorem Inv.stack (I : Inv X pins σ H s) : s.heap.FunFrames X.base X.stack := by
  rcases I.ok.stk with e | ⟨e, hf⟩
  · rw [e]; exact I.funs
  · rw [e]
    obtain ⟨m, hn, _⟩ := I.loc
    refine .cons (by rw [I.ok.kind]; decide) hf hn ?_ I.funs
    exact Heap.get?_none_of_le (Nat.le_trans I.ok.bsz I.ok.above)
theorem Inv.stkSub (I : Inv X pins σ H s) : ∀ b ∈ frs X.stack, b ∈ X.env.locals :: X.fs := fun b hb => by
  rcases I.ok.stk with e | ⟨e, hf⟩
  · rw [e] at hb; exact List.mem_cons_of_mem _ hb
  · rw [e] at hb
    unfold frs at hb
    rw [List.filterMap_cons, hf] at hb
    exact hb
theorem Inv.stkFree (I : Inv X pins σ H s) : ∀ b ∈ frs X.stack, H b = none := fun b hb => by
  rcases List.mem_cons.mp (I.stkSub b hb) with e | hb
  · rw [e]; exact I.free
  · obtain ⟨_, o, ho, _⟩ := I.ok.funs.mem hb
    exact I.base.free b o ho (I.ok.frf b hb) fun z => I.ok.exfs b z hb
theorem Inv.step {g' : Array GenState} {t' : Nat} {d' : Drawn} {ch : List Addr} (I : Inv X pins σ H s)
    (hch : ∀ b ∈ ch, (b ∈ X.ex ∨ X.s₀.heap.objs.size ≤ b) ∧ b ≠ X.env.locals ∧ (∀ x c, X.env.cells.lookup x = some c → c ≠ b) ∧ ∀ p ∈ X.pn ++ pins, p.1 ≠ b)
    (keep : ∀ b o, b ≠ X.env.locals → b ∉ X.fs → b ∉ ch → s.heap.get? b = some o → H b = none → h'.get? b = some o)
    (slot : ∀ b o, b ≠ X.env.locals → b ∈ X.fs → b ∉ ch → s.heap.get? b = some o → H b = none → ∃ sl, h'.get? b = some { o with slots := sl }) (free : ∀ b o, b ∉ ch → s.heap.get? b = some o → H b = none → H' b = none)
    (there : ∀ b o, b ∉ ch → s.heap.get? b = some o → ∃ o', h'.get? b = some o')
    (tups : ∀ b xs, H b = some (.tup xs) → H' b = some (.tup xs)) (frzs : ∀ b o u, H b = some (.frz o u) → H' b = some (.frz o u)) (tbls : ∀ b ps, H b = some (.tbl ps) → ∃ more, H' b = some (.tbl (ps ++ more)))
    (ns : ∀ m, s.heap.Ns X.env.locals m → h'.Ns X.env.locals m) (hok : HOk X.prog X.w H' h') (hg : AllBare g') :
    Inv X pins σ H' { s with heap := h', gens := g', drawn := d', toks := t' } := by
  have neL : ∀ b o, X.s₀.heap.get? b = some o → b ≠ X.env.locals := fun b o e => Nat.ne_of_lt (Nat.lt_of_lt_of_le (Heap.lt_size e) I.ok.above)
  have neC : ∀ b o, X.s₀.heap.get? b = some o → b ∉ X.ex → b ∉ ch := fun b o e hx hb => by
    rcases (hch b hb).1 with z | z
    · exact hx z
    · exact absurd (Nat.lt_of_lt_of_le (Heap.lt_size e) z) (Nat.lt_irrefl _)
  have cellK : ∀ x c, X.env.cells.lookup x = some c → ∀ v, s.heap.IsCell c v → h'.IsCell c v := fun x c e v ⟨o, ho, hd⟩ => by
    have nch : c ∉ ch := fun z => (hch c z).2.2.1 x c e rfl
    by_cases hc : c ∈ X.fs
    · obtain ⟨sl, q⟩ := slot c o (I.cne x c e) hc nch ho (I.freeC x c e)
      exact ⟨_, q, hd⟩
    · exact ⟨o, keep c o (I.cne x c e) hc nch ho (I.freeC x c e), hd⟩
  refine ⟨I.ok, I.os, hg, ⟨fun b o e n hb hx => ?_, fun b o e n hb hx => ?_, fun b o e n hx => ?_, fun b o e hx => ?_, fun b xs e => tups b xs (I.base.tups b xs e), fun b o xs e => frzs b o xs (I.base.frzs b o xs e), fun b ps e => ?_⟩, ?_, fun x c e => ?_, ?_, fun x c e => ?_, fun p hp => ?_, hok, I.len⟩
  · exact keep b o (neL b o e) hb (neC b o e hx) (I.base.keep b o e n hb hx) (I.base.free b o e n hx)
  · obtain ⟨sl, e1⟩ := I.base.slot b o e n hb hx
    obtain ⟨sl', e2⟩ := slot b _ (neL b o e) hb (neC b o e hx) e1 (I.base.free b o e n hx)
    exact ⟨sl', e2⟩
  · obtain ⟨o', e1⟩ := I.base.there b o e hx
    exact free b o' (neC b o e hx) e1 (I.base.free b o e n hx)
  · obtain ⟨o', e1⟩ := I.base.there b o e hx
    exact there b o' (neC b o e hx) e1
  · obtain ⟨m1, e1⟩ := I.base.tbls b ps e
    obtain ⟨m2, e2⟩ := tbls b _ e1
    exact ⟨m1 ++ m2, by rw [e2, Array.append_assoc]⟩
  · obtain ⟨m, hn, hl⟩ := I.loc
    refine ⟨m, ns m hn, fun i x v e1 e2 e3 => ?_⟩
    obtain ⟨u, r, l⟩ := hl i x v e1 e2 e3
    refine ⟨u, r, ?_⟩
    rcases l with l | ⟨k, c, e, z⟩
    · exact .inl l
    · exact .inr ⟨k, c, e, cellK x c e _ z⟩
  · obtain ⟨v, z⟩ := I.cell x c e
    exact ⟨v, cellK x c e v z⟩
  · obtain ⟨m, ⟨o, _, _, ho, _⟩, _⟩ := I.loc
    exact free _ o (fun z => (hch _ z).2.1 rfl) ho I.free
  · obtain ⟨v, o, ho, hd⟩ := I.cell x c e
    exact free c o (fun z => (hch c z).2.2.1 x c e rfl) ho (I.freeC x c e)
  · obtain ⟨e, n, ne, nf, d⟩ := I.pin p hp
    have nch : p.1 ∉ ch := fun z => (hch p.1 z).2.2.2 p hp rfl
    exact ⟨keep p.1 p.2 ne nf nch e n, free p.1 p.2 nch e n, ne, nf, d⟩
theorem Inv.un {t' : Nat} (I : Inv X pins σ H s) (u : Un X.fs [] H H' s.heap h') (hok : HOk X.prog X.w H' h') : Inv X pins σ H' { s with heap := h', toks := t' } := by
  obtain ⟨m, ⟨o, es, ep, ho, r⟩, _⟩ := id I.loc
  obtain ⟨sl, hL⟩ := u.any ho I.free (by simp)
  exact I.step (g' := s.gens) (d' := s.drawn) (ch := []) (fun _ z => nomatch z) (fun b o _ hb _ e n => u.keep b o e n hb (by simp)) (fun b o _ hb _ e n => u.slot b o e n hb (by simp)) (fun b o _ e n => u.free b o e n (by simp)) (fun b o _ e => u.there b o e (by simp)) u.tups u.frzs u.tbls (fun m' hm => by
    obtain ⟨o', es', ep', ho', r'⟩ := hm
    rw [ho] at ho'; cases ho'
    exact ⟨_, es', ep', hL, r'⟩) hok I.bare
theorem Inv.call {g' : Array GenState} {t' : Nat} {d' : Drawn} {ch : List Addr} (I : Inv X pins σ H s) (u : Un (frs X.stack) ch H H' s.heap h') (hok : HOk X.prog X.w H' h') (hg : AllBare g')
    (hch : ∀ b ∈ ch, (b ∈ X.ex ∨ X.s₀.heap.objs.size ≤ b) ∧ b ≠ X.env.locals ∧ (∀ x c, X.env.cells.lookup x = some c → c ≠ b) ∧ ∀ p ∈ X.pn ++ pins, p.1 ≠ b) :
    Inv X pins σ H' { s with heap := h', gens := g', drawn := d', toks := t' } := by
  obtain ⟨m, ⟨o, es, ep, ho, r⟩, _⟩ := id I.loc
  obtain ⟨sl, hL⟩ := u.any ho I.free fun z => (hch _ z).2.1 rfl
  exact I.step (ch := ch) hch (fun b o hL hb hc e n => u.keep b o e n (fun z => (List.mem_cons.mp (I.stkSub b z)).elim hL hb) hc) (fun b o _ _ hc e n => u.any e n hc) (fun b o hc e n => u.free b o e n hc) (fun b o hc e => u.there b o e hc) u.tups u.frzs u.tbls (fun m' hm => by
    obtain ⟨o', es', ep', ho', r'⟩ := hm
    rw [ho] at ho'; cases ho'
    exact ⟨_, es', ep', hL, r'⟩) hok hg
theorem Inv.turned {t' : Nat} {it : Addr} (I : Inv X pins σ H s) (k : ∀ b o, b ≠ it → s.heap.get? b = some o → h'.get? b = some o) (hn : H it = none) (hL : it ≠ X.env.locals)
    (h1 : it ∈ X.ex ∨ X.s₀.heap.objs.size ≤ it) (h2 : ∀ x c, X.env.cells.lookup x = some c → c ≠ it) (h3 : ∀ p ∈ X.pn ++ pins, p.1 ≠ it) : Inv X pins σ H { s with heap := h', toks := t' } := by
  have nit : ∀ b u, H b = some u → b ≠ it := fun b u e z => by rw [z, hn] at e; cases e
  refine I.step (g' := s.gens) (d' := s.drawn) (ch := [it]) (fun b hb => ?_) (fun b o _ _ hc e _ => k b o (fun z => hc (by simp [z])) e) (fun b o _ _ hc e _ => ⟨o.slots, k b o (fun z => hc (by simp [z])) e⟩) (fun _ _ _ _ n => n)
    (fun b o hc e => ⟨o, k b o (fun z => hc (by simp [z])) e⟩) (fun _ _ e => e) (fun _ _ _ e => e) (fun b ps e => ⟨#[], by rw [e]; simp⟩) (fun m hm => ?_) (fun b u e => ?_) I.bare
  · have e : b = it := by simpa using hb
    subst e
    exact ⟨h1, hL, h2, h3⟩
  · obtain ⟨o, es, ep, ho, r⟩ := hm
    exact ⟨o, es, ep, k _ o (Ne.symm hL) ho, r⟩
  · refine (I.hok b u e).stay (fun c v hc q => k c v ?_ q) (fun _ q => q) fun _ _ q => q
    rcases hc with z | z
    · rw [z]; exact nit b u e
    · exact nit c _ z
theorem Inv.tok (I : Inv X pins σ H s) (t : Nat) : Inv X pins σ H { s with toks := t } := I.un (h' := s.heap) (t' := t) Un.refl I.hok
theorem Inv.kept {t' : Nat} (I : Inv X pins σ H s) (k : ∀ b u, s.heap.get? b = some u → h'.get? b = some u) : Inv X pins σ H { s with heap := h', toks := t' } := I.un (Un.kept k) (I.hok.kept k)
theorem Inv.laid {a : Addr} {o : HO} {t' : Nat} (I : Inv X pins σ H s) (k : ∀ b u, s.heap.get? b = some u → h'.get? b = some u) (hp : s.heap.objs.size ≤ a) (new : ObjOk X.prog X.w (upd H a o) h' a o) :
    Inv X pins σ (upd H a o) { s with heap := h', toks := t' } := I.un (Un.laid k hp (I.hok.fresh hp)) (I.hok.laid k hp new)
theorem Inv.write {x e : Addr} {o : HO} {t' : Nat} (I : Inv X pins σ H s) (mu : Mut (H x)) (he : e = x ∨ H e = some (.own x)) (k : ∀ b u, b ≠ e → s.heap.get? b = some u → h'.get? b = some u) (heo : ∃ u, h'.get? e = some u)
    (new : ObjOk X.prog X.w (upd H x o) h' x o) : Inv X pins σ (upd H x o) { s with heap := h', toks := t' } := I.un (Un.write mu he k heo) (I.hok.write mu he k heo new)
theorem Inv.pins_of {pins' : List (Addr × Obj)} (I : Inv X pins σ H s) (h : ∀ p ∈ pins', s.heap.get? p.1 = some p.2 ∧ H p.1 = none ∧ p.1 ≠ X.env.locals ∧ p.1 ∉ X.fs ∧ ∀ v, p.2.data ≠ .cell v) : Inv X pins' σ H s :=
  ⟨I.ok, I.os, I.bare, I.base, I.loc, I.cell, I.free, I.freeC, fun p hp => (List.mem_append.mp hp).elim (fun z => I.pin p (List.mem_append_left _ z)) (h p), I.hok, I.len⟩
theorem nodup_ix {N : List Str} (hN : N.Nodup) {i j : Nat} {x : Str} (a : N[i]? = some x) (b : N[j]? = some x) : i = j := by
  obtain ⟨h1, e1⟩ := List.getElem?_eq_some_iff.mp a
  obtain ⟨h2, e2⟩ := List.getElem?_eq_some_iff.mp b
  exact (List.getElem_inj hN).mp (e1.trans e2.symm)
theorem store_ok2 {M : Model} {A : Around} {E : Value → Shared → Prop} {i : Nat} {x : Str} {v : V} {u : Value} {Q : Unit → Shared → Prop} (I : Inv X pins σ H s) (hN : X.N.Nodup) (hi : X.N[i]? = some x) (hx : Loc X.env.scope x) (r : RelV v u)
    (h : ∀ s', Inv X pins (σ.set i (some v)) H s' → (∃ a, Heap.SameBut a s.heap s'.heap ∧ (a = X.env.locals ∨ X.env.cells.lookup x = some a)) → Q () s') (hf : X.fn x = true ∨ X.env.scope.names.lookup x = some .local := by first | exact .inl rfl | exact .inr rfl | assumption) : wpAny M A (storeName X.env x u) Q E s := by
  obtain ⟨m, hn, hl⟩ := id I.loc
  have hcls : (X.env.scope.kind == .class || (X.env.scope.kind == .module && X.env.locals != X.env.globals)) = false := by rw [I.ok.kind]; rfl
  have hiσ : i < σ.length := by rw [I.len]; exact (List.getElem?_eq_some_iff.mp hi).1
  have cne := I.cne
  have tracked : ∀ {a : Addr} {h' : Heap}, (∃ o, s.heap.get? a = some o ∧ H a = none) → Heap.SameBut a s.heap h' → HOk X.prog X.w H h' := fun {a h'} ha hs b ob e => by
    obtain ⟨_, _, hfree⟩ := ha
    refine (I.hok b ob e).stay (fun c w' hc q => (hs.2 c ?_).trans q) (fun _ q => q) fun _ _ q => q
    rintro rfl
    rcases hc with rfl | hc
    · rw [hfree] at e; cases e
    · rw [hfree] at hc; cases hc
  rcases hx with hk | hk
  · refine wpAny_storeName_local hk hn (fun h' hn' hs => ?_) hcls
    obtain ⟨oL, _, _, hoL, _⟩ := id hn
    refine h _ ⟨I.ok, I.os, I.bare, ⟨fun b o e n hb hx => ?_, fun b o e n hb hx => ?_, I.base.free, fun b o e hx => ?_, I.base.tups, I.base.frzs, I.base.tbls⟩, ⟨_, hn', fun j y v' e1 e2 e3 => ?_⟩, fun y c e => ?_, I.free, I.freeC, fun p hp => ?_, tracked ⟨oL, hoL, I.free⟩ hs, by simpa using I.len⟩ ⟨_, hs, .inl rfl⟩
    · exact (hs.2 b (Nat.ne_of_lt (Nat.lt_of_lt_of_le (Heap.lt_size e) I.ok.above))).trans (I.base.keep b o e n hb hx)
    · obtain ⟨sl, e1⟩ := I.base.slot b o e n hb hx
      exact ⟨sl, (hs.2 b (Nat.ne_of_lt (Nat.lt_of_lt_of_le (Heap.lt_size e) I.ok.above))).trans e1⟩
    · obtain ⟨o', e1⟩ := I.base.there b o e hx
      exact ⟨o', (hs.2 b (Nat.ne_of_lt (Nat.lt_of_lt_of_le (Heap.lt_size e) I.ok.above))).trans e1⟩
    · by_cases hj : j = i
      · subst hj
        rw [hi] at e1; cases e1
        rw [List.getElem?_set_self hiσ] at e2
        cases e2
        exact ⟨u, r, .inl ⟨hk, by simp⟩⟩
      · rw [List.getElem?_set_ne (Ne.symm hj)] at e2
        obtain ⟨u', r', q⟩ := hl j y v' e1 e2 e3
        refine ⟨u', r', ?_⟩
        rcases q with ⟨k, e⟩ | ⟨k, c, e, z⟩
        · refine .inl ⟨k, ?_⟩
          have : y ≠ x := fun e => hj (nodup_ix hN e1 (e ▸ hi))
          simp [this, e]
        · exact .inr ⟨k, c, e, z.sameBut hs (cne y c e)⟩
    · obtain ⟨w', z⟩ := I.cell y c e
      exact ⟨w', z.sameBut hs (cne y c e)⟩
    · obtain ⟨e, n, ne, nf, d⟩ := I.pin p hp
      exact ⟨(hs.2 p.1 ne).trans e, n, ne, nf, d⟩
  · have hfn : X.fn x = true := by
      rcases hf with z | z
      · exact z
      · rw [z] at hk; cases hk
    obtain ⟨c, hc⟩ := I.ok.has x (.inl hk)
    obtain ⟨w', z⟩ := I.cell x c hc
    refine wpAny_storeName_cell I.ok.kind hk hc z (fun h' hc' hs => ?_)
    obtain ⟨oc, hoc, hocd⟩ := id z
    refine h { s with heap := h' } ⟨I.ok, I.os, I.bare, ⟨fun b o e n hb hx => ?_, fun b o e n hb hx => ?_, I.base.free, fun b o e hx => ?_, I.base.tups, I.base.frzs, I.base.tbls⟩, ⟨m, hn.sameBut hs (Ne.symm (cne x c hc)), fun j y v' e1 e2 e3 => ?_⟩, fun y c' e => ?_, I.free, I.freeC, fun p hp => ?_, tracked ⟨oc, hoc, I.freeC x c hc⟩ hs, by simpa using I.len⟩ ⟨c, hs, .inr hc⟩
    · exact (hs.2 b (Nat.ne_of_lt (Nat.lt_of_lt_of_le (Heap.lt_size e) (I.ok.cab x c hfn hc)))).trans (I.base.keep b o e n hb hx)
    · obtain ⟨sl, e1⟩ := I.base.slot b o e n hb hx
      exact ⟨sl, (hs.2 b (Nat.ne_of_lt (Nat.lt_of_lt_of_le (Heap.lt_size e) (I.ok.cab x c hfn hc)))).trans e1⟩
    · obtain ⟨o', e1⟩ := I.base.there b o e hx
      exact ⟨o', (hs.2 b (Nat.ne_of_lt (Nat.lt_of_lt_of_le (Heap.lt_size e) (I.ok.cab x c hfn hc)))).trans e1⟩
    · by_cases hj : j = i
      · subst hj
        rw [hi] at e1; cases e1
        rw [List.getElem?_set_self hiσ] at e2
        cases e2
        exact ⟨u, r, .inr ⟨.inl hk, c, hc, hc'⟩⟩
      · rw [List.getElem?_set_ne (Ne.symm hj)] at e2
        obtain ⟨u', r', q⟩ := hl j y v' e1 e2 e3
        refine ⟨u', r', ?_⟩
        rcases q with q | ⟨k, c', e, z'⟩
        · exact .inl q
        · refine .inr ⟨k, c', e, z'.sameBut hs ?_⟩
          rintro rfl
          exact hj (nodup_ix hN e1 (I.ok.inj _ _ _ e hc ▸ hi))
    · by_cases hcc : c' = c
      · subst hcc; exact ⟨_, hc'⟩
      · obtain ⟨w2, z2⟩ := I.cell y c' e
        exact ⟨w2, z2.sameBut hs hcc⟩
    · obtain ⟨e, n, ne, nf, d⟩ := I.pin p hp
      refine ⟨(hs.2 p.1 ?_).trans e, n, ne, nf, d⟩
      intro q
      rw [q, hoc] at e
      have q' : oc = p.2 := Option.some.inj e
      exact d w' (by rw [← q']; exact hocd)
theorem store_ok {M : Model} {A : Around} {E : Value → Shared → Prop} {i : Nat} {x : Str} {v : V} {u : Value} {Q : Unit → Shared → Prop} (I : Inv X pins σ H s) (hN : X.N.Nodup) (hi : X.N[i]? = some x) (hx : Loc X.env.scope x) (r : RelV v u)
    (h : ∀ s', Inv X pins (σ.set i (some v)) H s' → Q () s') (hf : X.fn x = true ∨ X.env.scope.names.lookup x = some .local := by first | exact .inl rfl | exact .inr rfl | assumption) : wpAny M A (storeName X.env x u) Q E s :=
  store_ok2 I hN hi hx r (fun s' I' _ => h s' I') hf
theorem Inv.call' {s' : Shared} {ch : List Addr} (I : Inv X pins σ H s) (ho : s'.os = s.os) (u : Un (frs X.stack) ch H H' s.heap s'.heap) (hok : HOk X.prog X.w H' s'.heap) (hg : AllBare s'.gens)
    (hch : ∀ b ∈ ch, (b ∈ X.ex ∨ X.s₀.heap.objs.size ≤ b) ∧ b ≠ X.env.locals ∧ (∀ x c, X.env.cells.lookup x = some c → c ≠ b) ∧ ∀ p ∈ X.pn ++ pins, p.1 ≠ b) : Inv X pins σ H' s' := by
  obtain ⟨h', g', d', t', o'⟩ := s'
  have e : o' = s.os := ho
  subst e
  exact I.call (g' := g') (t' := t') (d' := d') u hok hg hch
end
abbrev XK := Value → Option Addr → Hp → Prop
abbrev St := List (Option V)
abbrev VK := V → Hp → Prop
abbrev TE := St → Hp → VK → Prop
abbrev TT := St → Hp → (Bool → Hp → Prop) → Prop
abbrev TA := St → Hp → (List V → Hp → Prop) → Prop
structure Ends where
  nx : St → Hp → Prop
  rt : VK
  bk : St → Hp → Prop := fun _ _ => False
  ct : St → Hp → Prop := fun _ _ => False
abbrev TS := Ends → St → Hp → Prop
def EP (X : Cx) (pins : List (Addr × Obj)) (σ : St) (Q : VK) (u : Value) (s' : Shared) : Prop := ∃ v H', Inv X pins σ H' s' ∧ RelV v u ∧ Q v H'
def TP (X : Cx) (pins : List (Addr × Obj)) (σ : St) (Q : Bool → Hp → Prop) (b : Bool) (s' : Shared) : Prop := ∃ H', Inv X pins σ H' s' ∧ Q b H'
def AP (X : Cx) (pins : List (Addr × Obj)) (σ : St) (Q : List V → Hp → Prop) (us : List Value) (s' : Shared) : Prop := ∃ vs H', Inv X pins σ H' s' ∧ Vals vs us ∧ Q vs H'
def SP (X : Cx) (pins : List (Addr × Obj)) (D : Ends) (f : Flow) (s' : Shared) : Prop :=
  match f with
  | .next => ∃ σ' H', Inv X pins σ' H' s' ∧ D.nx σ' H'
  | .brk => ∃ σ' H', Inv X pins σ' H' s' ∧ D.bk σ' H'
  | .cont => ∃ σ' H', Inv X pins σ' H' s' ∧ D.ct σ' H'
  | .ret u => ∃ v σ' H', Inv X pins σ' H' s' ∧ RelV v u ∧ D.rt v H'
def PE (X : Cx) (e : Expr) (t : TE) : Prop :=
  ∀ (pins : List (Addr × Obj)) (s : Shared) (σ : St) (H : Hp) (Q : VK), Inv X pins σ H s → t σ H Q → wpAny (model X.prog X.w) X.A (eval e X.env) (EP X pins σ Q) X.xe s
def PT (X : Cx) (e : Expr) (t : TT) : Prop :=
  ∀ (pins : List (Addr × Obj)) (s : Shared) (σ : St) (H : Hp) (Q : Bool → Hp → Prop), Inv X pins σ H s → t σ H Q → wpAny (model X.prog X.w) X.A (isTrue e X.env (eval e X.env)) (TP X pins σ Q) X.xe s
def PW (X : Cx) (e : Expr) (t : TT) : Prop :=
  ∀ (whole : Sem Value) (pins : List (Addr × Obj)) (s : Shared) (σ : St) (H : Hp) (Q : Bool → Hp → Prop), Inv X pins σ H s → t σ H Q → wpAny (model X.prog X.w) X.A (isTrue e X.env whole) (TP X pins σ Q) X.xe s
theorem PW.pt {X : Cx} {e : Expr} {t : TT} (h : PW X e t) : PT X e t := h _
def PA (X : Cx) (es : List Expr) (t : TA) : Prop :=
  ∀ (pos : Pos) (pins : List (Addr × Obj)) (s : Shared) (σ : St) (H : Hp) (Q : List V → Hp → Prop), Inv X pins σ H s → t σ H Q → wpAny (model X.prog X.w) X.A (spliced (backTo pos (starEach es X.env))) (AP X pins σ Q) X.xe s
def PS (X : Cx) (st : Stmt) (t : TS) : Prop :=
  ∀ (pins : List (Addr × Obj)) (s : Shared) (σ : St) (H : Hp) (D : Ends), Inv X pins σ H s → t D σ H → wpAny (model X.prog X.w) X.A (exec st X.env) (SP X pins D) X.xe s
def PSs (X : Cx) (st : List Stmt) (t : TS) : Prop :=
  ∀ (pins : List (Addr × Obj)) (s : Shared) (σ : St) (H : Hp) (D : Ends), Inv X pins σ H s → t D σ H → wpAny (model X.prog X.w) X.A (execs st X.env) (SP X pins D) X.xe s
theorem thn {α : Type} {t : Sem α} {Q Q' : α → Shared → Prop} {M : Model} {A : Around} {E : Value → Shared → Prop} {s : Shared} (h : wpAny M A t Q E s) (hQ : ∀ a s, Q a s → Q' a s) : wpAny M A t Q' E s := wpAny_mono h hQ fun _ _ x => x
end L2
namespace L2
open PySem PySem.Spec PyProof.Rows
section
variable {X : Cx}
def tVar (i : Nat) : TE := fun σ H Q => ∃ v, σ[i]? = some (some v) ∧ Q v H
def tC (v : V) : TE := fun _ H Q => Q v H
theorem pe_var {i : Nat} {x : Str} {pos : Pos} (hN : X.N[i]? = some x) (hv : Vis X.env.scope x) (hd : (x == ("__debug__" : Str)) = false := by decide) (hcd : (x == ("__classdict__" : Str)) = false := by decide) : PE X (.Name x pos) (tVar i) := by
  intro pins s σ H Q I h
  obtain ⟨v, e, h⟩ := h
  obtain ⟨m, hn, hl⟩ := I.loc
  obtain ⟨u, r, l⟩ := hl i x v hN e hv
  have fin : EP X pins σ Q u s := ⟨v, H, I, r, h⟩
  rcases l with ⟨hk, hm⟩ | ⟨hk, c, hc, hcell⟩
  · exact wpAny_Name (wpAny_loadName_local I.ok.kind hk hn hm fin) hd
  · rcases hk with hk | hk
    · exact wpAny_Name (wpAny_loadName_cell I.ok.kind hk hc hcell fin) hd
    · exact wpAny_Name (wpAny_loadName_free I.ok.kind hk hc hcell fin hcd) hd
theorem pe_int {i j pos} : PE X (.Constant (.int i) j pos) (tC (.int i)) := fun _ _ _ H _ I h => wpAny_Constant_int ⟨.int i, H, I.tok _, ⟨_, rfl⟩, h⟩
theorem pe_bl {b j pos} : PE X (.Constant (.bool b) j pos) (tC (.bl b)) := fun _ _ _ H _ I h => Constant_bool ⟨.bl b, H, I, rfl, h⟩
theorem pe_non {j pos} : PE X (.Constant .none j pos) (tC .non) := fun _ _ _ H _ I h => Constant_none ⟨.non, H, I, rfl, h⟩
theorem pe_str {x j pos} : PE X (.Constant (.str x) j pos) (tC (.str x)) := fun _ _ _ H _ I h => Calls.Constant_str ⟨.str x, H, I.tok _, ⟨_, rfl⟩, h⟩
def Gl (X : Cx) (x : Str) : Prop := X.env.kindOf x = some .globalImplicit
theorem ld_glob {E : Value → Shared → Prop} {pins : List (Addr × Obj)} {s : Shared} {σ : St} {H : Hp} {x : Str} {u : Value} {pos : Pos} {Q : Value → Shared → Prop} (I : Inv X pins σ H s) (hg : Gl X x) (hm : X.mg x = some u) (h : Q u s)
    (hd : (x == ("__debug__" : Str)) = false := by decide) : wpAny (model X.prog X.w) X.A (eval (.Name x pos) X.env) Q E s :=
  Calls.Name_function_global I.ok.kind hg (Calls.loadGlobal_global (by rw [I.ok.glob]; exact I.mod.glob.keeps I.bk) hm h) hd
theorem ld_blt {E : Value → Shared → Prop} {pins : List (Addr × Obj)} {s : Shared} {σ : St} {H : Hp} {x : Str} {u : Value} {pos : Pos} {Q : Value → Shared → Prop} (I : Inv X pins σ H s) (hg : Gl X x) (hm : X.mg x = none) (hv : bootBuiltins x = some u) (h : Q u s)
    (hn : x ≠ "__name__" := by decide) (hd : (x == ("__debug__" : Str)) = false := by decide) : wpAny (model X.prog X.w) X.A (eval (.Name x pos) X.env) Q E s := by
  obtain ⟨mb, h1, h2⟩ := I.mod.blt
  exact Calls.Name_function_global I.ok.kind hg (Calls.loadGlobal_builtin (by rw [I.ok.glob]; exact I.mod.glob.keeps I.bk) hm (by rw [I.ok.blt]; exact h1.keeps I.bk) ((h2 x hn).trans hv) h) hd
theorem pe_glob {x : Str} {v : V} {u : Value} {pos : Pos} (hg : Gl X x) (hm : X.mg x = some u) (r : RelV v u) (hd : (x == ("__debug__" : Str)) = false := by decide) : PE X (.Name x pos) (tC v) :=
  fun _ _ _ H _ I h => ld_glob I hg hm ⟨v, H, I, r, h⟩ hd
theorem pe_bltn {x : Str} {v : V} {u : Value} {pos : Pos} (hg : Gl X x) (hm : X.mg x = none) (hv : bootBuiltins x = some u) (r : RelV v u) (hn : x ≠ "__name__" := by decide) (hd : (x == ("__debug__" : Str)) = false := by decide) : PE X (.Name x pos) (tC v) :=
  fun _ _ _ H _ I h => ld_blt I hg hm hv ⟨v, H, I, r, h⟩ hn hd
variable {a b : Expr} {ta tb : TE} {pos : Pos}
def PC (X : Cx) (op : CmpOp) (a b : Expr) (t : TE) : Prop :=
  ∀ (pins : List (Addr × Obj)) (s : Shared) (σ : St) (H : Hp) (Q : VK), Inv X pins σ H s → t σ H Q →
    wpAny (model X.prog X.w) X.A (eval a X.env) (fun v s₁ => wpAny (model X.prog X.w) X.A (eval b X.env) (fun u s₂ => wpAny (model X.prog X.w) X.A (compareOp op v u) (EP X pins σ Q) X.xe s₂) X.xe s₁) X.xe s
theorem nobehind (b : Expr) {op : CmpOp} (h : op ≠ .In) (h2 : op ≠ .NotIn) : behindInMarks op b = false := by
  have e1 : (op == CmpOp.In) = false := by cases op <;> first | rfl | exact absurd rfl h
  have e2 : (op == CmpOp.NotIn) = false := by cases op <;> first | rfl | exact absurd rfl h2
  cases b <;> simp [behindInMarks, e1, e2]
def tIsN (ta : TE) : TE := fun σ H Q => ta σ H fun x H1 => Q (.bl (decide (x = .non))) H1
theorem RelV.none_iff {x : V} {v : Value} (r : RelV x v) : (v == Value.none) = decide (x = .non) := by
  cases x with
  | non => cases r; rfl
  | bl _ => cases r; rfl
  | int _ => obtain ⟨t, rfl⟩ := r; rfl
  | str _ => obtain ⟨t, rfl⟩ := r; rfl
  | byt _ => obtain ⟨t, rfl⟩ := r; rfl
  | flt _ => obtain ⟨t, rfl⟩ := r; rfl
  | ref _ => cases r; rfl
  | ty _ => cases r; rfl
theorem pc_isN {j pos'} (ha : PE X a ta) : PC X .Is a (.Constant .none j pos') (tIsN ta) := by
  intro pins s σ H Q I h
  refine thn (ha pins s σ H _ I h) fun v s1 ⟨x, H1, I1, r1, q1⟩ => ?_
  exact Constant_none (is_none_gen ⟨.bl _, H1, I1, by rw [r1.none_iff]; rfl, q1⟩)
def tB (t : TE) : TT := fun σ H Q => t σ H fun x H1 => ∃ c, x = .bl c ∧ Q c H1
theorem pe_cmp {op : CmpOp} {t : TE} (h : PC X op a b t) (h1 : behindInMarks op b = false := by first | exact nobehind _ (by decide) (by decide) | rfl) : PE X (.Compare a [op] [b] pos) t := fun pins s σ H Q I hw => wpAny_Compare1 (h pins s σ H Q I hw) h1
theorem pt_cmp {op : CmpOp} {t : TE} (h : PC X op a b t) (h1 : behindInMarks op b = false := by first | exact nobehind _ (by decide) (by decide) | rfl) : PT X (.Compare a [op] [b] pos) (tB t) := by
  intro pins s σ H Q I hw
  refine wpAny_isTrue_Compare1 (thn (h pins s σ H _ I hw) fun v s1 h1 => thn h1 fun u s2 h2 => thn h2 fun c s3 ⟨x, H1, I1, r1, q1⟩ => ?_) h1
  obtain ⟨d, rfl, q⟩ := q1
  cases r1
  exact wpAny_truthy_bool ⟨H1, I1, q⟩
theorem pt_val {e : Expr} {t : TE} (h : PE X e t) (he : ∀ whole, isTrue e X.env whole = (do let v ← whole; standAt e.pos; holding [v] (truthy v)) := by intro _; rfl) : PT X e (tB t) := by
  intro pins s σ H Q I hw
  refine isTrue_plain (thn (h pins s σ H _ I hw) fun v s1 ⟨x, H1, I1, r1, q1⟩ => ?_) (he _)
  obtain ⟨d, rfl, q⟩ := q1
  cases r1
  exact wpAny_truthy_bool ⟨H1, I1, q⟩
variable {tA tB' : TT} {rest : List Expr}
def tAnd (t u : TT) : TT := fun σ H Q => t σ H fun c H1 => if c = true then u σ H1 Q else Q false H1
def tOr (t u : TT) : TT := fun σ H Q => t σ H fun c H1 => if c = true then Q true H1 else u σ H1 Q
def tNot (t : TT) : TT := fun σ H Q => t σ H fun c H1 => Q (!c) H1
theorem pw_and1 (ha : PT X a tA) : PW X (.BoolOp .And [a] pos) tA := by
  intro wh pins s σ H Q I h
  refine isTrue_and (thn (ha pins s σ H Q I h) fun c s1 e => ?_)
  cases c with
  | true => exact isTrue_and_nil e
  | false => exact e
theorem pw_or1 (ha : PT X a tA) : PW X (.BoolOp .Or [a] pos) tA := by
  intro wh pins s σ H Q I h
  refine isTrue_or (thn (ha pins s σ H Q I h) fun c s1 e => ?_)
  cases c with
  | false => exact isTrue_or_nil e
  | true => exact e
theorem pw_and (ha : PT X a tA) (hb : PW X (.BoolOp .And (b :: rest) pos) tB') : PW X (.BoolOp .And (a :: b :: rest) pos) (tAnd tA tB') := by
  intro wh pins s σ H Q I h
  refine isTrue_and (thn (ha pins s σ H _ I h) fun c s1 ⟨H1, I1, q1⟩ => ?_)
  cases c with
  | true => exact hb wh pins s1 σ H1 Q I1 q1
  | false => exact ⟨H1, I1, q1⟩
theorem pw_or (ha : PT X a tA) (hb : PW X (.BoolOp .Or (b :: rest) pos) tB') : PW X (.BoolOp .Or (a :: b :: rest) pos) (tOr tA tB') := by
  intro wh pins s σ H Q I h
  refine isTrue_or (thn (ha pins s σ H _ I h) fun c s1 ⟨H1, I1, q1⟩ => ?_)
  cases c with
  | true => exact ⟨H1, I1, q1⟩
  | false => exact hb wh pins s1 σ H1 Q I1 q1
theorem pt_not (ha : PT X a tA) : PT X (.UnaryOp .Not a pos) (tNot tA) := by
  intro pins s σ H Q I h
  exact isTrue_not (ha pins s σ H (fun c H1 => Q (!c) H1) I h)
def tAndV (ta tb : TE) : TE := fun σ H Q => ta σ H fun x H1 => ∃ c, x = .bl c ∧ if c = true then tb σ H1 Q else Q (.bl false) H1
def tNotV (ta : TE) : TE := fun σ H Q => ta σ H fun x H1 => ∃ c, x = .bl c ∧ Q (.bl (!c)) H1
theorem pe_one {op} {t : TE} (h : PE X a t) : PE X (.BoolOp op [a] pos) t := fun pins s σ H Q I hw => BoolOp_one (h pins s σ H Q I hw)
theorem pe_and (ha : PE X a ta) (hb : PE X (.BoolOp .And (b :: rest) pos) tb) : PE X (.BoolOp .And (a :: b :: rest) pos) (tAndV ta tb) := by
  intro pins s σ H Q I h
  refine BoolOp_and (thn (ha pins s σ H _ I h) fun v s1 ⟨x, H1, I1, r1, q1⟩ => ?_)
  obtain ⟨c, rfl, q1⟩ := q1
  cases r1
  refine wpAny_truthy_bool ?_
  cases c with
  | true => exact hb pins s1 σ H1 Q I1 q1
  | false => exact ⟨.bl false, H1, I1, rfl, q1⟩
theorem pe_not (ha : PE X a ta) : PE X (.UnaryOp .Not a pos) (tNotV ta) := by
  intro pins s σ H Q I h
  refine UnaryOp_ (thn (ha pins s σ H _ I h) fun v s1 ⟨x, H1, I1, r1, q1⟩ => ?_)
  obtain ⟨c, rfl, q1⟩ := q1
  cases r1
  exact not_of (wpAny_truthy_bool ⟨.bl (!c), H1, I1, rfl, q1⟩)
def tIf (t : TT) (ta tb : TE) : TE := fun σ H Q => t σ H fun c H1 => if c = true then ta σ H1 Q else tb σ H1 Q
theorem pe_ifExp {c : Expr} (hc : PT X c tA) (ha : PE X a ta) (hb : PE X b tb) : PE X (.IfExp c a b pos) (tIf tA ta tb) := by
  intro pins s σ H Q I h
  refine wpAny_IfExp (thn (hc pins s σ H _ I h) fun d s1 ⟨H1, I1, q1⟩ => ?_)
  cases d with
  | true => exact ha pins s1 σ H1 Q I1 q1
  | false => exact hb pins s1 σ H1 Q I1 q1
end
end L2
namespace L2
open PySem PySem.Spec PyProof.Rows
def SqL (K : PySem.W.Frag) (H : Hp) (a : Addr) (xs : List V) : Prop :=
  Rd H a (.lst xs) ∨
    ∃ (o : Obj) (its : Array Value) (n : Nat), K.lookup a = some o ∧ o.cls = .type "list" ∧ o.dict = none ∧ o.data = .seq its n ∧ its.size ≤ sizeLine ∧ Vals xs its.toList
def SqT (K : PySem.W.Frag) (H : Hp) (a : Addr) (xs : List V) : Prop :=
  Rd H a (.tup xs) ∨
    ∃ (o : Obj) (its : Array Value) (n : Nat), K.lookup a = some o ∧ o.cls = .type "tuple" ∧ o.data = .seq its n ∧ its.size ≤ sizeLine ∧ Vals xs its.toList
def absV : Value → Option V
  | .none => some .non
  | .bool b => some (.bl b)
  | .int i _ => some (.int i)
  | .str x _ => some (.str x)
  | .bytes b _ => some (.byt b)
  | .float b _ => some (.flt b)
  | .ref a => some (.ref a)
  | .type n => some (.ty n)
  | _ => none
theorem RelV.abs {x : V} {u : Value} (r : RelV x u) : absV u = some x := by
  cases x with
  | non => cases r; rfl
  | bl _ => cases r; rfl
  | int _ => obtain ⟨t, rfl⟩ := r; rfl
  | str _ => obtain ⟨t, rfl⟩ := r; rfl
  | byt _ => obtain ⟨t, rfl⟩ := r; rfl
  | flt _ => obtain ⟨t, rfl⟩ := r; rfl
  | ref _ => cases r; rfl
  | ty _ => cases r; rfl
theorem RelV.inj {x y : V} {u : Value} (r : RelV x u) (q : RelV y u) : x = y := Option.some.inj (r.abs.symm.trans q.abs)
theorem Vals.inj : ∀ {xs ys : List V} {us : List Value}, Vals xs us → Vals ys us → xs = ys
  | _, _, _, .nil, .nil => rfl
  | _, _, _, .cons r t, .cons r' t' => by rw [r.inj r', Vals.inj t t']
section
variable {X : Cx} {pins : List (Addr × Obj)} {σ : St} {H : Hp} {s : Shared} {a : Addr} {xs ys : List V}
theorem SqL.of {K : PySem.W.Frag} (h : H a = some (.lst xs)) : SqL K H a xs := .inl (.inl h)
theorem SqT.of {K : PySem.W.Frag} (h : H a = some (.tup xs)) : SqT K H a xs := .inl (.inl h)
theorem Inv.list (I : Inv X pins σ H s) (h : SqL X.K H a xs) : ∃ its : List Value, Vals xs its ∧ PlainL s.heap a its.toArray ∧ xs.length ≤ sizeLine := by
  rcases h with h | ⟨o, its, n, hk, hc, hd, hs, hz, r⟩
  · obtain ⟨z, its, n, r, e⟩ := h.ok I.hok
    exact ⟨its, r, ⟨_, n, e, rfl, rfl, rfl⟩, z⟩
  · refine ⟨its.toList, r, ⟨o, n, I.kIn a o hk, hc, hd, by simpa using hs⟩, ?_⟩
    have e := r.length
    simp only [Array.length_toList] at e
    omega
theorem Inv.tuple (I : Inv X pins σ H s) (h : SqT X.K H a xs) : ∃ its : List Value, Vals xs its ∧ IsTup s.heap a its.toArray ∧ xs.length ≤ sizeLine := by
  rcases h with h | ⟨o, its, n, hk, hc, hs, hz, r⟩
  · obtain ⟨z, its, r, p⟩ := h.ok I.hok
    exact ⟨its, r, p, z⟩
  · refine ⟨its.toList, r, ⟨o, I.kIn a o hk, hc, n, by simpa using hs⟩, ?_⟩
    have e := r.length
    simp only [Array.length_toList] at e
    omega
theorem Inv.list_inj (I : Inv X pins σ H s) (h : SqL X.K H a xs) (h' : SqL X.K H a ys) : xs = ys := by
  obtain ⟨its, r, ⟨o, n, e, _, _, d⟩, _⟩ := I.list h
  obtain ⟨its', r', ⟨o', n', e', _, _, d'⟩, _⟩ := I.list h'
  rw [e] at e'; cases e'
  rw [d] at d'
  injection d' with d1 _
  have : its = its' := by simpa using congrArg Array.toList d1
  subst this
  exact r.inj r'
theorem Inv.tuple_inj (I : Inv X pins σ H s) (h : SqT X.K H a xs) (h' : SqT X.K H a ys) : xs = ys := by
  obtain ⟨its, r, ⟨o, e, _, n, d⟩, _⟩ := I.tuple h
  obtain ⟨its', r', ⟨o', e', _, n', d'⟩, _⟩ := I.tuple h'
  rw [e] at e'; cases e'
  rw [d] at d'
  injection d' with d1 _
  have : its = its' := by simpa using congrArg Array.toList d1
  subst this
  exact r.inj r'
end
abbrev Cx.wish (X : Cx) (E : Value → Shared → Prop) : Cx := { X with xe := E }
abbrev Cx.nox (X : Cx) : Cx := X.wish fun _ _ => False
theorem Cx.Ok.wish {X : Cx} (ok : X.Ok) (E : Value → Shared → Prop) : (X.wish E).Ok :=
  ⟨ok.mod, ok.kind, ok.glob, ok.blt, ok.above, ok.inj, ok.has, ok.cab, ok.hd, ok.frames, ok.stk, ok.exf, ok.bs, ok.bsz, ok.noex, ok.exfs, ok.funs, ok.frf⟩
theorem Cx.Ok.unwish {X : Cx} {E : Value → Shared → Prop} (ok : (X.wish E).Ok) : X.Ok :=
  ⟨ok.mod, ok.kind, ok.glob, ok.blt, ok.above, ok.inj, ok.has, ok.cab, ok.hd, ok.frames, ok.stk, ok.exf, ok.bs, ok.bsz, ok.noex, ok.exfs, ok.funs, ok.frf⟩
section
variable {X : Cx} {pins : List (Addr × Obj)} {σ : St} {H : Hp} {s : Shared} {E : Value → Shared → Prop}
theorem Inv.wish (I : Inv X pins σ H s) (E : Value → Shared → Prop) : Inv (X.wish E) pins σ H s := ⟨I.ok.wish E, I.os, I.bare, I.base, I.loc, I.cell, I.free, I.freeC, I.pin, I.hok, I.len⟩
theorem Inv.unwish (I : Inv (X.wish E) pins σ H s) : Inv X pins σ H s := ⟨I.ok.unwish, I.os, I.bare, I.base, I.loc, I.cell, I.free, I.freeC, I.pin, I.hok, I.len⟩
theorem SP.unwish {D : Ends} {f : Flow} {s' : Shared} (h : SP (X.wish E) pins D f s') : SP X pins D f s' := by
  cases f with
  | next => obtain ⟨σ', H', I, q⟩ := h; exact ⟨σ', H', I.unwish, q⟩
  | brk => obtain ⟨σ', H', I, q⟩ := h; exact ⟨σ', H', I.unwish, q⟩
  | cont => obtain ⟨σ', H', I, q⟩ := h; exact ⟨σ', H', I.unwish, q⟩
  | ret u => obtain ⟨v, σ', H', I, r, q⟩ := h; exact ⟨v, σ', H', I.unwish, r, q⟩
theorem PSs.nox {st : List Stmt} {t : TS} (h : PSs X.nox st t) : PSs X st t := fun pins s σ H D I hw =>
  wpAny_mono (h pins s σ H D (I.wish _) hw) (fun _ _ q => q.unwish) fun _ _ z => False.elim z
end
section
variable {X : Cx} {st : Stmt} {rest : List Stmt} {t u : TS} {e : Expr} {te : TE} {pos : Pos}
def tNext : TS := fun D σ H => D.nx σ H
def tSeq (t u : TS) : TS := fun D σ H => t { D with nx := u D } σ H
theorem pss_nil : PSs X [] tNext := fun _ _ σ H _ I h => wpAny_execs_nil ⟨σ, H, I, h⟩
theorem pss_cons (h1 : PS X st t) (h2 : PSs X rest u) : PSs X (st :: rest) (tSeq t u) := by
  intro pins s σ H D I h
  refine wpAny_execs_cons (thn (h1 pins s σ H { D with nx := u D } I h) fun f s1 q => ?_)
  cases f with
  | next =>
    obtain ⟨σ', H', I', q⟩ := q
    exact h2 pins s1 σ' H' D I' q
  | ret v => exact q
  | brk => exact q
  | cont => exact q
theorem pss_one (h1 : PS X st t) : PSs X [st] t := by
  intro pins s σ H D I h
  refine wpAny_execs_cons (thn (h1 pins s σ H D I h) fun f s1 q => ?_)
  cases f with
  | next => exact wpAny_execs_nil q
  | ret v => exact q
  | brk => exact q
  | cont => exact q
theorem Inv.quiet {pins : List (Addr × Obj)} {σ : St} {H : Hp} {s : Shared} (I : Inv X pins σ H s) : interactive X.env = false := by simp [interactive, I.ok.kind]
def tDrop (te : TE) : TS := fun D σ H => te σ H fun _ H1 => D.nx σ H1
theorem ps_expr (he : PE X e te) (hs : swapsWith e none pos.line X.env = pure false := by rfl) : PS X (.Expr e pos) (tDrop te) := by
  intro pins s σ H D I h
  exact wpAny_Expr_any (thn (he pins s σ H _ I h) fun v s1 ⟨x, H1, I1, r1, q1⟩ => ⟨σ, H1, I1, q1⟩) I.quiet hs
def tRet (te : TE) : TS := fun D σ H => te σ H D.rt
theorem ps_ret (he : PE X e te) : PS X (.Return (some e) pos) (tRet te) := by
  intro pins s σ H D I h
  exact wpAny_Return_some (thn (he pins s σ H _ I h) fun v s1 ⟨x, H1, I1, r1, q1⟩ => ⟨x, σ, H1, I1, r1, q1⟩)
def tRetN : TS := fun D _ H => D.rt .non H
theorem ps_retN : PS X (.Return none pos) tRetN := fun _ _ σ H _ I h => wpAny_Return_none ⟨.non, σ, H, I, rfl, h⟩
def tIfS (c : TT) (t u : TS) : TS := fun D σ H => c σ H fun b H1 => if b = true then t D σ H1 else u D σ H1
theorem ps_if {c : Expr} {a b : List Stmt} {tc : TT} (hc : PT X c tc) (ha : PSs X a t) (hb : PSs X b u) : PS X (.If c a b pos) (tIfS tc t u) := by
  intro pins s σ H D I h
  refine wpAny_If (thn (hc pins s σ H _ I h) fun d s1 ⟨H1, I1, q1⟩ => ?_)
  cases d with
  | true => exact ha pins s1 σ H1 D I1 q1
  | false => exact hb pins s1 σ H1 D I1 q1
def tNever : TS := fun _ _ _ => False
theorem pss_never {sts : List Stmt} : PSs X sts tNever := fun _ _ _ _ _ _ h => h.elim
end
abbrev TG := V → St → Hp → (St → Hp → Prop) → Prop
abbrev TGs := List V → St → Hp → (St → Hp → Prop) → Prop
def PG (X : Cx) (target : Expr) (t : TG) : Prop :=
  ∀ (pins : List (Addr × Obj)) (s : Shared) (σ : St) (H : Hp) (v : V) (u : Value) (Q : St → Hp → Prop), Inv X pins σ H s → RelV v u → t v σ H Q →
    wpAny (model X.prog X.w) X.A (assign target X.env u) (fun _ s' => ∃ σ' H', Inv X pins σ' H' s' ∧ Q σ' H') X.xe s
def PGs (X : Cx) (ts : List Expr) (t : TGs) : Prop :=
  ∀ (pins : List (Addr × Obj)) (s : Shared) (σ : St) (H : Hp) (vs : List V) (us : List Value) (Q : St → Hp → Prop), Inv X pins σ H s → Vals vs us → t vs σ H Q →
    wpAny (model X.prog X.w) X.A (assignInOrder ((assignEach ts X.env).map (·.2)) us) (fun _ s' => ∃ σ' H', Inv X pins σ' H' s' ∧ Q σ' H') X.xe s
abbrev TSet := V → V → V → Hp → (Hp → Prop) → Prop
def PSet (X : Cx) (t : TSet) : Prop :=
  ∀ (pins : List (Addr × Obj)) (s : Shared) (σ : St) (H : Hp) (o i v : V) (ov iv u : Value) (Q : Hp → Prop), Inv X pins σ H s → RelV o ov → RelV i iv → RelV v u → t o i v H Q →
    wpAny (model X.prog X.w) X.A (setItem ov iv u) (fun _ s' => ∃ H', Inv X pins σ H' s' ∧ Q H') X.xe s
section
variable {X : Cx} {pos : Pos}
def gName (i : Nat) : TG := fun v σ H Q => Q (σ.set i (some v)) H
theorem pg_name {i : Nat} {x : Str} (hN : X.N.Nodup) (hi : X.N[i]? = some x) (hx : Loc X.env.scope x) (hf : X.fn x = true ∨ X.env.scope.names.lookup x = some .local := by first | exact .inl rfl | exact .inr rfl | assumption) : PG X (.Name x pos) (gName i) := by
  intro pins s σ H v u Q I r h
  exact wpAny_assign_Name (store_ok I hN hi hx r (fun s' I' => ⟨_, H, I', h⟩) hf)
def gNil : TGs := fun vs σ H Q => vs = [] ∧ Q σ H
def gCons (t : TG) (u : TGs) : TGs := fun vs σ H Q => ∃ v r, vs = v :: r ∧ t v σ H fun σ' H' => u r σ' H' Q
theorem pgs_nil : PGs X [] gNil := by
  intro pins s σ H vs us Q I r h
  obtain ⟨e, h⟩ := h
  subst e
  cases r
  exact assignInOrder_nil ⟨σ, H, I, h⟩
theorem pgs_cons {e : Expr} {es : List Expr} {t : TG} {u : TGs} (h1 : PG X e t) (h2 : PGs X es u)
    (hs : (assignEach (e :: es) X.env).map (·.2) = assign e X.env :: (assignEach es X.env).map (·.2) := by rfl) : PGs X (e :: es) (gCons t u) := by
  intro pins s σ H vs us Q I r h
  obtain ⟨v, vr, e1, h⟩ := h
  subst e1
  cases r with
  | cons r rr =>
    rw [hs]
    refine assignInOrder_cons (thn (h1 pins s σ H _ _ _ I r h) fun _ s1 ⟨σ1, H1, I1, q1⟩ => ?_)
    exact h2 pins s1 σ1 H1 _ _ Q I1 rr q1
def gTup (K : PySem.W.Frag) (n : Nat) (t : TGs) : TG := fun v σ H Q => ∃ a xs, v = .ref a ∧ SqT K H a xs ∧ xs.length = n ∧ t xs σ H Q
theorem pg_tup {es : List Expr} {k : Nat} {t : TGs} {n : Nat} (hc : X.calm = true) (h : PGs X es t)
    (hn : (assignEach es X.env).length = n := by rfl) (hst : (assignEach es X.env).findIdx? (·.1) = none := by rfl) : PG X (.Tuple es k pos) (gTup X.K n t) := by
  intro pins s σ H v u Q I r hw
  obtain ⟨a, xs, e1, hq, hl, hw⟩ := hw
  subst e1
  cases r
  obtain ⟨its, rv, ht, hz⟩ := I.tuple hq
  refine assign_Tuple_tuple (I.ok.hd hc) ht (by simp [hn, ← hl, rv.length]) hst fun h' hx => ?_
  have I1 : Inv X pins σ H { s with heap := h' } := I.kept (t' := s.toks) fun b o e => hx b o (Nat.ne_of_lt (Heap.lt_size e)) e
  exact h pins _ σ H xs _ Q I1 (by simpa using rv) hw
def gSub (to ti : TE) (t : TSet) : TG := fun v σ H Q => to σ H fun o H1 => ti σ H1 fun i H2 => t o i v H2 fun H3 => Q σ H3
theorem pg_sub {o i : Expr} {to ti : TE} {t : TSet} (ho : PE X o to) (hi : PE X i ti) (hs : PSet X t)
    (ha : ∀ v, assign (.Subscript o i pos) X.env v = (do
      let ov ← holding [v] (eval o X.env)
      let iv ← holding [v, ov] (eval i X.env)
      standAt pos
      holding [v, ov, iv] (setItem ov iv v)
      release [v, ov, iv] []) := by intro _; rfl) : PG X (.Subscript o i pos) (gSub to ti t) := by
  intro pins s σ H v u Q I r h
  rw [ha]
  refine wpAny_bind (wpAny_holding (thn (ho pins s σ H _ I h) fun ov s1 ⟨x, H1, I1, r1, q1⟩ => ?_))
  refine wpAny_bind (wpAny_holding (thn (hi pins s1 σ H1 _ I1 q1) fun iv s2 ⟨y, H2, I2, r2, q2⟩ => ?_))
  refine wpAny_bind (wpAny_standAt (wpAny_bind (wpAny_holding (thn (hs pins s2 σ H2 x y v ov iv u _ I2 r1 r2 r q2) fun _ s3 ⟨H3, I3, q3⟩ => ?_))))
  exact wpAny_release ⟨σ, H3, I3, q3⟩
def tAsg (te : TE) (g : TG) : TS := fun D σ H => te σ H fun x H1 => g x σ H1 D.nx
theorem ps_asg {tg e : Expr} {te : TE} {g : TG} (he : PE X e te) (hg : PG X tg g) (hs : swapsWithSole [tg] e pos.line X.env = pure false := by rfl) (hw : swappedStores [tg] e X.env = pure none := by rfl)
    (h1 : (assignEach [tg] X.env).map (·.2) = [assign tg X.env] := by rfl) : PS X (.Assign [tg] e pos) (tAsg te g) := by
  intro pins s σ H D I h
  refine wpAny_Assign_stores (thn (he pins s σ H _ I h) fun v s1 ⟨x, H1, I1, r1, q1⟩ => ?_) hs hw
  rw [h1]
  exact thn (hg pins s1 σ H1 x v _ I1 r1 q1) fun _ s2 q => q
theorem ps_set {i : Nat} {x : Str} {e : Expr} {te : TE} {pos' : Pos} (hN : X.N.Nodup) (hi : X.N[i]? = some x) (hx : Loc X.env.scope x) (he : PE X e te) (hs : swapsWith e (some (.Name x pos')) pos.line X.env = pure false := by rfl) (hf : X.fn x = true ∨ X.env.scope.names.lookup x = some .local := by first | exact .inl rfl | exact .inr rfl | assumption) :
    PS X (.Assign [.Name x pos'] e pos) (tAsg te (gName i)) := by
  intro pins s σ H D I h
  refine wpAny_Assign_Name (thn (he pins s σ H _ I h) fun v s1 ⟨y, H1, I1, r1, q1⟩ => ?_) hs
  exact store_ok I1 hN hi hx r1 (fun s2 I2 => ⟨_, H1, I2, q1⟩) hf
end
section
variable {X : Cx} {pos : Pos}
def tWhile (c : TT) (tb : TS) : TS := fun D σ H => ∃ W : Nat → St → Hp → Prop, (∃ m, W m σ H) ∧ ∀ m σ H, W m σ H →
  c σ H fun b H1 => if b = true then ∃ N : St → Hp → Prop, (∀ σ' H', N σ' H' → ∃ m', m' < m ∧ W m' σ' H') ∧ tb { D with nx := N, ct := N, bk := D.nx } σ H1 else D.nx σ H1
theorem ps_while {c : Expr} {body : List Stmt} {tc : TT} {tb : TS} (hp : PassesOwn (model X.prog X.w) X.A X.env X.xe) (hc : PT X c tc) (hb : PSs X body tb) : PS X (.While c body [] pos) (tWhile tc tb) := by
  intro pins s σ H D I h
  obtain ⟨W, ⟨m0, w0⟩, turn⟩ := h
  refine wpAny_While (codeAny_whileLoop (fun n s' => ∃ σ' H', Inv X pins σ' H' s' ∧ W n σ' H') ?_ m0 ⟨σ, H, I, w0⟩)
  rintro n s1 ⟨σ1, H1, I1, w1⟩
  refine wpAny_passesOwn hp (thn (hc pins s1 σ1 H1 _ I1 (turn n σ1 H1 w1)) fun b s2 ⟨H2, I2, q2⟩ => ?_)
  cases b with
  | true =>
    obtain ⟨N, hN, q2⟩ := q2
    rw [if_pos rfl]
    refine wpAny_passesOwn hp (thn (hb pins s2 σ1 H2 _ I2 q2) fun f s3 q3 => ?_)
    cases f with
    | next =>
      obtain ⟨σ3, H3, I3, n3⟩ := q3
      obtain ⟨m', hm, w3⟩ := hN σ3 H3 n3
      exact ⟨m', hm, σ3, H3, I3, w3⟩
    | cont =>
      obtain ⟨σ3, H3, I3, n3⟩ := q3
      obtain ⟨m', hm, w3⟩ := hN σ3 H3 n3
      exact ⟨m', hm, σ3, H3, I3, w3⟩
    | brk => exact q3
    | ret v => exact q3
  | false =>
    rw [if_neg Bool.false_ne_true]
    exact wpAny_execs_nil ⟨σ1, H2, I2, q2⟩
end
structure It where
  go : Nat → Hp → Prop
  yld : Nat → Hp → V → Hp → Prop
  stop : Nat → Hp → Prop
def FpOk (X : Cx) (pins : List (Addr × Obj)) (H : Hp) (b : Addr) : Prop :=
  H b = none ∧ b ≠ X.env.locals ∧ b ∉ X.fs ∧ (b ∈ X.ex ∨ X.s₀.heap.objs.size ≤ b) ∧ (∀ x c, X.env.cells.lookup x = some c → c ≠ b) ∧ ∀ p ∈ X.pn ++ pins, p.1 ≠ b
theorem Inv.fpOk {X : Cx} {pins : List (Addr × Obj)} {σ : St} {H H' : Hp} {s : Shared} {b : Addr} (I : Inv X pins σ H s) (hb : s.heap.objs.size ≤ b) (hn : H' b = none) : FpOk X pins H' b := by
  refine ⟨hn, Nat.ne_of_gt (Nat.lt_of_lt_of_le I.lt hb), I.nofs hb, .inr (Nat.le_trans I.sz hb), fun x c e z => ?_, fun p hp z => ?_⟩
  · obtain ⟨v, q⟩ := I.cell x c e
    exact absurd (Nat.lt_of_lt_of_le q.lt (by rw [z]; exact hb)) (Nat.lt_irrefl _)
  · exact absurd (Nat.lt_of_lt_of_le (Heap.lt_size (I.pin p hp).1) (by rw [z]; exact hb)) (Nat.lt_irrefl _)
structure Turn (P : Program) (w : World) (K : PySem.W.Frag) (tg : Expr) (J : It) (fp : List Addr) (it : Addr) (tn : Nat → Heap → Prop) : Prop where
  mem : it ∈ fp
  obj : ∀ i h, tn i h → ∀ b ∈ fp, ∃ o, h.get? b = some o ∧ ∀ v, o.data ≠ .cell v
  keep : ∀ i h h', tn i h → (∀ b ∈ fp, ∀ o, h.get? b = some o → h'.get? b = some o) → tn i h'
  item : ∀ (X : Cx), X.prog = P → X.w = w → X.K = K → X.calm = true → ∀ (i : Nat) (pins : List (Addr × Obj)) (s : Shared) (σ : St) (H : Hp) (E : Value → Shared → Prop), Inv X pins σ H s → (∀ b ∈ fp, FpOk X pins H b) → tn i s.heap → J.go i H →
    wpAny (model P w) X.A (pyNext (.ref it)) (fun r s1 => ∃ u, r = some u ∧
      wpAny (model P w) X.A (letOwnedTupleGo tg (.ref it) u) (fun _ s2 => ∃ x H', Inv X pins σ H' s2 ∧ RelV x u ∧ J.yld i H x H' ∧ tn (i + 1) s2.heap ∧ ∀ b ∈ fp, H' b = none) E s1) E s
  done : ∀ (X : Cx), X.prog = P → X.w = w → X.K = K → X.calm = true → ∀ (i : Nat) (pins : List (Addr × Obj)) (s : Shared) (σ : St) (H : Hp) (E : Value → Shared → Prop), Inv X pins σ H s → (∀ b ∈ fp, FpOk X pins H b) → tn i s.heap → J.stop i H →
    wpAny (model P w) X.A (pyNext (.ref it)) (fun r s1 => r = none ∧ Inv X pins σ H s1) E s
  self : ∀ (A : Around) (i : Nat) (s : Shared) (Q : Value → Shared → Prop) (E : Value → Shared → Prop), tn i s.heap → Q (.ref it) s → wpAny (model P w) A (pyIter (.ref it)) Q E s
abbrev TI := St → Hp → (It → Hp → Prop) → Prop
def PIE (X : Cx) (pins : List (Addr × Obj)) (σ : St) (tg : Expr) (R : It → Hp → Prop) (itv : Value) (s2 : Shared) : Prop :=
  ∃ (it : Addr) (fp : List Addr) (tn : Nat → Heap → Prop) (J : It) (H' : Hp), itv = .ref it ∧ Inv X pins σ H' s2 ∧ Turn X.prog X.w X.K tg J fp it tn ∧ tn 0 s2.heap ∧ (∀ b ∈ fp, FpOk X pins H' b) ∧ R J H'
def PI (X : Cx) (tg iter : Expr) (wi : TI) : Prop :=
  ∀ (pins : List (Addr × Obj)) (s : Shared) (σ : St) (H : Hp) (R : It → Hp → Prop), Inv X pins σ H s → wi σ H R →
    wpAny (model X.prog X.w) X.A (eval iter X.env) (fun v s1 => wpAny (model X.prog X.w) X.A (pyIter v) (PIE X pins σ tg R) X.xe s1) X.xe s
theorem go_of {M : Model} {A : Around} {E : Value → Shared → Prop} {s : Shared} {tg : Expr} {it : Addr} {u : Value} {o : Obj} {n : String} {vs : Array Value} {Q : Unit → Shared → Prop} (ho : s.heap.get? it = some o) (hc : o.cls = .type n) (hd : o.data = .fields vs)
    (hn : ["enumerate", "zip", "dict_itemiterator", "dict_reverseitemiterator", "odict_iterator", "itertools.zip_longest", "itertools.pairwise"].contains n = false) (hQ : Q () s) : wpAny M A (letOwnedTupleGo tg (.ref it) u) Q E s := by
  unfold letOwnedTupleGo
  cases tg <;> first
    | exact wpAny_pure hQ
    | (cases u <;> first
        | exact wpAny_pure hQ
        | (refine wpAny_bind (wpAny_load ho ?_)
           rw [hc, hd]
           show wpAny M A (if (["enumerate", "zip", "dict_itemiterator", "dict_reverseitemiterator", "odict_iterator", "itertools.zip_longest", "itertools.pairwise"].contains n && vs[0]? == some (rawInt _)) = true then _ else _) Q E s
           rw [if_neg (by intro h; rw [hn, Bool.false_and] at h; cases h)]
           exact wpAny_pure hQ))
def Itl (K : PySem.W.Frag) (a : Addr) : It :=
  ⟨fun i H => ∃ xs x, SqL K H a xs ∧ xs[i]? = some x, fun i H x H' => H' = H ∧ ∀ xs, SqL K H a xs → xs[i]? = some x, fun i H => ∃ xs, SqL K H a xs ∧ xs.length ≤ i⟩
def Itt (K : PySem.W.Frag) (a : Addr) : It :=
  ⟨fun i H => ∃ xs x, SqT K H a xs ∧ xs[i]? = some x, fun i H x H' => H' = H ∧ ∀ xs, SqT K H a xs → xs[i]? = some x, fun i H => ∃ xs, SqT K H a xs ∧ xs.length ≤ i⟩
def Itr (lo : Int) (n : Nat) : It := ⟨fun i _ => i < n, fun i H x H' => H' = H ∧ x = .int (lo + i), fun i _ => n ≤ i⟩
theorem turn_list {P : Program} {w : World} {K : PySem.W.Frag} {tg : Expr} (a it : Addr) : Turn P w K tg (Itl K a) [it] it (fun i h => h.IsListIter it a i) where
  mem := by simp
  obj := fun i h st b hb => by
    have e : b = it := by simpa using hb
    subst e
    obtain ⟨o, e, c, d⟩ := st
    exact ⟨o, e, fun v z => by rw [d] at z; cases z⟩
  keep := fun i h h' st k => st.at fun o e => k it (by simp) o e
  item := by
    intro X hP hw hK hc i pins s σ H E I hf st hg
    subst hP hw hK
    obtain ⟨xs, x, hq, hx⟩ := hg
    obtain ⟨its, rv, p, hz⟩ := I.list hq
    obtain ⟨u, hu, ru⟩ := rv.get hx
    obtain ⟨f0, f1, f2, f3, f4, f5⟩ := hf it (by simp)
    refine wpAny_pyNext_list_item st p.isList (x := u) (by simpa using hu) fun h' st' sb => ?_
    have I1 : Inv X pins σ H { s with heap := h' } := I.turned (t' := s.toks) (fun b o hb e => (sb.2 b hb).trans e) f0 f1 f3 f4 f5
    obtain ⟨o, e, c, d⟩ := id st'
    exact ⟨u, rfl, go_of (s := { s with heap := h' }) e c d (by decide) ⟨x, H, I1, ru, ⟨rfl, fun ys hy => by rw [I.list_inj hy hq]; exact hx⟩, st', fun b hb => (hf b hb).1⟩⟩
  done := by
    intro X hP hw hK hc i pins s σ H E I hf st hg
    subst hP hw hK
    obtain ⟨xs, hq, hx⟩ := hg
    obtain ⟨its, rv, p, hz⟩ := I.list hq
    obtain ⟨f0, f1, f2, f3, f4, f5⟩ := hf it (by simp)
    have hl := rv.length
    exact wpAny_pyNext_list_end (I.ok.hd hc) st p.isList (by simp; omega) fun h' eb => ⟨rfl, I.turned (t' := s.toks) (fun b o hb e => eb b o hb e) f0 f1 f3 f4 f5⟩
  self := fun _ _ _ _ _ st h => wpAny_pyIter_listiter st h
theorem turn_tuple {P : Program} {w : World} {K : PySem.W.Frag} {tg : Expr} (a it : Addr) : Turn P w K tg (Itt K a) [it] it (fun i h => h.IsTupleIter it a i) where
  mem := by simp
  obj := fun i h st b hb => by
    have e : b = it := by simpa using hb
    subst e
    obtain ⟨o, e, c, d⟩ := st
    exact ⟨o, e, fun v z => by rw [d] at z; cases z⟩
  keep := fun i h h' st k => st.at fun o e => k it (by simp) o e
  item := by
    intro X hP hw hK hc i pins s σ H E I hf st hg
    subst hP hw hK
    obtain ⟨xs, x, hq, hx⟩ := hg
    obtain ⟨its, rv, p, hz⟩ := I.tuple hq
    obtain ⟨u, hu, ru⟩ := rv.get hx
    obtain ⟨f0, f1, f2, f3, f4, f5⟩ := hf it (by simp)
    refine wpAny_pyNext_tuple_item st (show s.heap.IsTuple a its.toArray from p) (x := u) (by simpa using hu) fun h' st' sb => ?_
    have I1 : Inv X pins σ H { s with heap := h' } := I.turned (t' := s.toks) (fun b o hb e => (sb.2 b hb).trans e) f0 f1 f3 f4 f5
    obtain ⟨o, e, c, d⟩ := id st'
    exact ⟨u, rfl, go_of (s := { s with heap := h' }) e c d (by decide) ⟨x, H, I1, ru, ⟨rfl, fun ys hy => by rw [I.tuple_inj hy hq]; exact hx⟩, st', fun b hb => (hf b hb).1⟩⟩
  done := by
    intro X hP hw hK hc i pins s σ H E I hf st hg
    subst hP hw hK
    obtain ⟨xs, hq, hx⟩ := hg
    obtain ⟨its, rv, p, hz⟩ := I.tuple hq
    obtain ⟨f0, f1, f2, f3, f4, f5⟩ := hf it (by simp)
    have hl := rv.length
    exact wpAny_pyNext_tuple_end (I.ok.hd hc) st (show s.heap.IsTuple a its.toArray from p) (by simp; omega) fun h' eb => ⟨rfl, I.turned (t' := s.toks) (fun b o hb e => eb b o hb e) f0 f1 f3 f4 f5⟩
  self := fun _ _ _ _ _ st h => wpAny_pyIter_tupleiter st h
theorem turn_range {P : Program} {w : World} {K : PySem.W.Frag} {tg : Expr} (it : Addr) (lo : Int) (n : Nat) : Turn P w K tg (Itr lo n) [it] it (fun i h => IsRangeIter h it (lo + (i : Nat) * 1) ((n : Int) - (i : Nat)) 1) where
  mem := by simp
  obj := fun i h st b hb => by
    have e : b = it := by simpa using hb
    subst e
    exact ⟨_, st, fun v z => by
      have z' : Data.fields _ = Data.cell v := z
      cases z'⟩
  keep := fun i h h' st k => k it (by simp) _ st
  item := by
    intro X hP hw hK hc i pins s σ H E I hf st hg
    subst hP hw hK
    obtain ⟨f0, f1, f2, f3, f4, f5⟩ := hf it (by simp)
    have W := Walks.range (prog := X.prog) (w := X.w) (I.ok.hd hc) it lo 1 n
    refine W.item i s _ _ hg st fun v h' tk hv st' kk => ?_
    obtain ⟨t, rfl⟩ := hv
    have I1 : Inv X pins σ H { s with heap := h', toks := tk } := I.turned (fun b o hb e => kk b o (by simpa using hb) e) f0 f1 f3 f4 f5
    refine ⟨_, rfl, go_of (s := { s with heap := h', toks := tk }) (n := "range_iterator") st' rfl rfl (by decide) ⟨.int (lo + i), H, I1, ⟨t, ?_⟩, ⟨rfl, rfl⟩, st', fun b hb => (hf b hb).1⟩⟩
    rw [Int.mul_one]
  done := by
    intro X hP hw hK hc i pins s σ H E I hf st hg
    subst hP hw hK
    obtain ⟨f0, f1, f2, f3, f4, f5⟩ := hf it (by simp)
    exact wpAny_pyNext_range_end (I.ok.hd hc) st (by have : n ≤ i := hg; omega) fun h' eb => ⟨rfl, I.turned (t' := s.toks) (fun b o hb e => eb b o hb e) f0 f1 f3 f4 f5⟩
  self := fun _ _ _ _ _ st h => wpAny_pyIter_rangeiter st h
end L2
namespace L2
open PySem PySem.Spec PyProof.Rows
section
variable {X : Cx} {tg : Expr}
def iList (K : PySem.W.Frag) (tl : TE) : TI := fun σ H R => tl σ H fun x H1 => ∃ a, x = .ref a ∧ (∃ xs, SqL K H1 a xs) ∧ R (Itl K a) H1
def iTup (K : PySem.W.Frag) (tl : TE) : TI := fun σ H R => tl σ H fun x H1 => ∃ a, x = .ref a ∧ (∃ xs, SqT K H1 a xs) ∧ R (Itt K a) H1
theorem pi_list {l : Expr} {tl : TE} (hl : PE X l tl) : PI X tg l (iList X.K tl) := by
  intro pins s σ H R I h
  refine thn (hl pins s σ H _ I h) fun v s1 ⟨x, H1, I1, r1, q1⟩ => ?_
  obtain ⟨a, e, ⟨xs, hq⟩, q⟩ := q1
  subst e
  cases r1
  obtain ⟨its, rv, p, hz⟩ := I1.list hq
  refine wpAny_pyIter_list p.isList ?_
  refine ⟨s1.heap.objs.size, [s1.heap.objs.size], _, _, H1, rfl, I1.kept (t' := s1.toks) fun b o e => Heap.get?_push_of_some _ e, turn_list a _, ⟨_, Heap.get?_push_size _ rfl, rfl, rfl⟩, fun b hb => ?_, q⟩
  have e : b = s1.heap.objs.size := by simpa using hb
  subst e
  exact I1.fpOk (Nat.le_refl _) (I1.hok.fresh (Nat.le_refl _))
theorem pi_tup {l : Expr} {tl : TE} (hl : PE X l tl) : PI X tg l (iTup X.K tl) := by
  intro pins s σ H R I h
  refine thn (hl pins s σ H _ I h) fun v s1 ⟨x, H1, I1, r1, q1⟩ => ?_
  obtain ⟨a, e, ⟨xs, hq⟩, q⟩ := q1
  subst e
  cases r1
  obtain ⟨its, rv, p, hz⟩ := I1.tuple hq
  refine wpAny_pyIter_tuple (show s1.heap.IsTuple a its.toArray from p) ?_
  refine ⟨s1.heap.objs.size, [s1.heap.objs.size], _, _, H1, rfl, I1.kept (t' := s1.toks) fun b o e => Heap.get?_push_of_some _ e, turn_tuple a _, ⟨_, Heap.get?_push_size _ rfl, rfl, rfl⟩, fun b hb => ?_, q⟩
  have e : b = s1.heap.objs.size := by simpa using hb
  subst e
  exact I1.fpOk (Nat.le_refl _) (I1.hok.fresh (Nat.le_refl _))
theorem range_it {pins : List (Addr × Obj)} {σ : St} {H : Hp} {s : Shared} {R : It → Hp → Prop} {E : Value → Shared → Prop} {lo hi : Int} {t u v : Tok} {tk : Nat} (I : Inv X pins σ H s) (h1 : -(2 ^ 62) ≤ lo) (h2 : lo < 2 ^ 62) (h3 : -(2 ^ 62) ≤ hi) (h4 : hi < 2 ^ 62)
    (q : R (Itr lo (hi - lo).toNat) H) : wpAny (model X.prog X.w) X.A (pyIter (.ref s.heap.objs.size)) (PIE X pins σ tg R) E { s with heap := s.heap.push { cls := .type "range", data := .fields #[.int lo t, .int hi u, .int 1 v] }, toks := tk } := by
  refine wpAny_pyIter_range (IsRange.new ..) (small_one h1 h2 h3 h4) ?_
  have I1 : Inv X pins σ H { s with heap := s.heap.push { cls := .type "range", data := .fields #[.int lo t, .int hi u, .int 1 v] }, toks := tk } := I.kept fun b o e => Heap.get?_push_of_some _ e
  refine ⟨(s.heap.push { cls := .type "range", data := .fields #[.int lo t, .int hi u, .int 1 v] }).objs.size, [(s.heap.push { cls := .type "range", data := .fields #[.int lo t, .int hi u, .int 1 v] }).objs.size], _, _, H, rfl,
    I1.kept (t' := tk) fun b o e => Heap.get?_push_of_some _ e, turn_range _ lo (hi - lo).toNat, ?_, fun b hb => ?_, q⟩
  · have e1 : lo + ((0 : Nat) : Int) * 1 = lo := by simp
    have e2 : (((hi - lo).toNat : Nat) : Int) - ((0 : Nat) : Int) = Builtin.Range.rangeSize lo hi 1 := by rw [rangeSize_one]; split <;> omega
    show IsRangeIter _ _ (lo + ((0 : Nat) : Int) * 1) ((((hi - lo).toNat : Nat) : Int) - ((0 : Nat) : Int)) 1
    rw [e1, e2]
    exact Heap.get?_push_size _ rfl
  · have e : b = (s.heap.push { cls := .type "range", data := .fields #[.int lo t, .int hi u, .int 1 v] }).objs.size := by simpa using hb
    subst e
    exact I1.fpOk (Nat.le_refl _) (I1.hok.fresh (Nat.le_refl _))
def iRng1 (ta : TA) : TI := fun σ H R => ta σ H fun vs H1 => ∃ j : Int, vs = [.int j] ∧ -(2 ^ 62) ≤ j ∧ j < 2 ^ 62 ∧ R (Itr 0 j.toNat) H1
theorem pi_range1 {a : Expr} {ta : TA} {p pos : Pos} (hg : Gl X "range") (hm : X.mg "range" = none) (ha : PA X [a] ta) (hs : starEach [a] X.env = [(false, eval a X.env)] := by rfl) : PI X tg (.Call (.Name "range" p) [a] [] pos) (iRng1 ta) := by
  intro pins s σ H R I h
  refine Call_ (ld_blt I hg hm boot_range (PyProof.Rows.callWith_type1 (thn (ha pos pins s σ H _ I h) fun us s1 ⟨vs, H1, I1, r1, q1⟩ => ?_) hs rfl))
  obtain ⟨j, e, q1, q2, q⟩ := q1
  subst e
  cases r1 with
  | cons r rr =>
    cases rr
    obtain ⟨t, rfl⟩ := r
    exact call_range_1 (range_it I1 (by omega) (by omega) q1 q2 (by simpa using q))
def tFor (wi : TI) (g : TG) (tb : TS) : TS := fun D σ H => wi σ H fun J H1 => ∃ W : Nat → Nat → St → Hp → Prop, (∃ m, W 0 m σ H1) ∧ ∀ i m σ H, W i m σ H →
  (J.stop i H ∧ D.nx σ H) ∨ (J.go i H ∧ ∃ N : St → Hp → Prop, (∀ σ' H', N σ' H' → ∃ m', m' < m ∧ W (i + 1) m' σ' H') ∧ ∀ x H', J.yld i H x H' → g x σ H' fun σ2 H2 => tb { D with nx := N, ct := N, bk := D.nx } σ2 H2)
def pinsAt (fp : List Addr) (h : Heap) : List (Addr × Obj) := fp.filterMap fun b => (h.get? b).map fun o => (b, o)
theorem mem_pinsAt {fp : List Addr} {h : Heap} {b : Addr} {o : Obj} (hb : b ∈ fp) (e : h.get? b = some o) : (b, o) ∈ pinsAt fp h := List.mem_filterMap.mpr ⟨b, hb, by rw [e]; rfl⟩
theorem of_pinsAt {fp : List Addr} {h : Heap} {p : Addr × Obj} (hp : p ∈ pinsAt fp h) : p.1 ∈ fp ∧ h.get? p.1 = some p.2 := by
  obtain ⟨b, hb, e⟩ := List.mem_filterMap.mp hp
  cases q : h.get? b with
  | none => rw [q] at e; cases e
  | some o =>
    rw [q] at e
    have e' : (b, o) = p := Option.some.inj e
    subst e'
    exact ⟨hb, q⟩
theorem Inv.pinned {pins : List (Addr × Obj)} {σ : St} {H : Hp} {s : Shared} {fp : List Addr} (I : Inv X pins σ H s) (hf : ∀ b ∈ fp, FpOk X pins H b) (ho : ∀ b ∈ fp, ∃ o, s.heap.get? b = some o ∧ ∀ v, o.data ≠ .cell v) : Inv X (pins ++ pinsAt fp s.heap) σ H s :=
  I.pins_of fun p hp => (List.mem_append.mp hp).elim (fun z => I.pin p (List.mem_append_right _ z)) fun z => by
    obtain ⟨hb, e⟩ := of_pinsAt z
    obtain ⟨f0, f1, f2, _⟩ := hf p.1 hb
    obtain ⟨o, e', d⟩ := ho p.1 hb
    rw [e] at e'; cases e'
    exact ⟨e, f0, f1, f2, d⟩
theorem Inv.unpinned {pins pl : List (Addr × Obj)} {σ : St} {H : Hp} {s : Shared} (I : Inv X (pins ++ pl) σ H s) : Inv X pins σ H s := I.pins_of fun p hp => I.pin p (List.mem_append_right _ (List.mem_append_left _ hp))
theorem ps_for {iter : Expr} {body : List Stmt} {wi : TI} {g : TG} {tb : TS} {pos : Pos} (hp : PassesOwn (model X.prog X.w) X.A X.env X.xe) (hc : X.calm = true) (hi : PI X tg iter wi) (hg : PG X tg g) (hb : PSs X body tb)
    (hs : ∀ x, foldedSetIterable iter X.env x = pure x := by intro _; rfl) : PS X (.For tg iter body [] pos) (tFor wi g tb) := by
  intro pins s σ H D I h
  refine wpAny_For (thn (hi pins s σ H _ I h) fun v s1 h1 => thn h1 fun itv s2 h2 => ?_) hs
  obtain ⟨it, fp, tn, J, H2, e, I2, T, st2, f2, W, ⟨m0, w0⟩, turn⟩ := h2
  subst e
  have stat : ∀ {H' : Hp}, (∀ b ∈ fp, H' b = none) → ∀ b ∈ fp, FpOk X pins H' b := fun hn b hb => ⟨hn b hb, (f2 b hb).2⟩
  refine codeAny_forLoop_any (fun n s' => ∃ i σ' H', Inv X pins σ' H' s' ∧ tn i s'.heap ∧ (∀ b ∈ fp, H' b = none) ∧ W i n σ' H') ?_ m0 ⟨0, σ, H2, I2, st2, fun b hb => (f2 b hb).1, w0⟩
  rintro n s3 ⟨i, σ3, H3, I3, st3, fr3, w3⟩
  rcases turn i n σ3 H3 w3 with ⟨stop, qn⟩ | ⟨go, N, hN, step⟩
  · refine wpAny_passesOwn hp (thn (T.done X rfl rfl rfl hc i pins s3 σ3 H3 X.xe I3 (stat fr3) st3 stop) fun r s4 ⟨hr, I4⟩ => ?_)
    subst hr
    exact wpAny_execs_nil ⟨σ3, H3, I4, qn⟩
  · refine wpAny_passesOwn hp (thn (T.item X rfl rfl rfl hc i pins s3 σ3 H3 X.xe I3 (stat fr3) st3 go) fun r s4 ⟨u, hr, h4⟩ => ?_)
    subst hr
    refine wpAny_passesOwn hp (thn h4 fun _ s5 ⟨x, H5, I5, r5, y5, st5, fr5⟩ => ?_)
    have I5' := I5.pinned (stat fr5) (T.obj _ _ st5)
    refine wpAny_passesOwn hp (thn (hg _ s5 σ3 H5 x u _ I5' r5 (step x H5 y5)) fun _ s6 ⟨σ6, H6, I6, q6⟩ => ?_)
    refine wpAny_passesOwn hp (thn (hb _ s6 σ6 H6 _ I6 q6) fun f s7 q7 => ?_)
    have again : ∀ {σ7 : St} {H7 : Hp}, Inv X (pins ++ pinsAt fp s5.heap) σ7 H7 s7 → N σ7 H7 → ∃ m, m < n ∧ ∃ i σ' H', Inv X pins σ' H' s7 ∧ tn i s7.heap ∧ (∀ b ∈ fp, H' b = none) ∧ W i m σ' H' := fun {σ7 H7} I7 n7 => by
      obtain ⟨m', hm, w7⟩ := hN σ7 H7 n7
      refine ⟨m', hm, i + 1, σ7, H7, I7.unpinned, T.keep _ _ _ st5 fun b hb o e => (I7.pin (b, o) (List.mem_append_right _ (List.mem_append_right _ (mem_pinsAt hb e)))).1, fun b hb => ?_, w7⟩
      obtain ⟨o, e, d⟩ := T.obj _ _ st5 b hb
      exact (I7.pin (b, o) (List.mem_append_right _ (List.mem_append_right _ (mem_pinsAt hb e)))).2.1
    cases f with
    | next => obtain ⟨σ7, H7, I7, n7⟩ := q7; exact again I7 n7
    | cont => obtain ⟨σ7, H7, I7, n7⟩ := q7; exact again I7 n7
    | brk => obtain ⟨σ7, H7, I7, q7⟩ := q7; exact ⟨σ7, H7, I7.unpinned, q7⟩
    | ret v => obtain ⟨x7, σ7, H7, I7, r7, q7⟩ := q7; exact ⟨x7, σ7, H7, I7.unpinned, r7, q7⟩
end
theorem for_list {K : PySem.W.Frag} {a : Addr} {xs : List V} {g : TG} {tb : TS} {D : Ends} {σ : St} {H : Hp} (Pv : Nat → St → Hp → Prop) (h0 : Pv 0 σ H) (hl : ∀ i σ H, i ≤ xs.length → Pv i σ H → SqL K H a xs)
    (hs : ∀ i x σ H, xs[i]? = some x → Pv i σ H → g x σ H fun σ2 H2 => tb { D with nx := Pv (i + 1), ct := Pv (i + 1), bk := D.nx } σ2 H2) (hd : ∀ σ H, Pv xs.length σ H → D.nx σ H) :
    ∃ W : Nat → Nat → St → Hp → Prop, (∃ m, W 0 m σ H) ∧ ∀ i m σ H, W i m σ H →
      ((Itl K a).stop i H ∧ D.nx σ H) ∨ ((Itl K a).go i H ∧ ∃ N : St → Hp → Prop, (∀ σ' H', N σ' H' → ∃ m', m' < m ∧ W (i + 1) m' σ' H') ∧ ∀ x H', (Itl K a).yld i H x H' → g x σ H' fun σ2 H2 => tb { D with nx := N, ct := N, bk := D.nx } σ2 H2) := by
  refine ⟨fun i m σ H => m = xs.length - i ∧ i ≤ xs.length ∧ Pv i σ H, ⟨xs.length, by simp, Nat.zero_le _, h0⟩, ?_⟩
  rintro i m σ H ⟨rfl, hi, p⟩
  have q := hl i σ H hi p
  by_cases hlt : i < xs.length
  · refine .inr ⟨⟨xs, xs[i], q, by simp [hlt]⟩, Pv (i + 1), fun σ' H' p' => ⟨xs.length - (i + 1), by omega, rfl, hlt, p'⟩, fun x H' y => ?_⟩
    obtain ⟨e, y⟩ := y
    subst e
    exact hs i x σ _ (y xs q) p
  · have e : i = xs.length := by omega
    subst e
    exact .inl ⟨⟨xs, q, Nat.le_refl _⟩, hd σ H p⟩
theorem for_tup {K : PySem.W.Frag} {a : Addr} {xs : List V} {g : TG} {tb : TS} {D : Ends} {σ : St} {H : Hp} (Pv : Nat → St → Hp → Prop) (h0 : Pv 0 σ H) (hl : ∀ i σ H, i ≤ xs.length → Pv i σ H → SqT K H a xs)
    (hs : ∀ i x σ H, xs[i]? = some x → Pv i σ H → g x σ H fun σ2 H2 => tb { D with nx := Pv (i + 1), ct := Pv (i + 1), bk := D.nx } σ2 H2) (hd : ∀ σ H, Pv xs.length σ H → D.nx σ H) :
    ∃ W : Nat → Nat → St → Hp → Prop, (∃ m, W 0 m σ H) ∧ ∀ i m σ H, W i m σ H →
      ((Itt K a).stop i H ∧ D.nx σ H) ∨ ((Itt K a).go i H ∧ ∃ N : St → Hp → Prop, (∀ σ' H', N σ' H' → ∃ m', m' < m ∧ W (i + 1) m' σ' H') ∧ ∀ x H', (Itt K a).yld i H x H' → g x σ H' fun σ2 H2 => tb { D with nx := N, ct := N, bk := D.nx } σ2 H2) := by
  refine ⟨fun i m σ H => m = xs.length - i ∧ i ≤ xs.length ∧ Pv i σ H, ⟨xs.length, by simp, Nat.zero_le _, h0⟩, ?_⟩
  rintro i m σ H ⟨rfl, hi, p⟩
  have q := hl i σ H hi p
  by_cases hlt : i < xs.length
  · refine .inr ⟨⟨xs, xs[i], q, by simp [hlt]⟩, Pv (i + 1), fun σ' H' p' => ⟨xs.length - (i + 1), by omega, rfl, hlt, p'⟩, fun x H' y => ?_⟩
    obtain ⟨e, y⟩ := y
    subst e
    exact hs i x σ _ (y xs q) p
  · have e : i = xs.length := by omega
    subst e
    exact .inl ⟨⟨xs, q, Nat.le_refl _⟩, hd σ H p⟩
theorem for_range {lo : Int} {n : Nat} {g : TG} {tb : TS} {D : Ends} {σ : St} {H : Hp} (Pv : Nat → St → Hp → Prop) (h0 : Pv 0 σ H)
    (hs : ∀ i σ H, i < n → Pv i σ H → g (.int (lo + i)) σ H fun σ2 H2 => tb { D with nx := Pv (i + 1), ct := Pv (i + 1), bk := D.nx } σ2 H2) (hd : ∀ σ H, Pv n σ H → D.nx σ H) :
    ∃ W : Nat → Nat → St → Hp → Prop, (∃ m, W 0 m σ H) ∧ ∀ i m σ H, W i m σ H →
      ((Itr lo n).stop i H ∧ D.nx σ H) ∨ ((Itr lo n).go i H ∧ ∃ N : St → Hp → Prop, (∀ σ' H', N σ' H' → ∃ m', m' < m ∧ W (i + 1) m' σ' H') ∧ ∀ x H', (Itr lo n).yld i H x H' → g x σ H' fun σ2 H2 => tb { D with nx := N, ct := N, bk := D.nx } σ2 H2) := by
  refine ⟨fun i m σ H => m = n - i ∧ i ≤ n ∧ Pv i σ H, ⟨n, by simp, Nat.zero_le _, h0⟩, ?_⟩
  rintro i m σ H ⟨rfl, hi, p⟩
  by_cases hlt : i < n
  · refine .inr ⟨hlt, Pv (i + 1), fun σ' H' p' => ⟨n - (i + 1), by omega, rfl, hlt, p'⟩, fun x H' y => ?_⟩
    obtain ⟨e, y⟩ := y
    subst e y
    exact hs i σ _ hlt p
  · have e : i = n := by omega
    subst e
    exact .inl ⟨Nat.le_refl _, hd σ H p⟩
end L2
namespace L2
open PySem PySem.Spec PyProof.Rows
abbrev R2 := V → V → Hp → VK → Prop
def OpR (X : Cx) (f : Value → Value → Sem Value) (r : R2) : Prop :=
  ∀ (pins : List (Addr × Obj)) (s : Shared) (σ : St) (H : Hp) (x y : V) (v u : Value) (Q : VK), Inv X pins σ H s → RelV x v → RelV y u → r x y H Q →
    wpAny (model X.prog X.w) X.A (f v u) (EP X pins σ Q) X.xe s
def UnR (X : Cx) (f : Value → Sem Value) (r : V → Hp → VK → Prop) : Prop :=
  ∀ (pins : List (Addr × Obj)) (s : Shared) (σ : St) (H : Hp) (x : V) (v : Value) (Q : VK), Inv X pins σ H s → RelV x v → r x H Q →
    wpAny (model X.prog X.w) X.A (f v) (EP X pins σ Q) X.xe s
def CallR (X : Cx) (f : Value) (r : List V → Hp → VK → Prop) : Prop :=
  ∀ (pins : List (Addr × Obj)) (s : Shared) (σ : St) (H : Hp) (xs : List V) (us : List Value) (Q : VK), Inv X pins σ H s → Vals xs us → r xs H Q →
    wpAny (model X.prog X.w) X.A (call f us) (EP X pins σ Q) X.xe s
def tOp (r : R2) (ta tb : TE) : TE := fun σ H Q => ta σ H fun x H1 => tb σ H1 fun y H2 => r x y H2 Q
def tUn (r : V → Hp → VK → Prop) (ta : TE) : TE := fun σ H Q => ta σ H fun x H1 => r x H1 Q
def rI (C : Int → Int → Prop) (g : Int → Int → V) : R2 := fun x y H Q => ∃ i j, x = .int i ∧ y = .int j ∧ C i j ∧ Q (g i j) H
def rI0 (g : Int → Int → V) : R2 := fun x y H Q => ∃ i j, x = .int i ∧ y = .int j ∧ Q (g i j) H
def rU (g : Int → V) : V → Hp → VK → Prop := fun x H Q => ∃ i, x = .int i ∧ Q (g i) H
section
variable {X : Cx} {a b c : Expr} {ta tb tc : TE} {pos : Pos}
theorem binT (ha : PE X a ta) (hb : PE X b tb) {pins : List (Addr × Obj)} {s : Shared} {σ : St} {H : Hp} {R : V → V → Hp → Prop} (I : Inv X pins σ H s)
    (h : ta σ H fun x H1 => tb σ H1 fun y H2 => R x y H2) {Q : Value → Shared → Prop} {f : Value → Value → Sem Value}
    (hf : ∀ v u s2 x y H2, Inv X pins σ H2 s2 → RelV x v → RelV y u → R x y H2 → wpAny (model X.prog X.w) X.A (f v u) Q X.xe s2) :
    wpAny (model X.prog X.w) X.A (eval a X.env) (fun v s₁ => wpAny (model X.prog X.w) X.A (eval b X.env) (fun u s₂ => wpAny (model X.prog X.w) X.A (f v u) Q X.xe s₂) X.xe s₁) X.xe s := by
  refine thn (ha pins s σ H _ I h) fun v s1 ⟨x, H1, I1, r1, q1⟩ => ?_
  refine thn (hb pins s1 σ H1 _ I1 q1) fun u s2 ⟨y, H2, I2, r2, q2⟩ => ?_
  exact hf v u s2 x y H2 I2 r1 r2 q2
theorem pe_op {op : Operator} {r : R2} (ho : OpR X (binaryOp op) r) (ha : PE X a ta) (hb : PE X b tb) : PE X (.BinOp a op b pos) (tOp r ta tb) := by
  intro pins s σ H Q I h
  exact wpAny_BinOp (binT ha hb I h fun v u s2 x y H2 I2 rx ry q => ho pins s2 σ H2 x y v u Q I2 rx ry q)
theorem pe_un {op : UnaryOp} {r : V → Hp → VK → Prop} (ho : UnR X (unaryOp op) r) (ha : PE X a ta) : PE X (.UnaryOp op a pos) (tUn r ta) := by
  intro pins s σ H Q I h
  exact UnaryOp_ (thn (ha pins s σ H _ I h) fun v s1 ⟨x, H1, I1, r1, q1⟩ => ho pins s1 σ H1 x v Q I1 r1 q1)
theorem opI {f : Value → Value → Sem Value} {C : Int → Int → Prop} {g : Int → Int → Int}
    (rule : ∀ (i j : Int) (t u : Tok) (s : Shared) (Q : Value → Shared → Prop) (E : Value → Shared → Prop), C i j → Q (.int (g i j) s.toks) { s with toks := s.toks + 1 } → wpAny (model X.prog X.w) X.A (f (.int i t) (.int j u)) Q E s) :
    OpR X f (rI C fun i j => .int (g i j)) := by
  intro pins s σ H x y v u Q I rx ry h
  obtain ⟨i, j, rfl, rfl, hc, q⟩ := h
  obtain ⟨t, rfl⟩ := rx
  obtain ⟨t', rfl⟩ := ry
  exact rule i j t t' s _ _ hc ⟨.int (g i j), H, I.tok _, ⟨_, rfl⟩, q⟩
theorem opI0 {f : Value → Value → Sem Value} {g : Int → Int → Int}
    (rule : ∀ (i j : Int) (t u : Tok) (s : Shared) (Q : Value → Shared → Prop) (E : Value → Shared → Prop), Q (.int (g i j) s.toks) { s with toks := s.toks + 1 } → wpAny (model X.prog X.w) X.A (f (.int i t) (.int j u)) Q E s) :
    OpR X f (rI0 fun i j => .int (g i j)) := by
  intro pins s σ H x y v u Q I rx ry h
  obtain ⟨i, j, rfl, rfl, q⟩ := h
  obtain ⟨t, rfl⟩ := rx
  obtain ⟨t', rfl⟩ := ry
  exact rule i j t t' s _ _ ⟨.int (g i j), H, I.tok _, ⟨_, rfl⟩, q⟩
theorem opB0 {f : Value → Value → Sem Value} {g : Int → Int → Bool}
    (rule : ∀ (i j : Int) (t u : Tok) (s : Shared) (Q : Value → Shared → Prop) (E : Value → Shared → Prop), Q (.bool (g i j)) s → wpAny (model X.prog X.w) X.A (f (.int i t) (.int j u)) Q E s) :
    OpR X f (rI0 fun i j => .bl (g i j)) := by
  intro pins s σ H x y v u Q I rx ry h
  obtain ⟨i, j, rfl, rfl, q⟩ := h
  obtain ⟨t, rfl⟩ := rx
  obtain ⟨t', rfl⟩ := ry
  exact rule i j t t' s _ _ ⟨.bl (g i j), H, I, rfl, q⟩
def CDiv (i j : Int) : Prop := 0 < j ∧ j < 1073741824
def CPow (i j : Int) : Prop := 0 ≤ j ∧ j ≤ 1000000 ∧ i.natAbs < 2 ^ 64
def CMul (i j : Int) : Prop := (-(2 ^ 64) < i ∧ i < 2 ^ 64) ∨ (-(2 ^ 64) < j ∧ j < 2 ^ 64)
theorem CMul.ok {i j : Int} (h : CMul i j) : IntMulOk i j := by
  rcases h with ⟨h1, h2⟩ | ⟨h1, h2⟩
  · exact .of_left (intBits_le_64 h1 h2)
  · exact .of_right (intBits_le_64 h1 h2)
theorem op_add : OpR X (binaryOp .Add) (rI0 fun i j => .int (i + j)) := opI0 fun _ _ _ _ _ _ _ q => add_int q
theorem op_sub : OpR X (binaryOp .Sub) (rI0 fun i j => .int (i - j)) := opI0 fun _ _ _ _ _ _ _ q => sub_int q
theorem op_mul : OpR X (binaryOp .Mult) (rI CMul fun i j => .int (i * j)) := opI fun _ _ _ _ _ _ _ hc q => mul_int q hc.ok
theorem op_fdiv : OpR X (binaryOp .FloorDiv) (rI CDiv fun i j => .int (i / j)) := opI fun i j _ _ _ _ _ hc q => by
  have h1 : (0 : Int) < j := hc.1
  have h2 : j < 1073741824 := hc.2
  exact floordiv_int (by omega) (by rw [Int.fdiv_eq_ediv_of_nonneg i (by omega)]; exact q) (.inl (PyProof.noPylong_small (by omega)))
theorem op_mod : OpR X (binaryOp .Mod) (rI (fun _ j => 0 < j) fun i j => .int (i % j)) := opI fun i j _ _ _ _ _ hc q => by
  have h1 : (0 : Int) < j := hc
  exact mod_int' (by omega) (by rw [Int.fmod_eq_emod_of_nonneg i (by omega)]; exact q)
theorem op_pow : OpR X (binaryOp .Pow) (rI CPow fun i j => .int (i ^ j.toNat)) := opI fun _ _ _ _ _ _ _ hc q => pow_int_small hc.1 hc.2.1 hc.2.2 q
theorem unI {f : Value → Sem Value} {g : Int → Int}
    (rule : ∀ (i : Int) (t : Tok) (s : Shared) (Q : Value → Shared → Prop) (E : Value → Shared → Prop), Q (.int (g i) s.toks) { s with toks := s.toks + 1 } → wpAny (model X.prog X.w) X.A (f (.int i t)) Q E s) :
    UnR X f (rU fun i => .int (g i)) := by
  intro pins s σ H x v Q I rx h
  obtain ⟨i, rfl, q⟩ := h
  obtain ⟨t, rfl⟩ := rx
  exact rule i t s _ _ ⟨.int (g i), H, I.tok _, ⟨_, rfl⟩, q⟩
theorem un_neg : UnR X (unaryOp .USub) (rU fun i => .int (-i)) := unI fun _ _ _ _ _ q => neg_int q
end
def scal : V → V → Bool
  | .non, .non => true | .non, .int _ => true | .int _, .non => true | .non, .bl _ => true | .bl _, .non => true | .non, .str _ => true | .str _, .non => true
  | .int _, .int _ => true | .bl _, .bl _ => true | .str _, .str _ => true | .byt _, .byt _ => true
  | .int _, .str _ => true | .str _, .int _ => true | .bl _, .str _ => true | .str _, .bl _ => true
  | _, _ => false
def rEq : R2 := fun x y H Q => scal x y = true ∧ Q (.bl (decide (x = y))) H
def rNe : R2 := fun x y H Q => scal x y = true ∧ Q (.bl (!decide (x = y))) H
theorem dec_int {i j : Int} : decide (V.int i = V.int j) = (i == j) := by
  rw [Bool.eq_iff_iff]
  simp
theorem dec_bl {i j : Bool} : decide (V.bl i = V.bl j) = (i == j) := by
  rw [Bool.eq_iff_iff]
  simp
theorem dec_str {i j : Str} : decide (V.str i = V.str j) = (i == j) := by
  rw [Bool.eq_iff_iff]
  simp
theorem dec_byt {i j : Array UInt8} : decide (V.byt i = V.byt j) = (i.toList == j.toList) := by
  rw [Bool.eq_iff_iff]
  cases i
  cases j
  simp
section
variable {X : Cx} {a b c : Expr} {ta tb tc : TE} {pos : Pos}
theorem fin_bl {pins : List (Addr × Obj)} {σ : St} {H : Hp} {s : Shared} {Q : VK} {k k' : Bool} (I : Inv X pins σ H s) (q : Q (.bl k) H) (e : k = k') : EP X pins σ Q (.bool k') s := by
  subst e
  exact ⟨.bl k, H, I, rfl, q⟩
theorem op_eq : OpR X (compareOp .Eq) rEq := by
  intro pins s σ H x y v u Q I rx ry h
  obtain ⟨hs, q⟩ := h
  cases x with
  | non =>
    cases rx
    cases y with
    | non => cases ry; exact PySem.EqNone.eq_none_none (fin_bl I q (by simp))
    | bl j => cases ry; exact PySem.EqNone.eq_none_bool (fin_bl I q (by simp))
    | int j => obtain ⟨t', rfl⟩ := ry; exact PySem.EqNone.eq_none_int (fin_bl I q (by simp))
    | str j => obtain ⟨t', rfl⟩ := ry; exact PySem.EqNone.eq_none_str (fin_bl I q (by simp))
    | _ => exact absurd (show false = true from hs) Bool.false_ne_true
  | bl i =>
    cases rx
    cases y with
    | non => cases ry; exact PySem.EqNone.eq_bool_none (fin_bl I q (by simp))
    | bl j => cases ry; exact eq_bool (fin_bl I q dec_bl)
    | str j => obtain ⟨t', rfl⟩ := ry; exact PySem.EqMixed.eq_bool_str (fin_bl I q (by simp))
    | _ => exact absurd (show false = true from hs) Bool.false_ne_true
  | int i =>
    obtain ⟨t, rfl⟩ := rx
    cases y with
    | non => cases ry; exact PySem.EqNone.eq_int_none (fin_bl I q (by simp))
    | int j => obtain ⟨t', rfl⟩ := ry; exact eq_int (fin_bl I q dec_int)
    | str j => obtain ⟨t', rfl⟩ := ry; exact PySem.EqMixed.eq_int_str (fin_bl I q (by simp))
    | _ => exact absurd (show false = true from hs) Bool.false_ne_true
  | str i =>
    obtain ⟨t, rfl⟩ := rx
    cases y with
    | non => cases ry; exact PySem.EqNone.eq_str_none (fin_bl I q (by simp))
    | bl j => cases ry; exact PySem.EqMixed.eq_str_bool (fin_bl I q (by simp))
    | int j => obtain ⟨t', rfl⟩ := ry; exact PySem.EqMixed.eq_str_int (fin_bl I q (by simp))
    | str j => obtain ⟨t', rfl⟩ := ry; exact eq_str (fin_bl I q dec_str)
    | _ => exact absurd (show false = true from hs) Bool.false_ne_true
  | byt i =>
    obtain ⟨t, rfl⟩ := rx
    cases y with
    | byt j => obtain ⟨t', rfl⟩ := ry; exact PySem.W.eq_bytes (fin_bl I q dec_byt)
    | _ => exact absurd (show false = true from hs) Bool.false_ne_true
  | _ => cases y <;> exact absurd (show false = true from hs) Bool.false_ne_true
theorem op_ne : OpR X (compareOp .NotEq) rNe := by
  intro pins s σ H x y v u Q I rx ry h
  obtain ⟨hs, q⟩ := h
  cases x with
  | non =>
    cases rx
    cases y with
    | non => cases ry; exact PySem.EqNone.ne_none_none (fin_bl I q (by simp))
    | bl j => cases ry; exact PySem.EqNone.ne_none_bool (fin_bl I q (by simp))
    | int j => obtain ⟨t', rfl⟩ := ry; exact PySem.EqNone.ne_none_int (fin_bl I q (by simp))
    | str j => obtain ⟨t', rfl⟩ := ry; exact PySem.EqNone.ne_none_str (fin_bl I q (by simp))
    | _ => exact absurd (show false = true from hs) Bool.false_ne_true
  | bl i =>
    cases rx
    cases y with
    | non => cases ry; exact PySem.EqNone.ne_bool_none (fin_bl I q (by simp))
    | bl j => cases ry; exact ne_bool (fin_bl I q (congrArg not dec_bl))
    | str j => obtain ⟨t', rfl⟩ := ry; exact PySem.EqMixed.ne_bool_str (fin_bl I q (by simp))
    | _ => exact absurd (show false = true from hs) Bool.false_ne_true
  | int i =>
    obtain ⟨t, rfl⟩ := rx
    cases y with
    | non => cases ry; exact PySem.EqNone.ne_int_none (fin_bl I q (by simp))
    | int j => obtain ⟨t', rfl⟩ := ry; exact ne_int (fin_bl I q (congrArg not dec_int))
    | str j => obtain ⟨t', rfl⟩ := ry; exact PySem.EqMixed.ne_int_str (fin_bl I q (by simp))
    | _ => exact absurd (show false = true from hs) Bool.false_ne_true
  | str i =>
    obtain ⟨t, rfl⟩ := rx
    cases y with
    | non => cases ry; exact PySem.EqNone.ne_str_none (fin_bl I q (by simp))
    | bl j => cases ry; exact PySem.EqMixed.ne_str_bool (fin_bl I q (by simp))
    | int j => obtain ⟨t', rfl⟩ := ry; exact PySem.EqMixed.ne_str_int (fin_bl I q (by simp))
    | str j => obtain ⟨t', rfl⟩ := ry; exact ne_str (fin_bl I q (congrArg not dec_str))
    | _ => exact absurd (show false = true from hs) Bool.false_ne_true
  | byt i =>
    obtain ⟨t, rfl⟩ := rx
    cases y with
    | byt j => obtain ⟨t', rfl⟩ := ry; exact PySem.W.ne_bytes (fin_bl I q (congrArg not dec_byt))
    | _ => exact absurd (show false = true from hs) Bool.false_ne_true
  | _ => cases y <;> exact absurd (show false = true from hs) Bool.false_ne_true
theorem op_lt : OpR X (compareOp .Lt) (rI0 fun i j => .bl (decide (i < j))) := opB0 fun _ _ _ _ _ _ _ q => lt_int q
theorem op_gt : OpR X (compareOp .Gt) (rI0 fun i j => .bl (decide (j < i))) := opB0 fun _ _ _ _ _ _ _ q => gt_int q
theorem op_ge : OpR X (compareOp .GtE) (rI0 fun i j => .bl (decide (j ≤ i))) := opB0 fun _ _ _ _ _ _ _ q => ge_int q
theorem op_notN : OpR X (compareOp .IsNot) (fun x y H Q => y = .non ∧ Q (.bl (!decide (x = .non))) H) := by
  intro pins s σ H x y v u Q I rx ry h
  obtain ⟨rfl, q⟩ := h
  cases ry
  refine isnot_none_gen (fin_bl I q ?_)
  cases x <;> first
    | (cases rx; rfl)
    | (obtain ⟨t, rfl⟩ := rx; rfl)
theorem nomark (b : Expr) {op : CmpOp} (h : op ≠ .In := by decide) (h2 : op ≠ .NotIn := by decide) : behindInMarks op b = false := by
  have e1 : (op == CmpOp.In) = false := by cases op <;> first | rfl | exact absurd rfl h
  have e2 : (op == CmpOp.NotIn) = false := by cases op <;> first | rfl | exact absurd rfl h2
  cases b <;> simp [behindInMarks, e1, e2]
theorem pe_cmpR {op : CmpOp} {r : R2} (ho : OpR X (compareOp op) r) (ha : PE X a ta) (hb : PE X b tb) (hm : behindInMarks op b = false) : PE X (.Compare a [op] [b] pos) (tOp r ta tb) := by
  intro pins s σ H Q I h
  exact wpAny_Compare1 (binT ha hb I h fun v u s2 x y H2 I2 rx ry q => ho pins s2 σ H2 x y v u Q I2 rx ry q) hm
def tTest (t : TE) : TT := fun σ H Q => t σ H fun x H' => ∃ k, x = .bl k ∧ Q k H'
theorem pt_cmpR {op : CmpOp} {r : R2} (ho : OpR X (compareOp op) r) (ha : PE X a ta) (hb : PE X b tb) (hm : behindInMarks op b = false) : PT X (.Compare a [op] [b] pos) (tTest (tOp r ta tb)) := by
  intro pins s σ H Q I h
  refine wpAny_isTrue_Compare1 (thn (ha pins s σ H _ I h) fun v s1 ⟨x, H1, I1, r1, q1⟩ => thn (hb pins s1 σ H1 _ I1 q1) fun u s2 ⟨y, H2, I2, r2, q2⟩ =>
    thn (ho pins s2 σ H2 x y v u _ I2 r1 r2 q2) fun c s3 ⟨z, H3, I3, r3, k, e, q3⟩ => ?_) hm
  subst e
  cases r3
  exact wpAny_truthy_bool ⟨H3, I3, q3⟩
theorem line63 : (sizeLine : Nat) < 2 ^ 63 := by rw [sizeLine_eq]; decide
theorem vals1 {x : V} {us : List Value} (r : Vals [x] us) : ∃ u, us = [u] ∧ RelV x u := by
  cases r with
  | cons r1 r2 => cases r2; exact ⟨_, rfl, r1⟩
theorem vals2 {x y : V} {us : List Value} (r : Vals [x, y] us) : ∃ u w', us = [u, w'] ∧ RelV x u ∧ RelV y w' := by
  cases r with
  | cons r1 r2 =>
    cases r2 with
    | cons r3 r4 => cases r4; exact ⟨_, _, rfl, r1, r3⟩
theorem call_int1 : CallR X (.type "int") (fun xs H Q => (∃ i, xs = [.int i] ∧ Q (.int i) H) ∨ ∃ k, xs = [.bl k] ∧ Q (.int (if k then 1 else 0)) H) := by
  intro pins s σ H xs us Q I r h
  rcases h with ⟨i, rfl, q⟩ | ⟨k, rfl, q⟩
  · obtain ⟨u, rfl, t, rfl⟩ := vals1 r
    exact call_int_int ⟨.int i, H, I, ⟨_, rfl⟩, q⟩
  · obtain ⟨u, rfl, r1⟩ := vals1 r
    cases r1
    exact call_int_bool ⟨.int (if k then 1 else 0), H, I.tok _, ⟨_, rfl⟩, q⟩
end
end L2
namespace L2
open PySem PySem.Spec PyProof.Rows
structure ObjM (h : Heap) (x dx C : Addr) (mA : Str → Option Value) : Prop where
  obj : h.get? x = some (PySem.W.instObj C dx)
  ns : h.Ns1 dx mA
  ne : dx ≠ x
theorem lookIn_ns {h : Heap} {dx : Addr} {mA : Str → Option Value} (n : h.Ns1 dx mA) : ∃ od, h.get? dx = some od ∧ ∀ name, PySem.W.lookIn name od = some (mA name) := by
  obtain ⟨o, es, ep, ho, hd, hk, _, hm⟩ := n
  refine ⟨o, ho, fun name => ?_⟩
  have e := hm name
  unfold nsFind findBy at e
  rw [← Array.find?_toList] at e
  unfold PySem.W.lookIn
  rw [hd]
  dsimp only
  split
  · rename_i y q
    rw [q] at e
    exact congrArg some e
  · rename_i q
    rw [q] at e
    have a : es.toList.any (·.refKey) = false := by
      rw [List.any_eq_false]
      intro y hy
      obtain ⟨z, t, hkey⟩ := hk y (Array.mem_toList_iff.mp hy)
      simp [DictEntry.refKey, hkey]
    have a' : ¬ es.toList.any (·.refKey) = true := by rw [a]; exact Bool.false_ne_true
    rw [if_neg a']
    exact congrArg some e
theorem ObjM.look {h : Heap} {x dx C : Addr} {mA : Str → Option Value} (I : ObjM h x dx C mA) : ∃ od, PySem.W.InstAt h x (PySem.W.instObj C dx) C (some od) ∧ ∀ name, PySem.W.lookIn name od = some (mA name) :=
  let ⟨od, ho, hl⟩ := lookIn_ns I.ns
  ⟨od, ⟨I.obj, rfl, rfl, ho⟩, hl⟩
section
variable {prog : Program} {w : World} {A : Around} {E : Value → Shared → Prop} {s : Shared} {K : PySem.W.Frag} {x dx C f : Addr} {mA : Str → Option Value} {name : Str} {v : Value}
theorem get_map {expr : Bool} {Q : Value → Shared → Prop} (X : K.In s.heap) (I : ObjM s.heap x dx C mA) (hg : PySem.W.plainGet K C name = true) (hh : PySem.W.hasDictIn K C = true)
    (ha : PySem.W.findIn K (.ref C) name = some none) (hv : mA name = some v) (hv' : PySem.W.handedIn v = true) (h : Q v { s with toks := s.toks + 1 }) :
    wpAny (model prog w) A (getAttr (.ref x) name expr) Q E s := by
  obtain ⟨od, J, hl⟩ := I.look
  exact PySem.W.get_value X J (PySem.W.plainGet_of hg).1 (PySem.W.findObj_own hh ha rfl (by rw [hl, hv])) hv' h
theorem get_meth {pl : Sem Bool} {Q : Value × List Value → Shared → Prop} (X : K.In s.heap) (I : ObjM s.heap x dx C mA) (hg : PySem.W.plainGet K C name = true)
    (hf : PySem.W.findIn K (.ref C) name = some (some (.ref f))) (ht : PySem.W.isFn K (.ref f) = true) (hv : mA name = none) (h : Q (.ref f, [.ref x]) s) :
    wpAny (model prog w) A (getMethod (.ref x) name pl) Q E s := by
  obtain ⟨od, J, hl⟩ := I.look
  exact PySem.W.method_fn X J (PySem.W.plainGet_of hg).1 (PySem.W.plainGet_of hg).2 hf (beq_iff_eq.mp ht) (by show (PySem.W.lookIn name od).map (·.isSome) = some false; rw [hl, hv]; rfl) h
theorem set_map {ns : List Str} {Q : Unit → Shared → Prop} (X : K.In s.heap) (I : ObjM s.heap x dx C mA)
    (hs : PySem.W.findIn K (.ref C) "__setattr__" = some (some (.builtin "object.__setattr__"))) (hp : PySem.W.plainOver K C = true) (ht : PySem.W.takerIn K C name = some none) (hh : PySem.W.hasDictIn K C = true)
    (hw : PySem.Within mA ns) (hsz : ns.length ≤ sizeLine)
    (h : ∀ h', ObjM h' x dx C (fun y => if y = name then some v else mA y) → Heap.SameBut dx s.heap h' → Q () { s with heap := h', toks := s.toks + 2 }) :
    wpAny (model prog w) A (setAttr (.ref x) name v) Q E s := by
  obtain ⟨od, J, hl⟩ := I.look
  refine PySem.W.set_plain X J hs (PySem.W.osa_open (s := { s with toks := s.toks + 1 }) (r := none) X J hp ht fun b => ?_)
  obtain ⟨cd, hc, hd'⟩ := PySem.W.any_some hh
  have hx : s.heap.get? x = some ⟨.ref C, some dx, .plain, #[]⟩ := I.obj
  refine wpAny_bind (wpAny_pure (wpAny_bind (wpAny_bind (wpAny_loadPart hx (wpAny_bind (PySem.W.Looks.here (s := { s with toks := s.toks + 1 }) (PySem.W.looks_clsIn X hc) ?_))))))
  rw [hd']
  refine wpAny_pure (a := some dx) (wpAny_bind (wpAny_pure (wpAny_bind ?_)))
  refine wpAny_nsSet1 (s := { s with toks := s.toks + 1 }) I.ns fun h' hn2 hs2 => ?_
  obtain ⟨oD, esD, epD, hoD, hdD, hcD⟩ := hn2.count (PySem.Within.cons name v hw)
  refine wpAny_bind (wpAny_lookBehind hoD (by rw [hdD]; exact pastItsLine_dict (Nat.le_trans hcD (by rw [List.length_cons]; omega))) ?_)
  exact wpAny_pure (h _ ⟨(hs2.2 _ (Ne.symm I.ne)).trans I.obj, hn2, I.ne⟩ hs2)
theorem make_map {R : Result → Shared → Prop} {vs : List Value} {kw : List (Str × Value)} (X : K.In s.heap) (hm : PySem.W.makesIn K C = true)
    (hi : PySem.W.findIn K (.ref C) "__init__" = some (some (.ref f))) (hf : PySem.W.typeIn K (.ref f) = some (.type "function"))
    (h : codeAny (model prog w) (A.under (.builtin "type.__call__" ⟨.ref C :: vs, kw⟩)) (.call (.ref f) ⟨.ref (s.heap.objs.size + 1) :: vs, kw⟩) (PySem.W.InitBack (s.heap.objs.size + 1) R)
      { s with heap := (s.heap.push PySem.W.emptyDict).push (PySem.W.instObj C s.heap.objs.size) }) :
    codeAny (model prog w) A (.call (.ref C) ⟨vs, kw⟩) R s := by
  obtain ⟨hh, g, d, t, os⟩ := s
  exact PySem.W.make_core (PySem.W.makes_of X hm) (PySem.W.looks_findIn X hi) (fun self => PySem.W.bind_fn X self hf) (.inl rfl) h
end
def putF (f : Str) (v : V) : List (Str × V) → List (Str × V)
  | [] => [(f, v)]
  | (g, x) :: r => if g = f then (g, v) :: r else (g, x) :: putF f v r
theorem lookup_putF (f g : Str) (v : V) : ∀ fs : List (Str × V), (putF f v fs).lookup g = if g = f then some v else fs.lookup g
  | [] => by
    show List.lookup g [(f, v)] = _
    by_cases h : g = f
    · have hb : (g == f) = true := beq_iff_eq.mpr h
      simp only [List.lookup, hb, if_pos h]
    · have hb : (g == f) = false := beq_eq_false_iff_ne.mpr h
      simp only [List.lookup, hb, if_neg h]
  | (k, x) :: r => by
    have ih := lookup_putF f g v r
    rw [show putF f v ((k, x) :: r) = (if k = f then (k, v) :: r else (k, x) :: putF f v r) from rfl]
    by_cases hk : k = f
    · rw [if_pos hk]
      by_cases h : g = k
      · have hb : (g == k) = true := beq_iff_eq.mpr h
        simp only [List.lookup, hb, if_pos (h.trans hk)]
      · have hb : (g == k) = false := beq_eq_false_iff_ne.mpr h
        simp only [List.lookup, hb, if_neg (fun e : g = f => h (e.trans hk.symm))]
    · rw [if_neg hk]
      by_cases h : g = k
      · have hb : (g == k) = true := beq_iff_eq.mpr h
        simp only [List.lookup, hb, if_neg (fun e : g = f => hk (h.symm.trans e))]
      · have hb : (g == k) = false := beq_eq_false_iff_ne.mpr h
        simp only [List.lookup, hb]
        exact ih
theorem keys_putF (f : Str) (v : V) : ∀ fs : List (Str × V), f ∈ (putF f v fs).map (·.1) ∧ ∀ g, g ∈ fs.map (·.1) → g ∈ (putF f v fs).map (·.1)
  | [] => ⟨by simp [putF], fun g h => by simp at h⟩
  | (k, x) :: r => by
    obtain ⟨i1, i2⟩ := keys_putF f v r
    rw [show putF f v ((k, x) :: r) = (if k = f then (k, v) :: r else (k, x) :: putF f v r) from rfl]
    by_cases hk : k = f
    · rw [if_pos hk]
      subst hk
      exact ⟨by simp, fun g h => by simpa using h⟩
    · rw [if_neg hk]
      refine ⟨?_, fun g h => ?_⟩
      · rw [List.map_cons]
        exact List.mem_cons_of_mem _ i1
      · rw [List.map_cons] at h ⊢
        rcases List.mem_cons.mp h with e | e
        · exact List.mem_cons.mpr (.inl e)
        · exact List.mem_cons_of_mem _ (i2 g e)
theorem length_putF (f : Str) (v : V) : ∀ fs : List (Str × V), (putF f v fs).length ≤ fs.length + 1
  | [] => by simp [putF]
  | (k, x) :: r => by
    have ih := length_putF f v r
    rw [show putF f v ((k, x) :: r) = (if k = f then (k, v) :: r else (k, x) :: putF f v r) from rfl]
    by_cases hk : k = f
    · rw [if_pos hk, List.length_cons, List.length_cons]; omega
    · rw [if_neg hk, List.length_cons, List.length_cons]; omega
theorem RelO.some_of {v : V} {o : Option Value} (r : RelO (some v) o) : ∃ u, o = some u ∧ RelV v u := by
  cases o with
  | none => exact (show False from r).elim
  | some u => exact ⟨u, rfl, r⟩
theorem RelO.none_of {o : Option Value} (r : RelO none o) : o = none := by
  cases o with
  | none => rfl
  | some u => exact (show False from r).elim
theorem handed_of {v : V} {u : Value} (r : RelV v u) : PySem.W.handedIn u = true := by
  cases v with
  | non => cases (show u = Value.none from r); rfl
  | bl b => cases (show u = Value.bool b from r); rfl
  | int i => obtain ⟨t, e⟩ := (show ∃ t, u = Value.int i t from r); cases e; rfl
  | str x => obtain ⟨t, e⟩ := (show ∃ t, u = Value.str x t from r); cases e; rfl
  | byt b => obtain ⟨t, e⟩ := (show ∃ t, u = Value.bytes b t from r); cases e; rfl
  | flt b => obtain ⟨t, e⟩ := (show ∃ t, u = Value.float b t from r); cases e; rfl
  | ref a => cases (show u = Value.ref a from r); rfl
  | ty n => cases (show u = Value.type n from r); rfl
section
variable {P : Program} {w : World} {H H' : Hp} {h h' : Heap} {a C dx : Addr} {fs fs' : List (Str × V)}
theorem ins_get (hok : HOk P w H h) (e : H a = some (.ins C dx fs)) : ∃ mA, ObjM h a dx C mA ∧ (∀ f, RelO (fs.lookup f) (mA f)) ∧ PySem.Within mA (fs.map (·.1)) ∧ fs.length ≤ 1000 ∧ H dx = some (.own a) := by
  obtain ⟨d, z, ne, ob, mA, n, r, q⟩ := (show ObjOk P w H h a (.ins C dx fs) from hok a _ e)
  exact ⟨mA, ⟨ob, n, ne⟩, r, q, z, d⟩
end
structure Cls (K : PySem.W.Frag) (C : Addr) : Prop where
  pg : PySem.W.plainGet K C Str.empty = true
  hd : PySem.W.hasDictIn K C = true
  po : PySem.W.plainOver K C = true
  sa : PySem.W.findIn K (.ref C) "__setattr__" = some (some (.builtin "object.__setattr__"))
theorem Cls.get {K : PySem.W.Frag} {C : Addr} (c : Cls K C) (f : Str) : PySem.W.plainGet K C f = true := c.pg
def NoAttr (K : PySem.W.Frag) (C : Addr) (f : Str) : Prop := PySem.W.findIn K (.ref C) f = some none
theorem NoAttr.taker {K : PySem.W.Frag} {C : Addr} {f : Str} (n : NoAttr K C f) : PySem.W.takerIn K C f = some none := by
  unfold PySem.W.takerIn
  rw [show PySem.W.findIn K (.ref C) f = some none from n]
  rfl
structure Con (K : PySem.W.Frag) (C : Addr) (f : Str) (v : V) (u : Value) : Prop where
  at_ : PySem.W.findIn K (.ref C) f = some (some u)
  rel : RelV v u
  get : PySem.W.specialIn K u "__get__" = some none
  cp : PySem.W.copiedNames.contains f = false
structure Meth (K : PySem.W.Frag) (C : Addr) (m : Str) (f : Addr) : Prop where
  at_ : PySem.W.findIn K (.ref C) m = some (some (.ref f))
  fn : PySem.W.isFn K (.ref f) = true
  kp : PySem.W.keepIn K (.ref f) = true
section
variable {X : Cx} {pins : List (Addr × Obj)} {σ : St} {H : Hp} {s : Shared} {a C dx : Addr} {fs : List (Str × V)} {f : Str} {v : V} {A : Around} {E : Value → Shared → Prop}
theorem getattr_ok {b : Bool} {Q : Value → Shared → Prop} (I : Inv X pins σ H s) (e : H a = some (.ins C dx fs)) (c : Cls X.K C) (n : NoAttr X.K C f) (l : fs.lookup f = some v)
    (h : ∀ u s', Inv X pins σ H s' → RelV v u → Q u s') : wpAny (model X.prog X.w) A (getAttr (.ref a) f b) Q E s := by
  obtain ⟨mA, O, r, _, _, _⟩ := ins_get I.hok e
  obtain ⟨u, hu, ru⟩ := RelO.some_of (v := v) (o := mA f) (by rw [← l]; exact r f)
  exact get_map I.kIn O (c.get f) c.hd n hu (handed_of ru) (h u _ (I.tok _) ru)
theorem getmeth_ok {m : Str} {g : Addr} {pl : Sem Bool} {Q : Value × List Value → Shared → Prop} (I : Inv X pins σ H s) (e : H a = some (.ins C dx fs)) (c : Cls X.K C) (k : Meth X.K C m g) (l : fs.lookup m = none)
    (h : Q (.ref g, [.ref a]) s) : wpAny (model X.prog X.w) A (getMethod (.ref a) m pl) Q E s := by
  obtain ⟨mA, O, r, _, _, _⟩ := ins_get I.hok e
  have hn : mA m = none := RelO.none_of (by rw [← l]; exact r m)
  exact get_meth I.kIn O (c.get m) k.at_ k.fn hn h
theorem setattr_ok {y : V} {u : Value} {Q : Unit → Shared → Prop} (I : Inv X pins σ H s) (e : H a = some (.ins C dx fs)) (c : Cls X.K C) (n : NoAttr X.K C f) (hl : fs.length < 1000) (ry : RelV y u)
    (h : ∀ s', Inv X pins σ (upd H a (.ins C dx (putF f y fs))) s' → Q () s') : wpAny (model X.prog X.w) A (setAttr (.ref a) f u) Q E s := by
  obtain ⟨mA, O, r, wi, _, ho⟩ := ins_get I.hok e
  have hz : (fs.map (·.1)).length ≤ sizeLine := by rw [List.length_map, sizeLine_eq]; omega
  refine set_map I.kIn O c.sa c.po n.taker c.hd wi hz fun h' O' sb => h _ ?_
  have hd : ∃ o, h'.get? dx = some o := let ⟨o, _, _, e', _⟩ := O'.ns; ⟨o, e'⟩
  refine I.write (x := a) (e := dx) (by rw [e]; exact True.intro) (.inr ho) (fun b q hb z => (sb.2 b hb).trans z) hd ?_
  refine ⟨by rw [upd_ne O.ne]; exact ho, ?_, O.ne, O'.obj, _, O'.ns, fun g => ?_, fun g hg => ?_⟩
  · have := length_putF f y fs; omega
  · show RelO ((putF f y fs).lookup g) (if g = f then some u else mA g)
    rw [lookup_putF]
    by_cases q : g = f
    · rw [if_pos q, if_pos q]; exact ry
    · rw [if_neg q, if_neg q]; exact r g
  · by_cases q : g = f
    · rw [q]; exact (keys_putF f y fs).1
    · refine (keys_putF f y fs).2 g (wi g fun z => hg ?_)
      show (if g = f then some u else mA g) = none
      rw [if_neg q]; exact z
theorem Inv.made (I : Inv X pins σ H s) : Inv X pins σ (upd (upd H s.heap.objs.size (.own (s.heap.objs.size + 1))) (s.heap.objs.size + 1) (.ins C s.heap.objs.size []))
    { s with heap := (s.heap.push PySem.W.emptyDict).push (PySem.W.instObj C s.heap.objs.size) } := by
  have e1 : (s.heap.push PySem.W.emptyDict).get? s.heap.objs.size = some PySem.W.emptyDict := Heap.get?_push_size s.heap rfl
  have e2 : ((s.heap.push PySem.W.emptyDict).push (PySem.W.instObj C s.heap.objs.size)).get? (s.heap.objs.size + 1) = some (PySem.W.instObj C s.heap.objs.size) := by
    have := Heap.get?_push_size (s.heap.push PySem.W.emptyDict) (o := PySem.W.instObj C s.heap.objs.size) rfl
    rwa [Heap.size_push] at this
  have e3 : (s.heap.push PySem.W.emptyDict).Ns s.heap.objs.size (fun _ => none) := ⟨PySem.W.emptyDict, #[], _, e1, rfl, (fun e he => absurd he (by simp)), fun _ => rfl⟩
  have I1 := I.laid (a := s.heap.objs.size) (o := .own (s.heap.objs.size + 1)) (h' := s.heap.push PySem.W.emptyDict) (t' := s.toks) (fun b u q => Heap.get?_push_of_some _ q) (Nat.le_refl _) ⟨_, e1⟩
  refine I1.laid (a := s.heap.objs.size + 1) (o := .ins C s.heap.objs.size []) (t' := s.toks) (fun b u q => Heap.get?_push_of_some _ q) (Nat.le_of_eq (Heap.size_push _ _)) ?_
  have ne : s.heap.objs.size ≠ s.heap.objs.size + 1 := Nat.ne_of_lt (Nat.lt_succ_self _)
  refine ⟨by rw [upd_ne ne, upd_same], Nat.zero_le _, ne, e2, fun _ => none, (Heap.Ns1.of_empty e3).at fun o q => Heap.get?_push_of_some _ q, fun _ => True.intro, fun y hy => absurd rfl hy⟩
theorem attr_of {prog : Program} {w : World} {env : Env} {e : Expr} {f : Str} {pos : Pos} {s : Shared} {Q : Value → Shared → Prop} (hb : attributeBase e f env (eval e env) = eval e env)
    (h : wpAny (model prog w) A (eval e env) (fun o s₁ => wpAny (model prog w) A (getAttr o f true) Q E s₁) E s) : wpAny (model prog w) A (eval (.Attribute e f pos) env) Q E s :=
  Attribute_any_ h (by rw [arm_eval_Attribute, hb])
end
def tFld (K : PySem.W.Frag) (ta : TE) (f : Str) : TE := fun σ H Q => ta σ H fun x H1 => ∃ a C dx fs v, x = .ref a ∧ H1 a = some (.ins C dx fs) ∧ Cls K C ∧ NoAttr K C f ∧ fs.lookup f = some v ∧ Q v H1
def sFld (K : PySem.W.Frag) (ta tv : TE) (f : Str) : TS := fun D σ H => tv σ H fun y H1 => ta σ H1 fun x H2 => ∃ a C dx fs, x = .ref a ∧ H2 a = some (.ins C dx fs) ∧ Cls K C ∧ NoAttr K C f ∧ fs.length < 1000 ∧
  D.nx σ (upd H2 a (.ins C dx (putF f y fs)))
section
variable {X : Cx} {o e value : Expr} {f : Str} {pos pos' tpos : Pos} {ta tv : TE}
theorem pe_fld (he : PE X e ta) (hb : attributeBase e f X.env (eval e X.env) = eval e X.env) : PE X (.Attribute e f pos) (tFld X.K ta f) := by
  intro pins s σ H Q I h
  refine attr_of hb (thn (he pins s σ H _ I h) fun u s1 ⟨x, H1, I1, rx, a, C, dx, fs, v, ex, ea, c, n, l, q⟩ => ?_)
  subst ex
  obtain rfl : u = Value.ref a := rx
  exact getattr_ok I1 ea c n l fun u' s2 I2 ru => ⟨v, H1, I2, ru, q⟩
theorem ps_fld (ha : PE X o ta) (hv : PE X value tv) (hs : swapsWith value (some (.Attribute o f pos')) pos.line X.env = pure false) : PS X (.Assign [.Attribute o f pos'] value pos) (sFld X.K ta tv f) := by
  intro pins s σ H D I h
  refine plainObj_wpAny_Assign_Attribute (thn (hv pins s σ H _ I h) fun u s1 ⟨y, H1, I1, ry, q⟩ => thn (ha pins s1 σ H1 _ I1 q) fun ov s2 ⟨x, H2, I2, rx, a, C, dx, fs, ex, ea, c, n, l, q2⟩ => ?_) hs
  subst ex
  obtain rfl : ov = Value.ref a := rx
  exact setattr_ok I2 ea c n l ry fun s3 I3 => ⟨σ, _, I3, q2⟩
end
section
variable {X : Cx} {pins : List (Addr × Obj)} {σ : St} {H : Hp} {s : Shared} {A : Around} {E : Value → Shared → Prop} {Q : Value → Shared → Prop} {c : Value} {b : Bool}
inductive TyOf (K : PySem.W.Frag) (H : Hp) : V → Value → Prop where
  | non : TyOf K H .non (.type "NoneType")
  | bl (x : Bool) : TyOf K H (.bl x) (.type "bool")
  | int (i : Int) : TyOf K H (.int i) (.type "int")
  | str (x : Str) : TyOf K H (.str x) (.type "str")
  | flt (x : UInt64) : TyOf K H (.flt x) (.type "float")
  | lst {a : Addr} {xs : List V} (e : H a = some (.lst xs)) : TyOf K H (.ref a) (.type "list")
  | frz {a : Addr} {o : Obj} {xs : List V} (e : H a = some (.frz o (.lst xs))) : TyOf K H (.ref a) (.type "list")
  | tup {a : Addr} {xs : List V} (e : H a = some (.tup xs)) : TyOf K H (.ref a) (.type "tuple")
  | dK {a : Addr} {kvs : List (Key × V)} (e : H a = some (.dK kvs)) : TyOf K H (.ref a) (.type "dict")
  | dT {a : Addr} {kvs : List (List Key × V)} (e : H a = some (.dT kvs)) : TyOf K H (.ref a) (.type "dict")
  | ins {a C dx : Addr} {fs : List (Str × V)} (e : H a = some (.ins C dx fs)) (cl : Cls K C) (ha : PySem.W.findIn K (.ref C) "__class__" = some (some (.builtin "object.__class__")))
      (hn : PySem.W.specialIn K (.builtin "object.__class__") "__get__" = some (some (.builtin "getset_descriptor.__get__"))) (htk : PySem.W.takesIn K (.builtin "object.__class__") = some true)
      (hm : PySem.W.mroIn K C (.type "object") = some true) : TyOf K H (.ref a) (.ref C)
theorem isinst_ok {x : V} {u t : Value} (I : Inv X pins σ H s) (rx : RelV x u) (ty : TyOf X.K H x t) (e : PySem.W.kitOne X.K t c = some b) (h : ∀ tk, Q (.bool b) { s with toks := tk }) :
    wpAny (model X.prog X.w) A (call (.builtin "isinstance") [u, c]) Q E s := by
  cases ty with
  | non => cases (show u = Value.none from rx); exact PySem.W.kia_one PySem.W.kitx_none I.kIn True.intro e (fun z => nomatch z) h
  | bl y => cases (show u = Value.bool y from rx); exact PySem.W.kia_one PySem.W.kitx_bool I.kIn True.intro e (fun z => nomatch z) h
  | int i => obtain ⟨t, q⟩ := (show ∃ t, u = Value.int i t from rx); cases q; exact PySem.W.kia_one PySem.W.kitx_int I.kIn True.intro e (fun z => nomatch z) h
  | str y => obtain ⟨t, q⟩ := (show ∃ t, u = Value.str y t from rx); cases q; exact PySem.W.kia_one PySem.W.kitx_str I.kIn True.intro e (fun z => nomatch z) h
  | flt y => obtain ⟨t, q⟩ := (show ∃ t, u = Value.float y t from rx); cases q; exact PySem.W.kia_one PySem.W.kitx_float I.kIn True.intro e (fun z => nomatch z) h
  | @lst a xs ea =>
    cases (show u = Value.ref a from rx)
    obtain ⟨_, _, n, _, h1⟩ := (show ObjOk X.prog X.w H s.heap a (.lst xs) from I.hok a _ ea)
    exact PySem.W.kia_one PySem.W.kitx_list I.kIn ⟨_, h1, rfl⟩ e (fun z => nomatch z) h
  | @frz a ob xs ea =>
    cases (show u = Value.ref a from rx)
    obtain ⟨_, _, _, n, _, h1⟩ := (show ObjOk X.prog X.w H s.heap a (.frz ob (.lst xs)) from I.hok a _ ea)
    exact PySem.W.kia_one PySem.W.kitx_list I.kIn ⟨_, h1, rfl⟩ e (fun z => nomatch z) h
  | @tup a xs ea =>
    cases (show u = Value.ref a from rx)
    obtain ⟨_, _, _, p⟩ := (show ObjOk X.prog X.w H s.heap a (.tup xs) from I.hok a _ ea)
    obtain ⟨o, h1, h2, _⟩ := p
    exact PySem.W.kia_one PySem.W.kitx_tuple I.kIn ⟨o, h1, h2⟩ e (fun z => nomatch z) h
  | @dK a kvs ea =>
    cases (show u = Value.ref a from rx)
    obtain ⟨_, _, vs, _, p⟩ := (show ObjOk X.prog X.w H s.heap a (.dK kvs) from I.hok a _ ea)
    obtain ⟨o, es, ep, h1, h2, _⟩ := p
    exact PySem.W.kia_one PySem.W.kitx_dict I.kIn ⟨o, h1, h2.1⟩ e (fun z => nomatch z) h
  | @dT a kvs ea =>
    cases (show u = Value.ref a from rx)
    obtain ⟨_, _, xs, _, o, es, ep, h1, h2, _⟩ := (show ObjOk X.prog X.w H s.heap a (.dT kvs) from I.hok a _ ea)
    exact PySem.W.kia_one PySem.W.kitx_dict I.kIn ⟨o, h1, h2.1⟩ e (fun z => nomatch z) h
  | @ins a C dx fs ea cl ha hn htk hm =>
    cases (show u = Value.ref a from rx)
    obtain ⟨mA, O, _⟩ := ins_get I.hok ea
    obtain ⟨od, J, _⟩ := O.look
    exact PySem.W.kia_one (PySem.W.kitx_own (cl.get _) cl.hd ha hn htk hm) I.kIn J e (fun z => nomatch z) h
end
end L2
namespace L2
open PySem PySem.Spec PyProof.Rows
structure Room (k : Nat) (A : Around) : Prop where
  hd : A.handled = none
  dp : A.depth + 3 * k + 5 < recursionLimit
  un : A.units + 16 * k + 200 < cLine
theorem Room.mono {j k : Nat} {A : Around} (r : Room k A) (h : j ≤ k) : Room j A := ⟨r.hd, by have := r.dp; omega, by have := r.un; omega⟩
theorem Room.deeper {k : Nat} {A : Around} (r : Room (k + 1) A) (env : Env) : Room k (A.deeper env) :=
  ⟨r.hd, by have := r.dp; show A.depth + 1 + 3 * k + 5 < _; omega, by have := r.un; show A.units + 3 + 16 * k + 200 < _; omega⟩
theorem make_depth {A : Around} {C : Addr} {us : List Value} {kw : List (Str × Value)} : (A.under (.builtin "type.__call__" ⟨.ref C :: us, kw⟩)).depth = A.depth + 1 := by
  first | rfl | simp [Around.under, Code.weight, Code.isCreation, Code.isGuard, Code.isCaller, Code.frames, Code.isFrame, guardIds]
theorem make_units {A : Around} {C : Addr} {us : List Value} {kw : List (Str × Value)} : (A.under (.builtin "type.__call__" ⟨.ref C :: us, kw⟩)).units = A.units + 1 := by
  first | rfl | simp [Around.under, Code.cUnits, Code.frames, Code.isFrame]
theorem Room.make {k : Nat} {A : Around} (r : Room (k + 1) A) (C : Addr) (us : List Value) (kw : List (Str × Value)) : Room k (A.under (.builtin "type.__call__" ⟨.ref C :: us, kw⟩)) :=
  ⟨r.hd, by have := r.dp; rw [make_depth]; omega, by have := r.un; rw [make_units]; omega⟩
theorem Room.depth {k : Nat} {A : Around} (r : Room k A) : A.depth < recursionLimit := by have := r.dp; omega
theorem Room.units {k : Nat} {A : Around} (r : Room k A) : A.units + 64 < cLine := by have := r.un; omega
def tNil : TA := fun _ H Q => Q [] H
def tCons (ta : TE) (tr : TA) : TA := fun σ H Q => ta σ H fun x H1 => tr σ H1 fun xs H2 => Q (x :: xs) H2
section
variable {X : Cx} {e : Expr} {es : List Expr} {te : TE} {t : TA} {pos : Pos}
theorem pa_nil : PA X [] tNil := fun _ _ _ _ H Q I h => Calls.spliced_nil ⟨[], H, I, .nil, h⟩
theorem pa_cons (ha : PE X e te) (hr : PA X es t) (hs : starEach (e :: es) X.env = (false, eval e X.env) :: starEach es X.env := by rfl) : PA X (e :: es) (tCons te t) := by
  intro pos pins s σ H Q I h
  rw [hs]
  show wpAny _ _ (spliced ((false, eval e X.env) :: backTo pos (starEach es X.env))) _ _ s
  refine Calls.spliced_cons (thn (ha pins s σ H _ I h) fun u s1 ⟨x, H1, I1, r1, q1⟩ => ?_)
  exact thn (hr pos pins s1 σ H1 _ I1 q1) fun us s2 ⟨xs, H2, I2, r2, q2⟩ => ⟨x :: xs, H2, I2, .cons r1 r2, q2⟩
def tTup (t : TA) : TE := fun σ H Q => t σ H fun xs H1 => xs.length ≤ sizeLine ∧ ∀ p, H1 p = none → Q (.ref p) (upd H1 p (.tup xs))
def tLst (t : TA) : TE := fun σ H Q => t σ H fun xs H1 => xs.length ≤ sizeLine ∧ ∀ p, H1 p = none → Q (.ref p) (upd H1 p (.lst xs))
theorem pe_tup {x1} (h : PA X es t) : PE X (.Tuple es x1 pos) (tTup t) := by
  intro pins s σ H Q I hq
  refine wpAny_Tuple_spliced (thn (h pos pins s σ H _ I hq) fun us s1 ⟨xs, H1, I1, r, z, q⟩ => ⟨by rw [← r.length]; exact z, ?_⟩)
  have hf : H1 s1.heap.objs.size = none := I1.hok.fresh (Nat.le_refl _)
  refine ⟨.ref s1.heap.objs.size, upd H1 s1.heap.objs.size (.tup xs), I1.laid (t' := s1.toks) (fun b u e => Heap.get?_push_of_some _ e) (Nat.le_refl _) ?_, rfl, q _ hf⟩
  exact ⟨z, us, r, ⟨_, Heap.get?_push_size _ rfl, rfl, _, rfl⟩⟩
theorem pe_lst (h : PA X es t) : PE X (.List es pos) (tLst t) := by
  intro pins s σ H Q I hq
  refine wpAny_List_spliced (thn (h pos pins s σ H _ I hq) fun us s1 ⟨xs, H1, I1, r, z, q⟩ => ⟨by rw [← r.length]; exact z, ?_⟩)
  have hf : H1 s1.heap.objs.size = none := I1.hok.fresh (Nat.le_refl _)
  refine ⟨.ref s1.heap.objs.size, upd H1 s1.heap.objs.size (.lst xs), I1.laid (t' := s1.toks) (fun b u e => Heap.get?_push_of_some _ e) (Nat.le_refl _) ?_, rfl, q _ hf⟩
  exact ⟨z, us, 0, r, Heap.get?_push_size _ rfl⟩
end
abbrev Sp := List V → Hp → VK → XK → Prop
abbrev CXT := List Env → Hp → Shared → XK → Value → Shared → Prop
structure Env0 (P : Program) (w : World) (K : PySem.W.Frag) (mg : Str → Option Value) (base : Heap) (A : Around) (outer : List Env) (s : Shared) (H : Hp) : Prop where
  frames : A.frames = some outer
  mod : Mod K mg base
  bs : ∀ b o, base.get? b = some o → s.heap.get? b = some o ∧ H b = none
  bsz : base.objs.size ≤ s.heap.objs.size
  funs : s.heap.FunFrames base outer
  frf : ∀ b ∈ frs outer, H b = none
  hok : HOk P w H s.heap
  bare : AllBare s.gens
def CE (outer : List Env) (P : Program) (w : World) (H : Hp) (s : Shared) (Q : VK) (u : Value) (s' : Shared) : Prop :=
  ∃ v H', s'.os = s.os ∧ AllBare s'.gens ∧ Un (frs outer) [] H H' s.heap s'.heap ∧ HOk P w H' s'.heap ∧ RelV v u ∧ Q v H'
def CR (CX : CXT) (outer : List Env) (P : Program) (w : World) (H : Hp) (s : Shared) (Q : VK) (E : XK) (r : Result) (s' : Shared) : Prop :=
  match r with
  | .ok (.ret u) => CE outer P w H s Q u s'
  | .ok _ => False
  | .error e => CX outer H s E e s'
structure FnOk (P : Program) (w : World) (K : PySem.W.Frag) (mg : Str → Option Value) (base : Heap) (CX : CXT) (k : Nat) (f : Addr) (fd : FuncData) (ps : List Str) (sp : Sp) : Prop where
  len : ∀ vs H Q E, sp vs H Q E → vs.length = ps.length
  run : ∀ (A : Around) (outer : List Env) (s : Shared) (H : Hp) (args : Args) (us : List Value) (vs : List V) (Q : VK) (E : XK), Room k A → Env0 P w K mg base A outer s H → BindsTo s fd args (ps.zip us) → Vals vs us → sp vs H Q E →
    codeAny (model P w) A (.call (.ref f) args) (CR CX outer P w H s Q E) s
theorem Env0.make {P : Program} {w : World} {K : PySem.W.Frag} {mg : Str → Option Value} {base : Heap} {A : Around} {outer : List Env} {s : Shared} {H : Hp} (e : Env0 P w K mg base A outer s H) (C : Addr) (us : List Value) (kw : List (Str × Value)) :
    Env0 P w K mg base (A.under (.builtin "type.__call__" ⟨.ref C :: us, kw⟩)) outer s H := ⟨by first | exact e.frames | (simpa [Around.under, Code.envs, Code.isFrame, pushEnvs] using e.frames), e.mod, e.bs, e.bsz, e.funs, e.frf, e.hok, e.bare⟩
section
variable {X : Cx} {pins : List (Addr × Obj)} {σ : St} {H : Hp} {s s' : Shared}
theorem Inv.env0 (I : Inv X pins σ H s) : Env0 X.prog X.w X.K X.mg X.base X.A X.stack s H :=
  ⟨I.ok.frames, I.ok.mod, I.bs, Nat.le_trans I.ok.bsz I.sz, I.stack, I.stkFree, I.hok, I.bare⟩
theorem Inv.after {Q : VK} {u : Value} (I : Inv X pins σ H s) (h : CE X.stack X.prog X.w H s Q u s') : EP X pins σ Q u s' := by
  obtain ⟨v, H', os, bare, un, hok, r, q⟩ := h
  obtain ⟨hh, g, d, t, os'⟩ := s'
  obtain rfl : os' = s.os := os
  exact ⟨v, H', I.call (h' := hh) (g' := g) (d' := d) (t' := t) (ch := []) un hok bare (fun b z => absurd z (by simp)), r, q⟩
end
def tCall (sp : Sp) (dvs : List V) (E : XK) (t : TA) : TE := fun σ H Q => t σ H fun vs H1 => sp (vs ++ dvs) H1 Q E
def tMeth (C : Addr) (m : Str) (sp : Sp) (dvs : List V) (E : XK) (ta : TE) (t : TA) : TE := fun σ H Q => ta σ H fun x H1 => ∃ a dx fs, x = .ref a ∧ H1 a = some (.ins C dx fs) ∧ fs.lookup m = none ∧
  t σ H1 fun vs H2 => sp (x :: (vs ++ dvs)) H2 Q E
def tMake (C : Addr) (sp : Sp) (dvs : List V) (E : XK) (t : TA) : TE := fun σ H Q => t σ H fun vs H1 => ∀ x dx, H1 x = none → H1 dx = none → dx ≠ x →
  sp (.ref x :: (vs ++ dvs)) (upd (upd H1 dx (.own x)) x (.ins C dx [])) (fun v H2 => v = .non ∧ Q (.ref x) H2) E
def Binds (K : PySem.W.Frag) (fd : FuncData) (ps : List Str) (ds : List Value) : Prop :=
  ∀ (s : Shared) (us : List Value), K.In s.heap → (us ++ ds).length = ps.length → BindsTo s fd ⟨us, []⟩ (ps.zip (us ++ ds))
theorem Binds.all {K : PySem.W.Frag} {fd : FuncData} {ps : List Str} (h : ∀ us : List Value, us.length = ps.length → bindArgs fd ⟨us, []⟩ = pure (ps.zip us)) : Binds K fd ps [] := fun s us _ hl => by
  rw [List.append_nil] at hl ⊢
  exact .of_eq (h us hl)
def Passes (CX : CXT) (X : Cx) (E : XK) : Prop := ∀ (pins : List (Addr × Obj)) (σ : St) (H : Hp) (s : Shared) (e : Value) (s' : Shared), Inv X pins σ H s → CX X.stack H s E e s' → X.xe e s'
section
variable {X : Cx} {CX : CXT} {k : Nat} {f C : Addr} {fd : FuncData} {ps : List Str} {sp : Sp} {dvs : List V} {ds : List Value} {E : XK} {x m : Str} {p pos apos : Pos} {e o : Expr} {es : List Expr} {ta : TE} {t : TA}
theorem run_fn {pins : List (Addr × Obj)} {σ : St} {H : Hp} {s : Shared} {Q : VK} {us : List Value} {vs : List V} (F : FnOk X.prog X.w X.K X.mg X.base CX k f fd ps sp) (hr : Room k X.A) (hb : Binds X.K fd ps ds) (hd : Vals dvs ds) (hx : Passes CX X E)
    (I : Inv X pins σ H s) (r : Vals vs us) (h : sp (vs ++ dvs) H Q E) : wpAny (model X.prog X.w) X.A (call (.ref f) us) (EP X pins σ Q) X.xe s := by
  have r2 : Vals (vs ++ dvs) (us ++ ds) := r.append hd
  have hl : (us ++ ds).length = ps.length := by rw [← r2.length]; exact F.len _ _ _ _ h
  refine wpAny_call (codeAny_mono (F.run X.A X.stack s H ⟨us, []⟩ (us ++ ds) (vs ++ dvs) Q E hr I.env0 (hb s us I.kIn hl) r2 h) fun r s' hq => ?_)
  cases r with
  | error e => exact hx pins σ H s e s' I hq
  | ok fl =>
    cases fl with
    | ret u => exact I.after hq
    | next => exact False.elim hq
    | brk => exact False.elim hq
    | cont => exact False.elim hq
theorem pe_call (F : FnOk X.prog X.w X.K X.mg X.base CX k f fd ps sp) (hr : Room k X.A) (hg : Gl X x) (hm : X.mg x = some (.ref f)) (hk : PySem.W.keepIn X.K (.ref f) = true) (hb : Binds X.K fd ps ds) (hd : Vals dvs ds) (hx : Passes CX X E)
    (ha : PA X (e :: es) t) (hdb : (x == ("__debug__" : Str)) = false := by decide) (he : starEach (e :: es) X.env = (false, eval e X.env) :: starEach es X.env := by rfl) (hpl : (backTo pos (starEach es X.env)).any (·.1) = false := by rfl) :
    PE X (.Call (.Name x p) (e :: es) [] pos) (tCall sp dvs E t) := by
  intro pins s σ H Q I h
  refine wpAny_Call_Name_kw (ld_glob I hg hm ?_ hdb)
  refine PySem.W.callWith_K (h₀ := X.base) I.ok.mod.kin hk (thn (ha pos pins s σ H _ I h) fun us s1 ⟨vs, H1, I1, r, q⟩ => ⟨I1.kIn, ?_⟩) he hpl
  exact run_fn F hr hb hd hx I1 r q
theorem pe_meth {pl : Sem Bool} (he : PE X o ta) (c : Cls X.K C) (hm : Meth X.K C m f) (F : FnOk X.prog X.w X.K X.mg X.base CX k f fd ps sp) (hr : Room k X.A) (hb : Binds X.K fd ps ds) (hd : Vals dvs ds) (hx : Passes CX X E) (ha : PA X (e :: es) t)
    (hst : starEach (e :: es) X.env = (false, eval e X.env) :: starEach es X.env := by rfl) (hpl : (backTo pos (starEach es X.env)).any (·.1) = false := by rfl)
    (ht : eval (.Call (.Attribute o m apos) (e :: es) [] pos) X.env = (do
      let ov ← eval o X.env
      standAt apos.atName
      let (f, first) ← holding [ov] (getMethod ov m pl)
      callWith pos f first (backTo pos (starEach (e :: es) X.env)) (backToKw pos (keywordEach [] X.env))) := by rfl) :
    PE X (.Call (.Attribute o m apos) (e :: es) [] pos) (tMeth C m sp dvs E ta t) := by
  intro pins s σ H Q I h
  refine PySem.W.methodCall_KW (pl := pl) (thn (he pins s σ H _ I h) fun u s1 ⟨x, H1, I1, rx, a, dx, fs, ex, ea, l, q⟩ => ?_) ht
  subst ex
  obtain rfl : u = Value.ref a := rx
  refine getmeth_ok I1 ea c hm l ?_
  refine PySem.W.callWith_K (first := [.ref a]) (h₀ := X.base) I.ok.mod.kin hm.kp (thn (ha pos pins s1 σ H1 _ I1 q) fun us s2 ⟨vs, H2, I2, r, q2⟩ => ⟨I2.kIn, ?_⟩) hst hpl
  exact run_fn (us := .ref a :: us) (vs := .ref a :: vs) F hr hb hd hx I2 (.cons rfl r) q2
theorem pe_meth0 {pl : Sem Bool} (he : PE X o ta) (c : Cls X.K C) (hm : Meth X.K C m f) (F : FnOk X.prog X.w X.K X.mg X.base CX k f fd ps sp) (hr : Room k X.A) (hb : Binds X.K fd ps ds) (hd : Vals dvs ds) (hx : Passes CX X E)
    (ht : eval (.Call (.Attribute o m apos) [] [] pos) X.env = (do
      let ov ← eval o X.env
      standAt apos.atName
      let (f, first) ← holding [ov] (getMethod ov m pl)
      callWith pos f first (backTo pos (starEach [] X.env)) (backToKw pos (keywordEach [] X.env))) := by rfl) :
    PE X (.Call (.Attribute o m apos) [] [] pos) (tMeth C m sp dvs E ta tNil) := by
  intro pins s σ H Q I h
  refine PySem.W.methodCall_KW (pl := pl) (thn (he pins s σ H _ I h) fun u s1 ⟨x, H1, I1, rx, a, dx, fs, ex, ea, l, q⟩ => ?_) ht
  subst ex
  obtain rfl : u = Value.ref a := rx
  refine getmeth_ok I1 ea c hm l ?_
  exact PySem.W.callWith_K0 (first := [.ref a]) I1.kIn hm.kp (run_fn (us := [.ref a]) (vs := [.ref a]) F hr hb hd hx I1 (.cons rfl .nil) q)
structure Mk (K : PySem.W.Frag) (C f : Addr) : Prop where
  makes : PySem.W.makesIn K C = true
  init : PySem.W.findIn K (.ref C) "__init__" = some (some (.ref f))
  fn : PySem.W.isFn K (.ref f) = true
  kp : PySem.W.keepIn K (.ref C) = true
theorem run_make {pins : List (Addr × Obj)} {σ : St} {H : Hp} {s : Shared} {Q : VK} {us : List Value} {vs : List V} (M : Mk X.K C f) (F : FnOk X.prog X.w X.K X.mg X.base CX k f fd ps sp) (hr : Room (k + 1) X.A) (hb : Binds X.K fd ps ds) (hd : Vals dvs ds)
    (hx : Passes CX X E) (I : Inv X pins σ H s) (r : Vals vs us)
    (h : ∀ x dx, H x = none → H dx = none → dx ≠ x → sp (.ref x :: (vs ++ dvs)) (upd (upd H dx (.own x)) x (.ins C dx [])) (fun v H2 => v = .non ∧ Q (.ref x) H2) E) :
    wpAny (model X.prog X.w) X.A (call (.ref C) us) (EP X pins σ Q) X.xe s := by
  have hq := h (s.heap.objs.size + 1) s.heap.objs.size (I.hok.fresh (Nat.le_succ _)) (I.hok.fresh (Nat.le_refl _)) (Nat.ne_of_lt (Nat.lt_succ_self _))
  have I2 := Inv.made (C := C) I
  have r2 : Vals (V.ref (s.heap.objs.size + 1) :: (vs ++ dvs)) (Value.ref (s.heap.objs.size + 1) :: (us ++ ds)) := .cons rfl (r.append hd)
  have hl : (Value.ref (s.heap.objs.size + 1) :: us ++ ds).length = ps.length := by
    have e := r2.length
    rw [F.len _ _ _ _ hq] at e
    exact e.symm
  refine wpAny_call (make_map (f := f) I.kIn M.makes M.init (beq_iff_eq.mp M.fn) (codeAny_mono (F.run _ X.stack _ _ ⟨Value.ref (s.heap.objs.size + 1) :: us, []⟩ (Value.ref (s.heap.objs.size + 1) :: (us ++ ds)) _ _ E (hr.make C us [])
    (I2.env0.make C us []) (hb _ (Value.ref (s.heap.objs.size + 1) :: us) I2.kIn hl) r2 hq) fun r s' hq' => ?_))
  cases r with
  | error e => exact hx pins σ _ _ e s' I2 hq'
  | ok fl =>
    cases fl with
    | ret u =>
      obtain ⟨v, H', I3, rv, ev, q3⟩ := I2.after hq'
      subst ev
      exact ⟨rv, ⟨V.ref (s.heap.objs.size + 1), H', I3, rfl, q3⟩⟩
    | next => exact False.elim hq'
    | brk => exact False.elim hq'
    | cont => exact False.elim hq'
theorem pe_make (M : Mk X.K C f) (F : FnOk X.prog X.w X.K X.mg X.base CX k f fd ps sp) (hr : Room (k + 1) X.A) (hg : Gl X x) (hm : X.mg x = some (.ref C)) (hb : Binds X.K fd ps ds) (hd : Vals dvs ds) (hx : Passes CX X E)
    (ha : PA X (e :: es) t) (hdb : (x == ("__debug__" : Str)) = false := by decide) (he : starEach (e :: es) X.env = (false, eval e X.env) :: starEach es X.env := by rfl) (hpl : (backTo pos (starEach es X.env)).any (·.1) = false := by rfl) :
    PE X (.Call (.Name x p) (e :: es) [] pos) (tMake C sp dvs E t) := by
  intro pins s σ H Q I h
  refine wpAny_Call_Name_kw (ld_glob I hg hm ?_ hdb)
  refine PySem.W.callWith_K (h₀ := X.base) I.ok.mod.kin M.kp (thn (ha pos pins s σ H _ I h) fun us s1 ⟨vs, H1, I1, r, q⟩ => ⟨I1.kIn, ?_⟩) he hpl
  exact run_make M F hr hb hd hx I1 r q
end
section
variable {X : Cx} {CX : CXT} {k : Nat} {f C : Addr} {fd : FuncData} {ps ks : List Str} {sp : Sp} {E : XK} {x m : Str} {p pos apos kpos : Pos} {e o : Expr} {es : List Expr} {kws : List Keyword} {te ta : TE} {t tk : TA} {nm : Option Str}
structure KBinds (K : PySem.W.Frag) (fd : FuncData) (ps ks : List Str) (g : List Value → List Value → List Value) (gV : List V → List V → List V) : Prop where
  to : ∀ (s : Shared) (us ws : List Value), K.In s.heap → (g us ws).length = ps.length → BindsTo s fd ⟨us, ks.zip ws⟩ (ps.zip (g us ws))
  rel : ∀ {vs : List V} {us : List Value} {zs : List V} {ws : List Value}, Vals vs us → Vals zs ws → Vals (gV vs zs) (g us ws)
variable {g : List Value → List Value → List Value} {gV : List V → List V → List V}
end
structure FnScope (N P : List Str) (sc : Scope) : Prop where
  kind : sc.kind = .function
  co : sc.isCoroutine = false
  gen : sc.isGenerator = false
  nd : N.Nodup
  pre : N.take P.length = P
  par : ∀ x ∈ P, sc.names.lookup x = some .local ∨ sc.names.lookup x = some .cell
  nofree : ∀ y ∈ sc.names, y.2 ≠ .free
theorem bindL_out {kindOf : Str → Option NameKind} {x : Str} : ∀ {binds : List (Str × Value)} {m : Str → Option Value}, (∀ v, (x, v) ∉ binds) → bindL kindOf binds m x = m x
  | [], _, _ => rfl
  | (n, v) :: r, m, h => by
    unfold bindL
    rw [bindL_out fun w hw => h w (List.mem_cons_of_mem _ hw)]
    split
    · have : x ≠ n := by rintro rfl; exact h v List.mem_cons_self
      simp [this]
    · rfl
theorem bindC_out {kindOf : Str → Option NameKind} {x : Str} : ∀ {binds : List (Str × Value)} {m : Str → Option Value}, (∀ v, (x, v) ∉ binds) → bindC kindOf binds m x = m x
  | [], _, _ => rfl
  | (n, v) :: r, m, h => by
    unfold bindC
    rw [bindC_out fun w hw => h w (List.mem_cons_of_mem _ hw)]
    split
    · rfl
    · have : x ≠ n := by rintro rfl; exact h v List.mem_cons_self
      simp [this]
theorem bindL_get {kindOf : Str → Option NameKind} {x : Str} {v : Value} : ∀ {P : List Str} {vs : List Value} {i : Nat} {m : Str → Option Value}, P.Nodup → P[i]? = some x → vs[i]? = some v → kindOf x = some .local →
    bindL kindOf (P.zip vs) m x = some v
  | [], _, _, _, _, h, _, _ => by simp at h
  | _ :: _, [], _, _, _, _, h, _ => by simp at h
  | p :: P, w :: vs, 0, m, nd, h1, h2, hk => by
    simp at h1 h2; subst h1; subst h2
    show bindL kindOf ((p, w) :: P.zip vs) m p = _
    unfold bindL
    rw [bindL_out fun v hv => (List.nodup_cons.mp nd).1 (List.of_mem_zip hv).1, if_pos hk]
    simp
  | p :: P, w :: vs, i + 1, m, nd, h1, h2, hk => by
    show bindL kindOf ((p, w) :: P.zip vs) m x = _
    unfold bindL
    exact bindL_get (i := i) (List.nodup_cons.mp nd).2 (by simpa using h1) (by simpa using h2) hk
theorem bindC_get {kindOf : Str → Option NameKind} {x : Str} {v : Value} : ∀ {P : List Str} {vs : List Value} {i : Nat} {m : Str → Option Value}, P.Nodup → P[i]? = some x → vs[i]? = some v → kindOf x ≠ some .local →
    bindC kindOf (P.zip vs) m x = some v
  | [], _, _, _, _, h, _, _ => by simp at h
  | _ :: _, [], _, _, _, _, h, _ => by simp at h
  | p :: P, w :: vs, 0, m, nd, h1, h2, hk => by
    simp at h1 h2; subst h1; subst h2
    show bindC kindOf ((p, w) :: P.zip vs) m p = _
    unfold bindC
    rw [bindC_out fun v hv => (List.nodup_cons.mp nd).1 (List.of_mem_zip hv).1, if_neg hk]
    simp
  | p :: P, w :: vs, i + 1, m, nd, h1, h2, hk => by
    show bindC kindOf ((p, w) :: P.zip vs) m x = _
    unfold bindC
    exact bindC_get (i := i) (List.nodup_cons.mp nd).2 (by simpa using h1) (by simpa using h2) hk
def start (N : List Str) (vs : List V) : St := vs.map some ++ List.replicate (N.length - vs.length) none
def cxOf (CX : CXT) (P : Program) (w : World) (K : PySem.W.Frag) (mg : Str → Option Value) (base : Heap) (N : List Str) (qual : Str) (scope : Scope) (f : Addr) (cd : Value) (A : Around) (outer : List Env) (s : Shared) (H : Hp) (E : XK) : Cx where
  prog := P
  w := w
  K := K
  mg := mg
  base := base
  A := A.deeper (envOfC qual scope s.heap.objs.size f cd)
  N := N
  s₀ := s
  H₀ := H
  env := envOfC qual scope s.heap.objs.size f cd
  outer := outer
  stack := envOfC qual scope s.heap.objs.size f cd :: outer
  ex := []
  calm := true
  fn := fun _ => true
  pn := []
  xe := fun e s' => wpAny (model P w) (A.deeper (envOfC qual scope s.heap.objs.size f cd)) (leaving (envOfC qual scope s.heap.objs.size f cd) e) (fun _ s'' => CX outer H s E e s'') (fun e' s'' => CX outer H s E e' s'') s'
theorem cell_has {sc : Scope} {n : Nat} {x : Str} (h : sc.names.lookup x = some .cell) : ∃ c, (cellsFrom n sc.names []).lookup x = some c := by
  have q := PySem.W.cellsFrom_some sc.names n [] (.inl h)
  exact Option.isSome_iff_exists.mp q
theorem inv_start {CX : CXT} {P : Program} {w : World} {K : PySem.W.Frag} {mg : Str → Option Value} {base : Heap} {N ps : List Str} {qual : Str} {scope : Scope} {f : Addr} {cd : Value} {A : Around} {outer : List Env} {s s1 : Shared} {H : Hp} {E : XK} {us : List Value} {vs : List V}
    (S : FnScope N ps scope) (hd : A.handled = none) (e0 : Env0 P w K mg base A outer s H) (hl : vs.length = ps.length) (r : Vals vs us)
    (x : InCallC s s.heap.objs.size (bindL (envOfC qual scope s.heap.objs.size f cd).kindOf (ps.zip us) fun _ => none) (cellsFrom (s.heap.objs.size + 1) scope.names []) (bindC (envOfC qual scope s.heap.objs.size f cd).kindOf (ps.zip us) fun _ => none) s1) :
    Inv (cxOf CX P w K mg base N qual scope f cd A outer s H E) [] (start N vs) H s1 := by
  have hpl : ps.length ≤ N.length := by have := congrArg List.length S.pre; rw [List.length_take] at this; omega
  obtain ⟨h1, tk, rfl, hk⟩ := x.done
  have noA : ∀ b : Addr, b ∉ (cxOf CX P w K mg base N qual scope f cd A outer s H E).ex := fun b z => absurd (show b ∈ ([] : List Addr) from z) (by simp)
  refine ⟨⟨e0.mod, S.kind, rfl, rfl, Nat.le_refl _, fun y z c h1 h2 => ?_, fun y hy => ?_, fun y c _ h => ?_, fun _ => hd, Around.frames_deeper e0.frames, .inr ⟨rfl, rfl⟩, fun b z => absurd z (noA b), e0.bs, e0.bsz, fun b _ _ => noA b, fun b z => absurd z (noA b), e0.funs, e0.frf⟩,
    rfl, e0.bare, Un.kept hk, ⟨_, x.toInCall.ns, fun i y v h1 h2 h3 => ?_⟩, fun y c h => ⟨_, x.cell y c h⟩, e0.hok.fresh (Nat.le_refl _), fun y c h => ?_, fun p hp => absurd (show p ∈ ([] : List (Addr × Obj)) from hp) (by simp), e0.hok.kept hk, ?_⟩
  · exact name_of_addr x.apart (PySem.mem_of_lookup h1) (PySem.mem_of_lookup h2)
  · have hy : scope.names.lookup y = some .cell ∨ scope.names.lookup y = some .free := hy
    rcases hy with hy | hy
    · exact cell_has hy
    · exact absurd rfl (S.nofree _ (PySem.mem_of_lookup hy))
  · exact Nat.le_of_lt (x.above y c (PySem.mem_of_lookup h))
  · have hi : i < vs.length := by
      unfold start at h2
      by_cases hi : i < vs.length
      · exact hi
      · rw [List.getElem?_append_right (by simpa using hi)] at h2
        rw [List.getElem?_replicate] at h2
        split at h2 <;> cases h2
    have ha : vs[i]? = some v := by
      unfold start at h2
      rw [List.getElem?_append_left (by simpa using hi), List.getElem?_map] at h2
      cases e : vs[i]? with
      | none => rw [e] at h2; cases h2
      | some a => rw [e] at h2; cases h2; rfl
    obtain ⟨u, hu, rv⟩ := r.get ha
    have hp : ps[i]? = some y := by
      rw [← S.pre, List.getElem?_take_of_lt (by omega)]; exact h1
    have ndP : ps.Nodup := by rw [← S.pre]; exact S.nd.sublist (List.take_sublist _ _)
    refine ⟨u, rv, ?_⟩
    rcases S.par y (List.mem_of_getElem? hp) with k | k
    · exact .inl ⟨k, bindL_get ndP hp hu k⟩
    · obtain ⟨c, e⟩ := cell_has (n := s.heap.objs.size + 1) k
      refine .inr ⟨.inl k, c, e, ?_⟩
      have q := x.cell y c e
      rw [bindC_get ndP hp hu (by show scope.names.lookup y ≠ _; rw [k]; decide)] at q
      exact q
  · exact e0.hok.fresh (Nat.le_of_lt (x.above y c (PySem.mem_of_lookup h)))
  · unfold start
    show _ = N.length
    rw [List.length_append, List.length_map, List.length_replicate]
    omega
theorem fn_of {CX : CXT} {P : Program} {w : World} {K : PySem.W.Frag} {mg : Str → Option Value} {base : Heap} {k : Nat} {f : Addr} {name qual : Str} {params : Arguments} {body : List Stmt} {scope : Scope} {dV kV doc pm cdv ct oc : Value} {an od : Option Addr}
    {osl : Array (Option Value)} {N ps : List Str} {sp : Sp} (lk : K.lookup f = some ⟨oc, od, .func (PySem.W.fnOf name qual params body scope dV kV doc pm an cdv ct), osl⟩) (hcd : PySem.W.codeIn K cdv qual = true) (S : FnScope N ps scope)
    (len : ∀ vs H Q E, sp vs H Q E → vs.length = ps.length)
    (hbody : ∀ (A : Around) (outer : List Env) (s : Shared) (H : Hp) (vs : List V) (Q : VK) (E : XK), Room k (A.deeper (envOfC qual scope s.heap.objs.size f cdv)) → sp vs H Q E →
      ∃ t, PSs (cxOf CX P w K mg base N qual scope f cdv A outer s H E) body t ∧ t { nx := fun _ H' => Q .non H', rt := Q } (start N vs) H) :
    FnOk P w K mg base CX (k + 1) f (PySem.W.fnOf name qual params body scope dV kV doc pm an cdv ct) ps sp := by
  refine ⟨len, fun A outer s H args us vs Q E hr e0 hb r hsp => ?_⟩
  have hl := len _ _ _ _ hsp
  have KX : K.In s.heap := e0.mod.kin.keeps fun b o e => (e0.bs b o e).1
  have lim : s.heap.NoLimit := e0.mod.nolimit.keeps fun b o e => (e0.bs b o e).1
  have hkind : ∀ y ∈ ps.zip us, scope.names.lookup y.1 = some .local ∨ (scope.names.lookup y.1 = some .cell ∧ ((cellsFrom (s.heap.objs.size + 1) scope.names []).lookup y.1).isSome = true) := fun ⟨n, v⟩ hy => by
    rcases S.par n (List.of_mem_zip hy).1 with q | q
    · exact .inl q
    · exact .inr ⟨q, PySem.W.cellsFrom_some _ _ _ (.inl q)⟩
  refine codeAny_call_function hr.depth (KX _ _ lk) rfl S.co S.gen rfl (PySem.W.codeRec_of KX hcd) (hb _ _ _ _ ?_)
  refine wpAny_newFunctionEnv_cells S.kind hkind fun env he s1 x => ?_
  subst he
  refine ⟨lim.keeps x.toInCall.keep, codeAny_func ?_⟩
  obtain ⟨t, ht, hq⟩ := hbody A outer s H vs Q E (hr.deeper _) hsp
  have I : Inv (cxOf CX P w K mg base N qual scope f cdv A outer s H E) [] (start N vs) H s1 := inv_start S hr.hd e0 hl r x
  refine wpAny_mono (ht [] s1 (start N vs) H _ I hq) (fun fl s' hs => ?_) fun e s' hs => hs
  have fin : ∀ {σ' : St} {H' : Hp} {v : V} {u : Value}, Inv (cxOf CX P w K mg base N qual scope f cdv A outer s H E) [] σ' H' s' → RelV v u → Q v H' → CE outer P w H s Q u s' :=
    fun {σ' H' v u} J rv q => ⟨v, H', J.os, J.bare, J.base, J.hok, rv, q⟩
  cases fl with
  | ret u =>
    obtain ⟨v, σ', H', J, rv, q⟩ := hs
    exact fin J rv q
  | next =>
    obtain ⟨σ', H', J, q⟩ := hs
    exact fin (v := V.non) (u := Value.none) J rfl q
  | brk =>
    obtain ⟨_, _, _, q⟩ := hs
    exact False.elim q
  | cont =>
    obtain ⟨_, _, _, q⟩ := hs
    exact False.elim q
end L2
namespace L2
open PySem PySem.Spec PyProof.Rows
section
variable {X : Cx} {x : Str} {p pos : Pos} {e : Expr} {es : List Expr} {t : TA} {id T : String} {r : List V → Hp → VK → Prop}
def tCB (r : List V → Hp → VK → Prop) (t : TA) : TE := fun σ H Q => t σ H fun vs H1 => r vs H1 Q
theorem pe_callB (hc : CallR X (.builtin id) r) (hg : Gl X x) (hm : X.mg x = none) (hv : bootBuiltins x = some (.builtin id)) (ha : PA X (e :: es) t) (hn : x ≠ "__name__" := by decide) (hdb : (x == ("__debug__" : Str)) = false := by decide)
    (he : starEach (e :: es) X.env = (false, eval e X.env) :: starEach es X.env := by rfl) (hpl : (backTo pos (starEach es X.env)).any (·.1) = false := by rfl) : PE X (.Call (.Name x p) (e :: es) [] pos) (tCB r t) := by
  intro pins s σ H Q I h
  refine wpAny_Call_Name_kw (ld_blt I hg hm hv ?_ hn hdb)
  exact PyProof.Rows.callWith_builtin1 (thn (ha pos pins s σ H _ I h) fun us s1 ⟨vs, H1, I1, r1, q1⟩ => hc pins s1 σ H1 vs us Q I1 r1 q1) he hpl
theorem pe_callTy (hc : CallR X (.type T) r) (hg : Gl X x) (hm : X.mg x = none) (hv : bootBuiltins x = some (.type T)) (ha : PA X (e :: es) t) (hn : x ≠ "__name__" := by decide) (hdb : (x == ("__debug__" : Str)) = false := by decide)
    (he : starEach (e :: es) X.env = (false, eval e X.env) :: starEach es X.env := by rfl) (hpl : (backTo pos (starEach es X.env)).any (·.1) = false := by rfl) : PE X (.Call (.Name x p) (e :: es) [] pos) (tCB r t) := by
  intro pins s σ H Q I h
  refine wpAny_Call_Name_kw (ld_blt I hg hm hv ?_ hn hdb)
  exact PyProof.Rows.callWith_type1 (thn (ha pos pins s σ H _ I h) fun us s1 ⟨vs, H1, I1, r1, q1⟩ => hc pins s1 σ H1 vs us Q I1 r1 q1) he hpl
end
end L2
namespace HT
open PySem PyProof.Rows
def lexLt : List Int → List Int → Bool
  | [], [] => false
  | [], _ :: _ => true
  | _ :: _, [] => false
  | x :: xs, y :: ys => if x = y then lexLt xs ys else decide (x < y)
theorem lexLt_cons (x y : Int) (xs ys : List Int) : lexLt (x :: xs) (y :: ys) = if x = y then lexLt xs ys else decide (x < y) := rfl
section
open PySem.SeqAt
open PySem.AutoSeq1 (wpAny_loadPart')
open PySem.MeetsSeq PySem.MeetsSeq2 PySem.MeetsSeq3
end
section
variable {prog : Program} {w : World} {A : Around} {E : Value → Shared → Prop} {s : Shared}
theorem cat_tup {t b : Addr} {vs ws : List Value} {Q : Value → Shared → Prop} (ht : IsTup s.heap t vs.toArray) (hb : IsTup s.heap b ws.toArray) (hv : vs ≠ [])
    (h1 : ws = [] → Q (.ref t) s) (h2 : ws ≠ [] → Q (.ref s.heap.objs.size) { s with heap := s.heap.push { cls := .type "tuple", data := .seq (vs ++ ws).toArray } })
    (hsz : vs.length + ws.length ≤ sizeLine) : wpAny (model prog w) A (binaryOp .Add (.ref t) (.ref b)) Q E s := by
  obtain ⟨⟨cls, dd, data, sl⟩, ho, hc, n, hd⟩ := id ht
  obtain ⟨⟨cls2, dd2, data2, sl2⟩, ho2, hc2, n2, hd2⟩ := id hb
  simp only at hc hd hc2 hd2
  subst hc hd hc2 hd2
  have e : vs.toArray ++ ws.toArray = (vs ++ ws).toArray := by simp
  by_cases hw : ws = []
  · exact concat_meets ⟨_, ho, rfl⟩ ⟨_, ho2, rfl⟩ noFill_tuple_add seq_tuple_add PySem.F.slot_tuple_add PySem.F.entry_tuple_add (PySem.F.args_tuple_add_2 _ _)
      (tuple_addW1 t b vs.toArray ws.toArray n n2 dd dd2 sl sl2 (by simpa using hv) (by simp [hw])) ⟨ho, ho2, h1 hw⟩
  · refine concat_meets ⟨_, ho, rfl⟩ ⟨_, ho2, rfl⟩ noFill_tuple_add seq_tuple_add PySem.F.slot_tuple_add PySem.F.entry_tuple_add (PySem.F.args_tuple_add_2 _ _)
      (tuple_addW2 t b vs.toArray ws.toArray n n2 dd dd2 sl sl2 (by simpa using hv) (by simpa using hw) (by rw [List.size_toArray, List.size_toArray]; exact hsz)) ⟨ho, ho2, ?_⟩
    rw [e]
    exact h2 hw
def sIx (n d : Nat) : Option Int → Nat
  | none => d
  | some v => if v < 0 then (v + (n : Int)).toNat else min v.toNat n
theorem sIx_none (n d : Nat) : sIx n d none = d := rfl
theorem sIx_nat (n d k : Nat) : sIx n d (some (k : Int)) = min k n := by
  show (if (k : Int) < 0 then ((k : Int) + (n : Int)).toNat else min (k : Int).toNat n) = min k n
  rw [if_neg (by omega), Int.toNat_natCast]
theorem sIx_le (n d : Nat) (hd : d ≤ n) (o : Option Int) : sIx n d o ≤ n := by
  cases o with
  | none => exact hd
  | some v =>
    show (if v < 0 then (v + (n : Int)).toNat else min v.toNat n) ≤ n
    by_cases hv : v < 0
    · rw [if_pos hv]; omega
    · rw [if_neg hv]; exact Nat.min_le_right _ _
theorem clip_eq (v : Int) (n d : Nat) : (if v < 0 then max (v + (n : Int)) 0 else min v (n : Int)) = ((sIx n d (some v) : Nat) : Int) := by
  show (if v < 0 then max (v + (n : Int)) 0 else min v (n : Int)) = (((if v < 0 then (v + (n : Int)).toNat else min v.toNat n) : Nat) : Int)
  by_cases hv : v < 0
  · simp only [if_pos hv]; omega
  · simp only [if_neg hv]; omega
theorem adjust_gen (lo hi : Option Int) (n : Nat) : Builtin.Slice.sliceAdjust lo hi 1 (n : Int) = (((sIx n 0 lo : Nat) : Int), ((sIx n n hi : Nat) : Int)) := by
  have h1 : ¬ ((1 : Int) < 0) := by omega
  unfold Builtin.Slice.sliceAdjust
  simp only [h1, if_false]
  refine Prod.ext ?_ ?_
  · cases lo with
    | none => rfl
    | some v => exact clip_eq v n 0
  · cases hi with
    | none => rfl
    | some v => exact clip_eq v n n
theorem places_gen (i j : Nat) : Builtin.Slice.slicePlaces (i : Int) (j : Int) 1 = j - i := by
  unfold Builtin.Slice.slicePlaces
  have h1 : (1 : Int) > 0 := by omega
  simp only [h1, if_true, Int.ediv_one]
  split <;> omega
theorem slicePart_ {v : Value} {o : Option Int} {Q : Option Int → Shared → Prop} (p : IsPart v o) (h : Q o s) : wpAny (model prog w) A (Builtin.Slice.slicePartIndex v) Q E s := by
  cases p with
  | none => exact slicePart_none h
  | int i t => exact slicePart_int h
theorem sliceApplied_gen {sl : Addr} {vl vu : Value} {lo hi : Option Int} {n : Nat} {Q : Int × Int × Nat → Shared → Prop} (hs : s.heap.IsSliceOf sl vl vu .none) (pl : IsPart vl lo) (pu : IsPart vu hi)
    (h : Q (((sIx n 0 lo : Nat) : Int), 1, sIx n n hi - sIx n 0 lo) s) : wpAny (model prog w) A (Builtin.Slice.sliceApplied (.ref sl) (pure (n : Int))) Q E s := by
  obtain ⟨os, hos, hcs, hds⟩ := id hs
  unfold Builtin.Slice.sliceApplied Builtin.Slice.sliceFields
  refine wpAny_bind (wpAny_bind (wpAny_field hos hds (x := vl) rfl (wpAny_bind (wpAny_field hos hds (x := vu) rfl (wpAny_bind (wpAny_field hos hds (x := .none) rfl (wpAny_pure ?_)))))))
  refine wpAny_bind (slicePart_none ?_)
  show wpAny _ _ (if ((1 : Int) == 0) = true then _ else _) _ _ s
  rw [if_neg (by decide)]
  refine wpAny_bind (slicePart_ pl (wpAny_bind (slicePart_ pu (wpAny_bind (wpAny_pure ?_)))))
  show wpAny _ _ (match Builtin.Slice.sliceAdjust lo hi 1 (n : Int) with | (lo, hi) => pure (lo, (1 : Int), Builtin.Slice.slicePlaces lo hi 1)) _ _ s
  rw [adjust_gen lo hi n]
  show wpAny _ _ (pure (((sIx n 0 lo : Nat) : Int), (1 : Int), Builtin.Slice.slicePlaces ((sIx n 0 lo : Nat) : Int) ((sIx n n hi : Nat) : Int) 1)) _ _ s
  rw [places_gen]
  exact wpAny_pure h
theorem pick_gen (xs : Array Value) (i k : Nat) : ((List.range k).filterMap fun (m : Nat) => xs[((i : Int) + (m : Int) * 1).toNat]?).toArray = ((xs.toList.drop i).take k).toArray := by
  have e : (fun (m : Nat) => xs[((i : Int) + (m : Int) * 1).toNat]?) = fun m => xs[i + m]? := by
    funext m
    have : ((i : Int) + (m : Int) * 1).toNat = i + m := by omega
    rw [this]
  rw [e]
  have := pick_run xs i k
  rw [List.filterMap_map] at this
  have e2 : ((fun x => xs[x]?) ∘ fun x => i + x) = fun m => xs[i + m]? := rfl
  rw [e2] at this
  rw [this]
theorem getItem_tuple_cut {t sl : Addr} {items : Array Value} {vl vu : Value} {lo hi : Option Int} {Q : Value → Shared → Prop} (ht : IsTup s.heap t items) (hs : s.heap.IsSliceOf sl vl vu .none) (pl : IsPart vl lo) (pu : IsPart vu hi)
    (hw : ¬ (sIx items.size 0 lo = 0 ∧ sIx items.size items.size hi = items.size))
    (h : Q (.ref s.heap.objs.size) { s with heap := s.heap.push { cls := .type "tuple", data := .seq ((items.toList.drop (sIx items.size 0 lo)).take (sIx items.size items.size hi - sIx items.size 0 lo)).toArray } })
    (hsz : items.size ≤ sizeLine) : wpAny (model prog w) A (getItem (.ref t) (.ref sl)) Q E s := by
  have htake : sizeOk (.seq ((items.toList.drop (sIx items.size 0 lo)).take (sIx items.size items.size hi - sIx items.size 0 lo)).toArray) := by
    show ((items.toList.drop (sIx items.size 0 lo)).take (sIx items.size items.size hi - sIx items.size 0 lo)).toArray.size ≤ sizeLine
    rw [List.size_toArray, List.length_take, List.length_drop, Array.length_toList]
    omega
  have hj : sIx items.size items.size hi ≤ items.size := sIx_le _ _ (Nat.le_refl _) hi
  obtain ⟨os, hos, hcs, hds⟩ := id hs
  have hTs : s.TypeIs (.ref sl) "slice" := ⟨os, hos, hcs⟩
  unfold getItem
  try with_reducible refine wpAny_holding ?_
  first | refine wpAny_bind (wpAny_pure ?_) | skip
  refine wpAny_bind (wpAny_sequenceKey ht.typeIs (by decide) ?_)
  refine wpAny_bind (wpAny_callSpecial?_slot (name := Str.ofString "__getitem__") ht.typeIs PyProof.Rows.slot_tuple_getitem
    (wpAny_call_entry PyProof.Rows.slot_tuple_getitem ht.typeIs entry_tuple_getitem ?_ (args_tuple_getitem _ _)))
  show wpAny _ _ (Builtin.Tuple.tupleItemsOf (.ref t) >>= _) _ _ s
  refine wpAny_bind (tupleItemsOf_ ht ?_)
  refine wpAny_bind (wpAny_typeOf hTs ?_)
  rw [if_pos (by decide)]
  refine wpAny_bind (sliceApplied_gen hs pl pu ?_)
  have hno : ¬ ((((sIx items.size 0 lo : Nat) : Int) == 0 && (1 : Int) == 1 && (sIx items.size items.size hi - sIx items.size 0 lo) == items.size) = true) := by
    intro q
    rw [Bool.and_eq_true, Bool.and_eq_true] at q
    have q1 : ((sIx items.size 0 lo : Nat) : Int) = 0 := eq_of_beq q.1.1
    have q2 : sIx items.size items.size hi - sIx items.size 0 lo = items.size := eq_of_beq q.2
    exact hw ⟨by omega, by omega⟩
  show wpAny _ _ (if (((sIx items.size 0 lo : Nat) : Int) == 0 && (1 : Int) == 1 && (sIx items.size items.size hi - sIx items.size 0 lo) == items.size) = true then _ else _) _ _ s
  rw [if_neg hno, pick_gen]
  first
    | exact wpAny_bind (m := Builtin.Tuple.tupleExact _) (wpAny_newObj_type (wpAny_pure ⟨_, rfl, wpAny_pure h⟩) htake)
    | exact wpAny_bind (m := Builtin.Tuple.tupleExact _) (wpAny_newObj_type (wpAny_bind (wpAny_pure (wpAny_pure ⟨_, rfl, wpAny_pure h⟩))) htake)
    | exact wpAny_bind (wpAny_bind (m := Builtin.Tuple.tupleExact _) (wpAny_newObj_type (wpAny_pure (wpAny_pure ⟨_, rfl, wpAny_pure h⟩)) htake))
    | exact wpAny_bind (wpAny_bind (m := Builtin.Tuple.tupleExact _) (wpAny_newObj_type (wpAny_pure ⟨_, rfl, wpAny_pure h⟩) htake))
end
end HT
namespace L2
open PySem PySem.Spec PyProof.Rows
abbrev TO := St → Hp → (Option Int → Hp → Prop) → Prop
def PO (X : Cx) (e : Option Expr) (t : TO) : Prop :=
  ∀ (pins : List (Addr × Obj)) (s : Shared) (σ : St) (H : Hp) (Q : Option Int → Hp → Prop), Inv X pins σ H s → t σ H Q →
    wpAny (model X.prog X.w) X.A (evalPart e X.env) (fun u s' => ∃ o H', Inv X pins σ H' s' ∧ IsPart u o ∧ Q o H') X.xe s
def tNoPart : TO := fun _ H Q => Q none H
def tPart (t : TE) : TO := fun σ H Q => t σ H fun x H1 => ∃ i, x = .int i ∧ Q (some i) H1
section
variable {X : Cx} {e : Expr} {te : TE} {lo hi : Option Expr} {tl th : TO} {pos p2 : Pos}
theorem po_none : PO X none tNoPart := by
  intro pins s σ H Q I h
  rw [evalPart_none]
  exact wpAny_pure ⟨none, H, I, .none, h⟩
theorem po_some (h : PE X e te) : PO X (some e) (tPart te) := by
  intro pins s σ H Q I hw
  rw [evalPart_some]
  refine thn (h pins s σ H _ I hw) fun u s1 ⟨x, H1, I1, r1, q1⟩ => ?_
  obtain ⟨i, rfl, q⟩ := q1
  obtain ⟨t, rfl⟩ := r1
  exact ⟨some i, H1, I1, .int i t, q⟩
def SlR (X : Cx) (r : V → Option Int → Option Int → Hp → VK → Prop) : Prop :=
  ∀ (pins : List (Addr × Obj)) (s : Shared) (σ : St) (H : Hp) (x : V) (v vl vu : Value) (lo hi : Option Int) (sl : Addr) (Q : VK), Inv X pins σ H s → RelV x v → s.heap.IsSliceOf sl vl vu .none → IsPart vl lo → IsPart vu hi → r x lo hi H Q →
    ∃ T id, typeLookup (.type T) "__getitem__" = pure (some (.builtin id)) ∧ s.TypeIs v T ∧ wpAny (model X.prog X.w) X.A (getItem v (.ref sl)) (EP X pins σ Q) X.xe s
def tSl (r : V → Option Int → Option Int → Hp → VK → Prop) (te : TE) (tl th : TO) : TE := fun σ H Q => te σ H fun x H1 => tl σ H1 fun l H2 => th σ H2 fun u H3 => r x l u H3 Q
theorem pe_slice {r : V → Option Int → Option Int → Hp → VK → Prop} (hr : SlR X r) (he : PE X e te) (hl : PO X lo tl) (hu : PO X hi th) : PE X (.Subscript e (.Slice lo hi none p2) pos) (tSl r te tl th) := by
  intro pins s σ H Q I h
  refine Subscript_ (thn (he pins s σ H _ I h) fun v s1 ⟨x, H1, I1, r1, q1⟩ => ?_)
  refine wpAny_Slice (thn (hl pins s1 σ H1 _ I1 q1) fun vl s2 ⟨l, H2, I2, pl, q2⟩ => thn (hu pins s2 σ H2 _ I2 q2) fun vu s3 ⟨u, H3, I3, pu, q3⟩ => ?_)
  rw [evalPart_none]
  refine wpAny_pure ?_
  have I4 : Inv X pins σ H3 { s3 with heap := s3.heap.push { cls := .type "slice", data := .fields #[vl, vu, .none] } } := I3.kept (t' := s3.toks) fun b ob q => Heap.get?_push_of_some _ q
  obtain ⟨T, id, hT, ht, hg⟩ := hr pins { s3 with heap := s3.heap.push { cls := .type "slice", data := .fields #[vl, vu, .none] } } σ H3 x v vl vu l u s3.heap.objs.size Q I4 r1 (Heap.IsSliceOf.new ..) pl pu q3
  show wpAny (model X.prog X.w) X.A (subscriptTail e (.Slice lo hi none p2) v (.ref s3.heap.objs.size)) (EP X pins σ Q) X.xe { s3 with heap := s3.heap.push { cls := .type "slice", data := .fields #[vl, vu, .none] } }
  exact tail_any (ops := [.ref s3.heap.objs.size, v]) ht hT hg (by with_unfolding_all rfl)
def cutV (xs : List V) (lo hi : Option Int) : List V := (xs.drop (HT.sIx xs.length 0 lo)).take (HT.sIx xs.length xs.length hi - HT.sIx xs.length 0 lo)
theorem cutV_length (xs : List V) (lo hi : Option Int) : (cutV xs lo hi).length ≤ xs.length := by
  unfold cutV
  rw [List.length_take, List.length_drop]
  omega
def rSlT (K : PySem.W.Frag) : V → Option Int → Option Int → Hp → VK → Prop := fun x lo hi H Q => ∃ a xs, x = .ref a ∧ SqT K H a xs ∧
  ¬ (HT.sIx xs.length 0 lo = 0 ∧ HT.sIx xs.length xs.length hi = xs.length) ∧ ∀ p, H p = none → Q (.ref p) (upd H p (.tup (cutV xs lo hi)))
theorem sl_tup : SlR X (rSlT X.K) := by
  intro pins s σ H x v vl vu lo hi sl Q I rx hs pl pu h
  obtain ⟨a, xs, rfl, hx, hw, q⟩ := h
  cases rx
  obtain ⟨its, r, ht, hz⟩ := I.tuple hx
  have hlen : its.toArray.size = xs.length := by rw [List.size_toArray]; exact r.length.symm
  refine ⟨"tuple", _, PyProof.Rows.slot_tuple_getitem.lookup, ht.typeIs, ?_⟩
  refine HT.getItem_tuple_cut ht hs pl pu (by rw [hlen]; exact hw) ?_ (by rw [hlen]; exact hz)
  rw [hlen]
  refine ⟨.ref s.heap.objs.size, _, I.laid (t' := s.toks) (o := .tup (cutV xs lo hi)) (fun b ob q => Heap.get?_push_of_some _ q) (Nat.le_refl _) ?_, rfl, q _ (I.hok.fresh (Nat.le_refl _))⟩
  exact ⟨Nat.le_trans (cutV_length xs lo hi) hz, _, (r.drop (HT.sIx xs.length 0 lo)).take (HT.sIx xs.length xs.length hi - HT.sIx xs.length 0 lo), IsTup.new _ _⟩
def rCatT (K : PySem.W.Frag) : R2 := fun x y H Q => ∃ a b xs ys, x = .ref a ∧ y = .ref b ∧ SqT K H a xs ∧ SqT K H b ys ∧ xs ≠ [] ∧ xs.length + ys.length ≤ sizeLine ∧
  (ys = [] → Q (.ref a) H) ∧ (ys ≠ [] → ∀ p, H p = none → Q (.ref p) (upd H p (.tup (xs ++ ys))))
theorem Vals.nil_iff {xs : List V} {us : List Value} (r : Vals xs us) : us = [] ↔ xs = [] := by
  cases r with
  | nil => simp
  | cons _ _ => simp
theorem op_catT : OpR X (binaryOp .Add) (rCatT X.K) := by
  intro pins s σ H x y v u Q I rx ry h
  obtain ⟨a, b, xs, ys, rfl, rfl, ha, hb, hx, hz, q1, q2⟩ := h
  cases rx
  cases ry
  obtain ⟨its, r1, p1, _⟩ := I.tuple ha
  obtain ⟨its2, r2, p2, _⟩ := I.tuple hb
  refine HT.cat_tup p1 p2 (fun z => hx (r1.nil_iff.mp z)) (fun z => ⟨.ref a, H, I, rfl, q1 (r2.nil_iff.mp z)⟩) (fun z => ?_) (by rw [← r1.length, ← r2.length]; exact hz)
  refine ⟨.ref s.heap.objs.size, _, I.laid (t' := s.toks) (o := .tup (xs ++ ys)) (fun b ob q => Heap.get?_push_of_some _ q) (Nat.le_refl _) ?_, rfl, q2 (fun w => z (r2.nil_iff.mpr w)) _ (I.hok.fresh (Nat.le_refl _))⟩
  exact ⟨by rw [List.length_append]; exact hz, _, r1.append r2, IsTup.new _ _⟩
end
end L2
namespace L2
open PySem PySem.Spec PyProof.Rows
def ixN (n : Nat) (i : Int) : Option Nat := if 0 ≤ i then (if i < n then some i.toNat else none) else if -(n : Int) ≤ i then some (i + n).toNat else none
def atI {α : Type} (xs : List α) (i : Int) : Option α := (ixN xs.length i).bind fun j => xs[j]?
theorem ixN_seq {n : Nat} {i : Int} {j : Nat} (h : ixN n i = some j) : seqIndex? i n = some j ∧ j < n ∧ -(n : Int) ≤ i ∧ i < n := by
  unfold ixN at h
  by_cases h0 : 0 ≤ i
  · rw [if_pos h0] at h
    by_cases h1 : i < n
    · rw [if_pos h1] at h
      have e : i.toNat = j := Option.some.inj h
      exact ⟨by rw [seqIndex_of h0 h1, e], by omega, by omega, h1⟩
    · rw [if_neg h1] at h; cases h
  · rw [if_neg h0] at h
    by_cases h1 : -(n : Int) ≤ i
    · rw [if_pos h1] at h
      have e : (i + n).toNat = j := Option.some.inj h
      exact ⟨by rw [seqIndex_neg (by omega) h1, e], by omega, h1, by omega⟩
    · rw [if_neg h1] at h; cases h
theorem atI_get {α : Type} {xs : List α} {i : Int} {v : α} (h : atI xs i = some v) : ∃ j, seqIndex? i xs.length = some j ∧ xs[j]? = some v ∧ j < xs.length ∧ -(xs.length : Int) ≤ i ∧ i < xs.length := by
  unfold atI at h
  cases e : ixN xs.length i with
  | none => rw [e] at h; cases h
  | some j =>
    rw [e] at h
    obtain ⟨h1, h2, h3, h4⟩ := ixN_seq e
    exact ⟨j, h1, h, h2, h3, h4⟩
theorem atI_nat {α : Type} {xs : List α} {j : Nat} {v : α} (h : xs[j]? = some v) : atI xs (j : Int) = some v := by
  have hj : j < xs.length := (List.getElem?_eq_some_iff.mp h).1
  have e : ixN xs.length (j : Int) = some j := by
    unfold ixN
    rw [if_pos (by omega), if_pos (by omega)]; simp
  unfold atI; rw [e]; exact h
def PlainIx (b : Expr) : Prop := ∀ o i, subscripted b false o i = operate [o, i] (getItem o i)
def IxR (X : Cx) (r : R2) : Prop :=
  ∀ (value slice : Expr) (pins : List (Addr × Obj)) (s : Shared) (σ : St) (H : Hp) (x y : V) (v u : Value) (Q : VK), Inv X pins σ H s → RelV x v → RelV y u → r x y H Q →
    subscripted slice false v u = operate [v, u] (getItem v u) → wpAny (model X.prog X.w) X.A (subscriptTail value slice v u) (EP X pins σ Q) X.xe s
def MtR (X : Cx) (id : String) (r : V → List V → Hp → VK → Prop) : Prop :=
  ∀ (pins : List (Addr × Obj)) (s : Shared) (σ : St) (H : Hp) (x : V) (xs : List V) (v : Value) (us : List Value) (Q : VK), Inv X pins σ H s → RelV x v → Vals xs us → r x xs H Q →
    wpAny (model X.prog X.w) X.A (call (.builtin id) (v :: us)) (EP X pins σ Q) X.xe s
section
variable {X : Cx} {a b : Expr} {ta tb : TE} {pos : Pos}
theorem pe_ix {r : R2} (hr : IxR X r) (ha : PE X a ta) (hb : PE X b tb) (hs : PlainIx b) : PE X (.Subscript a b pos) (tOp r ta tb) := by
  intro pins s σ H Q I h
  exact Subscript_ (binT ha hb I h fun v u s2 x y H2 I2 rx ry q => hr a b pins s2 σ H2 x y v u Q I2 rx ry q (hs _ _))
def rIxL (K : PySem.W.Frag) : R2 := fun x y H Q => ∃ p xs i v, x = .ref p ∧ y = .int i ∧ SqL K H p xs ∧ atI xs i = some v ∧ Q v H
def rIxT (K : PySem.W.Frag) : R2 := fun x y H Q => ∃ p xs i v, x = .ref p ∧ y = .int i ∧ SqT K H p xs ∧ atI xs i = some v ∧ Q v H
def rIxS : R2 := fun x y H Q => ∃ z i c, x = .str z ∧ y = .int i ∧ z.length ≤ sizeLine ∧ atI z.cps.toList i = some c ∧ Q (.str ⟨#[c]⟩) H
theorem ix_list : IxR X (rIxL X.K) := by
  intro value slice pins s σ H x y v u Q I rx ry h hs
  obtain ⟨p, xs, i, z, rfl, rfl, hq, he, q⟩ := h
  cases rx
  obtain ⟨t, rfl⟩ := ry
  obtain ⟨its, r, pl, hz⟩ := I.list hq
  obtain ⟨j, h1, h2, h3, h4, h5⟩ := atI_get he
  obtain ⟨w, ew, rw'⟩ := r.get h2
  have hl := r.length
  have hn := line63
  have fin : EP X pins σ Q w s := ⟨z, H, I, rw', q⟩
  by_cases h0 : 0 ≤ i
  · have hj : i.toNat = j := by
      rw [seqIndex_of h0 h5] at h1
      exact Option.some.inj h1
    exact item_listR pl.isList h0 (by omega) (by rw [hj]; simpa using ew) fin hs
  · have hj : (i + (its.toArray.size : Int)).toNat = j := by
      rw [seqIndex_neg (by omega) h4] at h1
      rw [List.size_toArray, ← hl]
      exact Option.some.inj h1
    exact subscriptTail_builtinR (x := w) pl.isList.typeIs slot_list_getitem.lookup
      (wpAny_getItem_list_neg (Q := fun r s' => r = w ∧ EP X pins σ Q r s') pl.isList (by omega) (by rw [List.size_toArray] <;> omega) (by omega) (by rw [hj]; simpa using ew) ⟨rfl, fin⟩) hs
theorem ix_tup : IxR X (rIxT X.K) := by
  intro value slice pins s σ H x y v u Q I rx ry h hs
  obtain ⟨p, xs, i, z, rfl, rfl, hq, he, q⟩ := h
  cases rx
  obtain ⟨t, rfl⟩ := ry
  obtain ⟨its, r, pl, hz⟩ := I.tuple hq
  obtain ⟨j, h1, h2, h3, h4, h5⟩ := atI_get he
  obtain ⟨w, ew, rw'⟩ := r.get h2
  have hl := r.length
  have hn := line63
  have fin : EP X pins σ Q w s := ⟨z, H, I, rw', q⟩
  exact subscriptTail_builtinR (x := w) pl.typeIs slot_tuple_getitem.lookup
    (getItem_tuple (j := j) (Q := fun r s' => r = w ∧ EP X pins σ Q r s') pl (by omega) (by omega) (by rw [List.size_toArray, ← hl]; exact h1) (by simpa using ew) ⟨rfl, fin⟩) hs
theorem ix_str : IxR X rIxS := by
  intro value slice pins s σ H x y v u Q I rx ry h hs
  obtain ⟨z, i, c, rfl, rfl, hz, he, q⟩ := h
  obtain ⟨t, rfl⟩ := rx
  obtain ⟨t', rfl⟩ := ry
  obtain ⟨j, h1, h2, h3, h4, h5⟩ := atI_get he
  have hl : z.cps.toList.length = z.length := by simp [Str.length]
  rw [hl] at h1 h4 h5
  have hn := line63
  exact tail_any (typeIs_str s z t) slot_str_getitem.lookup (getItem_str (c := c) (by
    have e1 : decide (i < -(2 ^ 63 : Int)) = false := decide_eq_false (by omega)
    have e2 : decide (i ≥ 2 ^ 63) = false := decide_eq_false (by omega)
    rw [e1, e2, Bool.or_false]) (by rw [h1]; simpa using h2) ⟨.str ⟨#[c]⟩, H, I.tok _, ⟨_, rfl⟩, q⟩) hs
theorem mapSeq_set (its : List Value) (n j : Nat) (u : Value) : Obj.mapSeq (·.setIfInBounds j u) { cls := .type "list", data := .seq its.toArray n } = { cls := .type "list", data := .seq (its.set j u).toArray n } := by
  simp [Obj.mapSeq]
theorem Inv.lst {pins : List (Addr × Obj)} {σ : St} {H : Hp} {s : Shared} {p : Addr} {xs : List V} (I : Inv X pins σ H s) (h : H p = some (.lst xs)) :
    ∃ (its : List Value) (n : Nat), Vals xs its ∧ s.heap.get? p = some { cls := .type "list", data := .seq its.toArray n } ∧ xs.length ≤ sizeLine := by
  obtain ⟨z, its, n, r, e⟩ := I.hok p _ h
  exact ⟨its, n, r, e, z⟩
theorem Inv.lstUpd {pins : List (Addr × Obj)} {σ : St} {H : Hp} {s : Shared} {p : Addr} {xs ys : List V} {its its' : List Value} {n n' : Nat} {f : Obj → Obj} (I : Inv X pins σ H s) (h : H p = some (.lst xs))
    (ho : s.heap.get? p = some { cls := .type "list", data := .seq its.toArray n }) (hf : f { cls := .type "list", data := .seq its.toArray n } = { cls := .type "list", data := .seq its'.toArray n' }) (r : Vals ys its') (hz : ys.length ≤ sizeLine) (t : Nat) :
    Inv X pins σ (upd H p (.lst ys)) { s with heap := s.heap.update p f, toks := t } := by
  have e : (s.heap.update p f).get? p = some { cls := .type "list", data := .seq its'.toArray n' } := by
    rw [Heap.get?_update_self f ho (by rw [hf] <;> rfl), hf]
  refine I.write (x := p) (e := p) (by rw [h]; trivial) (.inl rfl) (fun b u hb q => (Heap.get?_update_other _ _ (Ne.symm hb)).trans q) ⟨_, e⟩ ?_
  exact ⟨hz, its', n', r, e⟩
def rSetL : V → V → V → Hp → (Hp → Prop) → Prop := fun o i v H Q => ∃ p xs k j, o = .ref p ∧ i = .int k ∧ H p = some (.lst xs) ∧ ixN xs.length k = some j ∧ Q (upd H p (.lst (xs.set j v)))
theorem set_list : PSet X rSetL := by
  intro pins s σ H o i v ov iv u Q I ro ri rv h
  obtain ⟨p, xs, k, j, rfl, rfl, hp, hj, q⟩ := h
  cases ro
  obtain ⟨t, rfl⟩ := ri
  obtain ⟨its, n, r, ho, hz⟩ := I.lst hp
  obtain ⟨h1, h2, h3, h4⟩ := ixN_seq hj
  have hl := r.length
  have hn := line63
  have I' : Inv X pins σ (upd H p (.lst (xs.set j v))) { s with heap := s.heap.update p (Obj.mapSeq (·.setIfInBounds j u)) } :=
    I.lstUpd hp ho (mapSeq_set its n j u) (r.set rv j) (by rw [List.length_set]; exact hz) s.toks
  by_cases h0 : 0 ≤ k
  · have hk : k.toNat = j := by
      rw [seqIndex_of h0 h4] at h1
      exact Option.some.inj h1
    exact PySem.W.ki_setAt ho h0 (by omega) (by rw [List.size_toArray, ← hl]; exact h4) (by rw [hk]; exact ⟨_, I', q⟩)
  · have hk : (k + (its.toArray.size : Int)).toNat = j := by
      rw [seqIndex_neg (by omega) h3] at h1
      rw [List.size_toArray, ← hl]
      exact Option.some.inj h1
    exact PySem.W.ki_setBack ho (by omega) (by rw [List.size_toArray, ← hl]; exact h3) (by omega) (by rw [hk]; exact ⟨_, I', q⟩)
theorem slice_bounds (lo hi : Option Int) (n : Nat) : (sliceBounds lo hi none n).1 = ((HT.sIx n 0 lo : Nat) : Int) ∧ (sliceBounds lo hi none n).2.1 = ((HT.sIx n n hi : Nat) : Int) ∧ (sliceBounds lo hi none n).2.2 = 1 := by
  refine ⟨?_, ?_, rfl⟩
  · cases lo with
    | none => simp [sliceBounds, HT.sIx]
    | some i =>
      simp only [sliceBounds, HT.sIx, Option.getD_none, show (1 : Int) > 0 by decide, if_true]
      by_cases h : i < 0
      · simp only [h, if_true] <;> omega
      · simp only [h, if_false] <;> omega
  · cases hi with
    | none => simp [sliceBounds, HT.sIx]
    | some i =>
      simp only [sliceBounds, HT.sIx, Option.getD_none, show (1 : Int) > 0 by decide, if_true]
      by_cases h : i < 0
      · simp only [h, if_true] <;> omega
      · simp only [h, if_false] <;> omega
theorem slicePick_cut (its : List Value) (lo hi : Option Int) : slicePick its.toArray lo hi none = ((its.drop (HT.sIx its.length 0 lo)).take (HT.sIx its.length its.length hi - HT.sIx its.length 0 lo)).toArray := by
  obtain ⟨h1, h2, h3⟩ := slice_bounds lo hi its.toArray.size
  unfold slicePick
  rw [h1, h2, h3]
  simp only [sliceRange_one, pick_run, List.size_toArray] <;> rfl
def rSlL (K : PySem.W.Frag) : V → Option Int → Option Int → Hp → VK → Prop := fun x lo hi H Q => ∃ a xs, x = .ref a ∧ SqL K H a xs ∧ ∀ p, H p = none → Q (.ref p) (upd H p (.lst (cutV xs lo hi)))
theorem sl_list : SlR X (rSlL X.K) := by
  intro pins s σ H x v vl vu lo hi sl Q I rx hs pl pu h
  obtain ⟨a, xs, rfl, hx, q⟩ := h
  cases rx
  obtain ⟨its, r, ht, hz⟩ := I.list hx
  have hlen := r.length
  refine ⟨"list", _, slot_list_getitem.lookup, ht.isList.typeIs, ?_⟩
  refine wpAny_getItem_list_slice ht.isList hs pl pu .none (by simp) ?_ (by rw [List.size_toArray] <;> omega)
  rw [slicePick_cut, ← hlen]
  refine ⟨.ref s.heap.objs.size, _, I.laid (t' := s.toks) (o := .lst (cutV xs lo hi)) (fun b ob q => Heap.get?_push_of_some _ q) (Nat.le_refl _) ?_, rfl, q _ (I.hok.fresh (Nat.le_refl _))⟩
  exact ⟨Nat.le_trans (cutV_length xs lo hi) hz, _, 0, (r.drop (HT.sIx xs.length 0 lo)).take (HT.sIx xs.length xs.length hi - HT.sIx xs.length 0 lo), Heap.get?_push_size _ rfl⟩
theorem call_len_seq : CallR X (.builtin "len") (fun xs H Q => ∃ p ys, xs = [.ref p] ∧ (SqL X.K H p ys ∨ SqT X.K H p ys) ∧ Q (.int ys.length) H) := by
  intro pins s σ H xs us Q I r h
  obtain ⟨p, ys, rfl, hq, q⟩ := h
  obtain ⟨u, rfl, rx⟩ := vals1 r
  cases rx
  have hn := line63
  rcases hq with hq | hq
  · obtain ⟨its, r', pl, hz⟩ := I.list hq
    have hlen := r'.length
    exact Calls.call_len_list pl.isList (by simp only [List.size_toArray] <;> omega) ⟨.int ys.length, H, I.tok _, ⟨s.toks + 1, by rw [List.size_toArray, hlen]⟩, q⟩
  · obtain ⟨its, r', pl, hz⟩ := I.tuple hq
    have hlen := r'.length
    exact len_tuple pl (by simp only [List.size_toArray] <;> omega) ⟨.int ys.length, H, I.tok _, ⟨s.toks + 1, by rw [List.size_toArray, hlen]⟩, q⟩
theorem call_list_of : CallR X (.type "list") (fun xs H Q => ∃ p ys, xs = [.ref p] ∧ (SqL X.K H p ys ∨ SqT X.K H p ys) ∧ ∀ l, H l = none → Q (.ref l) (upd H l (.lst ys))) := by
  intro pins s σ H xs us Q I r h
  obtain ⟨p, ys, rfl, hq, q⟩ := h
  obtain ⟨u, rfl, rx⟩ := vals1 r
  cases rx
  have fin : ∀ (its : List Value), Vals ys its → ys.length ≤ sizeLine → ∀ (h' : Heap) (c' : Nat), (∀ b o', s.heap.get? b = some o' → h'.get? b = some o') →
      h'.get? s.heap.objs.size = some { cls := .type "list", dict := none, data := .seq its.toArray c', slots := #[] } → EP X pins σ Q (.ref s.heap.objs.size) { s with heap := h' } := fun its r' hz h' c' kp e =>
    ⟨.ref s.heap.objs.size, _, I.laid (t' := s.toks) kp (Nat.le_refl _) (show ObjOk X.prog X.w _ h' _ (.lst ys) from ⟨hz, its, c', r', e⟩), rfl, q _ (I.hok.fresh (Nat.le_refl _))⟩
  rcases hq with hq | hq
  · obtain ⟨its, r', pl, hz⟩ := I.list hq
    have hlen := r'.length
    obtain ⟨o, ho, hc, n, hd⟩ := pl.isList
    exact call_list_seq p (.inl rfl) ho hc hd (fun h' c' kp e => fin its r' hz h' c' kp e) (by simp only [List.size_toArray] <;> omega)
  · obtain ⟨its, r', pl, hz⟩ := I.tuple hq
    have hlen := r'.length
    obtain ⟨o, ho, hc, n, hd⟩ := pl
    exact call_list_seq p (.inr rfl) ho hc hd (fun h' c' kp e => fin its r' hz h' c' kp e) (by simp only [List.size_toArray] <;> omega)
theorem call_tuple_of : CallR X (.type "tuple") (fun xs H Q => ∃ p ys, xs = [.ref p] ∧ ((SqL X.K H p ys ∧ ∀ l, H l = none → Q (.ref l) (upd H l (.tup ys))) ∨ (SqT X.K H p ys ∧ Q (.ref p) H))) := by
  intro pins s σ H xs us Q I r h
  obtain ⟨p, ys, rfl, h⟩ := h
  obtain ⟨u, rfl, rx⟩ := vals1 r
  cases rx
  rcases h with ⟨hq, q⟩ | ⟨hq, q⟩
  · obtain ⟨its, r', pl, hz⟩ := I.list hq
    have hlen := r'.length
    refine call_tuple_list pl.isList (fun h' kp => ?_) (by simp only [List.size_toArray] <;> omega)
    have I1 : Inv X pins σ H { s with heap := h' } := I.kept (t' := s.toks) kp
    have I2 : Inv X pins σ (upd H h'.objs.size (.tup ys)) { s with heap := h'.push { cls := .type "tuple", data := .seq its.toArray } } :=
      I1.laid (t' := s.toks) (fun b o e => Heap.get?_push_of_some _ e) (Nat.le_refl _) (show ObjOk X.prog X.w _ _ _ (.tup ys) from ⟨hz, its, r', IsTup.new _ _⟩)
    exact ⟨.ref h'.objs.size, _, I2, rfl, q _ (I1.hok.fresh (Nat.le_refl _))⟩
  · obtain ⟨its, r', pl, hz⟩ := I.tuple hq
    exact call_tuple_same pl ⟨.ref p, H, I, rfl, q⟩
def tyV (K : PySem.W.Frag) (T : String) (x : V) (H : Hp) : Prop := match x with
  | .str _ => T = "str"
  | .int _ => T = "int"
  | .ref p => (T = "list" ∧ ∃ xs, SqL K H p xs) ∨ (T = "tuple" ∧ ∃ o, K.lookup p = some o ∧ o.cls = .type "tuple" ∧ o.dict = none) ∨
      (T = "dict" ∧ ((∃ kvs, H p = some (.dK kvs)) ∨ ∃ kvs, H p = some (.dT kvs))) ∨ (T = "set" ∧ ∃ S n, H p = some (.set S n))
  | _ => False
theorem tyV_is {pins : List (Addr × Obj)} {σ : St} {H : Hp} {s : Shared} {T : String} {x : V} {v : Value} (I : Inv X pins σ H s) (r : RelV x v) (ty : tyV X.K T x H) :
    s.TypeIs v T ∧ ∀ a, v = .ref a → ∃ ob, s.heap.get? a = some ob ∧ ob.dict = none := by
  cases x with
  | str z =>
    obtain ⟨t, rfl⟩ := r
    cases (show T = "str" from ty)
    exact ⟨typeIs_str s z t, fun _ e => nomatch e⟩
  | int i =>
    obtain ⟨t, rfl⟩ := r
    cases (show T = "int" from ty)
    exact ⟨typeIs_int s i t, fun _ e => nomatch e⟩
  | ref p =>
    cases r
    rcases ty with ⟨rfl, xs, hq⟩ | ⟨rfl, o, hk, hc, hd⟩ | ⟨rfl, hk⟩ | ⟨rfl, S, n, hk⟩
    · obtain ⟨its, _, pl, _⟩ := I.list hq
      refine ⟨pl.isList.typeIs, fun a e => ?_⟩
      cases e
      obtain ⟨o, n, e, c, hd, _⟩ := pl
      exact ⟨o, e, hd⟩
    · refine ⟨⟨o, I.kIn p o hk, hc⟩, fun a e => ?_⟩
      cases e
      exact ⟨o, I.kIn _ o hk, hd⟩
    · have z : ∃ o, s.heap.get? p = some o ∧ o.ExactDict := by
        rcases hk with ⟨kvs, hk⟩ | ⟨kvs, hk⟩
        · obtain ⟨_, _, _, _, o, _, _, e, ex, _⟩ := I.hok p _ hk
          exact ⟨o, e, ex⟩
        · obtain ⟨_, _, _, _, o, _, _, e, ex, _⟩ := I.hok p _ hk
          exact ⟨o, e, ex⟩
      obtain ⟨o, e, ex⟩ := z
      refine ⟨⟨o, e, ex.1⟩, fun a e2 => ?_⟩
      cases e2
      exact ⟨o, e, ex.2.1⟩
    · obtain ⟨o, _, _, _, e, ex, _⟩ := I.hok p _ hk
      refine ⟨⟨o, e, ex.1⟩, fun a e2 => ?_⟩
      cases e2
      exact ⟨o, e, ex.2.1⟩
  | _ => exact False.elim ty
def tBM (K : PySem.W.Frag) (T : String) (r : V → List V → Hp → VK → Prop) (to : TE) (t : TA) : TE := fun σ H Q => to σ H fun x H1 => tyV K T x H1 ∧ t σ H1 fun xs H2 => r x xs H2 Q
variable {o e : Expr} {es : List Expr} {to : TE} {t : TA} {name : Str} {apos cpos : Pos} {T id : String} {r : V → List V → Hp → VK → Prop}
theorem pe_bm (pa : PlainAttrs T) (slot : Slot T name id) (hty : typeOf (.builtin id) = pure (.type "method_descriptor")) (hm : MtR X id r) (ho : PE X o to) (ha : PA X (e :: es) t)
    (hbase : attributeBase o name X.env (eval o X.env) = eval o X.env := by rfl)
    (hfew : ((backTo cpos (starEach (e :: es) X.env)).all (fun x => !x.1) && (backToKw cpos (keywordEach [] X.env)).all (fun x => x.1.isSome)
      && decide ((e :: es).length + ([] : List Keyword).length + (if ([] : List Keyword).isEmpty then 0 else 1) < 30)) = true := by rfl)
    (hline : (apos.endLine == cpos.line) = true := by rfl) (hs : starEach (e :: es) X.env = (false, eval e X.env) :: starEach es X.env := by rfl) (hplain : (backTo cpos (starEach es X.env)).any (·.1) = false := by rfl) :
    PE X (.Call (.Attribute o name apos) (e :: es) [] cpos) (tBM X.K T r to t) := by
  intro pins s σ H Q I h
  refine wpAny_Call_method_late hbase hfew hline rfl (thn (ho pins s σ H _ I h) fun v s1 ⟨x, H1, I1, r1, ty, q1⟩ => ?_)
  obtain ⟨h1, h2⟩ := tyV_is I1 r1 ty
  refine ⟨T, id, pa, slot, hty, h1, h2, ?_⟩
  have hA := ha cpos pins s1 σ H1 _ I1 q1
  rw [hs] at hA ⊢
  refine Calls.callWith_builtin (by show (false || (backTo cpos (starEach es X.env)).any (·.1)) = false; rw [hplain] <;> rfl) (Calls.evalArgs_plain ?_)
  exact thn hA fun us s2 ⟨vs, H2, I2, r2, q2⟩ => hm pins s2 σ H2 x vs v us Q I2 r1 r2 q2
/- xs.append(e), list.index on a module's tuple .. are MtR facts of 06m -/
end
end L2
namespace L2
open PySem PySem.Spec PyProof.Rows
def MtM (X : Cx) (id : String) (r : V → List V → Hp → VK → Prop) : Prop :=
  ∀ (pins : List (Addr × Obj)) (s : Shared) (σ : St) (H : Hp) (x : V) (xs : List V) (v : Value) (us : List Value) (Q : VK), Inv X pins σ H s → RelV x v → Vals xs us → r x xs H Q →
    wpAny (model X.prog X.w) X.A (call (.builtin id) (v :: us)) (EP X pins σ Q) X.xe s
theorem Vals.one : ∀ {x : V} {us : List Value}, Vals [x] us → ∃ u, us = [u] ∧ RelV x u
  | _, _, .cons r .nil => ⟨_, rfl, r⟩
theorem Vals.two : ∀ {x y : V} {us : List Value}, Vals [x, y] us → ∃ u v, us = [u, v] ∧ RelV x u ∧ RelV y v
  | _, _, _, .cons r (.cons q .nil) => ⟨_, _, rfl, r, q⟩
section
variable {X : Cx} {pins : List (Addr × Obj)} {σ : St} {H : Hp} {s : Shared} {l b : Addr} {xs ys zs : List V}
theorem Inv.lset {its its' : List Value} {n : Nat} {f : Array Value → Array Value} {t' : Nat} (I : Inv X pins σ H s) (hH : H l = some (.lst xs))
    (e : s.heap.get? l = some { cls := .type "list", data := .seq its.toArray n }) (hf : f its.toArray = its'.toArray) (hv : Vals ys its') (hz : ys.length ≤ sizeLine) :
    Inv X pins σ (upd H l (.lst ys)) { s with heap := s.heap.update l (Obj.mapSeq f), toks := t' } := by
  have q := PySem.IsL.update e f
  rw [hf] at q
  refine I.write (x := l) (e := l) (by rw [hH]; exact trivial) (.inl rfl) (fun b' u hb hu => (Heap.get?_update_other s.heap (Obj.mapSeq f) (Ne.symm hb)).trans hu) ⟨_, q⟩ ?_
  exact ⟨hz, its', _, hv, q⟩
theorem Inv.lnew {its : List Value} {t' : Nat} (I : Inv X pins σ H s) (hv : Vals ys its) (hz : ys.length ≤ sizeLine) :
    Inv X pins σ (upd H s.heap.objs.size (.lst ys)) { s with heap := s.heap.push { cls := .type "list", data := .seq its.toArray }, toks := t' } :=
  I.laid (fun _ _ q => Heap.get?_push_of_some _ q) (Nat.le_refl _) ⟨hz, its, 0, hv, Heap.get?_push_size _ rfl⟩
theorem Inv.fresh (I : Inv X pins σ H s) : H s.heap.objs.size = none := I.hok.fresh (Nat.le_refl _)
theorem Inv.lstM (I : Inv X pins σ H s) (hH : H l = some (.lst xs)) : xs.length ≤ sizeLine ∧ ∃ (its : List Value) (n : Nat), Vals xs its ∧ xs.length = its.length ∧ s.heap.get? l = some { cls := .type "list", data := .seq its.toArray n } := by
  obtain ⟨z, its, n, r, e⟩ := I.hok l _ hH
  exact ⟨z, its, n, r, r.length, e⟩
end
section
variable {X : Cx}
def rAppend : V → List V → Hp → VK → Prop := fun x vs H Q => ∃ l xs y, x = .ref l ∧ vs = [y] ∧ H l = some (.lst xs) ∧ xs.length < sizeLine ∧ Q .non (upd H l (.lst (xs ++ [y])))
theorem mt_append : MtM X "list.append" rAppend := by
  intro pins s σ H x vs v us Q I rx rv h
  obtain ⟨l, xs, y, rfl, rfl, hH, hz, q⟩ := h
  cases rx
  obtain ⟨u, rfl, ru⟩ := rv.one
  obtain ⟨z, its, n, r, hl, e⟩ := I.lstM hH
  refine call_meets F.slot_list_append ⟨_, e, rfl⟩ F.entry_list_append (F.args_list_append_2 _ _) (PySem.list_append l its.toArray n u (by rw [List.size_toArray]; omega)) ⟨e, ?_⟩
  refine ⟨.non, _, I.lset (its' := its ++ [u]) hH e (by simp) (r.append (.cons ru .nil)) ?_, rfl, q⟩
  rw [List.length_append, List.length_singleton]
  omega
end
section
variable {prog : Program} {w : World} {A : Around} {E : Value → Shared → Prop} {s : Shared}
set_option maxRecDepth 100000 in
end
section
variable {X : Cx}
end
end L2
namespace Att
open PySem PySem.W PySem.Calls PyProof.Rows
theorem ints_of_wellAll {P : Params} {h : Heap} : ∀ (ns : List Int) (vs : List Value), WellAll P h vs (ns.map WData.int) → IntsAre vs ns := by
  intro ns
  induction ns with
  | nil =>
    intro vs w
    rw [List.map_nil] at w
    cases w
    exact .nil
  | cons n ns ih =>
    intro vs w
    rw [List.map_cons] at w
    cases w with
    | cons a b =>
      cases a
      exact .cons _ _ (ih _ b)
theorem script_of {l : OpenLaw} {n : Nat} (hn : l.most = some n) {P : Params} {h : Heap} {args : List WData} {vals : List Value}
    (hpre : l.row.toRowW.claim.pre args = true) (hwl : WellAll P h vals args) :
    ∃ a vs ns, vals = [Value.ref a] ∧ args = [WData.list (ns.map WData.int)] ∧ h.get? a = some { cls := .type "list", data := .seq vs.toArray } ∧ IntsAre vs ns ∧ ns.length ≤ n := by
  have hsh : WShape.hasAll [] args [.list .int] = true := (pre_splitW hpre).1
  have hc : l.pre.holds [] { args := args } = true := (pre_splitW hpre).2
  obtain ⟨d, r, rfl, h1, h2⟩ := hasAllW_cons hsh
  obtain rfl := hasAllW_nil h2
  obtain ⟨xs, rfl, h3⟩ := hasW_list h1
  obtain ⟨ns, rfl⟩ := items_int h3
  have hlen : ns.length ≤ n := by
    unfold OpenLaw.pre at hc
    have h4 : (WTm.not (.lt (.lit (.int (n : Int))) (.len (.arg 0)))).holds [] { args := [.list (ns.map .int)] } = true := by
      have h4 := (holds_andW hc).1
      rw [hn] at h4
      exact h4
    have h5 := condW_of h4 (w_not (w_lt w_lit (w_len_list (w_arg rfl))))
    rw [List.length_map] at h5
    refine Nat.le_of_not_lt fun q => ?_
    have q' : (n : Int) < ((ns.length : Nat) : Int) := by omega
    first
      | (rw [decide_eq_true q'] at h5; exact absurd h5 (by decide))
      | (simp at h5; omega)
  cases hwl with
  | cons w1 w2 =>
    cases w2
    cases w1 with
    | list ho hall => exact ⟨_, _, ns, rfl, rfl, ho, ints_of_wellAll ns _ hall, hlen⟩
theorem post_true (l : OpenLaw) (args : List WData) : l.row.toRowW.claim.post args (.bool true) args = true :=
  postW_of (r := l.row.toRowW) (X := (true == true))
    (show WShape.has [] (.bool true) .bool = true by first | rfl | decide | simp [WShape.has, WShape.arms, WShape.armsAll])
    (show (WTm.eq .res (.lit (.bool true))).value [] { args := args, res := some (.bool true), after := args } = some (.bool (true == true)) from w_eq_bool (w_res rfl) w_lit) rfl
theorem attach_call {l : OpenLaw} {n : Nat} {q : Program} {loose : List Str} {XP : (Str → Option Value) → Heap → Prop} {YP : World → Heap → Prop} {d : DefRec}
    (hn : l.most = some n) (hdf : d.params.defaults = [])
    (call : ∀ (w : World) (s₀ s₁ : Shared) (mg mb : Str → Option Value) (fa : Addr) (o : Obj) (pm cd doc : Value) (a : Addr) (vs : List Value) (ns : List Int),
      Ground q loose [] XP w s₀ mg mb s₁.heap → YP w s₁.heap →
      s₁.heap.get? fa = some o → o.data = .func (docDef d.name d.params d.body d.scope pm cd doc) → s₁.heap.CodeRec cd d.name → mg d.name = some (.ref fa) →
      s₁.heap.get? a = some { cls := .type "list", data := .seq vs.toArray } → IntsAre vs ns → ns.length ≤ n → s₁.gens = #[] →
      codeAny (model l.prog w) callerA (.call (.ref fa) ⟨[.ref a], []⟩) (fun r s' => r = .ok (.ret (.bool true)) ∧ OldK s₁.heap s'.heap ∧ s'.os = s₁.os ∧ AllBare s'.gens) s₁) :
    WalkO q loose XP YP l.row.toRowW d [] (fun f vs => PySem.call f vs) := by
  intro w s₀ s₁ mg mb G Y fa o pm cd doc dV kV ho hd hcd hD hmg hg args vals as hpre hlay hrd hwl hlo
  obtain rfl : dV = .none := Dflts.none hD hdf
  obtain rfl : kV = .none := Dflts.noKw hD
  obtain ⟨a, vs, ns, rfl, rfl, hobj, hints, hlen⟩ := script_of hn hpre hwl
  refine enter_call (codeAny_mono (call w s₀ s₁ mg mb fa o pm cd doc a vs ns G Y ho (fd_plain hd) hcd hmg hobj hints hlen hg) fun r s' hq => ?_)
  obtain ⟨rfl, h2, h3, h4⟩ := hq
  exact ⟨.inl ⟨.bool true, .bool true, [], rfl, fun _ => rfl, .bool true, post_true l _, fun _ => ⟨List.Pairwise.nil, fun _ hm => (nomatch hm)⟩⟩, h2, h3, h4⟩
section
variable {prog : Program} {w : World} {A : Around} {E : Value → Shared → Prop} {s : Shared} {K : Frag}
def ledger (h : Heap) (L d : Addr) : List (Addr × Obj) := (List.range h.objs.size).filterMap fun a => if a = L ∨ a = d then none else (h.get? a).map fun o => (a, o)
end
end Att
namespace L2
open PySem PySem.Spec PyProof.Rows
theorem vals_ints : ∀ {vs : List Value} {ns : List Int}, IntsAre vs ns → Vals (ns.map V.int) vs
  | _, _, .nil => .nil
  | _, _, .cons n t h => .cons ⟨t, rfl⟩ (vals_ints h)
def Only (H : Hp) : Prop := ∀ b, H b = none ∨ ∃ o xs, H b = some (.frz o (.lst xs))
theorem law_call {P : Program} {w : World} {K : PySem.W.Frag} {mg mb : Str → Option Value} {CX : CXT} {k : Nat} {fa a : Addr} {fd : FuncData} {x : Str} {sp : Sp} {s₁ : Shared} {vs : List Value} {ns : List Int}
    (KX : K.In s₁.heap) (hns : s₁.heap.Ns mainGlobals mg) (hb : s₁.heap.Ns builtinsNs mb) (hbb : ∀ x : Str, x ≠ "__name__" → mb x = bootBuiltins x) (hlim : s₁.heap.NoLimit) (hg : s₁.gens = #[])
    (ha : s₁.heap.get? a = some { cls := .type "list", data := .seq vs.toArray }) (hi : IntsAre vs ns) (hl : ns.length ≤ sizeLine) (hr : Room k callerA)
    (F : ∀ base : Heap, K.In base → base.Ns mainGlobals mg → FnOk P w K mg base CX k fa fd [x] sp) (hbind : ∀ (s : Shared) (u : Value), BindsTo s fd ⟨[u], []⟩ [(x, u)])
    (hsp : ∀ H : Hp, Only H → SqL K H a (ns.map V.int) → sp [.ref a] H (fun v _ => v = .bl true) fun _ _ _ => False)
    (hCX : ∀ H e s', CX [] H s₁ (fun _ _ _ => False) e s' → False) :
    codeAny (model P w) callerA (.call (.ref fa) ⟨[.ref a], []⟩) (fun r s' => r = .ok (.ret (.bool true)) ∧ OldK s₁.heap s'.heap ∧ s'.os = s₁.os ∧ AllBare s'.gens) s₁ := by
  have rv := vals_ints hi
  have lenV := hi.length
  have core : ∀ H : Hp, Only H → SqL K H a (ns.map V.int) → HOk P w H s₁.heap → (∀ b, H b ≠ none → b = a) → (H a ≠ none → K.lookup a = none) →
      codeAny (model P w) callerA (.call (.ref fa) ⟨[.ref a], []⟩) (fun r s' => r = .ok (.ret (.bool true)) ∧ OldK s₁.heap s'.heap ∧ s'.os = s₁.os ∧ AllBare s'.gens) s₁ := by
    intro H hO hS hok hA hK
    have base_of : ∀ {b : Addr} {o : Obj}, s₁.heap.get? b = some o → H b = none → (hidT s₁.heap H).get? b = some o := fun e n => hidT_get e n
    have noA : ∀ {b : Addr} {o : Obj} {es : Array DictEntry} {ep : Nat}, s₁.heap.get? b = some o → o.data = .dict es ep → H b = none := fun {b o es ep} e d => by
      cases q : H b with
      | none => rfl
      | some u =>
        have e' : b = a := hA b (by rw [q]; simp)
        subst e'
        rw [ha] at e; cases e
        have d' : Data.seq vs.toArray _ = Data.dict es ep := d
        cases d'
    have nsK : ∀ {b : Addr} {m : Str → Option Value}, s₁.heap.Ns b m → (hidT s₁.heap H).Ns b m := fun {b m} ⟨o, es, ep, e, d, r⟩ => ⟨o, es, ep, base_of e (noA e d), d, r⟩
    have hKb : K.In (hidT s₁.heap H) := fun b o e => base_of (KX b o e) (by
      cases q : H b with
      | none => rfl
      | some u =>
        have e' : b = a := hA b (by rw [q]; simp)
        subst e'
        rw [hK (by rw [q]; simp)] at e; cases e)
    have hM : Mod K mg (hidT s₁.heap H) := ⟨hKb, nsK hns, ⟨mb, nsK hb, hbb⟩, let ⟨mc, h1, h2⟩ := hlim; ⟨mc, nsK h1, h2⟩⟩
    have e0 : Env0 P w K mg (hidT s₁.heap H) callerA [] s₁ H := ⟨rfl, hM, fun b o e => of_hidT e, Nat.le_of_eq (hidT_size _ _), trivial, fun b hb => absurd (show b ∈ ([] : List Addr) from hb) (by simp), hok, .of_eq hg⟩
    refine codeAny_mono ((F _ hKb (nsK hns)).run callerA [] s₁ H ⟨[.ref a], []⟩ [.ref a] [.ref a] _ _ hr e0 (hbind s₁ (.ref a)) (.cons rfl .nil) (hsp H hO hS)) fun r s' h => ?_
    cases r with
    | error e => exact (hCX H e s' h).elim
    | ok fl =>
      cases fl with
      | next => exact False.elim h
      | brk => exact False.elim h
      | cont => exact False.elim h
      | ret u =>
        obtain ⟨v, H', os, bare, un, hok', r', q⟩ := h
        have q' : v = .bl true := q
        subst q'
        obtain rfl : u = Value.bool true := r'
        refine ⟨rfl, OldK.of_keep fun b o e => ?_, os, bare⟩
        cases q : H b with
        | none => exact un.keep b o e q (by intro z; exact absurd (show b ∈ ([] : List Addr) from z) (by simp)) (by simp)
        | some u =>
          rcases hO b with z | ⟨ob, xs, z⟩
          · rw [q] at z; cases z
          · have z2 := un.frzs b ob _ z
            obtain ⟨e1, _⟩ := hok b _ z
            obtain ⟨e2, _⟩ := hok' b _ z2
            rw [e] at e1; cases e1
            exact e2
  cases hk : K.lookup a with
  | some o =>
    have e := KX a o hk
    rw [ha] at e
    cases e
    refine core (fun _ => none) (fun _ => .inl rfl) (.inr ⟨_, vs.toArray, _, hk, rfl, rfl, rfl, by rw [List.size_toArray, lenV]; exact hl, by simpa using rv⟩) (fun b u z => by have z' : (none : Option HO) = some u := z; cases z') (fun b z => absurd rfl z) fun z => absurd rfl z
  | none =>
    refine core (fun b => if b = a then some (.frz { cls := .type "list", data := .seq vs.toArray } (.lst (ns.map V.int))) else none) (fun b => ?_) (.inl (.inr ⟨{ cls := .type "list", data := .seq vs.toArray }, if_pos rfl⟩)) (fun b u z => ?_) (fun b z => ?_) fun _ => hk
    · by_cases hb : b = a
      · exact .inr ⟨_, _, if_pos hb⟩
      · exact .inl (if_neg hb)
    · by_cases hb : b = a
      · have z' := (if_pos hb).symm.trans z
        cases z'
        subst hb
        exact ⟨ha, by rw [List.length_map]; exact hl, vs, _, rv, ha⟩
      · have z' := (if_neg hb).symm.trans z
        cases z'
    · by_cases hb : b = a
      · exact hb
      · exact absurd (if_neg hb) z
end L2
namespace L2
open PySem PySem.Spec PyProof.Rows
abbrev KOf {K : PySem.W.Frag} {h : Heap} (_ : K.In h) : PySem.W.Frag := K
theorem walk_of {l : PySem.W.OpenLaw} {n k : Nat} {q : Program} {loose : List Str} {XP : (Str → Option Value) → Heap → Prop} {YP : World → Heap → Prop} {d : DefRec} {K : Params → PySem.W.Frag} {CX : World → CXT} {sp : World → Sp} {x : Str}
    (hn : l.most = some n) (hn2 : n ≤ sizeLine) (hdf : d.params.defaults = []) (hr : Room k callerA)
    (hY : ∀ (w : World) (h : Heap), YP w h → (K w.params).In h)
    (F : ∀ (w : World) (mg : Str → Option Value) (fa : Addr) (h : Heap), (K w.params).In h → h.Ns mainGlobals mg → mg d.name = some (.ref fa) →
      ∃ fd : FuncData, (∀ (s : Shared) (u : Value), BindsTo s fd ⟨[u], []⟩ [(x, u)]) ∧
        ∀ base : Heap, (K w.params).In base → base.Ns mainGlobals mg → FnOk l.prog w (K w.params) mg base (CX w) k fa fd [x] (sp w))
    (hsp : ∀ (w : World) (H : Hp) (a : Addr) (ns : List Int), ns.length ≤ n → Only H → SqL (K w.params) H a (ns.map V.int) → sp w [.ref a] H (fun v _ => v = .bl true) fun _ _ _ => False)
    (hCX : ∀ (w : World) (H : Hp) (s : Shared) (e : Value) (s' : Shared), CX w [] H s (fun _ _ _ => False) e s' → False) :
    PySem.W.WalkO q loose XP YP l.row.toRowW d [] (fun f vs => PySem.call f vs) := by
  refine Att.attach_call hn hdf fun w s₀ s₁ mg mb fa o pm cd doc a vs ns G Y ho hd hcd hmg hobj hints hlen hg => ?_
  have KX := hY w _ Y
  obtain ⟨fd, hb, hF⟩ := F w mg fa _ KX G.T.g hmg
  exact law_call KX G.T.g G.T.b G.T.builtins G.T.nolimit hg hobj hints (Nat.le_trans hlen hn2) hr hF hb (fun H hO hS => hsp w H a ns hlen hO hS) fun H e s' => hCX w H s₁ e s'
end L2
/- THE LAST THEOREM (shape; LID, My.* are yours):
   My.Adr: a structure of the addresses that your layer names (classes, functions); My.Txt K t: a structure (Prop) of the equations over K;
   My.txt_mk : {K} {implicit addresses ..} (e1 : nsIn K mainGlobals "law" = some (some (.ref f))) (e2 : K.lookup f = some ⟨oc, od, .func (fnOf "law" "law" params body scope dV kV doc pm an cdv ct), sl⟩) (e3 : codeIn K cdv "law" = true) .. : ∃ t, My.Txt K t
set_option maxRecDepth 100000 in
set_option maxHeartbeats 0 in
theorem PySem.Challenge.cw_LID_holds : PySem.Challenge.rw_LID.Holds := by
  w_on; o_law; k_head; (case hw => w_witness2)
  k_fill
  refine L2.walk_of (l := PySem.Challenge.rw_LID) (n := 63) (k := 40) (x := "script") (CX := fun w => ..) (sp := fun _ => My.sp_law) rfl (by decide) rfl ⟨rfl, by decide, by decide⟩ (fun w h Y => PySem.W.kIn_of Y) ?F ?S ?C
  case F =>
    intro w mg fa h KX G hmg
    have T : ∃ t, My.Txt (L2.KOf KX) t := by
      dsimp only [L2.KOf]                          -- K must stand as «<heap const> w.params» for k_is
      refine' My.txt_mk ?e1 ?e2 ?e3 ..
      (case e1 => PySem.W.k_is)                    -- in the order: a name -> its address -> its object -> its parts
      (case e2 => PySem.W.k_is)
      ..
    obtain ⟨t, T⟩ := T
    have e0 := hmg.symm.trans (PySem.W.mg_of KX G T.law)
    cases e0                                       -- fa is the law's own address
    exact ⟨_, fun s u => .of_eq rfl, fun base kb nb => My.law_fn T kb nb⟩     -- if «.of_eq rfl» comes too early: refine' ⟨_, ?b, fun base kb nb => My.law_fn T kb nb⟩; exact fun s u => .of_eq rfl
  case S => exact fun w H a ns hl hO hS => ..
  case C => exact ..
(the tactic k_is has no namespace: write k_is) -/
namespace L2
open PySem PySem.Spec PyProof.Rows
def inClass (s : Stmt) (j : Nat) : Stmt := match s with
  | .ClassDef _ _ _ body _ _ _ _ _ _ _ => body.getD j (.Pass ⟨0, 0, 0, 0⟩)
  | _ => .Pass ⟨0, 0, 0, 0⟩
def defArgs (s : Stmt) : Arguments := match s with
  | .FunctionDef _ a _ _ _ _ _ _ _ _ => a
  | _ => { posonlyargs := [], args := [], vararg := none, kwonlyargs := [], kw_defaults := [], kwarg := none, defaults := [] }
def defBody (s : Stmt) : List Stmt := match s with
  | .FunctionDef _ _ b _ _ _ _ _ _ _ => b
  | _ => []
def defScope (s : Stmt) : Scope := match s with
  | .FunctionDef _ _ _ _ _ _ sc _ _ _ => sc
  | _ => { kind := .function, names := [], isGenerator := false, isCoroutine := false }
abbrev CX0 : CXT := fun _ _ _ _ _ _ => False
abbrev E0 : XK := fun _ _ _ => False
theorem pass0 {X : Cx} : Passes CX0 X E0 := fun _ _ _ _ _ _ _ h => h.elim
structure Fun (K : PySem.W.Frag) (x qual : Str) (st : Stmt) (f : Addr) (fd : FuncData) : Prop where
  ex : ∃ (oc : Value) (od : Option Addr) (kV doc pm : Value) (an : Option Addr) (cdv ct : Value) (osl : Array (Option Value)),
    fd = PySem.W.fnOf x qual (defArgs st) (defBody st) (defScope st) .none kV doc pm an cdv ct ∧ K.lookup f = some ⟨oc, od, .func fd, osl⟩ ∧ PySem.W.codeIn K cdv qual = true
  kp : PySem.W.keepIn K (.ref f) = true
section
variable {P : Program} {w : World} {K : PySem.W.Frag} {mg : Str → Option Value} {base : Heap}
theorem Fun.ok {x qual : Str} {st : Stmt} {f : Addr} {fd : FuncData} {N ps : List Str} {k : Nat} {sp : Sp} (F : Fun K x qual st f fd) (S : FnScope N ps (defScope st)) (len : ∀ vs H Q E, sp vs H Q E → vs.length = ps.length)
    (hbody : ∀ (cdv : Value) (A : Around) (outer : List Env) (s : Shared) (H : Hp) (vs : List V) (Q : VK) (E : XK), Room k (A.deeper (envOfC qual (defScope st) s.heap.objs.size f cdv)) → sp vs H Q E →
      ∃ t, PSs (cxOf CX0 P w K mg base N qual (defScope st) f cdv A outer s H E).nox (defBody st) t ∧ t { nx := fun _ H' => Q .non H', rt := Q } (start N vs) H) : FnOk P w K mg base CX0 (k + 1) f fd ps sp := by
  obtain ⟨oc, od, kV, doc, pm, an, cdv, ct, osl, rfl, lk, hcd⟩ := F.ex
  refine fn_of lk hcd S len fun A outer s H vs Q E hr hsp => ?_
  obtain ⟨t, h, q⟩ := hbody cdv A outer s H vs Q E hr hsp
  exact ⟨t, h.nox, q⟩
theorem Fun.binds {x qual : Str} {st : Stmt} {f : Addr} {fd : FuncData} {ps : List Str} (F : Fun K x qual st f fd)
    (h : ∀ (kV doc pm : Value) (an : Option Addr) (cdv ct : Value) (us : List Value), us.length = ps.length → bindArgs (PySem.W.fnOf x qual (defArgs st) (defBody st) (defScope st) .none kV doc pm an cdv ct) ⟨us, []⟩ = pure (ps.zip us)) : Binds K fd ps [] := by
  obtain ⟨oc, od, kV, doc, pm, an, cdv, ct, osl, rfl, lk, hcd⟩ := F.ex
  exact .all (h kV doc pm an cdv ct)
theorem fun_mk {x qual : Str} {st : Stmt} {f : Addr} {oc : Value} {od an : Option Addr} {osl : Array (Option Value)} {kV doc pm cdv ct : Value} (l : K.lookup f = some ⟨oc, od, .func (PySem.W.fnOf x qual (defArgs st) (defBody st) (defScope st) .none kV doc pm an cdv ct), osl⟩)
    (c : PySem.W.codeIn K cdv qual = true) (k : PySem.W.keepIn K (.ref f) = true) : Fun K x qual st f (PySem.W.fnOf x qual (defArgs st) (defBody st) (defScope st) .none kV doc pm an cdv ct) := ⟨⟨oc, od, kV, doc, pm, an, cdv, ct, osl, rfl, l, c⟩, k⟩
end
theorem hu_of {A : Around} {k : Nat} (hr : Room k A) : A.units + 1 < cLine := Nat.lt_of_le_of_lt (Nat.add_le_add_left (by decide : 1 ≤ 64) _) hr.units
section
variable {X : Cx}
theorem pv (i : Nat) {x : Str} {pos : Pos} (hN : X.N[i]? = some x := by rfl) (hv : Vis X.env.scope x := by first | exact Or.inl rfl | exact Or.inr (Or.inl rfl) | exact Or.inr (Or.inr rfl)) (hd : (x == ("__debug__" : Str)) = false := by decide)
    (hcd : (x == ("__classdict__" : Str)) = false := by decide) : PE X (.Name x pos) (tVar i) := pe_var hN hv hd hcd
end
theorem iteF {A B : Prop} (h : B) : if false = true then A else B := by
  rw [if_neg Bool.false_ne_true]
  exact h
theorem iteT {A B : Prop} (h : A) : if true = true then A else B := by
  rw [if_pos rfl]
  exact h
theorem ite2 {c A B : Prop} [Decidable c] (h1 : c → A) (h2 : ¬ c → B) : if c then A else B := by
  by_cases h : c
  · rw [if_pos h]
    exact h1 h
  · rw [if_neg h]
    exact h2 h
theorem iteNS {c A B : Prop} [Decidable c] (hc : c) (h : B) : if (!decide c) = true then A else B := by
  rw [decide_eq_true hc]
  exact iteF h
def Same (H H' : Hp) : Prop := ∀ b o, H b = some o → H' b = some o
theorem Same.refl (H : Hp) : Same H H := fun _ _ h => h
theorem Same.trans {H H1 H2 : Hp} (a : Same H H1) (b : Same H1 H2) : Same H H2 := fun c o h => b c o (a c o h)
theorem Same.seq {K : PySem.W.Frag} {H H' : Hp} {a : Addr} {xs : List V} (e : Same H H') (h : SqL K H a xs) : SqL K H' a xs := by
  rcases h with (h | ⟨o, h⟩) | h
  · exact .inl (.inl (e _ _ h))
  · exact .inl (.inr ⟨o, e _ _ h⟩)
  · exact .inr h
end L2
set_option maxHeartbeats 4000000
namespace L2
open PySem PySem.Spec PyProof.Rows
section
variable {X : Cx}
theorem call_isinst : CallR X (.builtin "isinstance") (fun xs H Q => ∃ x T t b, xs = [x, .ty T] ∧ TyOf X.K H x t ∧ PySem.W.kitOne X.K t (.type T) = some b ∧ Q (.bl b) H) := by
  intro pins s σ H xs us Q I r h
  obtain ⟨x, T, t, b, rfl, ty, e, q⟩ := h
  obtain ⟨u, c, rfl, rx, rc⟩ := vals2 r
  cases (show c = Value.type T from rc)
  exact isinst_ok I rx ty e fun tk => ⟨.bl b, H, I.tok tk, rfl, q⟩
end
section
variable {X : Cx}
end
mutual
inductive RdV (K : PySem.W.Frag) (H : Hp) : V → PyData → Prop where
  | non : RdV K H .non .none
  | bl (b : Bool) : RdV K H (.bl b) (.bool b)
  | int (i : Int) : RdV K H (.int i) (.int i)
  | str (x : Str) : RdV K H (.str x) (.str x)
  | lst {a : Addr} {xs : List V} {ds : List PyData} : SqL K H a xs → RdAll K H xs ds → RdV K H (.ref a) (.list ds)
  | tup {a : Addr} {xs : List V} {ds : List PyData} : SqT K H a xs → RdAll K H xs ds → RdV K H (.ref a) (.tuple ds)
inductive RdAll (K : PySem.W.Frag) (H : Hp) : List V → List PyData → Prop where
  | nil : RdAll K H [] []
  | cons {v : V} {vs : List V} {d : PyData} {ds : List PyData} : RdV K H v d → RdAll K H vs ds → RdAll K H (v :: vs) (d :: ds)
end
section
variable {X : Cx} {pins : List (Addr × Obj)} {σ : St} {H : Hp} {s : Shared}
mutual
theorem RdV.reads (I : Inv X pins σ H s) : ∀ {v : V} {d : PyData} {u : Value}, RdV X.K H v d → RelV v u → ∃ as, Reads s.heap u d as
  | _, _, u, .non, r => by cases (show u = Value.none from r); exact ⟨_, .none⟩
  | _, _, u, .bl b, r => by cases (show u = Value.bool b from r); exact ⟨_, .bool b⟩
  | _, _, u, .int i, r => by obtain ⟨t, e⟩ := (show ∃ t, u = Value.int i t from r); cases e; exact ⟨_, .int i t⟩
  | _, _, u, .str x, r => by obtain ⟨t, e⟩ := (show ∃ t, u = Value.str x t from r); cases e; exact ⟨_, .str x t⟩
  | _, _, u, @RdV.lst _ _ a xs ds hq hr, r => by
    cases (show u = Value.ref a from r)
    obtain ⟨its, rv, ⟨o, n, e, c, _, dt⟩, _⟩ := I.list hq
    obtain ⟨as, q⟩ := RdAll.reads I hr rv
    exact ⟨_, .list e c dt (by simpa using q)⟩
  | _, _, u, @RdV.tup _ _ a xs ds hq hr, r => by
    cases (show u = Value.ref a from r)
    obtain ⟨its, rv, ⟨o, e, c, n, dt⟩, _⟩ := I.tuple hq
    obtain ⟨as, q⟩ := RdAll.reads I hr rv
    exact ⟨_, .tuple e c dt (by simpa using q)⟩
theorem RdAll.reads (I : Inv X pins σ H s) : ∀ {vs : List V} {ds : List PyData} {us : List Value}, RdAll X.K H vs ds → Vals vs us → ∃ as, ReadsAll s.heap us ds as
  | _, _, _, .nil, r => by cases r; exact ⟨_, .nil⟩
  | _, _, _, .cons h t, r => by
    cases r with
    | cons r1 r2 =>
      obtain ⟨as, q⟩ := RdV.reads I h r1
      obtain ⟨bs, q2⟩ := RdAll.reads I t r2
      exact ⟨_, .cons q q2⟩
end
end
section
variable {X : Cx}
def rEqD (K : PySem.W.Frag) (A : Around) (neg : Bool) : R2 := fun x y H Q => ∃ d e : PyData, RdV K H x d ∧ RdV K H y e ∧ d.canLay0 = true ∧ e.canLay0 = true ∧ A.units + min d.depth e.depth < cLine ∧ Q (.bl (if neg then !PyData.eqv d e else PyData.eqv d e)) H
theorem op_eqD : OpR X (compareOp .Eq) (rEqD X.K X.A false) := by
  intro pins s σ H x y v u Q I rx ry h
  obtain ⟨d, e, hd, he, cd, ce, hu, q⟩ := h
  obtain ⟨as, q1⟩ := hd.reads I rx
  obtain ⟨bs, q2⟩ := he.reads I ry
  exact SeqAt.compareEq_reads q1 q2 cd ce hu ⟨.bl _, H, I, rfl, q⟩
theorem op_neD : OpR X (compareOp .NotEq) (rEqD X.K X.A true) := by
  intro pins s σ H x y v u Q I rx ry h
  obtain ⟨d, e, hd, he, cd, ce, hu, q⟩ := h
  obtain ⟨as, q1⟩ := hd.reads I rx
  obtain ⟨bs, q2⟩ := he.reads I ry
  exact SeqAt.compareNe_reads q1 q2 cd ce hu ⟨.bl _, H, I, rfl, q⟩
end
mutual
theorem eqv_self : ∀ d : PyData, d.canLay0 = true → PyData.eqv d d = true
  | .none, _ => by simp [PyData.eqv]
  | .bool _, _ => by simp [PyData.eqv]
  | .int _, _ => by simp [PyData.eqv]
  | .str _, _ => by simp [PyData.eqv]
  | .list xs, h => by
    simp only [PyData.eqv]
    exact eqvAll_self xs (by simpa [PyData.canLay0] using h)
  | .tuple xs, h => by
    simp only [PyData.eqv]
    exact eqvAll_self xs (by simpa [PyData.canLay0] using h)
  | .dict _, h => by simp [PyData.canLay0] at h
theorem eqvAll_self : ∀ ds : List PyData, PyData.canLayAll0 ds = true → PyData.eqvAll ds ds = true
  | [], _ => by simp [PyData.eqvAll]
  | d :: ds, h => by
    simp only [PyData.canLayAll0, Bool.and_eq_true] at h
    simp only [PyData.eqvAll, Bool.and_eq_true]
    exact ⟨eqv_self d h.1, eqvAll_self ds h.2⟩
end
end L2
namespace L2
open PySem PySem.Spec PyProof.Rows
structure Fn (P : Program) (w : World) (K : PySem.W.Frag) (mg : Str → Option Value) (base : Heap) (k : Nat) (x : Str) (ps : List Str) (sp : Sp) : Prop where
  ex : ∃ (f : Addr) (fd : FuncData), FnOk P w K mg base CX0 k f fd ps sp ∧ Binds K fd ps [] ∧ PySem.W.keepIn K (.ref f) = true ∧ mg x = some (.ref f)
theorem pe_fn {X : Cx} {k k' : Nat} {x : Str} {ps : List Str} {sp : Sp} {p pos : Pos} {e : Expr} {es : List Expr} {t : TA} (F : Fn X.prog X.w X.K X.mg X.base k x ps sp) (hr : Room k' X.A) (ha : PA X (e :: es) t) (hk : k ≤ k' := by decide) (hg : Gl X x := by rfl)
    (hdb : (x == ("__debug__" : Str)) = false := by decide) (he : starEach (e :: es) X.env = (false, eval e X.env) :: starEach es X.env := by rfl) (hpl : (backTo pos (starEach es X.env)).any (·.1) = false := by rfl) :
    PE X (.Call (.Name x p) (e :: es) [] pos) (tCall sp [] E0 t) := by
  obtain ⟨f, fd, h1, h2, h3, h4⟩ := F.ex
  exact pe_call h1 (hr.mono hk) hg h4 h3 h2 .nil pass0 ha hdb he hpl
theorem iteP {c A B : Prop} [Decidable c] (hc : c) (h : A) : if decide c = true then A else B := by
  rw [decide_eq_true hc]
  exact iteT h
theorem iteN {c A B : Prop} [Decidable c] (hc : ¬ c) (h : B) : if decide c = true then A else B := by
  rw [decide_eq_false hc]
  exact iteF h
theorem same_new {H : Hp} {p : Addr} (h : H p = Option.none) (o : HO) : Same H (upd H p o) := fun b u q => by rw [upd_ne (ne_of_none q h)]; exact q
def S (l : List Nat) : Str := ⟨l.toArray⟩
theorem S_list (l : List Nat) : (S l).cps.toList = l := by simp [S]
theorem S_len (l : List Nat) : (S l).length = l.length := by simp [S, Str.length]
theorem S_inj {a b : List Nat} (h : S a = S b) : a = b := by
  have := congrArg (fun z : Str => z.cps.toList) h
  simpa [S_list] using this
end L2
namespace L2
open PySem PySem.Spec PyProof.Rows
def tCut (t : TS) : TS := fun D σ H => ∃ R : St → Hp → Prop, t { D with nx := R } σ H ∧ ∀ σ' H', R σ' H' → D.nx σ' H'
theorem ps_cut {X : Cx} {st : Stmt} {t : TS} (h : PS X st t) : PS X st (tCut t) := by
  intro pins s σ H D I hw
  obtain ⟨R, h1, h2⟩ := hw
  refine thn (h pins s σ H { D with nx := R } I h1) fun f s1 q => ?_
  cases f with
  | next =>
    obtain ⟨σ', H', I', q⟩ := q
    exact ⟨σ', H', I', h2 _ _ q⟩
  | brk => exact q
  | cont => exact q
  | ret v => exact q
theorem depth_strs : ∀ xs : List Str, PyData.depthAll (xs.map PyData.str) = 0
  | [] => by simp [PyData.depthAll]
  | x :: r => by simp [PyData.depthAll, PyData.depth, depth_strs r]
end L2
namespace L2
open PySem PySem.Spec PyProof.Rows
structure DefAt (K : PySem.W.Frag) (x : Str) (st : Stmt) : Prop where
  ex : ∃ (f : Addr) (oc : Value) (od : Option Addr) (kV doc pm : Value) (an : Option Addr) (cdv ct : Value) (osl : Array (Option Value)),
    PySem.W.nsIn K mainGlobals x = some (some (.ref f)) ∧ K.lookup f = some ⟨oc, od, .func (PySem.W.fnOf x x (defArgs st) (defBody st) (defScope st) .none kV doc pm an cdv ct), osl⟩ ∧ PySem.W.codeIn K cdv x = true ∧ PySem.W.keepIn K (.ref f) = true
theorem DefAt.mk' {K : PySem.W.Frag} {x : Str} {st : Stmt} {f : Addr} {oc : Value} {od : Option Addr} {kV doc pm : Value} {an : Option Addr} {cdv ct : Value} {osl : Array (Option Value)}
    (a : PySem.W.nsIn K mainGlobals x = some (some (.ref f))) (l : K.lookup f = some ⟨oc, od, .func (PySem.W.fnOf x x (defArgs st) (defBody st) (defScope st) .none kV doc pm an cdv ct), osl⟩) (c : PySem.W.codeIn K cdv x = true) (k : PySem.W.keepIn K (.ref f) = true) : DefAt K x st :=
  ⟨f, oc, od, kV, doc, pm, an, cdv, ct, osl, a, l, c, k⟩
theorem DefAt.fn {P : Program} {w : World} {K : PySem.W.Frag} {mg : Str → Option Value} {base h : Heap} {k : Nat} {x : Str} {st : Stmt} {ps : List Str} {sp : Sp} (D : DefAt K x st) (X : K.In h) (G : h.Ns mainGlobals mg)
    (ok : ∀ (f : Addr) (fd : FuncData), Fun K x x st f fd → FnOk P w K mg base CX0 k f fd ps sp)
    (hb : ∀ (kV doc pm : Value) (an : Option Addr) (cdv ct : Value) (us : List Value), us.length = ps.length → bindArgs (PySem.W.fnOf x x (defArgs st) (defBody st) (defScope st) .none kV doc pm an cdv ct) ⟨us, []⟩ = pure (ps.zip us)) : Fn P w K mg base k x ps sp := by
  obtain ⟨f, oc, od, kV, doc, pm, an, cdv, ct, osl, a, l, c, kp⟩ := D.ex
  have F := fun_mk (st := st) l c kp
  exact ⟨f, _, ok f _ F, F.binds hb, kp, PySem.W.mg_of X G a⟩
end L2
namespace L2
open PySem PySem.Spec PyProof.Rows
section
variable {X : Cx}
def rCatG (K : PySem.W.Frag) : R2 := fun x y H Q => ∃ a b xs ys, x = .ref a ∧ y = .ref b ∧ SqT K H a xs ∧ SqT K H b ys ∧ xs.length + ys.length ≤ sizeLine ∧
  ∀ p H', Same H H' → SqT K H' p (xs ++ ys) → Q (.ref p) H'
theorem op_catG : OpR X (binaryOp .Add) (rCatG X.K) := by
  intro pins s σ H x y v u Q I rx ry h
  obtain ⟨a, b, xs, ys, e1, e2, ha, hb, hz, q⟩ := h
  by_cases hx : xs = []
  · subst e1; subst e2; subst hx
    cases (show v = Value.ref a from rx)
    cases (show u = Value.ref b from ry)
    obtain ⟨its, r1, p1, _⟩ := I.tuple ha
    obtain ⟨its2, r2, p2, _⟩ := I.tuple hb
    cases r1
    obtain ⟨⟨cls, dd, data, sl⟩, ho, hc, n, hd⟩ := id p1
    obtain ⟨⟨cls2, dd2, data2, sl2⟩, ho2, hc2, n2, hd2⟩ := id p2
    simp only at hc hd hc2 hd2
    subst hc hd hc2 hd2
    exact concat_meets ⟨_, ho, rfl⟩ ⟨_, ho2, rfl⟩ noFill_tuple_add seq_tuple_add PySem.F.slot_tuple_add PySem.F.entry_tuple_add (PySem.F.args_tuple_add_2 _ _)
      (tuple_addW0 a b _ its2.toArray n n2 dd dd2 sl sl2 rfl) ⟨ho, ho2, ⟨.ref b, H, I, rfl, q b H (Same.refl H) (by simpa using hb)⟩⟩
  · refine op_catT pins s σ H x y v u Q I rx ry ⟨a, b, xs, ys, e1, e2, ha, hb, hx, hz, fun hy => ?_, fun hy p hp => ?_⟩
    · subst hy
      exact q a H (Same.refl H) (by simpa using ha)
    · exact q p _ (same_new hp _) (SqT.of upd_same)
theorem Same.seqT {K : PySem.W.Frag} {H H' : Hp} {a : Addr} {xs : List V} (e : Same H H') (h : SqT K H a xs) : SqT K H' a xs := by
  rcases h with (h | ⟨o, h⟩) | h
  · exact .inl (.inl (e _ _ h))
  · exact .inl (.inr ⟨o, e _ _ h⟩)
  · exact .inr h
end
section
variable {X : Cx} {tg : Expr}
end
end L2
namespace L2
open PySem PySem.Spec PyProof.Rows
def compX (X : Cx) (N' : List Str) (scope : Scope) (cl : List (Str × Addr)) (C : Addr) (fp : List Addr) (s₀ : Shared) (H₀ : Hp) : Cx :=
  { X with N := N', s₀ := s₀, H₀ := H₀, env := compEnvC scope cl C X.env, outer := X.stack, ex := fp, fn := fun _ => false, pn := [], xe := fun _ _ => False }
def PF (X : Cx) (ifs : List Expr) (t : TT) : Prop :=
  ∀ (pins : List (Addr × Obj)) (s : Shared) (σ : St) (H : Hp) (Q : Bool → Hp → Prop), Inv X pins σ H s → t σ H Q →
    wpAny (model X.prog X.w) X.A (forIn ifs true fun c r => if r = true then do let ok ← isTrue c X.env (eval c X.env); pure (ForInStep.yield ok) else pure (ForInStep.yield r)) (TP X pins σ Q) X.xe s
theorem pf_nil {X : Cx} : PF X [] (fun _ H Q => Q true H) := by
  intro pins s σ H Q I h
  rw [List.forIn_nil]
  exact wpAny_pure ⟨H, I, h⟩
theorem pf_one {X : Cx} {c : Expr} {t : TT} (hc : PT X c t) : PF X [c] t := by
  intro pins s σ H Q I h
  rw [List.forIn_cons]
  refine wpAny_bind ?_
  rw [if_pos rfl]
  refine wpAny_bind (thn (hc pins s σ H Q I h) fun ok s1 q => wpAny_pure ?_)
  dsimp only
  rw [List.forIn_nil]
  exact wpAny_pure q
structure CompOk (X : Cx) (x : Str) (caps : List Str) (cap : List Nat) (scope : Scope) (cl : List (Str × Addr)) : Prop where
  clos : closureFor scope X.env = pure cl
  cell : ∀ y ∈ scope.names, y.2 ≠ .cell
  kind : scope.kind = .function
  names : ∀ y ∈ scope.names, y.2 = .local → scope.names.lookup y.1 = some .local
  lx : scope.names.lookup x = some .local
  nd : (x :: caps).Nodup
  from_ : ∀ y c, cl.lookup y = some c → X.env.cells.lookup y = some c
  has : ∀ y, ((relabel scope X.env).names.lookup y = some .cell ∨ (relabel scope X.env).names.lookup y = some .free) → ∃ c, cl.lookup y = some c
  len : cap.length = caps.length
  cps : ∀ (i : Nat) (y : Str), caps[i]? = some y → ∃ j, cap[i]? = some j ∧ X.N[j]? = some y ∧ X.env.scope.names.lookup y = some .cell ∧ (relabel scope X.env).names.lookup y = some .cell
structure OwnAt (X : Cx) (pins : List (Addr × Obj)) (H : Hp) (s : Shared) (C : Addr) : Prop where
  ns : ∃ m, s.heap.Ns C m
  free : H C = none
  loc : C ≠ X.env.locals
  above : X.s₀.heap.objs.size ≤ C
  cells : ∀ x c, X.env.cells.lookup x = some c → c ≠ C
  pins : ∀ p ∈ X.pn ++ pins, p.1 ≠ C
theorem OwnAt.go {X : Cx} {pins : List (Addr × Obj)} {σ : St} {H : Hp} {s : Shared} {C : Addr} {h' : Heap} (I : Inv X pins σ H s) (o : OwnAt X pins H s C) (hb : Heap.SameBut C s.heap h') : Inv X pins σ H { s with heap := h' } :=
  I.turned (t' := s.toks) (fun b u hb' e => (hb.2 b hb').trans e) o.free o.loc (.inr o.above) o.cells o.pins
def compW (n : Nat) (Pv : Nat → List V → Hp → Prop) : Nat → Nat → Hp → Prop := fun i m H => m = n - i ∧ i ≤ n ∧ ∃ ys, Pv i ys H
def compN (n : Nat) (Pv : Nat → List V → Hp → Prop) (acc : Addr) (i m : Nat) : VK := fun y H5 => ∃ ys, H5 acc = some (.lst ys) ∧ ys.length < sizeLine ∧ ∃ m', m' < m ∧ compW n Pv (i + 1) m' (upd H5 acc (.lst (ys ++ [y])))
theorem comp_next {n : Nat} {Pv : Nat → List V → Hp → Prop} {acc : Addr} {i : Nat} {y : V} {H5 : Hp} {ys : List V} (hi : i < n) (hacc : H5 acc = some (.lst ys)) (hl : ys.length < 5000) (hP : Pv (i + 1) (ys ++ [y]) (upd H5 acc (.lst (ys ++ [y])))) : compN n Pv acc i (n - i) y H5 :=
  ⟨ys, hacc, Nat.lt_trans hl (by decide), n - (i + 1), by omega, rfl, hi, _, hP⟩
theorem comp_skip {n : Nat} {Pv : Nat → List V → Hp → Prop} {i : Nat} {H : Hp} {ys : List V} (hi : i < n) (hP : Pv (i + 1) ys H) : ∃ m', m' < n - i ∧ compW n Pv (i + 1) m' H := ⟨n - (i + 1), by omega, rfl, hi, ys, hP⟩
end L2
namespace L2
open PySem PySem.Spec PyProof.Rows
end L2
namespace L2
open PySem PySem.Spec PyProof.Rows
section
variable {X : Cx}
theorem call_isinstT : CallR X (.builtin "isinstance") (fun xs H Q => ∃ a ys T b, xs = [.ref a, .ty T] ∧ SqT X.K H a ys ∧ PySem.W.kitOne X.K (.type "tuple") (.type T) = some b ∧ Q (.bl b) H) := by
  intro pins s σ H xs us Q I r h
  obtain ⟨a, ys, T, b, rfl, ht, e, q⟩ := h
  obtain ⟨u, c, rfl, rx, rc⟩ := vals2 r
  cases (show c = Value.type T from rc)
  cases (show u = Value.ref a from rx)
  obtain ⟨its, r1, p, _⟩ := I.tuple ht
  obtain ⟨o, h1, h2, _⟩ := p
  exact PySem.W.kia_one PySem.W.kitx_tuple I.kIn ⟨o, h1, h2⟩ e (fun z => nomatch z) fun tk => ⟨.bl b, H, I.tok tk, rfl, q⟩
def tCutT (t : TT) : TT := fun σ H Q => ∃ R : Bool → Hp → Prop, t σ H R ∧ ∀ b H', R b H' → Q b H'
theorem pt_cut {e : Expr} {t : TT} (h : PT X e t) : PT X e (tCutT t) := by
  intro pins s σ H Q I hw
  obtain ⟨R, h1, h2⟩ := hw
  refine thn (h pins s σ H R I h1) fun b s1 q => ?_
  obtain ⟨H', I', q⟩ := q
  exact ⟨H', I', h2 _ _ q⟩
end
end L2
namespace L2
open PySem PySem.Spec PyProof.Rows
section
variable {X : Cx} {pins : List (Addr × Obj)} {σ : St} {H : Hp} {s : Shared} {h' : Heap}
theorem Inv.turnedL {ch : List Addr} {t' : Nat} (I : Inv X pins σ H s) (k : ∀ b o, b ∉ ch → s.heap.get? b = some o → h'.get? b = some o) (hf : ∀ b ∈ ch, FpOk X pins H b) : Inv X pins σ H { s with heap := h', toks := t' } := by
  have nch : ∀ b u, H b = some u → b ∉ ch := fun b u e z => by rw [(hf b z).1] at e; cases e
  refine I.step (g' := s.gens) (d' := s.drawn) (ch := ch) (fun b hb => ?_) (fun b o _ _ hc e _ => k b o hc e) (fun b o _ _ hc e _ => ⟨o.slots, k b o hc e⟩) (fun _ _ _ _ n => n)
    (fun b o hc e => ⟨o, k b o hc e⟩) (fun _ _ e => e) (fun _ _ _ e => e) (fun b ps e => ⟨#[], by rw [e]; simp⟩) (fun m hm => ?_) (fun b u e => ?_) I.bare
  · obtain ⟨f0, f1, f2, f3, f4, f5⟩ := hf b hb
    exact ⟨f3, f1, f4, f5⟩
  · obtain ⟨o, es, ep, ho, r⟩ := hm
    exact ⟨o, es, ep, k _ o (fun z => (hf _ z).2.1 rfl) ho, r⟩
  · refine (I.hok b u e).stay (fun c v hc q => k c v ?_ q) (fun _ q => q) fun _ _ q => q
    rcases hc with z | z
    · rw [z]; exact nch b u e
    · exact nch c _ z
theorem Inv.turnedNew {ch : List Addr} {t' : Nat} {a : Addr} {o : HO} (I : Inv X pins σ H s) (k : ∀ b o, b ∉ ch → s.heap.get? b = some o → h'.get? b = some o) (hf : ∀ b ∈ ch, FpOk X pins H b)
    (hp : s.heap.objs.size ≤ a) (new : ObjOk X.prog X.w (upd H a o) h' a o) : Inv X pins σ (upd H a o) { s with heap := h', toks := t' } := by
  have hn : H a = none := I.hok.fresh hp
  have nch : ∀ b u, H b = some u → b ∉ ch := fun b u e z => by rw [(hf b z).1] at e; cases e
  have lt : ∀ b u, s.heap.get? b = some u → b ≠ a := fun b u e => Nat.ne_of_lt (Nat.lt_of_lt_of_le (Heap.lt_size e) hp)
  refine I.step (g' := s.gens) (d' := s.drawn) (ch := ch) (fun b hb => ?_) (fun b o _ _ hc e _ => k b o hc e) (fun b o _ _ hc e _ => ⟨o.slots, k b o hc e⟩) (fun b u _ e n => by rw [upd_ne (lt b u e)]; exact n)
    (fun b o hc e => ⟨o, k b o hc e⟩) (fun b xs e => by rw [upd_ne (ne_of_none e hn)]; exact e) (fun b u xs e => by rw [upd_ne (ne_of_none e hn)]; exact e) (fun b ps e => ⟨#[], by rw [upd_ne (ne_of_none e hn), e]; simp⟩) (fun m hm => ?_) (fun b u e => ?_) I.bare
  · obtain ⟨f0, f1, f2, f3, f4, f5⟩ := hf b hb
    exact ⟨f3, f1, f4, f5⟩
  · obtain ⟨o, es, ep, ho, r⟩ := hm
    exact ⟨o, es, ep, k _ o (fun z => (hf _ z).2.1 rfl) ho, r⟩
  · by_cases hb : b = a
    · subst hb
      rw [upd_same] at e; cases e
      exact new
    · rw [upd_ne hb] at e
      refine (I.hok b u e).stay (fun c v hc q => k c v ?_ q) (fun c q => by rw [upd_ne (ne_of_none q hn)]; exact q) fun c xs q => by rw [upd_ne (ne_of_none q hn)]; exact q
      rcases hc with z | z
      · rw [z]; exact nch b u e
      · exact nch c _ z
end
theorem nne {x y : Nat} (h : x < y ∨ y < x) : x ≠ y := by omega
section
variable {X : Cx} {elts : List Expr} {k1 : Nat} {tpos : Pos}
end
end L2
namespace L2
open PySem PySem.Spec PyProof.Rows
def Fits (ns : List Int) : Prop := (∀ n ∈ ns, 0 ≤ n) ∧ ns.sum ≤ 1000000000
section
variable {X : Cx}
end
section
variable {prog : Program} {w : World} {A : Around} {R : Result → Shared → Prop} {I : Addr} {fp wr : List Addr} {n : Nat} {P : Nat → Value → Prop} {St : Nat → Heap → Prop}
end
section
variable {prog : Program} {w : World} {A : Around} {E : Value → Shared → Prop} {s : Shared}
end
end L2
namespace L2
open PySem PySem.Spec PyProof.Rows
section
variable {X : Cx} {x : Str} {p pos : Pos} {e : Expr} {es : List Expr} {kws : List Keyword} {t tk : TA} {id : String} {ks : List Str} {r : List V → List V → Hp → VK → Prop}
end
end L2
namespace L2
open PySem PySem.Spec PyProof.Rows
structure CompG (X : Cx) (xs caps : List Str) (cap : List Nat) (scope : Scope) (cl : List (Str × Addr)) : Prop where
  clos : closureFor scope X.env = pure cl
  cell : ∀ y ∈ scope.names, y.2 ≠ .cell
  kind : scope.kind = .function
  names : ∀ y ∈ scope.names, y.2 = .local → scope.names.lookup y.1 = some .local
  lx : ∀ x ∈ xs, scope.names.lookup x = some .local
  nd : (xs ++ caps).Nodup
  from_ : ∀ y c, cl.lookup y = some c → X.env.cells.lookup y = some c
  has : ∀ y, ((relabel scope X.env).names.lookup y = some .cell ∨ (relabel scope X.env).names.lookup y = some .free) → ∃ c, cl.lookup y = some c
  len : cap.length = caps.length
  cps : ∀ (i : Nat) (y : Str), caps[i]? = some y → ∃ j, cap[i]? = some j ∧ X.N[j]? = some y ∧ X.env.scope.names.lookup y = some .cell ∧ (relabel scope X.env).names.lookup y = some .cell
def capV (cap : List Nat) (σ : St) : St := cap.map fun j => (σ[j]?).getD none
def tCompG (n : Nat) (wi : TI) (cap : List Nat) (g : TG) (tt : TT) (te : TE) : TE := fun σ H Q => wi σ H fun J H1 => ∀ acc, H1 acc = none → ∃ W : Nat → Nat → Hp → Prop, (∃ m, W 0 m (upd H1 acc (.lst []))) ∧ ∀ i m H2, W i m H2 →
  (J.stop i H2 ∧ Q (.ref acc) H2) ∨ (J.go i H2 ∧ ∀ x H3, J.yld i H2 x H3 → ∀ as : St, as.length = n → g x (as ++ capV cap σ) H3 fun σ4 H4 => (∃ bs : St, bs.length = n ∧ σ4 = bs ++ capV cap σ) ∧ tt σ4 H4 fun ok H5 => if ok = true then
    te σ4 H5 (fun y H6 => ∃ ys, H6 acc = some (.lst ys) ∧ ys.length < sizeLine ∧ ∃ m', m' < m ∧ W (i + 1) m' (upd H6 acc (.lst (ys ++ [y]))))
    else ∃ m', m' < m ∧ W (i + 1) m' H5)
theorem compG_core {X : Cx} {elt iter tg : Expr} {xs : List Str} {ifs : List Expr} {scope : Scope} {pos pos' : Pos} {wi : TI} {g : TG} {tt : TT} {te : TE} {cl : List (Str × Addr)} {caps : List Str} {cap : List Nat}
    (O : CompG X xs caps cap scope cl) (hc : X.calm = true) (hi : PI X tg iter wi) (hg : ∀ C fp s₀ H₀, PG (compX X (xs ++ caps) scope cl C fp s₀ H₀) tg g)
    (ht : ∀ C fp s₀ H₀, PF (compX X (xs ++ caps) scope cl C fp s₀ H₀) ifs tt) (he : ∀ C fp s₀ H₀, PE (compX X (xs ++ caps) scope cl C fp s₀ H₀) elt te)
    (hs : ∀ x, foldedSetIterable iter X.env x = pure x) {pins : List (Addr × Obj)} {s : Shared} {σ : St} {H : Hp} {Q : VK} {use : Option (Value → Sem Unit)} {QQ : Value → Shared → Prop} (I : Inv X pins σ H s)
    (h : tCompG xs.length wi cap g tt te σ H Q)
    (hfin : ∀ D C H' s', Inv X pins σ H' s' → OwnAt X pins H' s' C → Q (.ref D) H' → compPost (model X.prog X.w) X.A X.xe use QQ (.ref D) C (.ok .next) s') :
    wpAny (model X.prog X.w) X.A (comprehension (.ListComp elt [⟨tg, iter, ifs, 0⟩] scope pos) scope X.env pos' (newList []) false (eval iter X.env) use) QQ X.xe s := by
  refine wpAny_comprehension_free rfl hs O.clos O.kind O.names (thn (hi pins s σ H _ I h) fun v s1 h1 => thn h1 fun itv s2 h2 => ?_)
  obtain ⟨it, fp, tn, J, H1, e, I2, T, t0, f2, hR⟩ := h2
  subst e
  refine wpAny_newObj_type (wpAny_newFunctionEnv O.cell (by intro y hy; simp at hy) (fun h₁ hns hsb => ?_) O.kind)
  have hacc : H1 s2.heap.objs.size = none := I2.fresh
  obtain ⟨W, ⟨m0, w0⟩, turn⟩ := hR s2.heap.objs.size hacc
  have I3 : Inv X pins σ (upd H1 s2.heap.objs.size (.lst [])) { s2 with heap := s2.heap.push { cls := .type "list", data := .seq ([] : List Value).toArray } } := I2.lnew (t' := s2.toks) (ys := []) (its := []) .nil (Nat.zero_le _)
  generalize hs3 : ({ s2 with heap := s2.heap.push { cls := .type "list", data := .seq ([] : List Value).toArray } } : Shared) = s3 at hns hsb I3 ⊢
  generalize hD : s2.heap.objs.size = D at I3 w0 turn hacc ⊢
  generalize hH3 : upd H1 D (.lst []) = H3 at I3 w0
  have keep3 : ∀ b o, s3.heap.get? b = some o → h₁.get? b = some o := fun b o e => (hsb.2 b (Nat.ne_of_lt (Heap.lt_size e))).trans (Heap.get?_push_of_some _ e)
  have hfp3 : ∀ b ∈ fp, H3 b = none := fun b hb => by
    rw [← hH3, upd_ne]
    · exact (f2 b hb).1
    · intro z
      obtain ⟨o, e, _⟩ := T.obj _ _ t0 b hb
      exact absurd (Heap.lt_size e) (by rw [z, hD]; exact Nat.lt_irrefl _)
  have hCfresh : H3 s3.heap.objs.size = none := I3.fresh
  have hCfp : ∀ b ∈ fp, b ≠ s3.heap.objs.size := fun b hb z => by
    obtain ⟨o, e, _⟩ := T.obj _ _ t0 b hb
    have h2 : s3.heap.objs.size = s2.heap.objs.size + 1 := by rw [← hs3]; exact Heap.size_push ..
    exact absurd (Heap.lt_size e) (by rw [z, h2]; exact Nat.not_lt.mpr (Nat.le_succ _))
  have t3 : tn 0 h₁ := T.keep _ _ _ t0 fun b hb o e => keep3 b o (by rw [← hs3]; exact Heap.get?_push_of_some _ e)
  have ok' : (compX X (xs ++ caps) scope cl s3.heap.objs.size fp s3 H3).Ok := by
    refine ⟨I3.ok.mod, O.kind, I3.ok.glob, I3.ok.blt, Nat.le_refl _, fun y z c e1 e2 => I3.ok.inj y z c (O.from_ y c e1) (O.from_ z c e2), fun y hy => O.has y hy, fun y c z _ => (nomatch z), I3.ok.hd, I3.ok.frames, .inl rfl, fun b hb => ⟨hCfp b hb, fun y c e => ?_⟩, I3.bs, Nat.le_trans I3.ok.bsz I3.sz, fun b o e hb => ?_, fun b hb z => ?_, I3.stack, I3.stkFree⟩
    · exact (f2 b hb).2.2.2.2.1 y c (O.from_ y c e)
    · rcases (f2 b hb).2.2.2.1 with q | q
      · exact I3.ok.noex b o e q
      · exact absurd (Nat.lt_of_lt_of_le (Heap.lt_size e) (Nat.le_trans I3.ok.bsz q)) (Nat.lt_irrefl _)
    · rcases List.mem_cons.mp (I3.stkSub b z) with q | q
      · exact (f2 b hb).2.1 q
      · exact (f2 b hb).2.2.1 q
  have I4 : Inv (compX X (xs ++ caps) scope cl s3.heap.objs.size fp s3 H3) [] (List.replicate xs.length none ++ capV cap σ) H3 { s3 with heap := h₁, toks := s3.toks + ([] : List (Str × Value)).length } := by
    obtain ⟨m, hn, hl⟩ := id I3.loc
    refine ⟨ok', rfl, I3.bare, Un.kept keep3, ⟨_, hns, fun i y v e1 e2 e3 => ?_⟩, fun y c e => ?_, hCfresh, fun y c e => I3.freeC y c (O.from_ y c e), fun p hp => (nomatch hp), I3.hok.kept keep3, ?_⟩
    · by_cases hix : i < xs.length
      · rw [List.getElem?_append_left (by rw [List.length_replicate]; exact hix), List.getElem?_replicate, if_pos hix] at e2
        cases e2
      · have e1' : caps[i - xs.length]? = some y := by
          have e1'' : (xs ++ caps)[i]? = some y := e1
          rwa [List.getElem?_append_right (by omega)] at e1''
        obtain ⟨j, hj, hN, hk, hk'⟩ := O.cps _ y e1'
        have e2' : (σ[j]?).getD none = some v := by
          rw [List.getElem?_append_right (by rw [List.length_replicate]; omega), List.length_replicate] at e2
          unfold capV at e2
          simpa [hj] using e2
        have e2'' : σ[j]? = some (some v) := by
          cases q : σ[j]? with
          | none => rw [q] at e2'; cases e2'
          | some a => rw [q] at e2'; exact congrArg some e2'
        obtain ⟨u, r, l⟩ := hl j y v hN e2'' (.inr (.inl hk))
        refine ⟨u, r, ?_⟩
        rcases l with ⟨k, _⟩ | ⟨k, c, e, z⟩
        · have k' : X.env.scope.names.lookup y = some .local := k
          rw [hk] at k'; cases k'
        · obtain ⟨c', hc'⟩ := O.has y (.inl hk')
          have : c' = c := Option.some.inj ((O.from_ y c' hc').symm.trans e)
          subst this
          refine .inr ⟨.inl hk', c', hc', ?_⟩
          obtain ⟨o, ho, hd⟩ := z
          exact ⟨o, keep3 _ _ ho, hd⟩
    · obtain ⟨v, o, ho, hd⟩ := I3.cell y c (O.from_ y c e)
      exact ⟨v, o, keep3 _ _ ho, hd⟩
    · show (List.replicate xs.length none ++ capV cap σ).length = (xs ++ caps).length
      simp [capV, O.len]
  have fin : ∀ (H' : Hp) (σ' : St) (s' : Shared), Inv (compX X (xs ++ caps) scope cl s3.heap.objs.size fp s3 H3) [] σ' H' s' → Q (.ref D) H' →
      compPost (model X.prog X.w) X.A X.xe use QQ (.ref D) s3.heap.objs.size (.ok .next) s' := fun H' σ' s' I' q => by
    obtain ⟨m, hn, _⟩ := id I'.loc
    have hU : Un (frs X.stack) fp H3 H' s3.heap s'.heap := I'.base
    have hok2 : HOk X.prog X.w H' s'.heap := I'.hok
    have os' : s'.os = s3.os := I'.os
    have I6 : Inv X pins σ H' s' := I3.call' (ch := fp) os' hU hok2 I'.bare (fun b hb => ⟨(f2 b hb).2.2.2.1, (f2 b hb).2.1, (f2 b hb).2.2.2.2⟩)
    refine hfin D _ H' s' I6 ⟨⟨m, hn⟩, I'.free, Nat.ne_of_gt I3.lt, I3.sz, fun y c e z => ?_, fun p hp z => ?_⟩ q
    · obtain ⟨v, hv⟩ := I3.cell y c e
      exact absurd hv.lt (by rw [z]; exact Nat.lt_irrefl _)
    · exact absurd (Heap.lt_size (I3.pin p hp).1) (by rw [z]; exact Nat.lt_irrefl _)
  have stat : ∀ {H' : Hp}, (∀ b ∈ fp, H' b = none) → ∀ b ∈ fp, FpOk (compX X (xs ++ caps) scope cl s3.heap.objs.size fp s3 H3) [] H' b := fun hn b hb =>
    ⟨hn b hb, hCfp b hb, ok'.exfs b hb, .inl hb, fun y c e => (f2 b hb).2.2.2.2.1 y c (O.from_ y c e), fun p hp => (nomatch hp)⟩
  have loop : codeAny (model X.prog X.w) X.A (.compLoop (.ListComp elt [⟨tg, iter, ifs, 0⟩] scope pos) 0 (.ref it) (.ref D) (compEnvC scope cl s3.heap.objs.size X.env))
      (compPost (model X.prog X.w) X.A X.xe use QQ (.ref D) s3.heap.objs.size) { s3 with heap := h₁, toks := s3.toks + ([] : List (Str × Value)).length } := by
    refine codeAny_loop rfl (fun n s' => ∃ i as H', as.length = xs.length ∧ Inv (compX X (xs ++ caps) scope cl s3.heap.objs.size fp s3 H3) [] (as ++ capV cap σ) H' s' ∧ tn i s'.heap ∧ (∀ b ∈ fp, H' b = none) ∧ W i n H') ?_ m0 ⟨0, _, H3, List.length_replicate, I4, t3, hfp3, w0⟩
    rintro n s5 ⟨i, as, H5, has, I5, st5, fr5, w5⟩
    show wpAny _ _ ((compTurn (.ListComp elt [⟨tg, iter, ifs, 0⟩] scope pos) 0 (.ref it) (.ref D) (compEnvC scope cl s3.heap.objs.size X.env)).onRaise (fun x => do noteFrame x (compEnvC scope cl s3.heap.objs.size X.env); theTreesLotGoes x)) _ _ s5
    refine wpAny_noted ?_
    rw [compTurn_list]
    refine wpAny_bind (wpAny_standAt (wpAny_bind ?_))
    have bad : ∀ {M : Model} {A : Around} {α : Type} {t : Sem α} {P : α → Shared → Prop} {E' : Value → Shared → Prop} {s' : Shared}, wpAny M A t P (fun _ _ => False) s' → wpAny M A t P E' s' := fun h => wpAny_mono h (fun _ _ q => q) fun _ _ z => z.elim
    rcases turn i n H5 w5 with ⟨stop, qn⟩ | ⟨go, step⟩
    · refine bad (thn (T.done (compX X (xs ++ caps) scope cl s3.heap.objs.size fp s3 H3) rfl rfl rfl hc i [] s5 _ H5 (fun _ _ => False) I5 (stat fr5) st5 stop) fun r s6 ⟨hr, I6⟩ => ?_)
      subst hr
      exact wpAny_pure (fin H5 _ s6 I6 qn)
    · refine bad (thn (T.item (compX X (xs ++ caps) scope cl s3.heap.objs.size fp s3 H3) rfl rfl rfl hc i [] s5 _ H5 (fun _ _ => False) I5 (stat fr5) st5 go) fun r s6 ⟨u, hr, h6⟩ => ?_)
      subst hr
      refine wpAny_bind (bad (thn h6 fun _ s7 ⟨y, H7, I7, r7, y7, st7, fr7⟩ => ?_))
      have I7' := I7.pinned (stat fr7) (T.obj _ _ st7)
      have goal := step y H7 y7 as has
      refine wpAny_bind (bad (thn (hg s3.heap.objs.size fp s3 H3 _ s7 _ H7 y _ _ I7' r7 goal) fun _ s8 ⟨σ8, H8, I8, ⟨bs, hbs, eσ⟩, goal8⟩ => ?_))
      subst eσ
      refine wpAny_bind (bad (thn (ht s3.heap.objs.size fp s3 H3 _ s8 _ H8 _ I8 goal8) fun okb s9 ⟨H9, I9, q9⟩ => ?_))
      have again : ∀ {H10 : Hp} {s10 : Shared} {m' : Nat}, Inv (compX X (xs ++ caps) scope cl s3.heap.objs.size fp s3 H3) ([] ++ pinsAt fp s7.heap) (bs ++ capV cap σ) H10 s10 → m' < n → W (i + 1) m' H10 →
          ∃ m, m < n ∧ ∃ i as H', as.length = xs.length ∧ Inv (compX X (xs ++ caps) scope cl s3.heap.objs.size fp s3 H3) [] (as ++ capV cap σ) H' s10 ∧ tn i s10.heap ∧ (∀ b ∈ fp, H' b = none) ∧ W i m H' := fun {H10 s10 m'} I10 hm w10 => by
        refine ⟨m', hm, i + 1, bs, H10, hbs, I10.unpinned, T.keep _ _ _ st7 fun b hb o e => (I10.pin (b, o) (List.mem_append_right _ (List.mem_append_right _ (mem_pinsAt hb e)))).1, fun b hb => ?_, w10⟩
        obtain ⟨o, e, d⟩ := T.obj _ _ st7 b hb
        exact (I10.pin (b, o) (List.mem_append_right _ (List.mem_append_right _ (mem_pinsAt hb e)))).2.1
      cases okb with
      | false =>
        rw [if_neg Bool.false_ne_true] at q9
        obtain ⟨m', hm, w9⟩ := q9
        exact wpAny_pure ⟨rfl, again I9 hm w9⟩
      | true =>
        rw [if_pos rfl] at q9
        refine wpAny_bind (wpAny_bind (bad (thn (he s3.heap.objs.size fp s3 H3 _ s9 _ H9 _ I9 q9) fun yv s10 ⟨yy, H10, I10, r10, ys, hys, hlen, m', hm, w10⟩ => ?_)))
        refine wpAny_bind (bad (thn (mt_append (X := compX X (xs ++ caps) scope cl s3.heap.objs.size fp s3 H3) _ s10 _ H10 (.ref D) [yy] (.ref D) [yv] (fun _ H11 => W (i + 1) m' H11) I10 rfl (.cons r10 .nil) ⟨D, ys, yy, rfl, rfl, hys, hlen, w10⟩) fun _ s11 ⟨_, H11, I11, _, q11⟩ => ?_))
        exact wpAny_pure (wpAny_pure ⟨rfl, again I11 hm q11⟩)
  refine codeAny_compStart_list loop (T.self _ 0 _ _ _ t3 loop)
theorem pe_lcompG {X : Cx} {elt iter tg : Expr} {xs : List Str} {ifs : List Expr} {scope : Scope} {pos : Pos} {wi : TI} {g : TG} {tt : TT} {te : TE} {cl : List (Str × Addr)} {caps : List Str} {cap : List Nat}
    (O : CompG X xs caps cap scope cl) (hc : X.calm = true) (hi : PI X tg iter wi) (hg : ∀ C fp s₀ H₀, PG (compX X (xs ++ caps) scope cl C fp s₀ H₀) tg g)
    (ht : ∀ C fp s₀ H₀, PF (compX X (xs ++ caps) scope cl C fp s₀ H₀) ifs tt) (he : ∀ C fp s₀ H₀, PE (compX X (xs ++ caps) scope cl C fp s₀ H₀) elt te)
    (hs : ∀ x, foldedSetIterable iter X.env x = pure x := by intro _; rfl) :
    PE X (.ListComp elt [⟨tg, iter, ifs, 0⟩] scope pos) (tCompG xs.length wi cap g tt te) := by
  intro pins s σ H Q I h
  rw [eval_ListComp]
  exact compG_core (use := none) O hc hi hg ht he hs I h fun D C H' s' I' o q => by
    obtain ⟨m, hn⟩ := o.ns
    exact ⟨m, hn, fun h' hb => ⟨.ref D, H', o.go I' hb, rfl, q⟩⟩
theorem ps_setG {X : Cx} {elt iter tg : Expr} {xs : List Str} {y : Str} {py : Pos} {ifs : List Expr} {scope : Scope} {pos spos : Pos} {wi : TI} {g : TG} {tt : TT} {te : TE} {cl : List (Str × Addr)} {caps : List Str} {cap : List Nat} {i : Nat}
    (O : CompG X xs caps cap scope cl) (hc : X.calm = true) (hi : PI X tg iter wi) (hg : ∀ C fp s₀ H₀, PG (compX X (xs ++ caps) scope cl C fp s₀ H₀) tg g)
    (ht : ∀ C fp s₀ H₀, PF (compX X (xs ++ caps) scope cl C fp s₀ H₀) ifs tt) (he : ∀ C fp s₀ H₀, PE (compX X (xs ++ caps) scope cl C fp s₀ H₀) elt te)
    (hN : X.N.Nodup) (hy : X.N[i]? = some y) (hl : X.env.scope.names.lookup y = some .local)
    (hsw : swapsWith (.ListComp elt [⟨tg, iter, ifs, 0⟩] scope pos) (some (.Name y py)) spos.line X.env = pure true := by rfl)
    (hs : ∀ x, foldedSetIterable iter X.env x = pure x := by intro _; rfl) :
    PS X (.Assign [.Name y py] (.ListComp elt [⟨tg, iter, ifs, 0⟩] scope pos) spos) (tAsg (tCompG xs.length wi cap g tt te) (gName i)) := by
  intro pins s σ H D I h
  rw [exec_Assign_Name_used _ _ _ _ hsw]
  refine wpAny_bind (wpAny_standAt (wpAny_bind ?_))
  show wpAny _ X.A (do let _ ← comprehension (.ListComp elt [⟨tg, iter, ifs, 0⟩] scope pos) scope X.env _ (newList []) false (eval iter X.env) (some (assign (.Name y py) X.env))) _ _ s
  refine wpAny_bind (thn (compG_core (use := some (assign (.Name y py) X.env)) (QQ := fun _ s' => SP X pins D .next s') O hc hi hg ht he hs I h fun Dd C H' s' I' o q => ?_) fun _ s' hq => wpAny_pure (wpAny_pure hq))
  obtain ⟨m, hn⟩ := o.ns
  show wpAny _ X.A (assign (.Name y py) X.env (.ref Dd)) _ _ s'
  refine wpAny_assign_Name (store_ok2 (v := .ref Dd) I' hN hy (.inl hl) rfl (fun s2 I2 sb => ?_) (.inr hl))
  obtain ⟨a, sb, ha⟩ := sb
  have hCa : C ≠ a := by
    rcases ha with z | z
    · rw [z]; exact o.loc
    · exact Ne.symm (o.cells y a z)
  have o2 : OwnAt X pins H' s2 C := ⟨⟨m, hn.sameBut sb hCa⟩, o.free, o.loc, o.above, o.cells, o.pins⟩
  refine ⟨m, hn.sameBut sb hCa, fun h' hb => ?_⟩
  exact ⟨_, H', o2.go I2 hb, q⟩
section
variable {X : Cx} {xs caps : List Str} {cap : List Nat} {scope : Scope} {cl : List (Str × Addr)}
theorem pg_c1 {x : Str} {px : Pos} (O : CompG X [x] caps cap scope cl) : ∀ C fp s₀ H₀, PG (compX X ([x] ++ caps) scope cl C fp s₀ H₀) (.Name x px) (gName 0) := fun C fp s₀ H₀ =>
  pg_name (X := compX X ([x] ++ caps) scope cl C fp s₀ H₀) (i := 0) O.nd rfl (.inl (lookup_relabel_local (O.lx x (by simp)))) (.inr (lookup_relabel_local (O.lx x (by simp))))
theorem pg_c2 {x y : Str} {px py pos : Pos} {k : Nat} (O : CompG X [x, y] caps cap scope cl) (hc : X.calm = true) : ∀ C fp s₀ H₀, PG (compX X ([x, y] ++ caps) scope cl C fp s₀ H₀) (.Tuple [.Name x px, .Name y py] k pos) (gTup X.K 2 (gCons (gName 0) (gCons (gName 1) gNil))) := fun C fp s₀ H₀ =>
  pg_tup (X := compX X ([x, y] ++ caps) scope cl C fp s₀ H₀) hc (pgs_cons (pg_name (i := 0) O.nd rfl (.inl (lookup_relabel_local (O.lx x (by simp)))) (.inr (lookup_relabel_local (O.lx x (by simp)))))
    (pgs_cons (pg_name (i := 1) O.nd rfl (.inl (lookup_relabel_local (O.lx y (by simp)))) (.inr (lookup_relabel_local (O.lx y (by simp))))) pgs_nil))
end
theorem lookup_in {k : NameKind} {y : Str} : ∀ {l : List (Str × NameKind)}, l.lookup y = some k → (y, k) ∈ l
  | [], h => by simp at h
  | (n, j) :: r, h => by
    cases hx : y == n with
    | true =>
      simp only [List.lookup_cons, hx] at h
      have : y = n := by simpa using hx
      cases h
      rw [this]; exact List.mem_cons_self
    | false =>
      simp only [List.lookup_cons, hx] at h
      exact List.mem_cons_of_mem _ (lookup_in h)
theorem lookupA_in {y : Str} {c : Addr} : ∀ {l : List (Str × Addr)}, l.lookup y = some c → (y, c) ∈ l
  | [], h => by simp at h
  | (n, j) :: r, h => by
    cases hx : y == n with
    | true =>
      simp only [List.lookup_cons, hx] at h
      have : y = n := by simpa using hx
      cases h
      rw [this]; exact List.mem_cons_self
    | false =>
      simp only [List.lookup_cons, hx] at h
      exact List.mem_cons_of_mem _ (lookupA_in h)
theorem in_lookupA {y : Str} {c : Addr} : ∀ {l : List (Str × Addr)}, (y, c) ∈ l → ∃ c', l.lookup y = some c'
  | [], h => by cases h
  | (n, j) :: r, h => by
    cases hx : y == n with
    | true => exact ⟨j, by simp only [List.lookup_cons, hx]⟩
    | false =>
      simp only [List.lookup_cons, hx]
      rcases List.mem_cons.mp h with z | z
      · have : y = n := congrArg Prod.fst z
        rw [this] at hx
        simp at hx
      · exact in_lookupA z
theorem relabel_free {env : Env} {y : Str} (hf : env.scope.kind = .function) (hy : env.kindOf y = some .cell) : ∀ {names : List (Str × NameKind)}, names.lookup y = some .free →
    (names.map fun (n, k) => if (k == NameKind.free && env.scope.kind == .function && env.kindOf n == some .cell) then (n, NameKind.cell) else (n, k)).lookup y = some .cell
  | [], h => by simp at h
  | (n, k) :: r, h => by
    show List.lookup y ((if (k == NameKind.free && env.scope.kind == .function && env.kindOf n == some .cell) = true then (n, NameKind.cell) else (n, k)) :: _) = _
    cases hx : y == n with
    | true =>
      simp only [List.lookup_cons, hx] at h
      have e : y = n := by simpa using hx
      cases h
      rw [← e, hf, hy]
      simp
    | false =>
      simp only [List.lookup_cons, hx] at h
      have ih := relabel_free hf hy h
      split
      · simp only [List.lookup_cons, hx]; exact ih
      · simp only [List.lookup_cons, hx]; exact ih
def frees (names : List (Str × NameKind)) : List Str := names.filterMap fun z => if z.2 == NameKind.free then some z.1 else none
theorem closure_go {env : Env} : ∀ (names : List (Str × NameKind)) (caps : List Str) (cs : List Addr) (acc : List (Str × Addr)), frees names = caps → caps.map (fun y => env.cells.lookup y) = cs.map some →
    (forIn names acc fun (x : Str × NameKind) (r : List (Str × Addr)) => (if (x.2 == NameKind.free) = true then do let a ← cellOf env x.1; pure (ForInStep.yield ((x.1, a) :: r)) else pure (ForInStep.yield r) : Sem (ForInStep (List (Str × Addr))))) = (pure ((caps.zip cs).reverse ++ acc) : Sem (List (Str × Addr)))
  | [], caps, cs, acc, h1, h2 => by
    have : caps = [] := h1.symm
    subst this
    simp
  | (n, k) :: r, caps, cs, acc, h1, h2 => by
    rw [List.forIn_cons]
    by_cases hk : (k == NameKind.free) = true
    · have e1 : caps = n :: frees r := by
        rw [← h1]; unfold frees
        rw [List.filterMap_cons]
        simp only [hk, if_true]
      subst e1
      cases cs with
      | nil => simp at h2
      | cons c cs =>
        simp only [List.map_cons, List.cons.injEq] at h2
        have hcell : cellOf env n = pure c := by unfold cellOf; rw [h2.1]
        simp only [hk, if_true, hcell, pure_bind]
        rw [closure_go r _ cs ((n, c) :: acc) rfl h2.2]
        simp
    · have e1 : caps = frees r := by
        rw [← h1]; unfold frees
        rw [List.filterMap_cons]
        simp only [hk]
        rfl
      subst e1
      simp only [hk, if_false, pure_bind]
      exact closure_go r _ cs acc rfl h2
theorem closureFor_many {env : Env} {scope : Scope} {caps : List Str} {cs : List Addr} (hf : frees scope.names = caps) (hc : caps.map (fun y => env.cells.lookup y) = cs.map some) : closureFor scope env = pure (caps.zip cs).reverse := by
  have h := closure_go (env := env) scope.names caps cs [] hf hc
  rw [List.append_nil] at h
  unfold closureFor
  simp only [bind_pure]
  exact h
theorem CompG.many {X : Cx} {xs caps : List Str} {cap : List Nat} {cs : List Addr} {scope : Scope} (hk : scope.kind = .function) (hf : X.env.scope.kind = .function) (hfr : frees scope.names = caps)
    (hnc : ∀ z ∈ scope.names, z.2 ≠ .cell) (hl : ∀ y ∈ scope.names, y.2 = .local → scope.names.lookup y.1 = some .local) (hlx : ∀ x ∈ xs, scope.names.lookup x = some .local) (hnd : (xs ++ caps).Nodup)
    (hfl : ∀ y ∈ caps, scope.names.lookup y = some .free) (hce : caps.map (fun y => X.env.scope.names.lookup y) = caps.map fun _ => some .cell) (hcs : caps.map (fun y => X.env.cells.lookup y) = cs.map some)
    (hN : cap.map (fun j => X.N[j]?) = caps.map some) : CompG X xs caps cap scope (caps.zip cs).reverse := by
  have hlen : caps.length = cs.length := by simpa using congrArg List.length hcs
  have at_cs : ∀ (i : Nat) (y : Str), caps[i]? = some y → ∃ c, cs[i]? = some c ∧ X.env.cells.lookup y = some c := fun i y h => by
    have e := congrArg (fun l => l[i]?) hcs
    simp only [List.getElem?_map, h] at e
    cases q : cs[i]? with
    | none => rw [q] at e; simp at e
    | some c => rw [q] at e; exact ⟨c, rfl, by simpa using e⟩
  refine ⟨closureFor_many hfr hcs, hnc, hk, hl, hlx, hnd, fun y c h => ?_, fun y h => ?_, ?_, fun i y h => ?_⟩
  · have hm := lookupA_in h
    rw [List.mem_reverse] at hm
    obtain ⟨i, hi, e⟩ := List.getElem_of_mem hm
    have hi1 : i < caps.length := by rw [List.length_zip] at hi; omega
    have hi2 : i < cs.length := by rw [List.length_zip] at hi; omega
    rw [List.getElem_zip] at e
    obtain ⟨c', e1, e2⟩ := at_cs i caps[i] (List.getElem?_eq_getElem hi1)
    have e3 : caps[i] = y := congrArg Prod.fst e
    have e4 : cs[i] = c := congrArg Prod.snd e
    rw [List.getElem?_eq_getElem hi2, e4] at e1
    cases e1
    rw [← e3]; exact e2
  · have hm : y ∈ caps := by
      have aux : ∀ k : NameKind, (k = .cell ∨ k = .free) → (relabel scope X.env).names.lookup y = some k → y ∈ caps := fun k hk h => by
        have h1 := lookup_in h
        obtain ⟨z, hz, e⟩ := List.mem_map.mp h1
        obtain ⟨n, kk⟩ := z
        have hfree : kk = .free ∧ n = y := by
          dsimp only at e
          split at e
          · rename_i q
            simp only [Bool.and_eq_true] at q
            exact ⟨by simpa using q.1.1, congrArg Prod.fst e⟩
          · have e2 : kk = k := congrArg Prod.snd e
            refine ⟨?_, congrArg Prod.fst e⟩
            rcases hk with z | z
            · exact absurd (e2.trans z) (hnc _ hz)
            · exact e2.trans z
        rw [← hfr]
        refine List.mem_filterMap.mpr ⟨(n, kk), hz, ?_⟩
        rw [hfree.1, hfree.2]; rfl
      rcases h with h | h
      · exact aux _ (.inl rfl) h
      · exact aux _ (.inr rfl) h
    obtain ⟨i, hi, e⟩ := List.getElem_of_mem hm
    have hi2 : i < cs.length := by omega
    refine in_lookupA (c := cs[i]) ?_
    rw [List.mem_reverse]
    have hiz : i < (caps.zip cs).length := by rw [List.length_zip]; omega
    have := List.getElem_mem hiz
    rw [List.getElem_zip, e] at this
    exact this
  · have := congrArg List.length hN
    simpa using this
  · have e := congrArg (fun l => l[i]?) hN
    simp only [List.getElem?_map, h] at e
    have hm := List.mem_of_getElem? h
    cases q : cap[i]? with
    | none => rw [q] at e; simp at e
    | some j =>
      rw [q] at e
      have hcell : X.env.scope.names.lookup y = some .cell := by
        have e2 := congrArg (fun l => l[i]?) hce
        simpa only [List.getElem?_map, h, Option.map_some, Option.some.injEq] using e2
      exact ⟨j, rfl, by simpa using e, hcell, relabel_free hf hcell (hfl y hm)⟩
theorem compG_drive {J : It} {n N : Nat} {cs : St} {g : TG} {tt : TT} {te : TE} {H1 : Hp} {acc : Addr} {Q : Hp → Prop} (Pv : Nat → List V → Hp → Prop) (h0 : Pv 0 [] (upd H1 acc (.lst [])))
    (hstop : ∀ ys H, Pv N ys H → J.stop N H ∧ Q H)
    (hstep : ∀ i ys H, i < N → Pv i ys H → J.go i H ∧ ∀ x H3, J.yld i H x H3 → ∀ as : St, as.length = n → g x (as ++ cs) H3 fun σ4 H4 => (∃ bs : St, bs.length = n ∧ σ4 = bs ++ cs) ∧ tt σ4 H4 fun ok H5 => if ok = true then te σ4 H5 (compN N Pv acc i (N - i)) else ∃ m', m' < N - i ∧ compW N Pv (i + 1) m' H5) :
    ∃ W : Nat → Nat → Hp → Prop, (∃ m, W 0 m (upd H1 acc (.lst []))) ∧ ∀ i m H2, W i m H2 →
      (J.stop i H2 ∧ Q H2) ∨ (J.go i H2 ∧ ∀ x H3, J.yld i H2 x H3 → ∀ as : St, as.length = n → g x (as ++ cs) H3 fun σ4 H4 => (∃ bs : St, bs.length = n ∧ σ4 = bs ++ cs) ∧ tt σ4 H4 fun ok H5 => if ok = true then
        te σ4 H5 (fun y H6 => ∃ ys, H6 acc = some (.lst ys) ∧ ys.length < sizeLine ∧ ∃ m', m' < m ∧ W (i + 1) m' (upd H6 acc (.lst (ys ++ [y]))))
        else ∃ m', m' < m ∧ W (i + 1) m' H5) := by
  refine ⟨compW N Pv, ⟨N - 0, rfl, Nat.zero_le _, [], h0⟩, ?_⟩
  rintro i m H2 ⟨rfl, hi, ys, p⟩
  by_cases h : i < N
  · exact .inr (hstep i ys H2 h p)
  · have e : i = N := by omega
    subst e
    exact .inl (hstop ys H2 p)
abbrev CKon (N : Nat) (Pv : Nat → List V → Hp → Prop) (acc : Addr) (i : Nat) (te : TE) (σ : St) : Bool → Hp → Prop := fun ok H5 => if ok = true then te σ H5 (compN N Pv acc i (N - i)) else ∃ m', m' < N - i ∧ compW N Pv (i + 1) m' H5
abbrev CGoal (J : It) (n : Nat) (cs : St) (g : TG) (tt : TT) (te : TE) (H1 : Hp) (acc : Addr) (Q : Hp → Prop) : Prop :=
  ∃ W : Nat → Nat → Hp → Prop, (∃ m, W 0 m (upd H1 acc (.lst []))) ∧ ∀ i m H2, W i m H2 →
      (J.stop i H2 ∧ Q H2) ∨ (J.go i H2 ∧ ∀ x H3, J.yld i H2 x H3 → ∀ as : St, as.length = n → g x (as ++ cs) H3 fun σ4 H4 => (∃ bs : St, bs.length = n ∧ σ4 = bs ++ cs) ∧ tt σ4 H4 fun ok H5 => if ok = true then
        te σ4 H5 (fun y H6 => ∃ ys, H6 acc = some (.lst ys) ∧ ys.length < sizeLine ∧ ∃ m', m' < m ∧ W (i + 1) m' (upd H6 acc (.lst (ys ++ [y]))))
        else ∃ m', m' < m ∧ W (i + 1) m' H5)
section
variable {K : PySem.W.Frag} {a b acc : Addr} {xs zs : List V} {tt : TT} {te : TE} {cs : St} {H1 : Hp} {Q : Hp → Prop}
theorem c1_list (Pv : Nat → List V → Hp → Prop) (h0 : Pv 0 [] (upd H1 acc (.lst []))) (hl : ∀ i ys H, i ≤ xs.length → Pv i ys H → SqL K H a xs)
    (hs : ∀ i x ys H, i < xs.length → xs[i]? = some x → Pv i ys H → tt (some x :: cs) H (CKon xs.length Pv acc i te (some x :: cs))) (hd : ∀ ys H, Pv xs.length ys H → Q H) : CGoal (Itl K a) 1 cs (gName 0) tt te H1 acc Q := by
  refine compG_drive Pv h0 (fun ys H p => ⟨⟨xs, hl _ _ _ (Nat.le_refl _) p, Nat.le_refl _⟩, hd ys H p⟩) fun i ys H hi p => ⟨⟨xs, xs[i], hl _ _ _ (Nat.le_of_lt hi) p, List.getElem?_eq_getElem hi⟩, ?_⟩
  rintro x H3 ⟨rfl, hx⟩ as has
  obtain ⟨a0, rfl⟩ : ∃ a0, as = [a0] := List.length_eq_one_iff.mp has
  exact ⟨⟨[some x], rfl, rfl⟩, hs i x ys _ hi (hx xs (hl _ _ _ (Nat.le_of_lt hi) p)) p⟩
theorem c1_tup (Pv : Nat → List V → Hp → Prop) (h0 : Pv 0 [] (upd H1 acc (.lst []))) (hl : ∀ i ys H, i ≤ xs.length → Pv i ys H → SqT K H a xs)
    (hs : ∀ i x ys H, i < xs.length → xs[i]? = some x → Pv i ys H → tt (some x :: cs) H (CKon xs.length Pv acc i te (some x :: cs))) (hd : ∀ ys H, Pv xs.length ys H → Q H) : CGoal (Itt K a) 1 cs (gName 0) tt te H1 acc Q := by
  refine compG_drive Pv h0 (fun ys H p => ⟨⟨xs, hl _ _ _ (Nat.le_refl _) p, Nat.le_refl _⟩, hd ys H p⟩) fun i ys H hi p => ⟨⟨xs, xs[i], hl _ _ _ (Nat.le_of_lt hi) p, List.getElem?_eq_getElem hi⟩, ?_⟩
  rintro x H3 ⟨rfl, hx⟩ as has
  obtain ⟨a0, rfl⟩ : ∃ a0, as = [a0] := List.length_eq_one_iff.mp has
  exact ⟨⟨[some x], rfl, rfl⟩, hs i x ys _ hi (hx xs (hl _ _ _ (Nat.le_of_lt hi) p)) p⟩
theorem c1_range {lo : Int} {n : Nat} (Pv : Nat → List V → Hp → Prop) (h0 : Pv 0 [] (upd H1 acc (.lst [])))
    (hs : ∀ i ys H, i < n → Pv i ys H → tt (some (.int (lo + i)) :: cs) H (CKon n Pv acc i te (some (.int (lo + i)) :: cs))) (hd : ∀ ys H, Pv n ys H → Q H) : CGoal (Itr lo n) 1 cs (gName 0) tt te H1 acc Q := by
  refine compG_drive Pv h0 (fun ys H p => ⟨Nat.le_refl _, hd ys H p⟩) fun i ys H hi p => ⟨hi, ?_⟩
  rintro x H3 ⟨rfl, rfl⟩ as has
  obtain ⟨a0, rfl⟩ : ∃ a0, as = [a0] := List.length_eq_one_iff.mp has
  exact ⟨⟨[some _], rfl, rfl⟩, hs i ys _ hi p⟩
theorem len_two {as : St} (h : as.length = 2) : ∃ a0 a1, as = [a0, a1] := by
  match as, h with
  | [a0, a1], _ => exact ⟨a0, a1, rfl⟩
theorem c2_list (Pv : Nat → List V → Hp → Prop) (h0 : Pv 0 [] (upd H1 acc (.lst []))) (hl : ∀ i ys H, i ≤ xs.length → Pv i ys H → SqL K H a xs)
    (hs : ∀ i x ys H, i < xs.length → xs[i]? = some x → Pv i ys H → ∃ p u v, x = .ref p ∧ SqT K H p [u, v] ∧ tt (some u :: some v :: cs) H (CKon xs.length Pv acc i te (some u :: some v :: cs))) (hd : ∀ ys H, Pv xs.length ys H → Q H) : CGoal (Itl K a) 2 cs (gTup K 2 (gCons (gName 0) (gCons (gName 1) gNil))) tt te H1 acc Q := by
  refine compG_drive Pv h0 (fun ys H p => ⟨⟨xs, hl _ _ _ (Nat.le_refl _) p, Nat.le_refl _⟩, hd ys H p⟩) fun i ys H hi p => ⟨⟨xs, xs[i], hl _ _ _ (Nat.le_of_lt hi) p, List.getElem?_eq_getElem hi⟩, ?_⟩
  rintro x H3 ⟨rfl, hx⟩ as has
  obtain ⟨a0, a1, rfl⟩ := len_two has
  obtain ⟨q, u, v, rfl, hq, h⟩ := hs i x ys _ hi (hx xs (hl _ _ _ (Nat.le_of_lt hi) p)) p
  exact ⟨q, [u, v], rfl, hq, rfl, u, [v], rfl, v, [], rfl, rfl, ⟨[some u, some v], rfl, rfl⟩, h⟩
end
end L2
namespace L2
open PySem PySem.Spec PyProof.Rows
section
variable {κ : Type} [DecidableEq κ]
def valV (kvs : List (κ × V)) (k : κ) : Option V := (kvs.find? fun kv => decide (kv.1 = k)).map (·.2)
theorem valV_pos {p : κ × V} {r : List (κ × V)} {k : κ} (e : p.1 = k) : valV (p :: r) k = some p.2 := by simp [valV, List.find?_cons, e]
theorem valV_neg {p : κ × V} {r : List (κ × V)} {k : κ} (e : ¬ p.1 = k) : valV (p :: r) k = valV r k := by simp [valV, List.find?_cons, e]
theorem RelO.getD {o : Option V} {u : Option Value} {d : V} {d' : Value} (r : RelO o u) (rd : RelV d d') : RelV (o.getD d) (u.getD d') := by
  cases o with
  | none => cases u with
    | none => exact rd
    | some _ => exact (show False from r).elim
  | some _ => cases u with
    | none => exact (show False from r).elim
    | some _ => exact r
theorem KV.val {kvs : List (κ × V)} {vs : List (κ × Value)} (r : KV kvs vs) (k : κ) : RelO (valV kvs k) (valueAt vs k) := by
  unfold KV at r
  induction r with
  | nil => exact True.intro
  | @cons p q ps qs h t ih =>
    obtain ⟨h1, h2⟩ := h
    by_cases e : p.1 = k
    · have e' : q.1 = k := h1.symm.trans e
      have b : valueAt (q :: qs) k = some q.2 := by simp [valueAt, List.find?_cons, e']
      rw [valV_pos e, b]; exact h2
    · have e' : ¬ q.1 = k := fun z => e (h1.trans z)
      have b : valueAt (q :: qs) k = valueAt qs k := by simp [valueAt, List.find?_cons, e']
      rw [valV_neg e, b]; exact ih
theorem KV.length {kvs : List (κ × V)} {vs : List (κ × Value)} (r : KV kvs vs) : kvs.length = vs.length := Paired.length r
end
theorem kV_is {P : Program} {w : World} {k : Key} {u : Value} (r : RelV (kV k) u) : (mixKind P w).is k u = true := by
  cases k with
  | inl i => obtain ⟨t, e⟩ := (show ∃ t, u = Value.int i t from r); subst e; exact mixKind_int P w i t
  | inr x => obtain ⟨t, e⟩ := (show ∃ t, u = Value.str x t from r); subst e; exact mixKind_str P w x t
theorem items_are {P : Program} {w : World} : ∀ {ks : List Key} {us : List Value}, Vals (ks.map kV) us → ItemsAre (mixKind P w) ks us
  | [], _, r => by rw [List.map_nil] at r; cases r; exact .nil
  | k :: ks, _, r => by
    rw [List.map_cons] at r
    cases r with
    | cons h t => exact .cons (kV_is h) (items_are t)
abbrev KT (H : Hp) : List (List Key × V) → List (List Key × Addr × Value) → Prop := Paired fun p q => p.1 = q.1 ∧ H q.2.1 = some (.tup (p.1.map kV)) ∧ RelV p.2 q.2.2
theorem KT.val {H : Hp} {kvs : List (List Key × V)} {xs : List (List Key × Addr × Value)} (r : KT H kvs xs) (k : List Key) : RelO (valV kvs k) ((atKey xs k).map (·.2)) := by
  induction r with
  | nil => exact True.intro
  | @cons p q ps qs h t ih =>
    obtain ⟨h1, _, h2⟩ := h
    by_cases e : p.1 = k
    · have e' : q.1 = k := h1.symm.trans e
      have b : atKey (q :: qs) k = some q.2 := by simp [atKey, List.find?_cons, e']
      rw [valV_pos e, b]; exact h2
    · have e' : ¬ q.1 = k := fun z => e (h1.trans z)
      have b : atKey (q :: qs) k = atKey qs k := by simp [atKey, List.find?_cons, e']
      rw [valV_neg e, b]; exact ih
section
variable {P : Program} {w : World} {H : Hp} {h : Heap} {a : Addr}
theorem rd_of {u : HO} (ok : HOk P w H h) (e : Rd H a u) : ObjOk P w H h a u := e.ok ok
theorem dk_rd {kvs : List (Key × V)} (ok : HOk P w H h) (e : Rd H a (.dK kvs)) : kvs.length ≤ sizeLine ∧ (a == sysModules) = false ∧ ∃ vs, KV kvs vs ∧ h.DictOf (mixKind P w) a vs :=
  show ObjOk P w H h a (.dK kvs) from rd_of ok e
theorem key_of {ks : List Key} (ok : HOk P w H h) (e : H a = some (.tup (ks.map kV))) : (tupleKind (mixKind P w)).is h ks a := by
  obtain ⟨_, its, r, o, h1, h2, n, h3⟩ := (show ObjOk P w H h a (.tup (ks.map kV)) from ok a _ e)
  exact ⟨o, its.toArray, n, h1, h2, h3, by simpa using items_are r⟩
theorem dt_rd {kvs : List (List Key × V)} (ok : HOk P w H h) (e : Rd H a (.dT kvs)) : kvs.length ≤ sizeLine ∧ (a == sysModules) = false ∧
    ∃ xs, KT H kvs xs ∧ h.DictOfH (tupleKind (mixKind P w)) a xs := by
  obtain ⟨z, y, xs, r, o, es, ep, h1, h2, h3, h4, h5⟩ := (show ObjOk P w H h a (.dT kvs) from rd_of ok e)
  refine ⟨z, y, xs, r, o, es, ep, h1, h2, h3, h4, fun x hx => ?_, h5⟩
  have all : ∀ {l : List (List Key × V)} {m : List (List Key × Addr × Value)}, KT H l m → ∀ x ∈ m, (tupleKind (mixKind P w)).is h x.1 x.2.1 := by
    intro l m q
    induction q with
    | nil => intro x hx; exact nomatch hx
    | @cons p q ps qs hq t ih =>
      intro x hx
      rcases List.mem_cons.mp hx with e | hx
      · subst e
        exact key_of ok (by rw [← hq.1]; exact hq.2.1)
      · exact ih x hx
  exact all r x hx
end
def DGet (H : Hp) (a : Addr) (y : V) (r : Option V) : Prop :=
  (∃ kvs k, Rd H a (.dK kvs) ∧ y = kV k ∧ r = valV kvs k) ∨ ∃ kvs k b, Rd H a (.dT kvs) ∧ y = .ref b ∧ H b = some (.tup (k.map kV)) ∧ r = valV kvs k
theorem DGet.k {H : Hp} {a : Addr} {kvs : List (Key × V)} {k : Key} (e : H a = some (.dK kvs)) : DGet H a (kV k) (valV kvs k) := .inl ⟨kvs, k, .inl e, rfl, rfl⟩
section
variable {X : Cx} {pins : List (Addr × Obj)} {σ : St} {H : Hp} {s : Shared} {a : Addr} {y v : V} {u r : Value} {o : Option V} {A : Around} {E : Value → Shared → Prop}
theorem Inv.big (I : Inv X pins σ H s) : sysModules < s.heap.objs.size := by
  have h : mainGlobals < s.heap.objs.size := (I.mod.glob.keeps I.bk).lt
  exact Nat.lt_trans (by decide) h
theorem d_getItem {Q : Value → Shared → Prop} (hu : A.units + 1 < cLine) (I : Inv X pins σ H s) (g : DGet H a y (some v)) (ry : RelV y u) (h : ∀ w' s', Inv X pins σ H s' → RelV v w' → Q w' s') :
    wpAny (model X.prog X.w) A (getItem (.ref a) u) Q E s := by
  rcases g with ⟨kvs, k, e, ey, l⟩ | ⟨kvs, k, b, e, ey, eb, l⟩
  · subst ey
    obtain ⟨z, hd, vs, rel, dd⟩ := dk_rd I.hok e
    obtain ⟨w', hw, rw'⟩ := RelO.some_of (v := v) (o := valueAt vs k) (by rw [l]; exact rel.val k)
    exact wpAny_getItem_of (kV_is ry) dd.mapOf hw (h w' _ (I.tok _) rw')
  · subst ey
    cases (show u = Value.ref b from ry)
    obtain ⟨z, hd, xs, rel, dd⟩ := dt_rd I.hok e
    obtain ⟨w', hw, rw'⟩ := RelO.some_of (v := v) (o := (atKey xs k).map (·.2)) (by rw [l]; exact rel.val k)
    obtain ⟨p, hp, hp2⟩ := Option.map_eq_some_iff.mp hw
    refine wpAny_getItem_heap (tupleKind_room_in1 hu) (key_of I.hok eb) dd hp ?_
    rw [hp2]
    exact h w' _ (I.tok _) rw'
theorem dk_new {P : Program} {w : World} {H' : Hp} {h' : Heap} {kvs : List (Key × V)} {vs : List (Key × Value)} (z : kvs.length ≤ sizeLine) (hd : (a == sysModules) = false) (rel : KV kvs vs) (dd : h'.DictOf (mixKind P w) a vs) :
    ObjOk P w H' h' a (.dK kvs) := ⟨z, hd, vs, rel, dd⟩
end
section
variable {X : Cx} {pins : List (Addr × Obj)} {σ : St} {H : Hp} {s : Shared} {a : Addr} {kvs : List (Key × V)} {k : Key} {u : Value} {A : Around} {E : Value → Shared → Prop}
end
def NoSl (i : Expr) : Prop := ∀ ov iv, subscripted i false ov iv = operate [ov, iv] (getItem ov iv)
theorem subD_of {prog : Program} {w : World} {A : Around} {E : Value → Shared → Prop} {s : Shared} {env : Env} {value slice : Expr} {pos : Pos} {T id : String} {Q : Value → Shared → Prop}
    (hl : typeLookup (.type T) "__getitem__" = pure (some (.builtin id))) (hs : NoSl slice)
    (h : wpAny (model prog w) A (eval value env) (fun o s₁ => wpAny (model prog w) A (eval slice env) (fun i s₂ => s₂.TypeIs o T ∧ wpAny (model prog w) A (getItem o i) Q E s₂) E s₁) E s) :
    wpAny (model prog w) A (eval (.Subscript value slice pos) env) Q E s := by
  refine Subscript_ (wpAny_mono h (fun o s₁ h₁ => wpAny_mono h₁ (fun i s₂ h₂ => ?_) fun _ _ x => x) fun _ _ x => x)
  obtain ⟨hT, h₂⟩ := h₂
  unfold subscriptTail
  refine wpAny_bind ?_
  rw [getitemInPython_of_ne hT.not_modules]
  refine wpAny_bind (wpAny_specialOf hT hl ?_)
  have fin : wpAny (model prog w) A (subscripted slice false o i) (fun r s₃ => wpAny (model prog w) A (letTemporaryGo value o r >>= fun _ => pure r) Q E s₃) E s₂ := by
    rw [hs o i]
    exact wpAny_operating (wpAny_mono h₂ (fun r s₃ h₃ => wpAny_bind (wpAny_letTemporaryGo (wpAny_pure h₃))) fun _ _ x => x)
  first
    | exact wpAny_pure (wpAny_bind fin)
    | exact wpAny_bind (wpAny_pure (wpAny_bind fin))
    | exact wpAny_bind fin
theorem dict_typeIs {X : Cx} {pins : List (Addr × Obj)} {σ : St} {H : Hp} {s : Shared} {a : Addr} {y : V} {o : Option V} (I : Inv X pins σ H s) (g : DGet H a y o) : s.TypeIs (.ref a) "dict" := by
  rcases g with ⟨kvs, k, e, _, _⟩ | ⟨kvs, k, b, e, _, _, _⟩
  · obtain ⟨_, _, vs, _, dd⟩ := dk_rd I.hok e
    exact dd.typeIs
  · obtain ⟨_, _, xs, _, dd⟩ := dt_rd I.hok e
    exact dd.typeIs
def tDGet (td ty : TE) : TE := fun σ H Q => td σ H fun x H1 => ty σ H1 fun y H2 => ∃ a v, x = .ref a ∧ DGet H2 a y (some v) ∧ Q v H2
section
variable {X : Cx} {o i e value : Expr} {pos pos' tpos : Pos} {td ty tv : TE}
theorem pe_dget (hu : X.A.units + 1 < cLine) (ho : PE X o td) (hi : PE X i ty) (hs : NoSl i) : PE X (.Subscript o i pos) (tDGet td ty) := by
  intro pins s σ H Q I h
  refine subD_of PySem.F.slot_dict_getitem.lookup hs (thn (ho pins s σ H _ I h) fun u s1 ⟨x, H1, I1, rx, q1⟩ => thn (hi pins s1 σ H1 _ I1 q1) fun iv s2 ⟨y, H2, I2, ry, a, v, ex, g, q2⟩ => ?_)
  subst ex
  obtain rfl : u = Value.ref a := rx
  exact ⟨dict_typeIs I2 g, d_getItem hu I2 g ry fun w' s3 I3 rw' => ⟨v, H2, I3, rw', q2⟩⟩
end
theorem dt_empty {P : Program} {w : World} {H : Hp} (h : Heap) (hb : sysModules < h.objs.size) : ObjOk P w H (h.push { cls := .type "dict", data := .dict #[] }) h.objs.size (.dT []) :=
  ⟨Nat.zero_le _, beq_eq_false_iff_ne.mpr (Ne.symm (Nat.ne_of_lt hb)), [], .nil, _, #[], 0, Heap.get?_push_size _ rfl, ⟨rfl, rfl, rfl⟩, rfl, rfl, List.nodup_nil⟩
def tDNewT : TE := fun _ H Q => ∀ p, H p = none → Q (.ref p) (upd H p (.dT []))
section
variable {X : Cx} {pos : Pos}
theorem pe_dnewT : PE X (.Dict [] [] pos) tDNewT := fun pins s σ H Q I h =>
  wpAny_Dict_empty ⟨.ref s.heap.objs.size, _, I.laid (a := s.heap.objs.size) (o := .dT []) (t' := s.toks) (fun _ _ q => Heap.get?_push_of_some _ q) (Nat.le_refl _) (dt_empty s.heap I.big), rfl, h _ (I.hok.fresh (Nat.le_refl _))⟩
end
structure M1 (X : Cx) (o : Expr) (m : Str) (apos : Pos) (e : Expr) (cpos : Pos) : Prop where
  base : attributeBase o m X.env (eval o X.env) = eval o X.env
  few : ((backTo cpos (starEach [e] X.env)).all (fun x => !x.1) && (backToKw cpos (keywordEach [] X.env)).all (fun x => x.1.isSome)
    && decide (([e] : List Expr).length + ([] : List Keyword).length + (if ([] : List Keyword).isEmpty then 0 else 1) < 30)) = true
  line : (apos.endLine == cpos.line) = true
  trees : backTo cpos (starEach [e] X.env) = [(false, eval e X.env)]
structure M2 (X : Cx) (o : Expr) (m : Str) (apos : Pos) (e f : Expr) (cpos : Pos) : Prop where
  base : attributeBase o m X.env (eval o X.env) = eval o X.env
  few : ((backTo cpos (starEach [e, f] X.env)).all (fun x => !x.1) && (backToKw cpos (keywordEach [] X.env)).all (fun x => x.1.isSome)
    && decide (([e, f] : List Expr).length + ([] : List Keyword).length + (if ([] : List Keyword).isEmpty then 0 else 1) < 30)) = true
  line : (apos.endLine == cpos.line) = true
  trees : backTo cpos (starEach [e, f] X.env) = [(false, eval e X.env), (false, eval f X.env)]
def IsD (H : Hp) (a : Addr) : Prop := (∃ kvs, Rd H a (.dK kvs)) ∨ ∃ kvs, Rd H a (.dT kvs)
theorem isD_at {X : Cx} {pins : List (Addr × Obj)} {σ : St} {H : Hp} {s : Shared} {a : Addr} (I : Inv X pins σ H s) (d : IsD H a) :
    s.TypeIs (.ref a) "dict" ∧ (∀ b, Value.ref a = .ref b → ∃ ob, s.heap.get? b = some ob ∧ ob.dict = none) ∧ (a == sysModules) = false := by
  rcases d with ⟨kvs, e⟩ | ⟨kvs, e⟩
  · obtain ⟨_, hd, vs, _, dd⟩ := dk_rd I.hok e
    refine ⟨dd.typeIs, fun b q => ?_, hd⟩
    cases q
    obtain ⟨ob, _, _, h1, h2, _⟩ := dd
    exact ⟨ob, h1, h2.2.1⟩
  · obtain ⟨_, hd, xs, _, dd⟩ := dt_rd I.hok e
    refine ⟨dd.typeIs, fun b q => ?_, hd⟩
    cases q
    obtain ⟨ob, _, _, h1, h2, _⟩ := dd
    exact ⟨ob, h1, h2.2.1⟩
section
variable {X : Cx} {pins : List (Addr × Obj)} {σ : St} {H : Hp} {s : Shared} {a : Addr} {y d : V} {u r : Value} {o : Option V} {A : Around} {E : Value → Shared → Prop}
theorem d_get1 {Q : Value → Shared → Prop} (hu : A.units + 1 < cLine) (I : Inv X pins σ H s) (g : DGet H a y o) (ry : RelV y u) (h : ∀ w' s', Inv X pins σ H s' → RelV (o.getD .non) w' → Q w' s') :
    wpAny (model X.prog X.w) A (call (.builtin "dict.get") [.ref a, u]) Q E s := by
  rcases g with ⟨kvs, k, e, ey, l⟩ | ⟨kvs, k, b, e, ey, eb, l⟩
  · subst ey
    obtain ⟨z, hd, vs, rel, dd⟩ := dk_rd I.hok e
    refine call_meetsIn PySem.F.slot_dict_get dd.typeIs PySem.F.entry_dict_get (PySem.F.args_dict_get_2 _ _) (meets_dict_get (mixKind X.prog X.w) a (kV_is ry) hd) ⟨_, dd.mapOf, h _ _ (I.tok _) ?_⟩
    rw [l]
    exact (rel.val k).getD rfl
  · subst ey
    cases (show u = Value.ref b from ry)
    obtain ⟨z, hd, xs, rel, dd⟩ := dt_rd I.hok e
    refine call_meetsIn PySem.F.slot_dict_get dd.typeIs PySem.F.entry_dict_get (PySem.F.args_dict_get_2 _ _) (meetsH_dict_get (tupleKind (mixKind X.prog X.w)) a b hd) ⟨tupleKind_room_in1 hu, k, xs, key_of I.hok eb, dd, h _ _ (I.tok _) ?_⟩
    rw [l]
    exact (rel.val k).getD rfl
theorem d_get2 {Q : Value → Shared → Prop} (hu : A.units + 1 < cLine) (I : Inv X pins σ H s) (g : DGet H a y o) (ry : RelV y u) (rd : RelV d r) (h : ∀ w' s', Inv X pins σ H s' → RelV (o.getD d) w' → Q w' s') :
    wpAny (model X.prog X.w) A (call (.builtin "dict.get") [.ref a, u, r]) Q E s := by
  rcases g with ⟨kvs, k, e, ey, l⟩ | ⟨kvs, k, b, e, ey, eb, l⟩
  · subst ey
    obtain ⟨z, hd, vs, rel, dd⟩ := dk_rd I.hok e
    refine call_meetsIn PySem.F.slot_dict_get dd.typeIs PySem.F.entry_dict_get (PySem.F.args_dict_get_3 _ _ _) (meets_dict_get_default (mixKind X.prog X.w) a (kV_is ry) hd r) ⟨_, dd.mapOf, h _ _ (I.tok _) ?_⟩
    rw [l]
    exact (rel.val k).getD rd
  · subst ey
    cases (show u = Value.ref b from ry)
    obtain ⟨z, hd, xs, rel, dd⟩ := dt_rd I.hok e
    refine call_meetsIn PySem.F.slot_dict_get dd.typeIs PySem.F.entry_dict_get (PySem.F.args_dict_get_3 _ _ _) (meetsH_dict_get_default (tupleKind (mixKind X.prog X.w)) a b hd r) ⟨tupleKind_room_in1 hu, k, xs, key_of I.hok eb, dd, h _ _ (I.tok _) ?_⟩
    rw [l]
    exact (rel.val k).getD rd
end
def tDGet1 (td ty : TE) : TE := fun σ H Q => td σ H fun x H1 => ∃ a, x = .ref a ∧ IsD H1 a ∧ ty σ H1 fun y H2 => ∃ o, DGet H2 a y o ∧ Q (o.getD .non) H2
def tDGet2 (td ty tx : TE) : TE := fun σ H Q => td σ H fun x H1 => ∃ a, x = .ref a ∧ IsD H1 a ∧ ty σ H1 fun y H2 => tx σ H2 fun z H3 => ∃ o, DGet H3 a y o ∧ Q (o.getD z) H3
section
variable {X : Cx} {o e f : Expr} {apos cpos : Pos} {td ty tx : TE}
theorem pe_dget1 (hu : X.A.units + 1 < cLine) (ho : PE X o td) (he : PE X e ty) (m : M1 X o "get" apos e cpos) : PE X (.Call (.Attribute o "get" apos) [e] [] cpos) (tDGet1 td ty) := by
  intro pins s σ H Q I h
  refine wpAny_Call_method m.base m.few m.line PySem.F.plainAttrs_dict PySem.F.slot_dict_get PySem.F.type_dict_get (thn (ho pins s σ H _ I h) fun u s1 ⟨x, H1, I1, rx, a, ex, d, q1⟩ => ?_)
  subst ex
  obtain rfl : u = Value.ref a := rx
  obtain ⟨t1, t2, _⟩ := isD_at I1 d
  refine ⟨t1, t2, ?_⟩
  rw [m.trees]
  refine Calls.callWith_builtin rfl (Calls.evalArgs_plain (Calls.spliced_cons (thn (he pins s1 σ H1 _ I1 q1) fun iv s2 ⟨y, H2, I2, ry, ov, g, q2⟩ => Calls.spliced_nil ?_)))
  exact d_get1 hu I2 g ry fun w' s3 I3 rw' => ⟨_, H2, I3, rw', q2⟩
theorem pe_dget2 (hu : X.A.units + 1 < cLine) (ho : PE X o td) (he : PE X e ty) (hf : PE X f tx) (m : M2 X o "get" apos e f cpos) : PE X (.Call (.Attribute o "get" apos) [e, f] [] cpos) (tDGet2 td ty tx) := by
  intro pins s σ H Q I h
  refine wpAny_Call_method m.base m.few m.line PySem.F.plainAttrs_dict PySem.F.slot_dict_get PySem.F.type_dict_get (thn (ho pins s σ H _ I h) fun u s1 ⟨x, H1, I1, rx, a, ex, d, q1⟩ => ?_)
  subst ex
  obtain rfl : u = Value.ref a := rx
  obtain ⟨t1, t2, _⟩ := isD_at I1 d
  refine ⟨t1, t2, ?_⟩
  rw [m.trees]
  refine Calls.callWith_builtin rfl (Calls.evalArgs_plain (Calls.spliced_cons (thn (he pins s1 σ H1 _ I1 q1) fun iv s2 ⟨y, H2, I2, ry, q2⟩ =>
    Calls.spliced_cons (thn (hf pins s2 σ H2 _ I2 q2) fun fv s3 ⟨z, H3, I3, rz, ov, g, q3⟩ => Calls.spliced_nil ?_))))
  exact d_get2 hu I3 g ry rz fun w' s4 I4 rw' => ⟨_, H3, I4, rw', q3⟩
end
section
variable {X : Cx} {pins : List (Addr × Obj)} {σ : St} {H : Hp} {s : Shared} {a : Addr} {kvs : List (Key × V)} {A : Around} {E : Value → Shared → Prop}
end
section
variable {X : Cx} {pins : List (Addr × Obj)} {σ : St} {H : Hp} {s : Shared} {a : Addr} {y : V} {u : Value} {A : Around} {E : Value → Shared → Prop}
end
end L2
namespace Srt
open PySem PySem.W PyProof.Rows
variable {α β : Type} {O : KeyOrd} {key : Nat → O.α} {n : Nat}
def Ok (O : KeyOrd) (key : Nat → O.α) (n : Nat) (Q : α → Prop) : KasT α → Prop
  | .ret a => Q a
  | .ask i j k => i < n ∧ j < n ∧ Ok O key n Q (k (O.blt (key i) (key j)))
theorem Ok.bind {t : KasT α} {f : α → KasT β} {Q : β → Prop} : Ok O key n (fun a => Ok O key n Q (f a)) t → Ok O key n Q (t.bind f) := by
  induction t with
  | ret a => exact id
  | ask i j k ih => exact fun h => ⟨h.1, h.2.1, ih _ h.2.2⟩
theorem Ok.wp {cmp : Nat → Nat → (Bool → Shared → Prop) → Shared → Prop} {s : Shared} (hc : ∀ i j C, i < n → j < n → C (O.blt (key i) (key j)) s → cmp i j C s) {G : α → Shared → Prop} {Q : α → Prop} (hq : ∀ a, Q a → G a s) {t : KasT α} : Ok O key n Q t → t.kasWp cmp G s := by
  induction t with
  | ret a => exact hq a
  | ask i j k ih => exact fun h => hc i j _ h.1 h.2.1 (ih _ h.2.2)
def Pm (n : Nat) (p : Array Nat) : Prop := p.toList.Perm (List.range n)
theorem Pm.size {p : Array Nat} (h : Pm n p) : p.size = n := by
  have := h.length_eq
  simpa using this
theorem Pm.lt {p : Array Nat} (h : Pm n p) {i : Nat} (hi : i < n) : p.getD i 0 < n := by
  have hs : i < p.size := by rw [h.size]; exact hi
  have e : p.getD i 0 = p[i] := by simp [Array.getD, hs]
  rw [e]
  have : p[i] ∈ p.toList := by simp
  exact List.mem_range.mp (h.mem_iff.mp this)
theorem Pm.of {p q : Array Nat} (h : Pm n p) (e : q.Perm p) : Pm n q := (Array.perm_iff_toList_perm.mp e).trans h
variable (key) in
def kk (p : Array Nat) (i : Nat) : O.α := key (p.getD i 0)
theorem kk_congr {p q : Array Nat} {i j : Nat} (h : p[i]? = q[j]?) : kk key p i = kk key q j := by
  unfold kk
  rw [Array.getD_eq_getD_getElem?, Array.getD_eq_getD_getElem?, h]
variable (key) in
def Up (p : Array Nat) (k : Nat) : Prop := ∀ i j, i ≤ j → j < k → O.kle (kk key p i) (kk key p j)
variable (key) in
def Down (p : Array Nat) (k : Nat) : Prop := ∀ i j, i ≤ j → j < k → O.kle (kk key p j) (kk key p i)
theorem rev_kk {p : Array Nat} {i j : Nat} (hj : j ≤ p.size) (k : Nat) : kk key (kas_rev p i j) k = if i ≤ k ∧ k < j then kk key p (i + j - 1 - k) else kk key p k := by
  have e := getElem?_mirror_all (xs := p) (i := i) hj k
  unfold kas_rev
  by_cases h : i ≤ k ∧ k < j
  · rw [if_pos h] at e ⊢; exact kk_congr e
  · rw [if_neg h] at e ⊢; exact kk_congr e
theorem rev_same {p : Array Nat} {i j : Nat} (hj : j ≤ p.size) (heq : ∀ k, i ≤ k → k < j → kk key p k = kk key p (j - 1)) (k : Nat) : kk key (kas_rev p i j) k = kk key p k := by
  rw [rev_kk hj]
  by_cases h : i ≤ k ∧ k < j
  · rw [if_pos h, heq _ (by omega) (by omega), heq k h.1 h.2]
  · rw [if_neg h]
theorem Pm.rev {p : Array Nat} (h : Pm n p) (i j : Nat) : Pm n (kas_rev p i j) := h.of (mirror_perm _ _ _ _)
theorem grow_up {p : Array Nat} {m : Nat} (h1 : 1 ≤ m) (hs : Up key p m) (h : O.kle (kk key p (m - 1)) (kk key p m)) : Up key p (m + 1) := fun i j hij hj => by
  by_cases hjm : j < m
  · exact hs i j hij hjm
  · have : j = m := by omega
    subst this
    by_cases hi : i = j
    · subst hi; exact KeyOrd.kle_refl _
    · exact KeyOrd.kle_trans (hs i (j - 1) (by omega) (by omega)) h
theorem grow_down {p : Array Nat} {m : Nat} (h1 : 1 ≤ m) (hs : Down key p m) (h : O.kle (kk key p m) (kk key p (m - 1))) : Down key p (m + 1) := fun i j hij hj => by
  by_cases hjm : j < m
  · exact hs i j hij hjm
  · have : j = m := by omega
    subst this
    by_cases hi : i = j
    · subst hi; exact KeyOrd.kle_refl _
    · exact KeyOrd.kle_trans h (hs i (j - 1) (by omega) (by omega))
theorem asc_ok {p : Array Nat} (hP : Pm n p) {Q : Nat → Prop} : ∀ (f m : Nat), 1 ≤ m → m + f ≤ n → Up key p m → (∀ m', m ≤ m' → m' ≤ m + f → Up key p m' → (m' = m + f ∨ O.klt (kk key p m') (kk key p (m' - 1))) → Q m') → Ok O key n Q (kas_asc p f m)
  | 0, m, _, _, hs, h => h m (Nat.le_refl _) (Nat.le_refl _) hs (.inl rfl)
  | f + 1, m, h1, hn, hs, h => by
    refine ⟨hP.lt (by omega), hP.lt (by omega), ?_⟩
    show Ok O key n Q (if O.blt (kk key p m) (kk key p (m - 1)) = true then .ret m else kas_asc p f (m + 1))
    cases hb : O.blt (kk key p m) (kk key p (m - 1)) with
    | true =>
      rw [if_pos rfl]
      exact h m (Nat.le_refl _) (by omega) hs (.inr hb)
    | false =>
      rw [if_neg Bool.false_ne_true]
      exact asc_ok hP f (m + 1) (by omega) (by omega) (grow_up h1 hs hb) fun m' a b c d => h m' (by omega) (by omega) c (by rcases d with d | d; exact .inl (by omega); exact .inr d)
variable (key) in
def Tail (p : Array Nat) (m q : Nat) : Prop := q + 1 ≤ m ∧ ∀ i, m - (q + 1) ≤ i → i < m → kk key p i = kk key p (m - 1)
theorem desc_ok {Q : Array Nat × Nat × Nat → Prop} : ∀ (f : Nat) (p : Array Nat) (m q : Nat), Pm n p → 1 ≤ m → m + f ≤ n → Down key p m → Tail key p m q →
    (∀ p' m' q', Pm n p' → m ≤ m' → m' ≤ m + f → Down key p' m' → Tail key p' m' q' → Q (p', m', q')) → Ok O key n Q (kas_desc f p m q)
  | 0, p, m, q, hP, _, _, hs, ht, h => h p m q hP (Nat.le_refl _) (Nat.le_refl _) hs ht
  | f + 1, p, m, q, hP, h1, hn, hs, ht, h => by
    have hsz := hP.size
    refine ⟨hP.lt (by omega), hP.lt (by omega), ?_⟩
    show Ok O key n Q (if O.blt (kk key p m) (kk key p (m - 1)) = true then (if q > 0 then kas_desc f (kas_rev p (m - (q + 1)) m) (m + 1) 0 else kas_desc f p (m + 1) 0)
      else .ask (p.getD (m - 1) 0) (p.getD m 0) fun d => if d = true then .ret (p, m, q) else kas_desc f p (m + 1) (q + 1))
    have one : ∀ p' : Array Nat, Tail key p' (m + 1) 0 := fun p' => ⟨by omega, fun i a b => by congr 1; omega⟩
    cases hb : O.blt (kk key p m) (kk key p (m - 1)) with
    | true =>
      rw [if_pos rfl]
      have hd := grow_down h1 hs (KeyOrd.kle_of_klt hb)
      by_cases hq : q > 0
      · rw [if_pos hq]
        have e := rev_same (key := key) (p := p) (i := m - (q + 1)) (j := m) (by omega) ht.2
        refine desc_ok f _ (m + 1) 0 (hP.rev _ _) (by omega) (by omega) (fun i j a b => by rw [e, e]; exact hd i j a b) (one _) fun p' m' q' a b c d g => h p' m' q' a (by omega) (by omega) d g
      · rw [if_neg hq]
        exact desc_ok f p (m + 1) 0 hP (by omega) (by omega) hd (one _) fun p' m' q' a b c d g => h p' m' q' a (by omega) (by omega) d g
    | false =>
      rw [if_neg Bool.false_ne_true]
      refine ⟨hP.lt (by omega), hP.lt (by omega), ?_⟩
      show Ok O key n Q (if O.blt (kk key p (m - 1)) (kk key p m) = true then .ret (p, m, q) else kas_desc f p (m + 1) (q + 1))
      cases hc : O.blt (kk key p (m - 1)) (kk key p m) with
      | true =>
        rw [if_pos rfl]
        exact h p m q hP (Nat.le_refl _) (by omega) hs ht
      | false =>
        rw [if_neg Bool.false_ne_true]
        have he : kk key p m = kk key p (m - 1) := KeyOrd.kle_antisymm hc hb
        refine desc_ok f p (m + 1) (q + 1) hP (by omega) (by omega) (grow_down h1 hs hc) ⟨by have := ht.1; omega, fun i a b => ?_⟩ fun p' m' q' a b c d g => h p' m' q' a (by omega) (by omega) d g
        rw [Nat.add_sub_cancel]
        by_cases hi : i = m
        · rw [hi]
        · rw [he]; exact ht.2 i (by omega) (by omega)
theorem tail_ok {p : Array Nat} {m : Nat} (hP : Pm n p) (h1 : 1 ≤ m) (hm : m ≤ n) (hs : Down key p m) {Q : Nat × Array Nat → Prop} (h : ∀ m' p', Pm n p' → 1 ≤ m' → m' ≤ n → Up key p' m' → Q (m', p')) : Ok O key n Q (kas_tail3 m n p) := by
  have hsz := hP.size
  refine Ok.bind (asc_ok (hP.rev 0 m) (n - m) m h1 (by omega) (fun i j hij hj => ?_) fun m' a b c _ => h m' _ (hP.rev 0 m) (by omega) (by omega) c)
  rw [rev_kk (by omega), rev_kk (by omega), if_pos (by omega), if_pos (by omega)]
  exact hs _ _ (by omega) (by omega)
theorem descPart_ok {p : Array Nat} {m : Nat} (hP : Pm n p) (h1 : 1 ≤ m) (hm : m + 1 ≤ n) (hs : Down key p (m + 1)) {Q : Nat × Array Nat → Prop} (h : ∀ m' p', Pm n p' → 1 ≤ m' → m' ≤ n → Up key p' m' → Q (m', p')) : Ok O key n Q (kas_descPart m n p) := by
  refine Ok.bind (desc_ok (n - (m + 1)) p (m + 1) 0 hP (by omega) (by omega) hs ⟨by omega, fun i a b => by congr 1; omega⟩ fun p' m' q' a b c d g => ?_)
  have hsz := a.size
  show Ok O key n Q (if q' > 0 then kas_tail3 m' n (kas_rev p' (m' - (q' + 1)) m') else kas_tail3 m' n p')
  by_cases hq : q' > 0
  · rw [if_pos hq]
    have e := rev_same (key := key) (p := p') (i := m' - (q' + 1)) (j := m') (by omega) g.2
    exact tail_ok (a.rev _ _) (by omega) (by omega) (fun i j x y => by rw [e, e]; exact d i j x y) h
  · rw [if_neg hq]
    exact tail_ok a (by omega) (by omega) d h
theorem count_ok {p : Array Nat} (hP : Pm n p) (h1 : 1 ≤ n) {Q : Nat × Array Nat → Prop} (h : ∀ m' p', Pm n p' → 1 ≤ m' → m' ≤ n → Up key p' m' → Q (m', p')) : Ok O key n Q (kas_count n p) := by
  have hsz := hP.size
  refine Ok.bind (asc_ok hP (n - 1) 1 (Nat.le_refl _) (by omega) (fun i j a b => ?_) fun m a b c d => ?_)
  · have : i = j := by omega
    subst this; exact KeyOrd.kle_refl _
  · show Ok O key n Q (if (m == n) = true then .ret (m, p) else if m > 1 then .ask (p.getD 0 0) (p.getD (m - 1) 0) fun c => if c = true then .ret (m, p) else kas_descPart m n (kas_rev p 0 m) else kas_descPart m n p)
    by_cases hm : m = n
    · rw [if_pos (by simpa using hm)]
      exact h m p hP a (by omega) c
    · rw [if_neg (by simpa using hm)]
      have hlt : O.klt (kk key p m) (kk key p (m - 1)) := by
        rcases d with d | d
        · exact absurd (by omega) hm
        · exact d
      by_cases hg : m > 1
      · rw [if_pos hg]
        refine ⟨hP.lt (by omega), hP.lt (by omega), ?_⟩
        show Ok O key n Q (if O.blt (kk key p 0) (kk key p (m - 1)) = true then .ret (m, p) else kas_descPart m n (kas_rev p 0 m))
        cases hb : O.blt (kk key p 0) (kk key p (m - 1)) with
        | true =>
          rw [if_pos rfl]
          exact h m p hP a (by omega) c
        | false =>
          rw [if_neg Bool.false_ne_true]
          have hall : ∀ k, 0 ≤ k → k < m → kk key p k = kk key p (m - 1) := fun k _ hk =>
            KeyOrd.kle_antisymm (c k (m - 1) (by omega) (by omega)) (KeyOrd.kle_trans hb (c 0 k (by omega) hk))
          have e := rev_same (key := key) (p := p) (i := 0) (j := m) (by omega) hall
          refine descPart_ok (hP.rev _ _) (by omega) (by omega) (grow_down (by omega) (fun i j x y => ?_) ?_) h
          · rw [e, e, hall i (by omega) (by omega), hall j (by omega) y]; exact KeyOrd.kle_refl _
          · rw [e, e]; exact KeyOrd.kle_of_klt hlt
      · rw [if_neg hg]
        have : m = 1 := by omega
        subst this
        refine descPart_ok hP (Nat.le_refl _) (by omega) (grow_down (Nat.le_refl _) (fun i j x y => ?_) (KeyOrd.kle_of_klt hlt)) h
        have : i = j := by omega
        subst this; exact KeyOrd.kle_refl _
theorem place_ok {p : Array Nat} {k : Nat} (hP : Pm n p) (hk : k < n) (hs : Up key p k) {Q : Nat → Prop}
    (h : ∀ l, l ≤ k → (∀ i, i < l → O.kle (kk key p i) (kk key p k)) → (∀ i, l ≤ i → i < k → O.klt (kk key p k) (kk key p i)) → Q l) : ∀ (f l r : Nat), l ≤ r → r ≤ k → r - l ≤ f →
      (∀ i, i < l → O.kle (kk key p i) (kk key p k)) → (∀ i, r ≤ i → i < k → O.klt (kk key p k) (kk key p i)) → Ok O key n Q (kas_place p k f l r)
  | 0, l, r, a, b, c, d, e => by
    have : l = r := by omega
    subst this
    exact h l b d e
  | f + 1, l, r, a, b, c, d, e => by
    show Ok O key n Q (if l ≥ r then .ret l else .ask (p.getD k 0) (p.getD ((l + r) / 2) 0) fun c => if c = true then kas_place p k f l ((l + r) / 2) else kas_place p k f ((l + r) / 2 + 1) r)
    by_cases hge : l ≥ r
    · rw [if_pos hge]
      have : l = r := by omega
      subst this
      exact h l b d e
    · rw [if_neg hge]
      refine ⟨hP.lt hk, hP.lt (by omega), ?_⟩
      show Ok O key n Q (if O.blt (kk key p k) (kk key p ((l + r) / 2)) = true then kas_place p k f l ((l + r) / 2) else kas_place p k f ((l + r) / 2 + 1) r)
      cases hb : O.blt (kk key p k) (kk key p ((l + r) / 2)) with
      | true =>
        rw [if_pos rfl]
        exact place_ok hP hk hs h f l ((l + r) / 2) (by omega) (by omega) (by omega) d fun i x y => KeyOrd.klt_of_klt_of_kle hb (hs _ _ x y)
      | false =>
        rw [if_neg Bool.false_ne_true]
        exact place_ok hP hk hs h f ((l + r) / 2 + 1) r (by omega) b (by omega) (fun i x => KeyOrd.kle_trans (hs i ((l + r) / 2) (by omega) (by omega)) hb) e
theorem bubble_kk {p : Array Nat} {k d : Nat} (hs : k < p.size) (hd : d ≤ k) (i : Nat) : kk key (bubble p k d) i = if i = k - d then kk key p k else if k - d < i ∧ i ≤ k then kk key p (i - 1) else kk key p i := by
  have e := getElem?_bubble hs d hd i
  by_cases h1 : i = k - d
  · rw [if_pos h1] at e ⊢; exact kk_congr e
  · rw [if_neg h1] at e ⊢
    by_cases h2 : k - d < i ∧ i ≤ k
    · rw [if_pos h2] at e ⊢; exact kk_congr e
    · rw [if_neg h2] at e ⊢; exact kk_congr e
theorem bin_ok {Q : Array Nat → Prop} : ∀ (f : Nat) (p : Array Nat) (k : Nat), Pm n p → 1 ≤ k → k + f = n → Up key p k → (∀ p', Pm n p' → Up key p' n → Q p') → Ok O key n Q (kas_bin f p k)
  | 0, p, k, hP, _, hn, hs, h => h p hP (by rw [← hn]; exact hs)
  | f + 1, p, k, hP, h1, hn, hs, h => by
    have hsz := hP.size
    have hk : k < n := by omega
    refine Ok.bind (place_ok hP hk hs (fun l a b c => ?_) k 0 k (Nat.zero_le _) (Nat.le_refl _) (by omega) (fun i x => by omega) fun i x y => by omega)
    refine bin_ok f _ (k + 1) (hP.of (bubble_perm _ _ _)) (by omega) (by omega) (fun i j hij hj => ?_) h
    rw [bubble_kk (by omega) (by omega), bubble_kk (by omega) (by omega), show k - (k - l) = l by omega]
    repeat' split
    all_goals first
      | (exfalso; omega)
      | exact KeyOrd.kle_refl _
      | exact b _ (by omega)
      | exact KeyOrd.kle_of_klt (c _ (by omega) (by omega))
      | exact hs _ _ (by omega) (by omega)
theorem sort_ok (h1 : 1 ≤ n) {Q : Array Nat → Prop} (h : ∀ p, Pm n p → Up key p n → Q p) : Ok O key n Q (kas_sort n) := by
  have hP : Pm n (List.toArray (List.range n)) := List.Perm.refl _
  refine Ok.bind (count_ok hP h1 fun m p a b c d => ?_)
  show Ok O key n Q (if m < n then kas_bin (n - max m 1) p (max m 1) else .ret p)
  have hm : max m 1 = m := by omega
  by_cases hlt : m < n
  · rw [if_pos hlt, hm]
    exact bin_ok (n - m) p m a b (by omega) d h
  · rw [if_neg hlt]
    have : m = n := by omega
    subst this
    exact h p a d
end Srt
namespace L2
open PySem PySem.Spec PyProof.Rows PySem.W
section
variable {prog : Program} {w : World} {A : Around} {E : Value → Shared → Prop} {s : Shared}
end
section
variable {X : Cx}
end
end L2
namespace L2
open PySem PySem.Spec PyProof.Rows PySem.W
section
variable {prog : Program} {w : World} {A : Around} {E : Value → Shared → Prop} {s : Shared}
theorem sort_gen {a : Addr} {vs : List Value} {n : Nat} {P : PySem.Fin → Shared → Prop} (O : KeyOrd) (key : Nat → O.α) (κ : SortKind) (ho : s.heap.get? a = some (seqObj "list" vs.toArray n)) (h64 : vs.length < 64)
    (hk : ∀ (s' : Shared) (Q : SortKind → Shared → Prop), (∀ b o, b ≠ a → s.heap.get? b = some o → s'.heap.get? b = some o) → 2 ≤ vs.length → Q κ s' → wpAny (model prog w) A (keyKind' vs.toArray) Q E s')
    (hc : ∀ (s' : Shared) (i j : Nat) (C : Bool → Shared → Prop), (∀ b o, b ≠ a → s.heap.get? b = some o → s'.heap.get? b = some o) → i < vs.length → j < vs.length → C (O.blt (key i) (key j)) s' → wpAny (model prog w) A (keyLt' κ (vs.getD i Value.none) (vs.getD j Value.none)) C (fun _ _ => False) s')
    (h : ∀ p : Array Nat, Srt.Pm vs.length p → Srt.Up (O := O) key p vs.length → P (.done (.ret .none)) { s with heap := sortedHeap s.heap a vs (p.toList.map fun i => vs.getD i Value.none).toArray }) :
    wpAny (model prog w) A (Builtin.«list.sort» ⟨[.ref a], []⟩) P E s := by
  have hal : a < s.heap.objs.size := Heap.lt_size ho
  rw [list_sort_plain]
  refine wpAny_bind (listItems_at ho rfl ?_)
  refine wpAny_bind (listUpdate_at ho rfl ?_ (by rw [List.size_toArray, sizeLine_eq]; omega) (Nat.zero_le _))
  obtain ⟨e1, ho1⟩ : ∃ e1, (s.heap.update a (Obj.mapSeq fun _ => (#[] : Array Value))).get? a = some (seqObj "list" #[] e1) := ⟨_, get?_update_seq ho fun _ => #[]⟩
  refine wpAny_bind (seqEpoch_at ho1 rfl (wpAny_bind (wpAny_newTuple ?_ (by show vs.length ≤ _; rw [sizeLine_eq]; omega))))
  refine wpAny_bind (wpAny_newList (wpAny_holding ?_) (Nat.zero_le _))
  have keep : ∀ b o, b ≠ a → s.heap.get? b = some o → (((s.heap.update a (Obj.mapSeq fun _ => (#[] : Array Value))).push (seqObj "tuple" vs.toArray 0)).push (seqObj "list" #[] 0)).get? b = some o := fun b o hb e =>
    Heap.get?_push_of_some _ (Heap.get?_push_of_some _ ((Heap.get?_update_ne _ _ _ _ hb).trans e))
  have ho6 : (((s.heap.update a (Obj.mapSeq fun _ => (#[] : Array Value))).push (seqObj "tuple" vs.toArray 0)).push (seqObj "list" #[] 0)).get? a = some (seqObj "list" #[] e1) := Heap.get?_push_of_some _ (Heap.get?_push_of_some _ ho1)
  show wpAny (model prog w) A _ P E { s with heap := ((s.heap.update a (Obj.mapSeq fun _ => (#[] : Array Value))).push (seqObj "tuple" vs.toArray 0)).push (seqObj "list" #[] 0) }
  dsimp only
  have hz : vs.toArray.size = vs.length := List.size_toArray
  by_cases h2 : vs.toArray.size < 2
  · rw [if_pos h2, if_pos h2]
    refine wpAny_bind (wpAny_pure ?_)
    rw [StateT.run_pure]
    refine wpAny_bind (wpAny_pure ?_)
    dsimp only
    refine wpAny_bind (seqEpoch_at ho6 rfl ?_)
    have e2 : (arrOf (SortSt.mk' general' (vs.toArray.zip vs.toArray) #[] 7 none)).map (·.2) = vs.toArray := by
      show (vs.toArray.zip vs.toArray).map (·.2) = vs.toArray
      apply Array.toList_inj.mp
      rw [Array.toList_map, Array.toList_zip]
      exact List.map_snd_zip (Nat.le_refl _)
    rw [e2]
    refine wpAny_bind (listUpdate_at ho6 rfl ?_ (hsz2 := by show vs.toArray.size ≤ _; rw [sizeLine_eq]; omega))
    simp only [bne_self_eq_false, Bool.false_eq_true, if_false]
    have := h (List.range vs.length).toArray (List.Perm.refl _) (fun i j hij hj => by
      have : i = j := by omega
      subst this
      exact O.irrefl _)
    have e3 : ((List.range vs.length).toArray.toList.map fun i => vs.getD i Value.none) = vs := by
      apply List.ext_getElem (by simp)
      intro i a b
      simp at a
      simp [a]
    rw [e3] at this
    exact wpAny_pure this
  · rw [if_neg h2, if_neg h2]
    refine wpAny_bind ?_
    refine hk { s with heap := ((s.heap.update a (Obj.mapSeq fun _ => (#[] : Array Value))).push (seqObj "tuple" vs.toArray 0)).push (seqObj "list" #[] 0) } _ keep (by omega) ?_
    refine wpAny_bind (wpAny_mono (kat_run (Q := fun st' s' => ∃ p : Array Nat, Srt.Pm vs.length p ∧ Srt.Up (O := O) key p vs.length ∧ (arrOf st').map (·.2) = (p.toList.map fun i => vs.getD i Value.none).toArray ∧ failedOf st' = none ∧
        s' = { s with heap := ((s.heap.update a (Obj.mapSeq fun _ => (#[] : Array Value))).push (seqObj "tuple" vs.toArray 0)).push (seqObj "list" #[] 0) })
      (G := fun p s' => Srt.Pm vs.length p ∧ Srt.Up (O := O) key p vs.length ∧ s' = { s with heap := ((s.heap.update a (Obj.mapSeq fun _ => (#[] : Array Value))).push (seqObj "tuple" vs.toArray 0)).push (seqObj "list" #[] 0) })
      (vs := vs) (ks := vs) rfl (by omega) (by omega) (fun p st' s' hsz har hfl hg => ?_) ?_) (fun r s' hq => ?_) fun _ _ e => e)
    · obtain ⟨hP, hU, es⟩ := hg
      exact ⟨p, hP, hU, kat_snds rfl har, hfl, es⟩
    · refine Srt.Ok.wp (O := O) (key := key) (n := vs.length) (fun i j C hi hj hC => ?_) (Q := fun p => Srt.Pm vs.length p ∧ Srt.Up (O := O) key p vs.length) (fun p hp => ⟨hp.1, hp.2, rfl⟩) (Srt.sort_ok (by omega) fun p a b => ⟨a, b⟩)
      exact hc { s with heap := ((s.heap.update a (Obj.mapSeq fun _ => (#[] : Array Value))).push (seqObj "tuple" vs.toArray 0)).push (seqObj "list" #[] 0) } i j C keep hi hj hC
    · obtain ⟨p, o1, o2, o3, o4, rfl⟩ := hq
      obtain ⟨⟨⟩, st'⟩ := r
      dsimp only at o3 o4 ⊢
      refine wpAny_bind (seqEpoch_at ho6 rfl ?_)
      rw [o3]
      refine wpAny_bind (listUpdate_at ho6 rfl ?_ (hsz2 := by show (p.toList.map fun i => vs.getD i Value.none).toArray.size ≤ _; rw [List.size_toArray, List.length_map, o1.length_eq, List.length_range, sizeLine_eq]; omega))
      rw [o4]
      simp only [bne_self_eq_false, Bool.false_eq_true, if_false]
      exact wpAny_pure (h p o1 o2)
theorem sorted_gen {l : Addr} {vs : List Value} {Q : Value → Shared → Prop} (O : KeyOrd) (key : Nat → O.α) (κ : SortKind) (hl : s.heap.IsList l vs.toArray) (h64 : vs.length < 64)
    (hk : ∀ (s' : Shared) (E' : Value → Shared → Prop) (Q : SortKind → Shared → Prop), (∀ b o, s.heap.get? b = some o → s'.heap.get? b = some o) → 2 ≤ vs.length → Q κ s' → wpAny (model prog w) A.in1.in1 (keyKind' vs.toArray) Q E' s')
    (hc : ∀ (s' : Shared) (i j : Nat) (C : Bool → Shared → Prop), (∀ b o, s.heap.get? b = some o → s'.heap.get? b = some o) → i < vs.length → j < vs.length → C (O.blt (key i) (key j)) s' → wpAny (model prog w) A.in1.in1 (keyLt' κ (vs.getD i Value.none) (vs.getD j Value.none)) C (fun _ _ => False) s')
    (h : ∀ p : Array Nat, Srt.Pm vs.length p → Srt.Up (O := O) key p vs.length → Q (.ref (s.heap.objs.size + 1)) { s with heap := sortedAll s.heap vs (p.toList.map fun i => vs.getD i Value.none).toArray }) :
    wpAny (model prog w) A (call (.builtin "sorted") [.ref l]) Q E s := by
  refine Calls.call_function_entry kind_sorted plain_sorted entry_sorted (args_sorted1 _) ?_
  unfold Builtin.«sorted»
  refine wpAny_bind (m := checkCount "sorted" 1 1 _) (wpAny_pure ?_)
  refine wpAny_bind (collect_list hl ?_ (by rw [sizeLine_eq]; omega))
  refine wpAny_bind (wpAny_newList ?_ (by rw [sizeLine_eq]; omega))
  have hsz : ((s.heap.push (seqObj "list" #[] 0)).update s.heap.objs.size (Obj.mapSeq (· ++ vs.toArray))).objs.size = s.heap.objs.size + 1 := by rw [Heap.size_update, size_push']
  have hoL : (((s.heap.push (seqObj "list" #[] 0)).update s.heap.objs.size (Obj.mapSeq (· ++ vs.toArray))).push (seqObj "list" vs.toArray 0)).get? (s.heap.objs.size + 1) = some (seqObj "list" vs.toArray 0) := by
    rw [← hsz]; exact Heap.get?_push_size _ rfl
  have keep : ∀ b o, s.heap.get? b = some o → (((s.heap.push (seqObj "list" #[] 0)).update s.heap.objs.size (Obj.mapSeq (· ++ vs.toArray))).push (seqObj "list" vs.toArray 0)).get? b = some o := fun b o e => by
    have hlt : b < s.heap.objs.size := Heap.lt_size e
    exact Heap.get?_push_of_some _ ((Heap.get?_update_ne _ _ _ _ (Nat.ne_of_lt hlt)).trans (Heap.get?_push_of_some _ e))
  show wpAny _ _ _ _ _ { s with heap := ((s.heap.push (seqObj "list" #[] 0)).update s.heap.objs.size (Obj.mapSeq (· ++ vs.toArray))).push (seqObj "list" vs.toArray 0) }
  rw [hsz]
  refine wpAny_bind (wpAny_holding (wpAny_call_entry slot_list_sort ⟨_, hoL, rfl⟩ entry_list_sort ?_ (args_list_sort _)))
  have old : ∀ (s' : Shared), (∀ b o, b ≠ s.heap.objs.size + 1 → (((s.heap.push (seqObj "list" #[] 0)).update s.heap.objs.size (Obj.mapSeq (· ++ vs.toArray))).push (seqObj "list" vs.toArray 0)).get? b = some o → s'.heap.get? b = some o) → ∀ b o, s.heap.get? b = some o → s'.heap.get? b = some o := fun s' h b o e => by
    have hlt : b < s.heap.objs.size := Heap.lt_size e
    exact h b o (fun z => by rw [z] at hlt; exact absurd hlt (Nat.not_lt.mpr (Nat.le_succ _))) (keep b o e)
  refine sort_gen (A := A.in1.in1) O key κ hoL h64 (fun s' Q' hs h2 hq => hk s' _ Q' (old s' hs) h2 hq) (fun s' i j C hs hi hj hC => hc s' i j C (old s' hs) hi hj hC) fun p o1 o2 => ⟨_, rfl, wpAny_pure ⟨_, rfl, h p o1 o2⟩⟩
theorem pair_lt {x y : Addr} {fx sx fy sy : Value} {b : Bool} {C : Bool → Shared → Prop} (hx : s.heap.IsTuple x [fx, sx].toArray) (hy : s.heap.IsTuple y [fy, sy].toArray)
    (hne : x ≠ y → SeqAt.EqAt A s fx fy false ∧ wpAny (model prog w) A (oneLt' b fx fy) C (fun _ _ => False) s) (heq : x = y → SeqAt.EqAt A s fx fx true ∧ SeqAt.EqAt A s sx sx true ∧ C false s) :
    wpAny (model prog w) A (keyLt' (tuples' b) (.ref x) (.ref y)) C E s := by
  obtain ⟨ox, gx, cx, nx, dx⟩ := hx
  obtain ⟨oy, gy, cy, ny, dy⟩ := hy
  refine kat_lt gx dx gy dy ?_
  by_cases h : x = y
  · subst h
    obtain rfl := Option.some.inj (gx.symm.trans gy)
    rw [dx] at dy
    injection dy with e1 e2
    have e3 : [fx, sx] = [fy, sy] := by simpa using congrArg Array.toList e1
    injection e3 with e4 e5
    injection e5 with e6 e7
    subst e4 e6
    obtain ⟨q1, q2, q3⟩ := heq rfl
    show KatLex prog w A b _ C [(fx, fx), (sx, sx)] 0 s
    refine kat_cons (q1 _ _ _ _ (kat_yes (kat_cons (q2 _ _ _ _ (kat_yes (kat_nil ?_))))))
    exact q3
  · obtain ⟨q1, q2⟩ := hne h
    show KatLex prog w A b _ C [(fx, fy), (sx, sy)] 0 s
    refine kat_cons (q1 _ _ _ _ (kat_no ?_))
    have : (b && (0 : Nat) == 0) = b := by simp
    rw [this]
    exact q2
end
theorem out_gen {α : Type} {O : KeyOrd} {ts : List α} {d : α} {key : α → O.α} {p : Array Nat} (hP : Srt.Pm ts.length p) (hU : Srt.Up (O := O) (fun i => key (ts.getD i d)) p ts.length) :
    (p.toList.map fun i => ts.getD i d).Perm ts ∧ (p.toList.map fun i => ts.getD i d).Pairwise fun x y => O.blt (key y) (key x) = false := by
  constructor
  · have h1 := List.Perm.map (fun i => ts.getD i d) hP
    have e : (List.range ts.length).map (fun i => ts.getD i d) = ts := by
      apply List.ext_getElem (by simp)
      intro i a b
      simp at a
      simp [a]
    rwa [e] at h1
  · rw [List.pairwise_iff_getElem]
    intro i j hi hj hij
    have hsz := hP.size
    simp only [List.length_map, Array.length_toList] at hi hj
    have := hU i j (Nat.le_of_lt hij) (by omega)
    unfold KeyOrd.kle Srt.kk at this
    have ei : p.getD i 0 = p[i] := by simp [Array.getD, hi]
    have ej : p.getD j 0 = p[j] := by simp [Array.getD, hj]
    rw [ei, ej] at this
    simpa using this
theorem IsTuple.keeps {h h' : Heap} {a : Addr} {xs : Array Value} (k : ∀ b o, h.get? b = some o → h'.get? b = some o) (x : h.IsTuple a xs) : h'.IsTuple a xs := by
  obtain ⟨o, e, r⟩ := x
  exact ⟨o, k _ _ e, r⟩
section
variable {prog : Program} {w : World} {A : Around} {E : Value → Shared → Prop} {s : Shared}
end
section
variable {X : Cx}
theorem vals_mapF {α : Type} {f : α → Addr} : ∀ {ts : List α} {us : List Value}, Vals (ts.map fun t => V.ref (f t)) us → us = ts.map fun t => Value.ref (f t)
  | [], _, .nil => rfl
  | t :: ts, _, .cons r rr => by
    have e : _ = Value.ref (f t) := r
    rw [List.map_cons, ← vals_mapF rr, ← e]
theorem mapF_vals {α : Type} {f : α → Addr} : ∀ ts : List α, Vals (ts.map fun t => V.ref (f t)) (ts.map fun t => Value.ref (f t))
  | [] => .nil
  | t :: ts => .cons rfl (mapF_vals ts)
end
end L2
namespace L2
open PySem PySem.Spec PyProof.Rows
theorem plain_upd_loop : plainId "dict.update.loop" = true := by decide +kernel
theorem entry_upd_loop : entryFor table "dict.update.loop" = some Builtin.«dict.update.loop» := entryFor_of_tree (by kernel_rfl)
theorem list_keys_none : typeLookup (.type "list") "keys" = pure none := by rw [typeLookup_type, builtinLookup_eq_fast]; kernel_rfl
section
variable {prog : Program} {w : World} {A : Around} {E : Value → Shared → Prop} {s : Shared}
theorem keys_none {a : Addr} {xs : Array Value} {k : Nat} {sl : Array (Option Value)} {Q : Option Value → Shared → Prop} (hx : s.heap.get? a = some { cls := .type "list", dict := none, data := .seq xs k, slots := sl }) (hA : A.handled = none)
    (h : ∀ h' tk, (∀ b o, s.heap.get? b = some o → h'.get? b = some o) → Q none { s with heap := h', toks := tk }) : wpAny (model prog w) A (getAttr? (.ref a) "keys") Q E s := by
  obtain ⟨hp, g, d, tk, os⟩ := s
  have hT : ∀ tk', (⟨hp, g, d, tk', os⟩ : Shared).TypeIs (.ref a) "list" := fun _ => ⟨_, hx, rfl⟩
  have f1 := sub_AttributeError
  have f3 := F.slot_list_getattribute.lookup
  have f4 := F.slot_list_getattribute.bind (.ref a)
  have f5 := am_list_getattr_none
  unfold getAttr? getAttrBy? getAttrBy
  repeat (any_goals (first | assumption | exact hT _ | ((with_reducible show wpAny _ _ (call (Value.builtin "list.__getattribute__") _ _) _ _ _); refine call_meets F.slot_list_getattribute (hT _) am_entry_list_getattribute (F.args_list_getattribute_2 _ _) (meets_getattribute_miss_list a xs k sl "keys" _ list_keys_none (by decide +kernel)) ⟨hx, hA, fun h' tk' e hx' => ?_⟩) | wp_step))
  obtain ⟨t', u', he⟩ := hx'.there
  show wpAny _ _ (getattributeRaised _ _ _ _ _ _ _) _ _ _
  unfold getattributeRaised
  repeat (any_goals (first | assumption | wp_step))
  exact h _ _ hx'.keeps
theorem ne_cls {h : Heap} {a b : Addr} {o u : Obj} (ha : h.get? a = some o) (hb : h.get? b = some u) (hc : o.cls ≠ u.cls) : a ≠ b := fun e => by
  subst e
  rw [ha] at hb
  exact hc (congrArg Obj.cls (Option.some.inj hb))
def storeAll (kvs : List (Key × Value)) : List (Key × Value) → List (Key × Value)
  | [] => kvs
  | p :: r => storeAll (stored kvs p.1 p.2) r
theorem upd_loop {R : Result → Shared → Prop} {l d it : Addr} {items : Array Value} (hA : A.handled = none) (hli : l ≠ it) (hd0 : (d == sysModules) = false) : ∀ (ps : List (Key × Value)) (i : Nat) (s : Shared) (kvs : List (Key × Value)), i + ps.length = items.size → s.heap.IsListIter it l i → s.heap.IsList l items → s.heap.DictOf (mixKind prog w) d kvs → kvs.length + ps.length ≤ sizeLine →
    (∀ (j : Nat) (q : Key × Value), ps[j]? = some q → ∃ p u, items[i + j]? = some (.ref p) ∧ (mixKind prog w).is q.1 u = true ∧ s.heap.IsTuple p #[u, q.2]) →
    (∀ h' tk, h'.DictOf (mixKind prog w) d (storeAll kvs ps) → (∀ b o, b ≠ it → b ≠ d → s.heap.get? b = some o → h'.get? b = some o) → R (.ok (.ret .none)) { s with heap := h', toks := tk }) →
    codeAny (model prog w) A (.builtin "dict.update.loop" ⟨[.ref d, .ref it, rawInt (i : Int), .none], []⟩) R s
  | [], i, s, kvs, hk, hit, hL, hD, hz, hp, hR => by
    have W := Walks.list (prog := prog) (w := w) (A := A.in1) hA it l hli items
    have hin : i = items.size := by simpa using hk
    subst hin
    refine codeAny_builtin entry_upd_loop ?_
    rw [Around.under_plainId plain_upd_loop _]
    show wpAny _ A.in1 (pyNext (.ref it) >>= _) _ _ s
    refine wpAny_bind (W.done s _ _ ⟨hit, hL⟩ fun h' tk hk' => ?_)
    show wpAny _ A.in1 (Builtin.Dict.addKeywords d [] >>= _) _ _ _
    refine wpAny_bind (wpAny_pure (wpAny_pure ?_))
    have hdi : d ≠ it := by
      obtain ⟨o, es, ep, ho, hc, _⟩ := hD
      obtain ⟨o2, ho2, hc2, _⟩ := hit
      exact ne_cls ho ho2 (by rw [hc.1, hc2]; intro z; injection z with z; exact absurd z (by decide))
    exact hR h' tk (hD.extBut (b := it) (fun a o hne e => hk' a o (by simpa using hne) e) hdi) (fun b o h1 _ e => hk' b o (by simpa using h1) e)
  | q :: ps, i, s, kvs, hk, hit, hL, hD, hz, hp, hR => by
    have W := Walks.list (prog := prog) (w := w) (A := A.in1) hA it l hli items
    obtain ⟨p, u, hip, hku, hpt⟩ := hp 0 q rfl
    rw [Nat.add_zero] at hip
    have hlt : i < items.size := by rw [List.length_cons] at hk; omega
    have hdi : d ≠ it := by
      obtain ⟨o, es, ep, ho, hc, _⟩ := hD
      obtain ⟨o2, ho2, hc2, _⟩ := hit
      exact ne_cls ho ho2 (by rw [hc.1, hc2]; intro z; injection z with z; exact absurd z (by decide))
    have hdl : d ≠ l := by
      obtain ⟨o, es, ep, ho, hc, _⟩ := hD
      obtain ⟨o2, ho2, hc2, _⟩ := hL
      exact ne_cls ho ho2 (by rw [hc.1, hc2]; intro z; injection z with z; exact absurd z (by decide))
    have hpi : ∀ {p : Addr} {xs : Array Value}, s.heap.IsTuple p xs → p ≠ it ∧ p ≠ d := fun {p xs} ht => by
      obtain ⟨o, ho, hc, _⟩ := ht
      obtain ⟨o2, ho2, hc2, _⟩ := id hit
      obtain ⟨o3, es, ep, ho3, hc3, _⟩ := id hD
      exact ⟨ne_cls ho ho2 (by rw [hc, hc2]; intro z; injection z with z; exact absurd z (by decide)), ne_cls ho ho3 (by rw [hc, hc3.1]; intro z; injection z with z; exact absurd z (by decide))⟩
    refine codeAny_builtin entry_upd_loop ?_
    rw [Around.under_plainId plain_upd_loop _]
    show wpAny _ A.in1 (pyNext (.ref it) >>= _) _ _ s
    refine wpAny_bind (W.item i s _ _ hlt ⟨hit, hL⟩ fun v h' tk hP hst' hk' => ?_)
    obtain rfl : v = .ref p := Option.some.inj ((show items[i]? = some v from hP).symm.trans hip)
    have hk2 : ∀ b o, b ≠ it → s.heap.get? b = some o → h'.get? b = some o := fun b o hb e => hk' b o (by simpa using hb) e
    have hpt' : h'.IsTuple p #[u, q.2] := by
      obtain ⟨o, ho, r⟩ := id hpt
      exact ⟨o, hk2 _ _ (hpi hpt).1 ho, r⟩
    obtain ⟨o, ho, hc, n, hdat⟩ := id hpt'
    refine wpAny_bind (wpAny_holding ?_)
    refine wpAny_bind (wpAny_tryCatch ?_)
    unfold Builtin.Dict.pairItems
    refine wpAny_bind (wpAny_typeOf (T := "tuple") (s := { s with heap := h', toks := tk }) ⟨o, ho, hc⟩ ?_)
    rw [if_pos (by decide +kernel)]
    refine wpAny_bind ?_
    show wpAny _ A.in1 (load p >>= _) _ _ _
    refine wpAny_bind (wpAny_load ho ?_)
    rw [hdat]
    refine wpAny_pure (wpAny_pure ?_)
    have hD' : h'.DictOf (mixKind prog w) d kvs := hD.extBut (b := it) (fun a o hne e => hk2 a o hne e) hdi
    refine wpAny_holding (wpAny_dictSet_pairs (s := { s with heap := h', toks := tk }) hku hD' (fun h'' hD'' hs => ?_) (by rw [List.length_cons] at hz; omega))
    have hit2 : h''.IsListIter it l (i + 1) := by
      obtain ⟨o, ho, r⟩ := hst'.1
      exact ⟨o, (hs.2 it (Ne.symm hdi)).trans ho, r⟩
    have hL2 : h''.IsList l items := by
      obtain ⟨o, ho, r⟩ := hst'.2
      exact ⟨o, (hs.2 l (Ne.symm hdl)).trans ho, r⟩
    have keep2 : ∀ b o, b ≠ it → b ≠ d → s.heap.get? b = some o → h''.get? b = some o := fun b o h1 h2 e => (hs.2 b h2).trans (hk2 b o h1 e)
    have hlen : (stored kvs q.1 q.2).length ≤ kvs.length + 1 := by
      unfold stored
      split
      · rw [List.length_map]; omega
      · rw [List.length_append]; simp
    refine wpAny_pure ⟨plainId_quiet plain_upd_loop _, ?_⟩
    refine upd_loop hA hli hd0 ps (i + 1) _ (stored kvs q.1 q.2) (by rw [List.length_cons] at hk; omega) hit2 hL2 hD'' (by rw [List.length_cons] at hz; omega) (fun j r hj => ?_) fun h3 tk3 hD3 hk3 => ?_
    · obtain ⟨p', u', e1, e2, e3⟩ := hp (j + 1) r (by simpa using hj)
      refine ⟨p', u', by rw [← e1]; congr 1; omega, e2, ?_⟩
      obtain ⟨o, ho, rr⟩ := id e3
      exact ⟨o, keep2 _ _ (hpi e3).1 (hpi e3).2 ho, rr⟩
    · exact hR h3 tk3 hD3 fun b o h1 h2 e => hk3 b o h1 h2 (keep2 b o h1 h2 e)
theorem dict_pairs {l : Addr} {items : Array Value} {ps : List (Key × Value)} {Q : Value → Shared → Prop} (hA : A.handled = none) (hb : sysModules < s.heap.objs.size) {ol : Obj} {nl : Nat} (hl : s.heap.get? l = some ol) (hlc : ol.cls = .type "list") (hld : ol.dict = none) (hlt : ol.data = .seq items nl) (hz : ps.length ≤ sizeLine) (hn : ps.length = items.size)
    (hp : ∀ (j : Nat) (q : Key × Value), ps[j]? = some q → ∃ p u, items[j]? = some (.ref p) ∧ (mixKind prog w).is q.1 u = true ∧ s.heap.IsTuple p #[u, q.2])
    (h : ∀ h' tk, h'.DictOf (mixKind prog w) s.heap.objs.size (storeAll [] ps) → (∀ b o, s.heap.get? b = some o → h'.get? b = some o) → Q (.ref s.heap.objs.size) { s with heap := h', toks := tk }) :
    wpAny (model prog w) A (call (.type "dict") [.ref l]) Q E s := by
  refine callType_codes (Q₁ := fun obj s₁ => obj = .ref s.heap.objs.size ∧ s₁ = { s with heap := s.heap.push { cls := .type "dict", data := .dict #[] } }) F.kt_called_dict (F.kt_typeCall_dict_1 _) F.entry_dict_init (kt_code_dict_new _ ⟨rfl, rfl⟩) ?_
  rintro obj s₁ ⟨rfl, rfl⟩
  have hnew : (s.heap.push { cls := .type "dict", data := .dict #[] }).DictOf (mixKind prog w) s.heap.objs.size [] := Heap.DictOf.new s.heap
  have hl1 : (s.heap.push { cls := .type "dict", data := .dict #[] }).get? l = some ol := Heap.get?_push_of_some _ hl
  have hT : ({ s with heap := s.heap.push { cls := .type "dict", data := .dict #[] } } : Shared).TypeIs (.ref l) "list" := ⟨_, hl1, hlc⟩
  obtain ⟨c1, d1, t1, s1⟩ := ol
  simp only at hlc hld hlt
  subst hlc hld hlt
  refine ⟨hnew.typeIs, F.args_dict_init_2 _ _, ?_⟩
  unfold Builtin.«dict.__init__»
  refine wpAny_bind ?_
  unfold Builtin.Dict.selfAndRest
  refine wpAny_bind (wpAny_notOrdered_dict hnew.typeIs ?_)
  show wpAny _ _ (pure (s.heap.objs.size, [Value.ref l])) _ _ _
  refine wpAny_pure ?_
  show wpAny _ _ (Builtin.Dict.updateFrom "dict.__init__" s.heap.objs.size (.ref l) [] .none) _ _ _
  unfold Builtin.Dict.updateFrom
  refine wpAny_bind (wpAny_typeOf hT ?_)
  rw [if_pos (by decide)]
  refine wpAny_bind (keys_none hl1 hA fun h2 tk2 hk2 => ?_)
  simp only [Option.isNone_none, if_true]
  refine wpAny_bind (wpAny_rule ?_)
  have hL2 : h2.IsList l items := ⟨_, hk2 _ _ hl1, rfl, nl, rfl⟩
  refine wpAny_bind (wpAny_pyIter_list (s := { s with heap := h2, toks := tk2 }) hL2 ?_)
  have hlt2 : l < h2.objs.size := Heap.lt_size (hk2 _ _ hl1)
  have hsz2 : s.heap.objs.size < h2.objs.size := by
    obtain ⟨o, es, ep, ho, _⟩ := id hnew
    exact Heap.lt_size (hk2 _ _ ho)
  have hD2 : h2.DictOf (mixKind prog w) s.heap.objs.size [] := by
    obtain ⟨o, es, ep, ho, r⟩ := id hnew
    exact ⟨o, es, ep, hk2 _ _ ho, r⟩
  have old : ∀ b o, s.heap.get? b = some o → h2.get? b = some o := fun b o e => hk2 b o (Heap.get?_push_of_some _ e)
  refine wpAny_pure ⟨plainId_quiet plain_upd_loop _, upd_loop (A := A.in1) (it := h2.objs.size) (l := l) (items := items) hA (Nat.ne_of_lt hlt2) (beq_eq_false_iff_ne.mpr (Ne.symm (Nat.ne_of_lt hb))) ps 0 _ [] (by simpa using hn) ⟨_, Heap.get?_push_size _ rfl, rfl, rfl⟩ (hL2.push _) (hD2.push _) (by simpa using hz) (fun j q hq => ?_) fun h' tk hD hk => ⟨rfl, ?_⟩⟩
  · obtain ⟨p, u, e1, e2, o, ho, r⟩ := hp j q hq
    exact ⟨p, u, by rw [Nat.zero_add]; exact e1, e2, o, Heap.get?_push_of_some _ (old _ _ ho), r⟩
  · refine h h' tk hD fun b o e => hk b o ?_ ?_ (Heap.get?_push_of_some _ (old b o e))
    · exact Nat.ne_of_lt (Heap.lt_size (old b o e))
    · exact Nat.ne_of_lt (Heap.lt_size e)
end
theorem stored_new {kvs : List (Key × Value)} {k : Key} {v : Value} (h : k ∉ kvs.map (·.1)) : stored kvs k v = kvs ++ [(k, v)] := by
  unfold stored
  rw [if_neg]
  intro z
  obtain ⟨kv, h1, h2⟩ := List.any_eq_true.mp z
  exact h (List.mem_map.mpr ⟨kv, h1, of_decide_eq_true h2⟩)
theorem storeAll_new : ∀ (ps kvs : List (Key × Value)), ((kvs ++ ps).map (·.1)).Nodup → storeAll kvs ps = kvs ++ ps
  | [], kvs, _ => by simp [storeAll]
  | p :: r, kvs, h => by
    have hn : p.1 ∉ kvs.map (·.1) := fun hm => by
      rw [List.map_append, List.nodup_append] at h
      exact h.2.2 _ hm _ (by simp) rfl
    show storeAll (stored kvs p.1 p.2) r = _
    rw [stored_new hn]
    have e : kvs ++ [(p.1, p.2)] ++ r = kvs ++ p :: r := by simp
    rw [storeAll_new r _ (by rw [e]; exact h), e]
theorem pairs_of {X : Cx} {pins : List (Addr × Obj)} {σ : St} {H : Hp} {s : Shared} (I : Inv X pins σ H s) : ∀ ts : List (Addr × Str × V), (∀ t ∈ ts, SqT X.K H t.1 [.str t.2.1, t.2.2]) →
    ∃ ps : List (Key × Value), KV (ts.map fun t => ((Sum.inr t.2.1 : Key), t.2.2)) ps ∧ ∀ (j : Nat) (q : Key × Value), ps[j]? = some q → ∃ p u, (ts.map fun t => Value.ref t.1)[j]? = some (.ref p) ∧ (mixKind X.prog X.w).is q.1 u = true ∧ s.heap.IsTuple p #[u, q.2]
  | [], _ => ⟨[], .nil, fun j q h => by simp at h⟩
  | t :: r, h => by
    obtain ⟨ps, h1, h2⟩ := pairs_of I r fun u hu => h u (List.mem_cons_of_mem _ hu)
    obtain ⟨its, rv, p, _⟩ := I.tuple (h t List.mem_cons_self)
    obtain ⟨u, v, rfl, ru, rv'⟩ := rv.two
    refine ⟨(Sum.inr t.2.1, v) :: ps, .cons ⟨rfl, rv'⟩ h1, fun j q hj => ?_⟩
    cases j with
    | zero =>
      have : q = (Sum.inr t.2.1, v) := by simpa using hj.symm
      subst this
      exact ⟨t.1, u, rfl, kV_is (k := Sum.inr t.2.1) ru, p⟩
    | succ j =>
      obtain ⟨p', u', e1, e2, e3⟩ := h2 j q (by simpa using hj)
      exact ⟨p', u', by simpa using e1, e2, e3⟩
theorem KV.keys' {kvs : List (Key × V)} {ps : List (Key × Value)} (r : KV kvs ps) : ps.map (·.1) = kvs.map (·.1) := by
  induction r with
  | nil => rfl
  | cons h _ ih => rw [List.map_cons, List.map_cons, ih, h.1]
section
variable {X : Cx}
theorem call_dictP (hc : X.calm = true) : CallR X (.type "dict") (fun xs H Q => ∃ (l : Addr) (ts : List (Addr × Str × V)), xs = [.ref l] ∧ SqL X.K H l (ts.map fun t => V.ref t.1) ∧ (∀ t ∈ ts, SqT X.K H t.1 [.str t.2.1, t.2.2]) ∧ (ts.map fun t => t.2.1).Nodup ∧ ts.length ≤ 1000 ∧
    ∀ d, H d = none → Q (.ref d) (upd H d (.dK (ts.map fun t => ((Sum.inr t.2.1 : Key), t.2.2))))) := by
  intro pins s σ H xs us Q I r h
  obtain ⟨l, ts, rfl, hl, ht, hnd, hz, q⟩ := h
  cases r with
  | cons r rr =>
    cases rr
    obtain rfl : _ = Value.ref l := r
    obtain ⟨its, rv, ⟨o, n, e, c, dn, dt⟩, _⟩ := I.list hl
    obtain rfl := vals_mapF rv
    obtain ⟨ps, hkv, hps⟩ := pairs_of I ts ht
    have hlen : ps.length = ts.length := by have := hkv.length; rw [List.length_map] at this; exact this.symm
    have hz1 : ps.length ≤ sizeLine := by rw [hlen, sizeLine_eq]; omega
    refine dict_pairs (I.ok.hd hc) I.big e c dn dt hz1 (by rw [List.size_toArray, List.length_map]; exact hlen) (fun j q hq => by simpa using hps j q hq) fun h' tk hD hk => ?_
    have hk1 : ((([] : List (Key × Value)) ++ ps).map (·.1)).Nodup := by
      rw [List.nil_append, KV.keys' hkv, List.map_map]
      have e2 : (ts.map ((fun x : Key × V => x.1) ∘ fun t => ((Sum.inr t.2.1 : Key), t.2.2))) = (ts.map fun t => t.2.1).map (Sum.inr : Str → Key) := by rw [List.map_map]; rfl
      rw [e2]
      exact List.Pairwise.map _ (fun a b hne z => hne (by injection z)) hnd
    rw [storeAll_new ps [] hk1, List.nil_append] at hD
    have hfr := I.hok.fresh (Nat.le_refl s.heap.objs.size)
    refine ⟨.ref s.heap.objs.size, _, I.laid (a := s.heap.objs.size) (o := .dK (ts.map fun t => ((Sum.inr t.2.1 : Key), t.2.2))) (t' := tk) hk (Nat.le_refl _) (dk_new (by rw [List.length_map, sizeLine_eq]; omega) (beq_eq_false_iff_ne.mpr (Ne.symm (Nat.ne_of_lt I.big))) hkv hD), rfl, q _ hfr⟩
end
end L2
namespace L2
open PySem PySem.Spec PyProof.Rows
section
variable {X : Cx} {tg : Expr}
end
end L2
namespace TM
inductive Tree (α : Type) where
  | node (name : α) (mark : Int) (bs : List (Tree α))
variable {α : Type}
def Tree.bs : Tree α → List (Tree α)
  | .node _ _ bs => bs
def atT : Tree α → List Int → Option (Tree α)
  | t, [] => some t
  | t, i :: r => if 0 ≤ i then (match t.bs[i.toNat]? with
    | some b => atT b r
    | none => none) else none
theorem atT_nil (t : Tree α) : atT t [] = some t := by cases t; rfl
theorem atT_cons (t : Tree α) (i : Int) (r : List Int) : atT t (i :: r) = if 0 ≤ i then (match t.bs[i.toNat]? with
    | some b => atT b r
    | none => none) else none := by cases t; rfl
structure Rows (α : Type) where
  n : Nat
  nm : Nat → α
  mr : Nat → Int
  up : Nat → Nat
structure Rows.Ok (R : Rows α) : Prop where
  pos : 0 < R.n
  up0 : R.up 0 = 0
  upk : ∀ k, 0 < k → R.up k < k
variable {R : Rows α}
section
variable {K : Nat → List Int} {B : Nat → Tree α} {o0 : Tree α}
def it (R : Rows α) : Nat → Nat → Nat
  | 0, s => s
  | j + 1, s => R.up (it R j s)
variable {B' : Nat → Tree α} {o : Tree α} {s : Nat}
end
end TM
namespace L2
open PySem PySem.Spec PyProof.Rows TM
mutual
inductive TrV (K : PySem.W.Frag) (H : Hp) : V → Tree Str → Prop where
  | mk {a b : Addr} {vs : List V} {ts : List (Tree Str)} {name : Str} {mark : Int} : SqT K H a [.str name, .int mark, .ref b] → SqT K H b vs → TrAll K H vs ts → vs.length ≤ 1000 → TrV K H (.ref a) (.node name mark ts)
inductive TrAll (K : PySem.W.Frag) (H : Hp) : List V → List (Tree Str) → Prop where
  | nil : TrAll K H [] []
  | cons {v : V} {vs : List V} {t : Tree Str} {ts : List (Tree Str)} : TrV K H v t → TrAll K H vs ts → TrAll K H (v :: vs) (t :: ts)
end
mutual
theorem TrV.mono {K : PySem.W.Frag} {H H' : Hp} (k : ∀ a xs, SqT K H a xs → SqT K H' a xs) : ∀ {v : V} {t : Tree Str}, TrV K H v t → TrV K H' v t
  | _, _, .mk h1 h2 h3 h4 => .mk (k _ _ h1) (k _ _ h2) (TrAll.mono k h3) h4
theorem TrAll.mono {K : PySem.W.Frag} {H H' : Hp} (k : ∀ a xs, SqT K H a xs → SqT K H' a xs) : ∀ {vs : List V} {ts : List (Tree Str)}, TrAll K H vs ts → TrAll K H' vs ts
  | _, _, .nil => .nil
  | _, _, .cons h t => .cons (TrV.mono k h) (TrAll.mono k t)
end
theorem TrAll.length {K : PySem.W.Frag} {H : Hp} : ∀ {vs : List V} {ts : List (Tree Str)}, TrAll K H vs ts → vs.length = ts.length
  | _, _, .nil => rfl
  | _, _, .cons _ t => by rw [List.length_cons, List.length_cons, TrAll.length t]
theorem TrAll.get {K : PySem.W.Frag} {H : Hp} : ∀ {vs : List V} {ts : List (Tree Str)} {i : Nat} {t : Tree Str}, TrAll K H vs ts → ts[i]? = some t → ∃ v, vs[i]? = some v ∧ TrV K H v t
  | _, _, _, _, .nil, e => by simp at e
  | _, _, 0, _, .cons h _, e => by simp at e; subst e; exact ⟨_, rfl, h⟩
  | _, _, i + 1, t, .cons _ r, e => by
    obtain ⟨v, h1, h2⟩ := TrAll.get (i := i) (t := t) r (by simpa using e)
    exact ⟨v, by simpa using h1, h2⟩
theorem TrAll.append {K : PySem.W.Frag} {H : Hp} : ∀ {vs ws : List V} {ts us : List (Tree Str)}, TrAll K H vs ts → TrAll K H ws us → TrAll K H (vs ++ ws) (ts ++ us)
  | _, _, _, _, .nil, h => h
  | _, _, _, _, .cons a t, h => .cons a (TrAll.append t h)
theorem SqT.put {K : PySem.W.Frag} {H : Hp} {a d : Addr} {xs ys : List V} {o : HO} (h : SqT K H a xs) (hd : H d = some (.lst ys)) : SqT K (upd H d o) a xs := by
  rcases h with (h | ⟨ob, h⟩) | h
  · exact .inl (.inl (by rw [upd_ne (ne_of h hd (by intro z; cases z))]; exact h))
  · exact .inl (.inr ⟨ob, by rw [upd_ne (ne_of h hd (by intro z; cases z))]; exact h⟩)
  · exact .inr h
end L2
namespace TM
variable {α : Type}
mutual
def sz : Tree α → Nat
  | .node _ _ bs => 1 + szs bs
def szs : List (Tree α) → Nat
  | [] => 0
  | t :: r => sz t + szs r
end
mutual
def lv : Tree α → Nat
  | .node _ _ bs => 1 + lvs bs
def lvs : List (Tree α) → Nat
  | [] => 0
  | t :: r => max (lv t) (lvs r)
end
mutual
def pl : Tree α → List (List Int)
  | .node _ _ bs => [] :: pls 0 bs
def pls : Nat → List (Tree α) → List (List Int)
  | _, [] => []
  | i, t :: r => (pl t).map (List.cons (i : Int)) ++ pls (i + 1) r
end
mutual
theorem lv_sz : ∀ t : Tree α, lv t ≤ sz t
  | .node _ _ bs => by simp only [lv, sz]; have := lvs_szs bs; omega
theorem lvs_szs : ∀ ts : List (Tree α), lvs ts ≤ szs ts
  | [] => by simp [lvs, szs]
  | t :: r => by simp only [lvs, szs]; have h1 := lv_sz t; have h2 := lvs_szs r; omega
end
mutual
theorem pl_len : ∀ t : Tree α, (pl t).length = sz t
  | .node _ _ bs => by simp only [pl, sz, List.length_cons]; rw [pls_len 0 bs]; omega
theorem pls_len : ∀ (i : Nat) (ts : List (Tree α)), (pls i ts).length = szs ts
  | _, [] => by simp [pls, szs]
  | i, t :: r => by simp only [pls, szs, List.length_append, List.length_map]; rw [pl_len t, pls_len (i + 1) r]
end
mutual
theorem mem_pl : ∀ (t : Tree α) (p : List Int), p ∈ pl t ↔ (atT t p).isSome = true
  | .node a m bs, p => by
    cases p with
    | nil => simp [pl, atT_nil]
    | cons i r =>
      rw [atT_cons]
      simp only [pl, List.mem_cons, reduceCtorEq, false_or]
      rw [mem_pls 0 bs i r]
      constructor
      · rintro ⟨k, t, hk, rfl, h⟩
        rw [if_pos (by omega)]
        have e : (((0 + k : Nat) : Int)).toNat = k := by omega
        show (match bs[(((0 + k : Nat) : Int)).toNat]? with | some b => atT b r | none => none).isSome = true
        rw [e, hk]; exact h
      · intro h
        by_cases hi : 0 ≤ i
        · rw [if_pos hi] at h
          have h' : (match bs[i.toNat]? with | some b => atT b r | none => none).isSome = true := h
          cases hk : bs[i.toNat]? with
          | none => rw [hk] at h'; cases h'
          | some b => rw [hk] at h'; exact ⟨i.toNat, b, hk, by omega, h'⟩
        · rw [if_neg hi] at h; cases h
theorem mem_pls : ∀ (j : Nat) (ts : List (Tree α)) (i : Int) (r : List Int), i :: r ∈ pls j ts ↔ ∃ k t, ts[k]? = some t ∧ i = ((j + k : Nat) : Int) ∧ (atT t r).isSome = true
  | j, [], i, r => by simp [pls]
  | j, u :: ts, i, r => by
    simp only [pls, List.mem_append, List.mem_map]
    rw [mem_pls (j + 1) ts i r]
    constructor
    · rintro (⟨q, hq, e⟩ | ⟨k, t, h1, h2, h3⟩)
      · simp only [List.cons.injEq] at e
        obtain ⟨e1, rfl⟩ := e
        exact ⟨0, u, rfl, by rw [← e1]; rfl, (mem_pl u q).mp hq⟩
      · exact ⟨k + 1, t, by simpa using h1, by rw [h2]; congr 1; omega, h3⟩
    · rintro ⟨k, t, h1, h2, h3⟩
      cases k with
      | zero =>
        have : u = t := by simpa using h1
        subst this
        exact .inl ⟨r, (mem_pl u r).mpr h3, by rw [h2]; rfl⟩
      | succ k => exact .inr ⟨k, t, by simpa using h1, by rw [h2]; congr 1; omega, h3⟩
end
mutual
theorem len_le : ∀ (t : Tree α) (p : List Int), p ∈ pl t → p.length < lv t
  | .node a m bs, p, h => by
    simp only [pl, List.mem_cons] at h
    simp only [lv]
    rcases h with rfl | h
    · simp; omega
    · have := lens_le 0 bs p h; omega
theorem lens_le : ∀ (j : Nat) (ts : List (Tree α)) (p : List Int), p ∈ pls j ts → p.length ≤ lvs ts
  | j, [], p, h => by simp [pls] at h
  | j, u :: ts, p, h => by
    simp only [pls, List.mem_append, List.mem_map] at h
    simp only [lvs]
    rcases h with ⟨q, hq, rfl⟩ | h
    · have := len_le u q hq; simp; omega
    · have := lens_le (j + 1) ts p h; omega
end
mutual
theorem len_max : ∀ t : Tree α, ∃ p ∈ pl t, p.length + 1 = lv t
  | .node a m bs => by
    simp only [pl, lv]
    rcases lens_max 0 bs with h | ⟨p, hp, e⟩
    · exact ⟨[], List.mem_cons_self, by rw [h]; rfl⟩
    · exact ⟨p, List.mem_cons_of_mem _ hp, by omega⟩
theorem lens_max : ∀ (j : Nat) (ts : List (Tree α)), lvs ts = 0 ∨ ∃ p ∈ pls j ts, p.length = lvs ts
  | j, [] => .inl (by simp [lvs])
  | j, u :: ts => by
    right
    simp only [pls, lvs]
    obtain ⟨p, hp, e⟩ := len_max u
    by_cases hc : lvs ts ≤ lv u
    · exact ⟨(j : Int) :: p, List.mem_append_left _ (List.mem_map.mpr ⟨p, hp, rfl⟩), by simp; omega⟩
    · rcases lens_max (j + 1) ts with h | ⟨q, hq, e2⟩
      · omega
      · exact ⟨q, List.mem_append_right _ hq, by omega⟩
end
open HT (lexLt)
mutual
theorem pl_asc : ∀ t : Tree α, (pl t).Pairwise fun x y => lexLt x y = true
  | .node a m bs => by
    simp only [pl]
    rw [List.pairwise_cons]
    refine ⟨fun y hy => ?_, pls_asc 0 bs⟩
    cases y with
    | nil => exact absurd hy (nil_pls 0 bs)
    | cons _ _ => rfl
theorem pls_asc : ∀ (j : Nat) (ts : List (Tree α)), (pls j ts).Pairwise fun x y => lexLt x y = true
  | j, [] => by simp [pls]
  | j, u :: ts => by
    simp only [pls]
    rw [List.pairwise_append]
    refine ⟨?_, pls_asc (j + 1) ts, fun x hx y hy => ?_⟩
    · rw [List.pairwise_map]
      refine (pl_asc u).imp fun {x y} h => ?_
      rw [HT.lexLt_cons, if_pos rfl]; exact h
    · obtain ⟨q, hq, rfl⟩ := List.mem_map.mp hx
      cases y with
      | nil => exact absurd hy (nil_pls (j + 1) ts)
      | cons i r =>
        obtain ⟨k, t, _, rfl, _⟩ := (mem_pls (j + 1) ts i r).mp hy
        rw [HT.lexLt_cons, if_neg (by omega)]
        exact decide_eq_true (by omega)
theorem nil_pls : ∀ (j : Nat) (ts : List (Tree α)), [] ∉ pls j ts
  | j, [] => by simp [pls]
  | j, u :: ts => by
    simp only [pls, List.mem_append, List.mem_map, not_or]
    exact ⟨(fun ⟨q, _, e⟩ => nomatch e), nil_pls (j + 1) ts⟩
end
variable {R : Rows α} {K : Nat → List Int} {B : Nat → Tree α} {o0 : Tree α}
end TM
namespace TT
open TM PySem
inductive Lab where
  | call (m b : Int)
  | put (nm : Str) (kept : Bool) (add : Int)
abbrev Tm := Tree Lab
def leaf (m b : Int) : Tm := .node (.call m b) 0 []
def lcl : Lab → List (Int × Int)
  | .call m b => [(m, b)]
  | .put _ _ _ => []
def isC : Lab → Bool
  | .call _ _ => true
  | .put _ _ _ => false
def lab : Tm → Lab
  | .node l _ _ => l
mutual
def cls : Tm → List (Int × Int)
  | .node l _ bs => lcl l ++ clss bs
def clss : List Tm → List (Int × Int)
  | [] => []
  | t :: r => cls t ++ clss r
end
def hdF (f : Int → Int → Tm) : Lab → List Tm → Tm
  | .call m b, _ => f m b
  | .put n k a, ts => .node (.put n k a) 0 ts
mutual
def sub (f : Int → Int → Tm) : Tm → Tm
  | .node l _ bs => hdF f l (subs f bs)
def subs (f : Int → Int → Tm) : List Tm → List Tm
  | [] => []
  | t :: r => sub f t :: subs f r
end
mutual
theorem cls_len : ∀ t : Tm, (cls t).length ≤ sz t
  | .node l _ bs => by
    simp only [cls, sz, List.length_append]
    have := clss_len bs
    have h : (lcl l).length ≤ 1 := by cases l <;> simp [lcl]
    omega
theorem clss_len : ∀ ts : List Tm, (clss ts).length ≤ szs ts
  | [] => by simp [clss, szs]
  | t :: r => by simp only [clss, szs, List.length_append]; have h1 := cls_len t; have h2 := clss_len r; omega
end
def look (t : Tm) (p : List Int) : List (Int × Int) := match atT t p with
  | some u => lcl (lab u)
  | none => []
theorem look_cons {t u : Tm} {j : Nat} (h : t.bs[j]? = some u) (p : List Int) : look t ((j : Int) :: p) = look u p := by
  unfold look
  rw [atT_cons, if_pos (by omega), Int.toNat_natCast, h]
mutual
theorem cls_pl : ∀ t : Tm, cls t = (pl t).flatMap (look t)
  | .node l m bs => by
    have h0 : look (.node l m bs) [] = lcl l := by unfold look; rw [atT_nil]; rfl
    simp only [cls, pl, List.flatMap_cons, h0]
    rw [clss_pls (.node l m bs) 0 bs (by simp [Tree.bs])]
theorem clss_pls : ∀ (t : Tm) (j : Nat) (bs : List Tm), t.bs.drop j = bs → clss bs = (pls j bs).flatMap (look t)
  | t, j, [], h => by simp [clss, pls]
  | t, j, u :: r, h => by
    have hj : t.bs[j]? = some u := by
      have := congrArg (fun l => l[0]?) h
      simpa using this
    have hr : t.bs.drop (j + 1) = r := by
      have := congrArg List.tail h
      simpa using this
    simp only [clss, pls, List.flatMap_append, List.flatMap_map]
    rw [cls_pl u, clss_pls t (j + 1) r hr]
    congr 1
    congr 1
    funext p
    exact (look_cons hj p).symm
end
variable {R : Rows Lab}
variable {B B' : Nat → Tm} {f : Int → Int → Tm}
end TT
namespace L2
open PySem PyProof.Rows TM TT
abbrev CALL : Str := Str.ofString "call"
abbrev PUT : Str := Str.ofString "put"
mutual
inductive TmV (K : PySem.W.Frag) (H : Hp) : V → Tm → Prop where
  | call {a : Addr} {m b : Int} : SqT K H a [.str CALL, .int m, .int b] → TmV K H (.ref a) (.node (.call m b) 0 [])
  | put {a b : Addr} {vs : List V} {ts : List Tm} {n : Str} {k : Bool} {ad : Int} : SqT K H a [.str PUT, .str n, .bl k, .int ad, .ref b] → SqT K H b vs → TmAll K H vs ts → vs.length ≤ 1000 → TmV K H (.ref a) (.node (.put n k ad) 0 ts)
inductive TmAll (K : PySem.W.Frag) (H : Hp) : List V → List Tm → Prop where
  | nil : TmAll K H [] []
  | cons {v : V} {vs : List V} {t : Tm} {ts : List Tm} : TmV K H v t → TmAll K H vs ts → TmAll K H (v :: vs) (t :: ts)
end
mutual
theorem TmV.mono {K : PySem.W.Frag} {H H' : Hp} (k : ∀ a xs, SqT K H a xs → SqT K H' a xs) : ∀ {v : V} {t : Tm}, TmV K H v t → TmV K H' v t
  | _, _, .call h => .call (k _ _ h)
  | _, _, .put h1 h2 h3 h4 => .put (k _ _ h1) (k _ _ h2) (TmAll.mono k h3) h4
theorem TmAll.mono {K : PySem.W.Frag} {H H' : Hp} (k : ∀ a xs, SqT K H a xs → SqT K H' a xs) : ∀ {vs : List V} {ts : List Tm}, TmAll K H vs ts → TmAll K H' vs ts
  | _, _, .nil => .nil
  | _, _, .cons h t => .cons (TmV.mono k h) (TmAll.mono k t)
end
theorem TmAll.length {K : PySem.W.Frag} {H : Hp} : ∀ {vs : List V} {ts : List Tm}, TmAll K H vs ts → vs.length = ts.length
  | _, _, .nil => rfl
  | _, _, .cons _ t => by rw [List.length_cons, List.length_cons, TmAll.length t]
theorem TmAll.get {K : PySem.W.Frag} {H : Hp} : ∀ {vs : List V} {ts : List Tm} {i : Nat} {t : Tm}, TmAll K H vs ts → ts[i]? = some t → ∃ v, vs[i]? = some v ∧ TmV K H v t
  | _, _, _, _, .nil, e => by simp at e
  | _, _, 0, _, .cons h _, e => by simp at e; subst e; exact ⟨_, rfl, h⟩
  | _, _, i + 1, t, .cons _ r, e => by
    obtain ⟨v, h1, h2⟩ := TmAll.get (i := i) (t := t) r (by simpa using e)
    exact ⟨v, by simpa using h1, h2⟩
theorem TmAll.append {K : PySem.W.Frag} {H : Hp} : ∀ {vs ws : List V} {ts us : List Tm}, TmAll K H vs ts → TmAll K H ws us → TmAll K H (vs ++ ws) (ts ++ us)
  | _, _, _, _, .nil, h => h
  | _, _, _, _, .cons a t, h => .cons a (TmAll.append t h)
def tdl : Lab → List PyData → PyData
  | .call m b, _ => .tuple [.str CALL, .int m, .int b]
  | .put n k a, ds => .tuple [.str PUT, .str n, .bool k, .int a, .tuple ds]
mutual
def tmd : Tm → PyData
  | .node l _ bs => tdl l (tmds bs)
def tmds : List Tm → List PyData
  | [] => []
  | t :: r => tmd t :: tmds r
end
mutual
theorem TmV.rd {K : PySem.W.Frag} {H : Hp} : ∀ {v : V} {t : Tm}, TmV K H v t → RdV K H v (tmd t)
  | _, _, .call h => by
    simp only [tmd, tdl]
    exact .tup h (.cons (.str _) (.cons (.int _) (.cons (.int _) .nil)))
  | _, _, .put h1 h2 h3 _ => by
    simp only [tmd, tdl]
    exact .tup h1 (.cons (.str _) (.cons (.str _) (.cons (.bl _) (.cons (.int _) (.cons (.tup h2 (TmAll.rd h3)) .nil)))))
theorem TmAll.rd {K : PySem.W.Frag} {H : Hp} : ∀ {vs : List V} {ts : List Tm}, TmAll K H vs ts → RdAll K H vs (tmds ts)
  | _, _, .nil => by simp only [tmds]; exact .nil
  | _, _, .cons h t => by simp only [tmds]; exact .cons (TmV.rd h) (TmAll.rd t)
end
def MOk (d : Nat) (t : Tm) : Prop := (tmd t).canLay0 = true ∧ (tmd t).depth ≤ d
theorem MOk.mono {d e : Nat} {t : Tm} (h : MOk d t) (hd : d ≤ e) : MOk e t := ⟨h.1, Nat.le_trans h.2 hd⟩
theorem tmds_ok {d : Nat} : ∀ ts : List Tm, (∀ t ∈ ts, MOk d t) → PyData.canLayAll0 (tmds ts) = true ∧ PyData.depthAll (tmds ts) ≤ d
  | [], _ => by simp [tmds, PyData.canLayAll0, PyData.depthAll]
  | t :: r, h => by
    obtain ⟨h1, h2⟩ := h t List.mem_cons_self
    obtain ⟨h3, h4⟩ := tmds_ok r fun u hu => h u (List.mem_cons_of_mem _ hu)
    simp only [tmds, PyData.canLayAll0, PyData.depthAll, h1, h3, Bool.and_self, true_and]
    omega
theorem str_put : PyData.strOk PUT = true := by decide +kernel
theorem put_ok {d : Nat} {n : Str} {k : Bool} {a mk : Int} {ts : List Tm} (hn : PyData.strOk n = true) (h : ∀ t ∈ ts, MOk d t) : MOk (d + 2) (.node (.put n k a) mk ts) := by
  obtain ⟨h1, h2⟩ := tmds_ok ts h
  constructor
  · simp only [tmd, tdl, PyData.canLay0, PyData.canLayAll0, h1, hn, str_put, Bool.and_self]
  · simp only [tmd, tdl, PyData.depth, PyData.depthAll]
    omega
end L2
namespace L2
open PySem PySem.Spec PyProof.Rows PySem.W
section
variable {X : Cx}
end
@[reducible] def strOrd : KeyOrd := ⟨List Nat, fun a b => decide (a < b), fun a => strKind.irrefl a, fun a b c => strKind.trans a b c, fun a b c => strKind.negTrans a b c, fun a b => strKind.total a b⟩
abbrev PNx := Addr × Str × Addr × List Str
def PairN (h : Heap) (t : PNx) : Prop := ∃ (tk : Tok) (as : List Addr), h.IsTuple t.1 [Value.str t.2.1 tk, Value.ref t.2.2.1].toArray ∧ Reads h (.ref t.2.2.1) (.tuple (t.2.2.2.map PyData.str)) as
theorem PairN.keeps {h h' : Heap} {t : PNx} (k : ∀ b o, h.get? b = some o → h'.get? b = some o) (x : PairN h t) : PairN h' t := by
  obtain ⟨tk, as, h1, h2⟩ := x
  exact ⟨tk, as, IsTuple.keeps k h1, Reads.keeps k h2⟩
theorem rd_strs {K : PySem.W.Frag} {H : Hp} : ∀ p : List Str, RdAll K H (p.map V.str) (p.map PyData.str)
  | [] => .nil
  | i :: r => .cons (.str i) (rd_strs r)
theorem lay_strs : ∀ p : List Str, (∀ x ∈ p, PyData.strOk x = true) → PyData.canLayAll0 (p.map PyData.str) = true
  | [], _ => by simp [PyData.canLayAll0]
  | i :: r, h => by simp only [List.map_cons, PyData.canLayAll0, PyData.canLay0, lay_strs r fun x hx => h x (List.mem_cons_of_mem _ hx), h i List.mem_cons_self, Bool.and_self]
theorem pairN_tups {h : Heap} : ∀ {ts : List PNx}, (∀ t ∈ ts, PairN h t) → ∃ fs : List Value, KatTups h (ts.map fun t => Value.ref t.1) fs ∧ (∀ v ∈ fs, ∃ x t, v = Value.str x t) ∧ fs.length = ts.length
  | [], _ => ⟨[], KatTups.nil, fun v hv => (nomatch hv), rfl⟩
  | t :: r, ht => by
    obtain ⟨tk, as, ⟨o, go, gc, n, gd⟩, _⟩ := ht t List.mem_cons_self
    obtain ⟨fs, h1, h2, h3⟩ := pairN_tups fun u hu => ht u (List.mem_cons_of_mem _ hu)
    refine ⟨Value.str t.2.1 tk :: fs, KatTups.cons go gc gd rfl h1, fun v hv => ?_, by simp [h3]⟩
    rcases List.mem_cons.mp hv with rfl | hv
    · exact ⟨_, _, rfl⟩
    · exact h2 v hv
section
variable {prog : Program} {w : World} {A : Around} {E : Value → Shared → Prop} {s : Shared}
theorem pairN_lt {t u : PNx} {C : Bool → Shared → Prop} (ht : PairN s.heap t) (hu : PairN s.heap u) (hok : ∀ x ∈ t.2.2.2, PyData.strOk x = true) (hd : t.1 ≠ u.1 → t.2.1 ≠ u.2.1) (hA : A.units + 2 < cLine) (h : C (decide (t.2.1.cps.toList < u.2.1.cps.toList)) s) : wpAny (model prog w) A (keyLt' (tuples' true) (.ref t.1) (.ref u.1)) C E s := by
  obtain ⟨tk, as, h1, h4⟩ := ht
  obtain ⟨tk2, as2, g1, g4⟩ := hu
  have lay : (PyData.tuple (t.2.2.2.map PyData.str)).canLay0 = true := by simp only [PyData.canLay0]; exact lay_strs _ hok
  have dep : (PyData.tuple (t.2.2.2.map PyData.str)).depth ≤ 1 := by simp only [PyData.depth, depth_strs]; omega
  refine pair_lt h1 g1 (fun hne => ?_) (fun heq => ?_)
  · refine ⟨?_, oneLt_str h⟩
    have e := (eqGives_str t.2.1 u.2.1 tk tk2).at A s
    have : (t.2.1 == u.2.1) = false := by simpa using hd hne
    rw [this] at e
    exact e
  · refine ⟨?_, ?_, ?_⟩
    · have e := (eqGives_str t.2.1 t.2.1 tk tk).at A s
      simpa using e
    · have e := SeqAt.eqAt_reads _ _ A s _ _ _ _ h4 h4 lay lay (by omega)
      rw [eqv_self _ lay] at e
      exact e
    · have e1 : t.2.1 = u.2.1 := by
        obtain ⟨o, e, _, n, d⟩ := h1
        obtain ⟨o2, e2, _, n2, d2⟩ := g1
        rw [heq, e2] at e
        cases e
        rw [d] at d2
        injection d2 with z1 z2
        have z3 : [Value.str t.2.1 tk, Value.ref t.2.2.1] = [Value.str u.2.1 tk2, Value.ref u.2.2.1] := by simpa using congrArg Array.toList z1
        injection z3 with z4 z5
        injection z4
      rw [← e1, decide_eq_false (List.lt_irrefl _)] at h
      exact h
end
section
variable {X : Cx}
theorem call_sortedN (hu : X.A.units + 4 < cLine) : CallR X (.builtin "sorted") (fun xs H Q => ∃ (l : Addr) (ts : List PNx), xs = [.ref l] ∧ SqL X.K H l (ts.map fun t => V.ref t.1) ∧ (∀ t ∈ ts, SqT X.K H t.1 [.str t.2.1, .ref t.2.2.1] ∧ SqT X.K H t.2.2.1 (t.2.2.2.map V.str) ∧ ∀ x ∈ t.2.2.2, PyData.strOk x = true) ∧ (ts.map fun t => t.2.1).Nodup ∧ ts.length < 64 ∧
    ∀ (out : List PNx) p, out.Perm ts → (out.Pairwise fun x y => ¬ y.2.1.cps.toList < x.2.1.cps.toList) → H p = none → Q (.ref p) (upd H p (.lst (out.map fun t => V.ref t.1)))) := by
  intro pins s σ H xs us Q I r h
  obtain ⟨l, ts, rfl, hl, ht, hnd, h64, q⟩ := h
  cases r with
  | cons r rr =>
    cases rr
    obtain rfl : _ = Value.ref l := r
    obtain ⟨its, rv, p, _⟩ := I.list hl
    obtain rfl := vals_mapF rv
    have hP : ∀ t ∈ ts, PairN s.heap t := fun t htm => by
      obtain ⟨h1, h2, _⟩ := ht t htm
      obtain ⟨its1, r1, p1, _⟩ := I.tuple h1
      obtain ⟨u, v, rfl, ru, rv⟩ := r1.two
      cases (show v = Value.ref _ from rv)
      obtain ⟨tk, rfl⟩ := (show ∃ tk, u = Value.str _ tk from ru)
      obtain ⟨as, q4⟩ := (RdV.tup h2 (rd_strs _)).reads I (show RelV (.ref t.2.2.1) (.ref t.2.2.1) from rfl)
      exact ⟨tk, as, p1, q4⟩
    let d : PNx := (0, ⟨#[]⟩, 0, [])
    have gd : ∀ i, i < ts.length → (ts.map fun t => Value.ref t.1).getD i Value.none = .ref (ts.getD i d).1 := fun i hi => by simp [List.getD_eq_getElem?_getD, hi]
    have md : ∀ i, i < ts.length → ts.getD i d ∈ ts := fun i hi => by simp [List.getD_eq_getElem?_getD, hi]
    have ek : (Value.type "str" != Value.type "tuple") = true := by decide +kernel
    refine sorted_gen strOrd (fun i => (ts.getD i d).2.1.cps.toList) (tuples' true) p.isList (by simpa using h64) (fun s' E' Q' hs h2 hq => ?_) (fun s' i j C hs hi hj hC => ?_) fun pp o1 o2 => ?_
    · obtain ⟨fs, f1, f2, f3⟩ := pairN_tups (h := s'.heap) fun t htm => (hP t htm).keeps hs
      refine kat_kind (T := .type "str") f1 (by rw [f3]; rw [List.length_map] at h2; omega) (fun v hv => ?_) (by decide +kernel) (by rw [ek]; exact hq)
      obtain ⟨x, t, rfl⟩ := f2 v hv
      exact .now
    · rw [List.length_map] at hi hj
      rw [gd i hi, gd j hj]
      refine pairN_lt ((hP _ (md i hi)).keeps hs) ((hP _ (md j hj)).keeps hs) (ht _ (md i hi)).2.2 (fun hne he => hne ?_) (by show X.A.units + 1 + 1 + 2 < cLine; omega) hC
      have hij : i = j := by
        have a1 : (ts.map fun t => t.2.1)[i]'(by simpa using hi) = (ts.getD i d).2.1 := by simp [List.getD_eq_getElem?_getD, hi]
        have a2 : (ts.map fun t => t.2.1)[j]'(by simpa using hj) = (ts.getD j d).2.1 := by simp [List.getD_eq_getElem?_getD, hj]
        exact (List.getElem_inj hnd).mp (a1.trans (he.trans a2.symm))
      rw [hij]
    · rw [List.length_map] at o1 o2
      obtain ⟨w1, w2⟩ := out_gen (O := strOrd) (ts := ts) (d := d) (key := fun t => t.2.1.cps.toList) o1 o2
      have em : (pp.toList.map fun i => (ts.map fun t => Value.ref t.1).getD i Value.none) = (pp.toList.map fun i => ts.getD i d).map fun t => Value.ref t.1 := by
        rw [List.map_map]
        refine List.map_congr_left fun i hi => ?_
        exact gd i (List.mem_range.mp (o1.mem_iff.mp hi))
      rw [em]
      generalize pp.toList.map (fun i => ts.getD i d) = out at w1 w2
      obtain ⟨e, he⟩ := sortedAll_at s.heap (ts.map fun t => Value.ref t.1) (out.map fun t => Value.ref t.1).toArray
      have hfr : H (s.heap.objs.size + 1) = none := I.hok.fresh (Nat.le_succ _)
      refine ⟨.ref (s.heap.objs.size + 1), _, I.laid (t' := s.toks) (o := .lst (out.map fun t => V.ref t.1)) (fun b o g => sortedAll_old g) (Nat.le_succ _) ?_, rfl, q out _ w1 (w2.imp fun h => by simpa using h) hfr⟩
      exact ⟨by rw [List.length_map, w1.length_eq, sizeLine_eq]; omega, _, e, mapF_vals out, he⟩
end
end L2
namespace L2
open PySem PySem.Spec PyProof.Rows
section
variable {prog : Program} {w : World} {A : Around} {E : Value → Shared → Prop} {s : Shared} {it t : Addr} {i : Nat} {its : Array Value} {x : Value} {Q : Value → Shared → Prop}
theorem tupNext_item (hi : s.heap.IsTupleIter it t i) (ht : s.heap.IsTuple t its) (hx : its[i]? = some x) (q : ∀ h', h'.IsTupleIter it t (i + 1) → Heap.SameBut it s.heap h' → Q x { s with heap := h' }) :
    wpAny (model prog w) A (Builtin.SmallTypes.nextOf (.ref it)) Q E s := by
  obtain ⟨oi, gi, ci, di⟩ := id hi
  obtain ⟨ot, gt, _, nt, dt⟩ := ht
  unfold Builtin.SmallTypes.nextOf
  refine wpAny_bind (wpAny_callSpecial?_slot (name := Str.ofString "__next__") hi.typeIs F.slot_tuple_iterator_next (wpAny_call_entry F.slot_tuple_iterator_next hi.typeIs F.entry_tuple_iterator_next ?_ (F.args_tuple_iterator_next_1 _)))
  show wpAny _ _ (field (.ref it) 0 >>= _) _ _ s
  refine wpAny_bind (wpAny_field gi di (x := .ref t) rfl ?_)
  show wpAny _ _ (if (Value.ref t == Value.none) = true then _ else _) _ _ s
  rw [if_neg (show ¬ ((Value.ref t == Value.none) = true) from Bool.false_ne_true)]
  show wpAny _ _ (field (.ref it) 1 >>= _) _ _ s
  refine wpAny_bind (wpAny_field gi di (x := .int i 0) rfl ?_)
  show wpAny _ _ (seqItems? (.ref t) >>= _) _ _ s
  refine wpAny_bind (wpAny_seqItems gt dt ?_)
  simp only [Int.toNat_natCast, hx]
  refine wpAny_bind (wpAny_setField gi di (by simp) (wpAny_pure ⟨x, rfl, wpAny_pure (q _ ⟨_, Heap.get?_update_self _ gi (Obj.isFreed_of_fields (Obj.data_mapFields di _)), (Obj.cls_mapFields ..).trans ci, ?_⟩ (Heap.SameBut.update ..))⟩))
  rw [Obj.data_mapFields di]; simp [rawInt]
theorem tupNext_end (hh : A.handled = none) (hi : s.heap.IsTupleIter it t i) (ht : s.heap.IsTuple t its) (hx : its[i]? = none)
    (q : ∀ h' e, Heap.ExtBut it s.heap h' → (∃ o, h'.get? e = some o ∧ o.cls = .type "StopIteration") → E (.ref e) { s with heap := h' }) : wpAny (model prog w) A (Builtin.SmallTypes.nextOf (.ref it)) Q E s := by
  obtain ⟨oi, gi, ci, di⟩ := id hi
  obtain ⟨ot, gt, _, nt, dt⟩ := ht
  unfold Builtin.SmallTypes.nextOf
  refine wpAny_bind (wpAny_callSpecial?_slot (name := Str.ofString "__next__") hi.typeIs F.slot_tuple_iterator_next (wpAny_call_entry F.slot_tuple_iterator_next hi.typeIs F.entry_tuple_iterator_next ?_ (F.args_tuple_iterator_next_1 _)))
  show wpAny _ _ (field (.ref it) 0 >>= _) _ _ s
  refine wpAny_bind (wpAny_field gi di (x := .ref t) rfl ?_)
  show wpAny _ _ (if (Value.ref t == Value.none) = true then _ else _) _ _ s
  rw [if_neg (show ¬ ((Value.ref t == Value.none) = true) from Bool.false_ne_true)]
  show wpAny _ _ (field (.ref it) 1 >>= _) _ _ s
  refine wpAny_bind (wpAny_field gi di (x := .int i 0) rfl ?_)
  show wpAny _ _ (seqItems? (.ref t) >>= _) _ _ s
  refine wpAny_bind (wpAny_seqItems gt dt ?_)
  simp only [Int.toNat_natCast, hx]
  refine wpAny_bind (wpAny_rule (wpAny_bind (wpAny_setField gi di (by simp) ?_)))
  show wpAny _ _ (newExc (.type "StopIteration") [] >>= _) _ _ _
  simp only [newExc, newTuple]
  refine wpAny_bind (wpAny_bind (wpAny_newObj_type (wpAny_bind (m := firstArgMember _ _) (wpAny_of_eq (a := Value.none) (by first | rfl | (simp only [firstArgMember]; rfl)) (wpAny_newObj_type ?_ (by size_fits)))) (by size_fits)))
  simp only [raiseNew]
  refine wpAny_bind (wpAny_handled ?_)
  first | rw [show A.in1.handled = none from hh] | rw [hh]
  exact wpAny_bind (wpAny_pure (wpAny_throw (q _ _ (((Heap.SameBut.update ..).extBut.push _).push _) ⟨_, Heap.get?_push_size _ rfl, rfl⟩)))
theorem draws_tup (hh : A.handled = none) (hne : t ≠ it) : Draws prog w A it [it, t] its.size (fun i v => its[i]? = some v) (fun i h => h.IsTupleIter it t i ∧ h.IsTuple t its) where
  live := fun _ _ st => let ⟨o, ho, _⟩ := st.1; ⟨o, ho⟩
  frame := fun _ _ _ st hk => ⟨st.1.at fun o e => hk it (by simp) o e, let ⟨o, ho, r⟩ := st.2; ⟨o, hk t (by simp) o ho, r⟩⟩
  item := fun i s Q E hi st hQ => tupNext_item st.1 st.2 (x := its[i]) (by simp [hi]) fun h' hit' hs' => hQ _ h' s.toks (by simp [hi]) ⟨hit', st.2.extBut hs'.extBut hne⟩ hs'
  done := fun s Q E st hE => tupNext_end hh st.1 st.2 (by simp) hE
end
theorem enum_newT (t : Addr) (its : Array Value) (n : Nat) (dct : Option Addr) (sl : Array (Option Value)) :
    Meets (Builtin.«enumerate.__new__» ⟨[.type "enumerate", .ref t], []⟩) (fun _ R s => s.heap.get? t = some { cls := .type "tuple", dict := dct, data := .seq its n, slots := sl } ∧
      R (.ok (.ret (.ref (s.heap.push { cls := .type "tuple_iterator", data := .fields #[.ref t, .int 0 0] }).objs.size)))
        { s with heap := (s.heap.push { cls := .type "tuple_iterator", data := .fields #[.ref t, .int 0 0] }).push { cls := .type "enumerate", data := .fields #[.none, .bool false, .ref s.heap.objs.size, rawInt 0, .none, .none] } }) :=
  .of_wp fun prog w A R s h => by
    obtain ⟨hp, g, d, tk, os⟩ := s
    obtain ⟨hl, h⟩ := h
    have hsub := sub_enumerate
    have hT : Heap.IsTuple (Shared.heap ⟨hp, g, d, tk, os⟩) t its := ⟨_, hl, rfl, n, rfl⟩
    wp_walk using AutoSeq1.wpAny_loadPart' hl
    refine wpAny_stack_any fun st => wpAny_pure ?_
    split
    · rename_i c _ _ _ _ _
      cases (c == Value.type "enumerate") <;> (wp_walk using AutoSeq1.wpAny_loadPart' hl, wpAny_pyIter_tuple hT; exact ⟨_, rfl, h⟩)
    · wp_walk using AutoSeq1.wpAny_loadPart' hl, wpAny_pyIter_tuple hT
      exact ⟨_, rfl, h⟩
theorem call_enumT {prog : Program} {w : World} {A : Around} {E : Value → Shared → Prop} {s : Shared} {t : Addr} {its : Array Value} {Q : Value → Shared → Prop} (hT : s.heap.IsTuple t its)
    (h : ∀ h', IsEnum h' (s.heap.objs.size + 1) s.heap.objs.size 0 .none → h'.IsTupleIter s.heap.objs.size t 0 → h'.objs.size = s.heap.objs.size + 2 →
      (∀ b o, s.heap.get? b = some o → h'.get? b = some o) → Q (.ref (s.heap.objs.size + 1)) { s with heap := h' }) :
    wpAny (model prog w) A (call (.type "enumerate") [.ref t]) Q E s := by
  obtain ⟨⟨c, dct, dt, sl⟩, hl, hc, n, hd⟩ := hT
  simp only at hc hd
  subst hc hd
  refine callType_new F.called_enumerate (by decide) (F.typeCall_enumerate_1 _) (F.newCall_enumerate_1 _) (fun obj => F.args_object_init_2 obj _) F.entry_enumerate_new (enum_newT t its n dct sl) ⟨hl, ?_⟩
  have hz : (s.heap.push { cls := .type "tuple_iterator", data := .fields #[.ref t, .int 0 0] }).objs.size = s.heap.objs.size + 1 := Heap.size_push ..
  have he := Heap.get?_push_size (s.heap.push { cls := .type "tuple_iterator", data := .fields #[.ref t, .int 0 0] }) (o := { cls := .type "enumerate", data := .fields #[.none, .bool false, .ref s.heap.objs.size, rawInt 0, .none, .none] }) rfl
  show _ ∧ _
  rw [hz] at he ⊢
  exact ⟨⟨_, he, rfl⟩, h _ he ⟨_, Heap.get?_push_of_some _ (Heap.get?_push_size _ rfl), rfl, rfl⟩ (by rw [Heap.size_push, hz]) fun b o y => Heap.get?_push_of_some _ (Heap.get?_push_of_some _ y)⟩
def Ite (K : PySem.W.Frag) (a : Addr) : It :=
  ⟨fun i H => ∃ xs x, SqT K H a xs ∧ xs[i]? = some x,
   fun i H x H' => ∃ p v, H p = none ∧ x = .ref p ∧ H' = upd H p (.tup [.int (i : Int), v]) ∧ ∀ xs, SqT K H a xs → xs[i]? = some v,
   fun i H => ∃ xs, SqT K H a xs ∧ xs.length ≤ i⟩
theorem turn_enum {P : Program} {w : World} {K : PySem.W.Frag} {elts : List Expr} {k1 : Nat} {pos : Pos} (a e it : Addr) (hei : e ≠ it) :
    Turn P w K (.Tuple elts k1 pos) (Ite K a) [e, it] e (fun i h => (∃ old, IsEnum h e it (i : Nat) old) ∧ h.IsTupleIter it a i) where
  mem := by simp
  obj := fun i h st c hc => by
    obtain ⟨⟨old, he⟩, hi⟩ := st
    simp only [List.mem_cons, List.mem_nil_iff, or_false] at hc
    rcases hc with rfl | rfl
    · exact ⟨_, he, fun v z => by have z' : Data.fields _ = Data.cell v := z; cases z'⟩
    · obtain ⟨o, g, c, d⟩ := hi; exact ⟨o, g, fun v z => by rw [d] at z; cases z⟩
  keep := fun i h h' st k => by
    obtain ⟨⟨old, he⟩, hi⟩ := st
    exact ⟨⟨old, k e (by simp) _ he⟩, hi.at fun o g => k it (by simp) o g⟩
  item := by
    intro X hP hw hK hc i pins s σ H E I hf st hg
    subst hP hw hK
    obtain ⟨⟨old, he⟩, hi⟩ := st
    obtain ⟨xs, x, hq, hx⟩ := hg
    obtain ⟨its, rv, p, hz⟩ := I.tuple hq
    obtain ⟨u, hu, ru⟩ := rv.get hx
    have pt : s.heap.IsTuple a its.toArray := p
    obtain ⟨oa, ga, ca, na, da⟩ := id pt
    have hae : a ≠ e := fun z => by
      subst z
      have hE : s.heap.get? a = some _ := he
      rw [hE] at ga
      cases ga
      exact absurd (Value.type.inj ca) (by decide)
    have hai : a ≠ it := fun z => by
      subst z
      obtain ⟨o, g, c, d⟩ := hi
      rw [g] at ga
      cases ga
      rw [c] at ca
      exact absurd (Value.type.inj ca) (by decide)
    have hlt : i < its.toArray.size := by
      have := (List.getElem?_eq_some_iff.mp hu).1
      simpa using this
    refine wpAny_pyNext_enum_itemD (draws_tup (prog := X.prog) (w := X.w) (A := X.A.in1) (it := it) (t := a) (its := its.toArray) (I.ok.hd hc) hai) he ⟨hi, pt⟩ hlt hei (by simp only [List.mem_cons, List.mem_nil_iff, or_false, not_or]; exact ⟨hei, Ne.symm hae⟩) fun y h' tk hy ho hst ht hsz hk => ?_
    have hyu : y = u := by
      have : its.toArray[i]? = some u := by simpa using hu
      exact Option.some.inj (hy.symm.trans this)
    subst hyu
    refine ⟨.ref s.heap.objs.size, rfl, wpAny_letOwnedTupleGo_enum (s := { s with heap := h', toks := tk + 1 }) ho fun h'' he'' hs' => ?_⟩
    have lt : ∀ {c o}, s.heap.get? c = some o → c ≠ s.heap.objs.size := fun g => Nat.ne_of_lt (Heap.lt_size g)
    have hse : s.heap.objs.size ≠ e := Ne.symm (lt he)
    have hch : ∀ c ∈ [e, it], FpOk X pins H c := hf
    have I2 : Inv X pins σ (upd H s.heap.objs.size (.tup [.int (i : Int), x])) { s with heap := h'', toks := tk + 1 } := by
      refine I.turnedNew (ch := [e, it]) (fun c o hc g => ?_) hch (Nat.le_refl _) ⟨by show 2 ≤ sizeLine; decide, [.int (i : Int) tk, y], .cons ⟨tk, rfl⟩ (.cons ru .nil), ⟨_, (hs'.2 _ hse).trans ht, rfl, _, rfl⟩⟩
      simp only [List.mem_cons, List.mem_nil_iff, or_false, not_or] at hc
      exact (hs'.2 c hc.1).trans (hk c o hc.1 hc.2 g)
    have hfr : ∀ c ∈ [e, it], upd H s.heap.objs.size (.tup [.int (i : Int), x]) c = none := fun c hc => by
      have : c ≠ s.heap.objs.size := by
        have hc' := hc
        simp only [List.mem_cons, List.mem_nil_iff, or_false] at hc'
        rcases hc' with rfl | rfl
        · exact lt he
        · obtain ⟨o, g, _⟩ := hi; exact lt g
      rw [upd_ne this]; exact (hf c hc).1
    exact ⟨.ref s.heap.objs.size, _, I2, rfl, ⟨s.heap.objs.size, x, I.fresh, rfl, rfl, fun ys hys => by rw [I.tuple_inj hys hq]; exact hx⟩, ⟨⟨_, he''⟩, hst.1.extBut hs'.extBut (Ne.symm hei)⟩, hfr⟩
  done := by
    intro X hP hw hK hc i pins s σ H E I hf st hg
    subst hP hw hK
    obtain ⟨⟨old, he⟩, hi⟩ := st
    obtain ⟨xs, hq, hx⟩ := hg
    obtain ⟨its, rv, p, hz⟩ := I.tuple hq
    have pt : s.heap.IsTuple a its.toArray := p
    have hlen := rv.length
    have hn : its.toArray.size ≤ i := by simp; omega
    have hT : s.TypeIs (.ref e) "enumerate" := ⟨_, he, rfl⟩
    unfold pyNext
    refine wpAny_bind (wpAny_attempt (wpAny_callSpecial?_slot (name := Str.ofString "__next__") hT F.slot_enumerate_next (wpAny_call_entry F.slot_enumerate_next hT F.entry_enumerate_next ?_ (F.args_enumerate_next_1 _))))
    show wpAny _ _ (field (.ref e) 2 >>= _) _ _ _
    refine wpAny_bind (wpAny_field he rfl (x := .ref it) rfl ?_)
    refine wpAny_bind (tupNext_end (A := X.A.in1) (I.ok.hd hc) hi pt (Array.getElem?_eq_none hn) fun h' y he' hy => ?_)
    obtain ⟨o, ho, hcl⟩ := hy
    refine wpAny_bind (wpAny_isInstance (T := "StopIteration") (b := true) ⟨o, ho, hcl⟩ isSubtype_stop ?_)
    refine wpAny_pure ⟨rfl, I.turnedL (t' := s.toks) (ch := [e, it]) (fun c u hc' g => he' c u (fun z => hc' (by rw [z]; simp)) g) hf⟩
  self := fun _ _ _ _ _ st h => wpAny_pyIter_enum st.1.choose_spec h
section
variable {X : Cx} {elts : List Expr} {k1 : Nat} {tpos : Pos}
def iEnum (K : PySem.W.Frag) (ta : TA) : TI := fun σ H R => ta σ H fun vs H1 => ∃ a xs, vs = [.ref a] ∧ SqT K H1 a xs ∧ R (Ite K a) H1
theorem pi_enum {e1 : Expr} {ta : TA} {p pos : Pos} (hg : Gl X "enumerate") (hm : X.mg "enumerate" = none) (ha : PA X [e1] ta) (hb : bootBuiltins "enumerate" = some (.type "enumerate") := by decide +kernel) (hs : starEach [e1] X.env = [(false, eval e1 X.env)] := by rfl) :
    PI X (.Tuple elts k1 tpos) (.Call (.Name "enumerate" p) [e1] [] pos) (iEnum X.K ta) := by
  intro pins s σ H R I h
  refine Call_ (ld_blt I hg hm hb (PyProof.Rows.callWith_type1 (thn (ha pos pins s σ H _ I h) fun us s1 ⟨vs, H1, I1, r1, q1⟩ => ?_) hs rfl))
  obtain ⟨a, xs, e, hq, q⟩ := q1
  subst e
  cases r1 with
  | cons r rr =>
    cases rr
    obtain rfl : _ = Value.ref a := r
    obtain ⟨its, rv, pt, _⟩ := I1.tuple hq
    refine call_enumT (show s1.heap.IsTuple a its.toArray from pt) fun h' he hi hsz hk => ?_
    refine wpAny_pyIter_enum he ?_
    have I2 : Inv X pins σ H1 { s1 with heap := h' } := I1.kept (t' := s1.toks) hk
    refine ⟨s1.heap.objs.size + 1, [s1.heap.objs.size + 1, s1.heap.objs.size], _, _, H1, rfl, I2, turn_enum a (s1.heap.objs.size + 1) s1.heap.objs.size (nne (by omega)), ⟨⟨_, he⟩, hi⟩, fun c hc => ?_, q⟩
    have hle : @LE.le Nat _ s1.heap.objs.size c := by
      simp only [List.mem_cons, List.mem_nil_iff, or_false] at hc
      rcases hc with rfl | rfl <;> omega
    exact I1.fpOk hle (I1.hok.fresh hle)
theorem for_enum {K : PySem.W.Frag} {a : Addr} {xs : List V} {g : TG} {tb : TS} {D : Ends} {σ : St} {H : Hp} (Pv : Nat → St → Hp → Prop) (h0 : Pv 0 σ H) (hl : ∀ i σ H, i ≤ xs.length → Pv i σ H → SqT K H a xs)
    (hs : ∀ i v p σ H, xs[i]? = some v → H p = none → Pv i σ H → g (.ref p) σ (upd H p (.tup [.int (i : Int), v])) fun σ2 H2 => tb { D with nx := Pv (i + 1), ct := Pv (i + 1), bk := D.nx } σ2 H2) (hd : ∀ σ H, Pv xs.length σ H → D.nx σ H) :
    ∃ W : Nat → Nat → St → Hp → Prop, (∃ m, W 0 m σ H) ∧ ∀ i m σ H, W i m σ H →
      ((Ite K a).stop i H ∧ D.nx σ H) ∨ ((Ite K a).go i H ∧ ∃ N : St → Hp → Prop, (∀ σ' H', N σ' H' → ∃ m', m' < m ∧ W (i + 1) m' σ' H') ∧ ∀ x H', (Ite K a).yld i H x H' → g x σ H' fun σ2 H2 => tb { D with nx := N, ct := N, bk := D.nx } σ2 H2) := by
  refine ⟨fun i m σ H => m = xs.length - i ∧ i ≤ xs.length ∧ Pv i σ H, ⟨xs.length - 0, rfl, Nat.zero_le _, h0⟩, ?_⟩
  rintro i m σ H ⟨rfl, hi, p⟩
  have hq := hl i σ H hi p
  by_cases h : i < xs.length
  · refine .inr ⟨⟨xs, xs[i], hq, List.getElem?_eq_getElem h⟩, Pv (i + 1), fun σ' H' p' => ⟨xs.length - (i + 1), by omega, rfl, h, p'⟩, ?_⟩
    rintro x H' ⟨p', v, hp, rfl, rfl, hv⟩
    exact hs i v p' σ H (hv xs hq) hp p
  · have e : i = xs.length := by omega
    subst e
    exact .inl ⟨⟨xs, hq, Nat.le_refl _⟩, hd σ H p⟩
end
end L2
namespace L2
open PySem PySem.Spec PyProof.Rows
section
variable {prog : Program} {w : World} {A : Around} {E : Value → Shared → Prop} {s : Shared}
theorem zipT_item {zp ti tu j1 j2 t1 t2 : Addr} {n1 n2 : Nat} {us vs : Array Value} {p q c d : Value} {Q : Value → Shared → Prop} (Ap : ZipApart zp ti tu j1 j2 t1 t2)
    (gz : IsZip s.heap zp ti tu .none) (gi : IsPair s.heap ti (.ref j1) (.ref j2)) (gu : IsPair s.heap tu c d)
    (w1 : s.heap.IsTupleIter j1 t1 n1) (w2 : s.heap.IsTupleIter j2 t2 n2) (l1 : s.heap.IsTuple t1 us) (l2 : s.heap.IsTuple t2 vs) (ep : us[n1]? = some p) (eq : vs[n2]? = some q)
    (k : ∀ h', IsZip h' zp ti tu (rawInt s.heap.objs.size) → IsPair h' tu p q → h'.IsTupleIter j1 t1 (n1 + 1) → h'.IsTupleIter j2 t2 (n2 + 1) → IsPair h' s.heap.objs.size p q →
      (∀ b o, b ≠ zp → b ≠ tu → b ≠ j1 → b ≠ j2 → s.heap.get? b = some o → h'.get? b = some o) → Q (.ref s.heap.objs.size) { s with heap := h' }) :
    wpAny (model prog w) A (Builtin.«zip.__next__» ⟨[.ref zp], []⟩) (fun fin s' => ∃ v, fin = .done (.ret v) ∧ Q v s') E s := by
  show wpAny _ _ (field (.ref zp) 2 >>= _) _ _ _
  refine wpAny_bind (wpAny_field gz rfl (x := .bool false) rfl ?_)
  show wpAny _ _ (field (.ref zp) 3 >>= _) _ _ _
  refine wpAny_bind (wpAny_field gz rfl (x := .ref ti) rfl ?_)
  refine wpAny_bind (wpAny_seqItems gi rfl ?_)
  show wpAny _ _ (Builtin.SmallTypes.ownedTupleIsFree (.ref zp) >>= _) _ _ _
  refine wpAny_bind ?_; (unfold Builtin.SmallTypes.ownedTupleIsFree); refine wpAny_bind (wpAny_field gz rfl (x := .none) rfl (wpAny_pure ?_))
  simp only [if_true]
  refine wpAny_bind (wpAny_rule (wpAny_bind (wpAny_field gz rfl (x := .ref tu) rfl ?_)))
  refine wpAny_bind (wpAny_setField_rec gz (by simp) fun ha gza sa => ?_)
  replace gza : IsZip ha zp ti tu .ellipsis := gza
  refine wpAny_bind ?_
  simp only [List.forIn_cons, List.forIn_nil, List.zipIdx_cons, List.zipIdx_nil]
  refine wpAny_bind (wpAny_bind (wpAny_onRaise ?_))
  show wpAny _ _ (Builtin.SmallTypes.nextOf (.ref j1) >>= _) _ _ _
  refine wpAny_bind (tupNext_item (w1.extBut sa.extBut Ap.i1z) (l1.extBut sa.extBut Ap.l1z) ep fun hb w1b sb => wpAny_pure ?_)
  have gub : IsPair hb tu c d := sb.extBut _ _ Ap.TOi1 (sa.extBut _ _ Ap.TOz gu)
  refine wpAny_bind (wpAny_seqItems gub rfl (wpAny_bind (wpAny_updateSeq_pair gub fun hc guc sc => ?_)))
  replace guc : IsPair hc tu p d := guc
  refine wpAny_bind (wpAny_letGo (wpAny_pure (wpAny_bind (wpAny_bind (wpAny_onRaise ?_)))))
  show wpAny _ _ (Builtin.SmallTypes.nextOf (.ref j2) >>= _) _ _ _
  refine wpAny_bind (tupNext_item (((w2.extBut sa.extBut Ap.i2z).extBut sb.extBut Ap.i12.symm).extBut sc.extBut Ap.TOi2.symm) (((l2.extBut sa.extBut Ap.l2z).extBut sb.extBut Ap.l2i1).extBut sc.extBut Ap.l2TO) eq fun hd w2d sd => wpAny_pure ?_)
  have gud : IsPair hd tu p d := sd.extBut _ _ Ap.TOi2 guc
  refine wpAny_bind (wpAny_seqItems gud rfl (wpAny_bind (wpAny_updateSeq_pair gud fun he gue se => ?_)))
  replace gue : IsPair he tu p q := gue
  refine wpAny_bind (wpAny_letGo (wpAny_pure (wpAny_pure (wpAny_bind (wpAny_seqItems gue rfl (wpAny_bind (wpAny_newTuple ?_)))))))
  have size5 : he.objs.size = s.heap.objs.size := by rw [se.1, sd.1, sc.1, sb.1, sa.1]
  have gze : IsZip he zp ti tu .ellipsis := se.extBut _ _ Ap.TOz.symm (sd.extBut _ _ Ap.i2z.symm (sc.extBut _ _ Ap.TOz.symm (sb.extBut _ _ Ap.i1z.symm gza)))
  have kept5 : ∀ b o, b ≠ zp → b ≠ tu → b ≠ j1 → b ≠ j2 → s.heap.get? b = some o → he.get? b = some o := fun b o b1 b2 b3 b4 e => se.extBut _ _ b2 (sd.extBut _ _ b4 (sc.extBut _ _ b2 (sb.extBut _ _ b3 (sa.extBut _ _ b1 e))))
  have w1e : he.IsTupleIter j1 t1 (n1 + 1) := ((w1b.extBut sc.extBut Ap.TOi1.symm).extBut sd.extBut Ap.i12).extBut se.extBut Ap.TOi1.symm
  have w2e : he.IsTupleIter j2 t2 (n2 + 1) := w2d.extBut se.extBut Ap.TOi2.symm
  have lz : zp < he.objs.size := Heap.lt_size gze
  show wpAny _ _ (Builtin.SmallTypes.ownedTupleHandOut (.ref zp) (.ref he.objs.size) >>= _) _ _ _
  refine wpAny_bind ?_; (unfold Builtin.SmallTypes.ownedTupleHandOut)
  have gzf : IsZip (he.push { cls := .type "tuple", data := .seq #[p, q] }) zp ti tu .ellipsis := Heap.get?_push_of_some _ gze
  refine wpAny_bind (wpAny_setField_rec gzf (by simp) fun hg gzg sg => ?_)
  replace gzg : IsZip hg zp ti tu (rawInt he.objs.size) := gzg
  refine wpAny_setField_rec gzg (by simp) fun hh gzh sh => ?_
  replace gzh : IsZip hh zp ti tu (rawInt he.objs.size) := gzh
  have upw : ∀ b o, b ≠ zp → he.get? b = some o → hh.get? b = some o := fun b o b1 e => sh.extBut _ _ b1 (sg.extBut _ _ b1 (Heap.get?_push_of_some _ e))
  have gnew : IsPair hh he.objs.size p q := sh.extBut _ _ (Nat.ne_of_gt lz) (sg.extBut _ _ (Nat.ne_of_gt lz) (Heap.get?_push_size _ rfl))
  rw [size5] at gzh gnew
  refine wpAny_pure ⟨_, rfl, ?_⟩
  show Q (.ref he.objs.size) _
  rw [size5]
  exact k hh gzh (upw _ _ Ap.TOz gue) (w1e.at fun o e => upw _ o Ap.i1z e) (w2e.at fun o e => upw _ o Ap.i2z e) gnew fun b o b1 b2 b3 b4 e => upw b o b1 (kept5 b o b1 b2 b3 b4 e)
theorem zipT_end {zp ti tu j1 j2 t1 t2 : Addr} {n1 n2 : Nat} {us vs : Array Value} {c d : Value} {Q : Fin → Shared → Prop} (hh : A.handled = none) (Ap : ZipApart zp ti tu j1 j2 t1 t2)
    (gz : IsZip s.heap zp ti tu .none) (gi : IsPair s.heap ti (.ref j1) (.ref j2)) (gu : IsPair s.heap tu c d)
    (w1 : s.heap.IsTupleIter j1 t1 n1) (l1 : s.heap.IsTuple t1 us) (ep : us[n1]? = none)
    (k : ∀ h' e, (∀ b o, b ≠ zp → b ≠ tu → b ≠ j1 → b ≠ j2 → s.heap.get? b = some o → h'.get? b = some o) → (∃ o, h'.get? e = some o ∧ o.cls = .type "StopIteration") → E (.ref e) { s with heap := h' }) :
    wpAny (model prog w) A (Builtin.«zip.__next__» ⟨[.ref zp], []⟩) Q E s := by
  show wpAny _ _ (field (.ref zp) 2 >>= _) _ _ _
  refine wpAny_bind (wpAny_field gz rfl (x := .bool false) rfl ?_)
  show wpAny _ _ (field (.ref zp) 3 >>= _) _ _ _
  refine wpAny_bind (wpAny_field gz rfl (x := .ref ti) rfl ?_)
  refine wpAny_bind (wpAny_seqItems gi rfl ?_)
  show wpAny _ _ (Builtin.SmallTypes.ownedTupleIsFree (.ref zp) >>= _) _ _ _
  refine wpAny_bind ?_; (unfold Builtin.SmallTypes.ownedTupleIsFree); refine wpAny_bind (wpAny_field gz rfl (x := .none) rfl (wpAny_pure ?_))
  simp only [if_true]
  refine wpAny_bind (wpAny_rule (wpAny_bind (wpAny_field gz rfl (x := .ref tu) rfl ?_)))
  refine wpAny_bind (wpAny_setField_rec gz (by simp) fun ha gza sa => ?_)
  replace gza : IsZip ha zp ti tu .ellipsis := gza
  refine wpAny_bind ?_
  simp only [List.forIn_cons, List.forIn_nil, List.zipIdx_cons, List.zipIdx_nil]
  refine wpAny_bind (wpAny_bind (wpAny_onRaise ?_))
  show wpAny _ _ (Builtin.SmallTypes.nextOf (.ref j1) >>= _) _ _ _
  refine wpAny_bind (tupNext_end hh (w1.extBut sa.extBut Ap.i1z) (l1.extBut sa.extBut Ap.l1z) ep fun hb e sb ge => ?_)
  obtain ⟨oe, hoe, hce⟩ := ge
  have gzb : IsZip hb zp ti tu .ellipsis := sb _ _ Ap.i1z.symm gza
  have nez : e ≠ zp := fun x => by subst x; rw [gzb] at hoe; cases hoe; simp at hce
  refine wpAny_setField_rec gzb (by simp) fun hc _ sc => k hc e (fun b o b1 _ b3 _ x => sc.extBut _ _ b1 (sb _ _ b3 (sa.extBut _ _ b1 x))) ⟨oe, sc.extBut _ _ nez hoe, hce⟩
theorem pyNext_zipT_item {zp ti tu j1 j2 t1 t2 : Addr} {n1 n2 : Nat} {us vs : Array Value} {p q c d : Value} {Q : Option Value → Shared → Prop} (Ap : ZipApart zp ti tu j1 j2 t1 t2)
    (gz : IsZip s.heap zp ti tu .none) (gi : IsPair s.heap ti (.ref j1) (.ref j2)) (gu : IsPair s.heap tu c d)
    (w1 : s.heap.IsTupleIter j1 t1 n1) (w2 : s.heap.IsTupleIter j2 t2 n2) (l1 : s.heap.IsTuple t1 us) (l2 : s.heap.IsTuple t2 vs) (ep : us[n1]? = some p) (eq : vs[n2]? = some q)
    (k : ∀ h', IsZip h' zp ti tu (rawInt s.heap.objs.size) → IsPair h' tu p q → h'.IsTupleIter j1 t1 (n1 + 1) → h'.IsTupleIter j2 t2 (n2 + 1) → IsPair h' s.heap.objs.size p q →
      (∀ b o, b ≠ zp → b ≠ tu → b ≠ j1 → b ≠ j2 → s.heap.get? b = some o → h'.get? b = some o) → Q (some (.ref s.heap.objs.size)) { s with heap := h' }) :
    wpAny (model prog w) A (pyNext (.ref zp)) Q E s := by
  have tz : s.TypeIs (.ref zp) "zip" := ⟨_, gz, rfl⟩
  unfold pyNext
  exact wpAny_bind (wpAny_attempt (wpAny_callSpecial?_slot (name := Str.ofString "__next__") tz F.slot_zip_next (wpAny_call_entry F.slot_zip_next tz F.entry_zip_next (zipT_item Ap gz gi gu w1 w2 l1 l2 ep eq fun h' a1 a2 a3 a4 a5 a6 => wpAny_pure (k h' a1 a2 a3 a4 a5 a6)) (F.args_zip_next_1 _))))
theorem pyNext_zipT_end {zp ti tu j1 j2 t1 t2 : Addr} {n1 n2 : Nat} {us : Array Value} {c d : Value} {Q : Option Value → Shared → Prop} (hh : A.handled = none) (Ap : ZipApart zp ti tu j1 j2 t1 t2)
    (gz : IsZip s.heap zp ti tu .none) (gi : IsPair s.heap ti (.ref j1) (.ref j2)) (gu : IsPair s.heap tu c d) (w1 : s.heap.IsTupleIter j1 t1 n1) (l1 : s.heap.IsTuple t1 us) (ep : us[n1]? = none)
    (k : ∀ h', (∀ b o, b ≠ zp → b ≠ tu → b ≠ j1 → b ≠ j2 → s.heap.get? b = some o → h'.get? b = some o) → Q none { s with heap := h' }) : wpAny (model prog w) A (pyNext (.ref zp)) Q E s := by
  have tz : s.TypeIs (.ref zp) "zip" := ⟨_, gz, rfl⟩
  unfold pyNext
  refine wpAny_bind (wpAny_attempt (wpAny_callSpecial?_slot (name := Str.ofString "__next__") tz F.slot_zip_next (wpAny_call_entry F.slot_zip_next tz F.entry_zip_next (zipT_end hh (n2 := n2) (vs := us) Ap gz gi gu w1 l1 ep fun h' e hk ge => ?_) (F.args_zip_next_1 _))))
  obtain ⟨o, ho, hc⟩ := ge
  exact wpAny_bind (wpAny_isInstance (T := "StopIteration") (b := true) ⟨o, ho, hc⟩ isSubtype_stop (wpAny_pure (k _ hk)))
abbrev zT1 (h : Heap) (t1 : Addr) : Heap := h.push { cls := .type "tuple_iterator", data := .fields #[.ref t1, .int 0 0] }
abbrev zT2 (h : Heap) (t1 t2 : Addr) : Heap := (zT1 h t1).push { cls := .type "tuple_iterator", data := .fields #[.ref t2, .int 0 0] }
abbrev zT3 (h : Heap) (t1 t2 : Addr) : Heap := (zT2 h t1 t2).push { cls := .type "tuple", data := .seq #[.ref h.objs.size, .ref (zT1 h t1).objs.size] }
abbrev zT4 (h : Heap) (t1 t2 : Addr) : Heap := (zT3 h t1 t2).push { cls := .type "tuple", data := .seq #[.none, .none] }
abbrev zT5 (h : Heap) (t1 t2 : Addr) : Heap := (zT4 h t1 t2).push { cls := .type "zip", data := .fields #[.none, .bool false, .bool false, .ref (zT2 h t1 t2).objs.size, .ref (zT3 h t1 t2).objs.size] }
theorem zipT_new (t1 t2 : Addr) (us vs : Array Value) :
    Meets (Builtin.«zip.__new__» ⟨[.type "zip", .ref t1, .ref t2], []⟩) (fun _ R s => s.heap.IsTuple t1 us ∧ s.heap.IsTuple t2 vs ∧
      R (.ok (.ret (.ref (zT4 s.heap t1 t2).objs.size))) { s with heap := zT5 s.heap t1 t2 }) :=
  .of_wp fun prog w A R s h => by
    obtain ⟨hp, g, d, tk, os⟩ := s; obtain ⟨l1, l2, h⟩ := h
    have hsub := sub_zip
    have L1 : Heap.IsTuple (Shared.heap ⟨hp, g, d, tk, os⟩) t1 us := l1
    have L2 : Heap.IsTuple (Shared.heap ⟨hp.push { cls := .type "tuple_iterator", data := .fields #[.ref t1, .int 0 0] }, g, d, tk, os⟩) t2 vs := let ⟨o, e, r⟩ := l2; ⟨o, Heap.get?_push_of_some _ e, r⟩
    wp_walk using wpAny_pyIter_tuple L1, wpAny_pyIter_tuple L2
    exact ⟨_, rfl, h⟩
theorem call_zipT {t1 t2 : Addr} {us vs : Array Value} {Q : Value → Shared → Prop} (l1 : s.heap.IsTuple t1 us) (l2 : s.heap.IsTuple t2 vs)
    (h : ∀ h', IsZip h' (s.heap.objs.size + 4) (s.heap.objs.size + 2) (s.heap.objs.size + 3) .none → IsPair h' (s.heap.objs.size + 2) (.ref s.heap.objs.size) (.ref (s.heap.objs.size + 1)) →
      IsPair h' (s.heap.objs.size + 3) .none .none → h'.IsTupleIter s.heap.objs.size t1 0 → h'.IsTupleIter (s.heap.objs.size + 1) t2 0 →
      (∀ c o, s.heap.get? c = some o → h'.get? c = some o) → Q (.ref (s.heap.objs.size + 4)) { s with heap := h' }) :
    wpAny (model prog w) A (call (.type "zip") [.ref t1, .ref t2]) Q E s := by
  refine callType_new F.called_zip (by decide) (F.typeCall_zip_2 _ _) (F.newCall_zip_2 _ _) (fun obj => F.args_object_init_3 obj _ _) F.entry_zip_new (zipT_new t1 t2 us vs) ⟨l1, l2, ?_⟩
  have q1 : (zT1 s.heap t1).objs.size = s.heap.objs.size + 1 := Heap.size_push ..
  have q2 : (zT2 s.heap t1 t2).objs.size = s.heap.objs.size + 2 := by rw [Heap.size_push, q1]
  have q3 : (zT3 s.heap t1 t2).objs.size = s.heap.objs.size + 3 := by rw [Heap.size_push, q2]
  have q4 : (zT4 s.heap t1 t2).objs.size = s.heap.objs.size + 4 := by rw [Heap.size_push, q3]
  have r5 : (zT5 s.heap t1 t2).get? (zT4 s.heap t1 t2).objs.size = some _ := Heap.get?_push_size _ rfl
  have r4 : (zT5 s.heap t1 t2).get? (zT3 s.heap t1 t2).objs.size = some _ := Heap.get?_push_of_some _ (Heap.get?_push_size _ rfl)
  have r3 : (zT5 s.heap t1 t2).get? (zT2 s.heap t1 t2).objs.size = some _ := Heap.get?_push_of_some _ (Heap.get?_push_of_some _ (Heap.get?_push_size _ rfl))
  have r2 : (zT5 s.heap t1 t2).get? (zT1 s.heap t1).objs.size = some _ := Heap.get?_push_of_some _ (Heap.get?_push_of_some _ (Heap.get?_push_of_some _ (Heap.get?_push_size _ rfl)))
  have r1 : (zT5 s.heap t1 t2).get? s.heap.objs.size = some _ := Heap.get?_push_of_some _ (Heap.get?_push_of_some _ (Heap.get?_push_of_some _ (Heap.get?_push_of_some _ (Heap.get?_push_size _ rfl))))
  show _ ∧ _
  rw [q2, q3, q4] at r5
  rw [q1, q2] at r3
  rw [q3] at r4
  rw [q1] at r2
  rw [q4]
  exact ⟨⟨_, r5, rfl⟩, h _ r5 r3 r4 ⟨_, r1, rfl, rfl⟩ ⟨_, r2, rfl, rfl⟩ fun b o x => Heap.get?_push_of_some _ (Heap.get?_push_of_some _ (Heap.get?_push_of_some _ (Heap.get?_push_of_some _ (Heap.get?_push_of_some _ x))))⟩
end
def ItzT (K : PySem.W.Frag) (a b : Addr) (xs ys : List V) : It :=
  ⟨fun i H => SqT K H a xs ∧ SqT K H b ys ∧ i < xs.length ∧ i < ys.length,
   fun i H x H' => ∃ p u v, H p = none ∧ x = .ref p ∧ H' = upd H p (.tup [u, v]) ∧ xs[i]? = some u ∧ ys[i]? = some v,
   fun i H => SqT K H a xs ∧ xs.length ≤ i⟩
theorem turn_zipT {P : Program} {w : World} {K : PySem.W.Frag} {elts : List Expr} {k1 : Nat} {pos : Pos} (a b z : Addr) (xs ys : List V) (TI TO i1 i2 : Addr) (Ap : ZipApart z TI TO i1 i2 a b) :
    Turn P w K (.Tuple elts k1 pos) (ItzT K a b xs ys) [z, TI, TO, i1, i2] z (fun i h => IsZip h z TI TO .none ∧ IsPair h TI (.ref i1) (.ref i2) ∧ (∃ u v, IsPair h TO u v) ∧ h.IsTupleIter i1 a i ∧ h.IsTupleIter i2 b i) where
  mem := by simp
  obj := fun i h st c hc => by
    obtain ⟨hz, hTI, ⟨u, v, hTO⟩, h1, h2⟩ := st
    simp only [List.mem_cons, List.mem_nil_iff, or_false] at hc
    rcases hc with rfl | rfl | rfl | rfl | rfl
    · exact ⟨_, hz, fun v z => by have z' : Data.fields _ = Data.cell v := z; cases z'⟩
    · exact ⟨_, hTI, fun v z => by have z' : Data.seq _ _ = Data.cell v := z; cases z'⟩
    · exact ⟨_, hTO, fun v z => by have z' : Data.seq _ _ = Data.cell v := z; cases z'⟩
    · obtain ⟨o, e, c, d⟩ := h1; exact ⟨o, e, fun v z => by rw [d] at z; cases z⟩
    · obtain ⟨o, e, c, d⟩ := h2; exact ⟨o, e, fun v z => by rw [d] at z; cases z⟩
  keep := fun i h h' st k => by
    obtain ⟨hz, hTI, ⟨u, v, hTO⟩, h1, h2⟩ := st
    exact ⟨k z (by simp) _ hz, k TI (by simp) _ hTI, ⟨u, v, k TO (by simp) _ hTO⟩, h1.at fun o e => k i1 (by simp) o e, h2.at fun o e => k i2 (by simp) o e⟩
  item := by
    intro X hP hw hK hc i pins s σ H E I hf st hg
    subst hP hw hK
    obtain ⟨hz, hTI, ⟨u0, v0, hTO⟩, h1, h2⟩ := st
    obtain ⟨qa, qb, lx, ly⟩ := hg
    obtain ⟨its, rv, p, _⟩ := I.tuple qa
    obtain ⟨its2, rv2, p2, _⟩ := I.tuple qb
    have ex : xs[i]? = some xs[i] := List.getElem?_eq_getElem lx
    have ey : ys[i]? = some ys[i] := List.getElem?_eq_getElem ly
    obtain ⟨u, hu, ru⟩ := rv.get ex
    obtain ⟨v, hv, rv'⟩ := rv2.get ey
    refine pyNext_zipT_item Ap hz hTI hTO h1 h2 p p2 (p := u) (q := v) (by simpa using hu) (by simpa using hv) fun h' a1 a2 a3 a4 a5 hk => ?_
    refine ⟨.ref s.heap.objs.size, rfl, wpAny_letOwnedTupleGo_zip (s := { s with heap := h' }) a1 fun h'' hz' hs' => ?_⟩
    have lt : ∀ {c o}, s.heap.get? c = some o → c ≠ s.heap.objs.size := fun e => Nat.ne_of_lt (Heap.lt_size e)
    have e5 : IsPair h'' s.heap.objs.size u v := (hs'.2 _ (Ne.symm (lt hz))).trans a5
    have hch : ∀ c ∈ [z, TO, i1, i2], FpOk X pins H c := fun c hc => hf c (by
      simp only [List.mem_cons, List.mem_nil_iff, or_false] at hc ⊢
      rcases hc with rfl | rfl | rfl | rfl <;> simp)
    have I2 : Inv X pins σ (upd H s.heap.objs.size (.tup [xs[i], ys[i]])) { s with heap := h'', toks := s.toks } := by
      refine I.turnedNew (ch := [z, TO, i1, i2]) (fun c o hc e => ?_) hch (Nat.le_refl _) ⟨by show 2 ≤ sizeLine; decide, [u, v], .cons ru (.cons rv' .nil), ⟨_, e5, rfl, _, rfl⟩⟩
      simp only [List.mem_cons, List.mem_nil_iff, or_false, not_or] at hc
      exact (hs'.2 c hc.1).trans (hk c o hc.1 hc.2.1 hc.2.2.1 hc.2.2.2 e)
    have hfr : ∀ c ∈ [z, TI, TO, i1, i2], upd H s.heap.objs.size (.tup [xs[i], ys[i]]) c = none := fun c hc => by
      have hc2 := hf c hc
      have : c ≠ s.heap.objs.size := by
        simp only [List.mem_cons, List.mem_nil_iff, or_false] at hc
        rcases hc with rfl | rfl | rfl | rfl | rfl
        · exact lt hz
        · exact lt hTI
        · exact lt hTO
        · obtain ⟨o, e, _⟩ := h1; exact lt e
        · obtain ⟨o, e, _⟩ := h2; exact lt e
      rw [upd_ne this]; exact hc2.1
    exact ⟨.ref s.heap.objs.size, _, I2, rfl, ⟨s.heap.objs.size, _, _, I.fresh, rfl, rfl, ex, ey⟩, ⟨hz', hs'.extBut _ _ Ap.TIz (hk _ _ Ap.TIz Ap.TITO Ap.TIi1 Ap.TIi2 hTI), ⟨_, _, hs'.extBut _ _ Ap.TOz a2⟩, a3.extBut hs'.extBut Ap.i1z, a4.extBut hs'.extBut Ap.i2z⟩, hfr⟩
  done := by
    intro X hP hw hK hc i pins s σ H E I hf st hg
    subst hP hw hK
    obtain ⟨hz, hTI, ⟨u0, v0, hTO⟩, h1, h2⟩ := st
    obtain ⟨qa, hl⟩ := hg
    obtain ⟨its, rv, p, _⟩ := I.tuple qa
    have l1 := rv.length
    have hch : ∀ c ∈ [z, TO, i1, i2], FpOk X pins H c := fun c hc => hf c (by
      simp only [List.mem_cons, List.mem_nil_iff, or_false] at hc ⊢
      rcases hc with rfl | rfl | rfl | rfl <;> simp)
    refine pyNext_zipT_end (n2 := 0) (I.ok.hd hc) Ap hz hTI hTO h1 p (by simp; omega) fun h' hk => ⟨rfl, I.turnedL (t' := s.toks) (ch := [z, TO, i1, i2]) (fun c o hc e => ?_) hch⟩
    simp only [List.mem_cons, List.mem_nil_iff, or_false, not_or] at hc
    exact hk c o hc.1 hc.2.1 hc.2.2.1 hc.2.2.2 e
  self := fun _ _ _ _ _ st h => wpAny_pyIter_zip st.1 h
section
variable {X : Cx} {elts : List Expr} {k1 : Nat} {tpos : Pos}
def iZipT (K : PySem.W.Frag) (ta : TA) : TI := fun σ H R => ta σ H fun vs H1 => ∃ a b xs ys, vs = [.ref a, .ref b] ∧ SqT K H1 a xs ∧ SqT K H1 b ys ∧ R (ItzT K a b xs ys) H1
theorem pi_zipT {e1 e2 : Expr} {ta : TA} {p pos : Pos} (hg : Gl X "zip") (hm : X.mg "zip" = none) (ha : PA X [e1, e2] ta) (hs : starEach [e1, e2] X.env = [(false, eval e1 X.env), (false, eval e2 X.env)] := by rfl) (hs2 : starEach [e2] X.env = [(false, eval e2 X.env)] := by rfl) :
    PI X (.Tuple elts k1 tpos) (.Call (.Name "zip" p) [e1, e2] [] pos) (iZipT X.K ta) := by
  intro pins s σ H R I h
  refine Call_ (ld_blt I hg hm PyProof.Rows.boot_zip (PyProof.Rows.callWith_type1 (thn (ha pos pins s σ H _ I h) fun us s1 ⟨vs, H1, I1, r1, q1⟩ => ?_) (by rw [hs, hs2]) (by rw [hs2]; rfl)))
  obtain ⟨a, b, xs, ys, e, qa, qb, q⟩ := q1
  subst e
  obtain ⟨u1, u2, e3, r3, r4⟩ := r1.two
  subst e3
  cases (show u1 = Value.ref a from r3)
  cases (show u2 = Value.ref b from r4)
  obtain ⟨its, rv, pl, _⟩ := I1.tuple qa
  obtain ⟨its2, rv2, pl2, _⟩ := I1.tuple qb
  have la : @LT.lt Nat _ a s1.heap.objs.size := by obtain ⟨o, e, _⟩ := pl; exact Heap.lt_size e
  have lb : @LT.lt Nat _ b s1.heap.objs.size := by obtain ⟨o, e, _⟩ := pl2; exact Heap.lt_size e
  refine call_zipT pl pl2 fun h' hz hTI hTO h1 h2 hk => ?_
  refine wpAny_pyIter_zip hz ?_
  have I2 : Inv X pins σ H1 { s1 with heap := h' } := I1.kept (t' := s1.toks) hk
  refine ⟨s1.heap.objs.size + 4, [s1.heap.objs.size + 4, s1.heap.objs.size + 2, s1.heap.objs.size + 3, s1.heap.objs.size, s1.heap.objs.size + 1], _, _, H1, rfl, I2,
    turn_zipT a b (s1.heap.objs.size + 4) xs ys (s1.heap.objs.size + 2) (s1.heap.objs.size + 3) s1.heap.objs.size (s1.heap.objs.size + 1) ?_, ⟨hz, hTI, ⟨_, _, hTO⟩, h1, h2⟩, fun c hc => ?_, q⟩
  · constructor <;> (refine nne ?_; omega)
  · have hle : @LE.le Nat _ s1.heap.objs.size c := by
      simp only [List.mem_cons, List.mem_nil_iff, or_false] at hc
      rcases hc with rfl | rfl | rfl | rfl | rfl <;> omega
    exact I1.fpOk hle (I1.hok.fresh hle)
end
end L2
namespace L2
open PySem PySem.Spec PyProof.Rows
theorem cutFrom (xs : List V) (k : Nat) : cutV xs (some (k : Int)) none = xs.drop k := by
  unfold cutV
  rw [HT.sIx_none, HT.sIx_nat]
  by_cases h : k ≤ xs.length
  · rw [Nat.min_eq_left h]
    exact List.take_of_length_le (by rw [List.length_drop]; omega)
  · rw [Nat.min_eq_right (by omega), List.drop_of_length_le (Nat.le_refl _), List.drop_of_length_le (by omega), List.take_nil]
theorem cutTo (xs : List V) (k : Nat) : cutV xs none (some (k : Int)) = xs.take k := by
  unfold cutV
  rw [HT.sIx_none, HT.sIx_nat, List.drop_zero, Nat.sub_zero]
  by_cases h : k ≤ xs.length
  · rw [Nat.min_eq_left h]
  · rw [Nat.min_eq_right (by omega), List.take_of_length_le (Nat.le_refl _), List.take_of_length_le (by omega)]
theorem ixN_nat {n k : Nat} (h : k < n) : ixN n (k : Int) = some k := by
  unfold ixN
  rw [if_pos (by omega), if_pos (by omega)]; simp
theorem size_line : sizeLine = 16777216 := by decide
theorem line_of {n : Nat} (h : n ≤ 5000) : n ≤ sizeLine := by rw [size_line]; omega
end L2
namespace K9
open PySem L2 TM
mutual
def isT (f : Str → Str → Option (List Str)) : Tree Str → Str → Bool
  | .node n _ bs, k => match f k n with
    | none => false
    | some ss => decide (ss.length = bs.length) && isTs f bs ss
def isTs (f : Str → Str → Option (List Str)) : List (Tree Str) → List Str → Bool
  | [], ss => ss.isEmpty
  | b :: bs, ss => match ss with
    | [] => false
    | s :: r => isT f b s && isTs f bs r
end
mutual
def td : Tree Str → PyData
  | .node n m bs => .tuple [.str n, .int m, .tuple (tds bs)]
def tds : List (Tree Str) → List PyData
  | [] => []
  | t :: r => td t :: tds r
end
mutual
theorem TrV.rd {K : PySem.W.Frag} {H : Hp} : ∀ {v : V} {t : Tree Str}, TrV K H v t → RdV K H v (td t)
  | _, _, .mk h1 h2 h3 _ => by
    simp only [td]
    exact .tup h1 (.cons (.str _) (.cons (.int _) (.cons (.tup h2 (TrAll.rd h3)) .nil)))
theorem TrAll.rd {K : PySem.W.Frag} {H : Hp} : ∀ {vs : List V} {ts : List (Tree Str)}, TrAll K H vs ts → RdAll K H vs (tds ts)
  | _, _, .nil => by simp only [tds]; exact .nil
  | _, _, .cons h t => by simp only [tds]; exact .cons (TrV.rd h) (TrAll.rd t)
end
abbrev KdT := Addr × Str × Addr × List PNx
def RowAt (K : PySem.W.Frag) (H : Hp) (t : PNx) : Prop := SqT K H t.1 [.str t.2.1, .ref t.2.2.1] ∧ SqT K H t.2.2.1 (t.2.2.2.map V.str)
def RowsL (K : PySem.W.Frag) (H : Hp) (lr : Addr) (rs : List PNx) : Prop := SqL K H lr (rs.map fun t => V.ref t.1) ∧ ∀ t ∈ rs, RowAt K H t
def WoodAt (K : PySem.W.Frag) (H : Hp) (w : Addr) (ks : List KdT) : Prop := SqL K H w (ks.map fun k => V.ref k.1) ∧ ∀ k ∈ ks, SqT K H k.1 [.str k.2.1, .ref k.2.2.1] ∧ RowsL K H k.2.2.1 k.2.2.2
theorem RowAt.same {K : PySem.W.Frag} {H H' : Hp} {t : PNx} (g : Same H H') (h : RowAt K H t) : RowAt K H' t := ⟨g.seqT h.1, g.seqT h.2⟩
theorem RowsL.same {K : PySem.W.Frag} {H H' : Hp} {lr : Addr} {rs : List PNx} (g : Same H H') (h : RowsL K H lr rs) : RowsL K H' lr rs := ⟨g.seq h.1, fun t ht => (h.2 t ht).same g⟩
theorem WoodAt.same {K : PySem.W.Frag} {H H' : Hp} {w : Addr} {ks : List KdT} (g : Same H H') (h : WoodAt K H w ks) : WoodAt K H' w ks := ⟨g.seq h.1, fun k hk => ⟨g.seqT (h.2 k hk).1, (h.2 k hk).2.same g⟩⟩
structure RowsOk (rs : List PNx) : Prop where
  nd : (rs.map fun t => t.2.1).Nodup
  len : rs.length ≤ 10
  nm : ∀ r ∈ rs, PyData.strOk r.2.1 = true
  kn : ∀ r ∈ rs, ∀ x ∈ r.2.2.2, PyData.strOk x = true
  kl : ∀ r ∈ rs, r.2.2.2.length ≤ 4
structure WoodOk (ks : List KdT) : Prop where
  nd : (ks.map fun k => k.2.1).Nodup
  len : ks.length ≤ 10
  rows : ∀ k ∈ ks, RowsOk k.2.2.2
def rowsK (ks : List KdT) (kind : Str) : List PNx := ((ks.find? fun k => decide (k.2.1 = kind)).map fun k => k.2.2.2).getD []
def rowK (ks : List KdT) (kind name : Str) : Option (List Str) := ((rowsK ks kind).find? fun r => decide (r.2.1 = name)).map fun r => r.2.2.2
theorem val_map {α : Type} (f : α → Str) (g : α → V) (z : Str) : ∀ l : List α, valV (l.map fun x => ((Sum.inr (f x) : Key), g x)) (Sum.inr z) = (l.find? fun x => decide (f x = z)).map g
  | [] => rfl
  | x :: r => by
    rw [List.map_cons, List.find?_cons]
    by_cases e : f x = z
    · rw [valV_pos (p := ((Sum.inr (f x) : Key), g x)) (by rw [e]), decide_eq_true e]; rfl
    · rw [valV_neg (p := ((Sum.inr (f x) : Key), g x)) (fun q => e (by injection q)), decide_eq_false e]
      exact val_map f g z r
theorem rowsK_ok {ks : List KdT} (h : WoodOk ks) (kind : Str) : RowsOk (rowsK ks kind) := by
  unfold rowsK
  cases e : ks.find? fun k => decide (k.2.1 = kind) with
  | none => exact ⟨List.nodup_nil, Nat.zero_le _, fun r hr => (nomatch hr), fun r hr => (nomatch hr), fun r hr => (nomatch hr)⟩
  | some k => exact h.rows k (List.mem_of_find?_eq_some e)
def RowV (K : PySem.W.Frag) (H : Hp) (v : V) : Option (List Str) → Prop
  | none => v = .non
  | some ss => ∃ b, v = .ref b ∧ SqT K H b (ss.map V.str)
theorem tr_open {K : PySem.W.Frag} {H : Hp} {v : V} {t : Tree Str} (h : TrV K H v t) : ∃ a b vs name mark, v = .ref a ∧ t = .node name mark t.bs ∧ SqT K H a [.str name, .int mark, .ref b] ∧ SqT K H b vs ∧ TrAll K H vs t.bs ∧ vs.length ≤ 1000 := by
  cases h with
  | mk h1 h2 h3 h4 => exact ⟨_, _, _, _, _, rfl, rfl, h1, h2, h3, h4⟩
end K9
namespace K11
open PySem L2 TM TT K9
def kpl : Lab → Bool
  | .call _ _ => false
  | .put _ k _ => k
mutual
def kp : Tm → Bool
  | .node l _ bs => kpl l || kps bs
def kps : List Tm → Bool
  | [] => false
  | t :: r => kp t || kps r
end
abbrev Md := Str × List Tm
structure TmOk (t : Tm) : Prop where
  lv : lv t ≤ 8
  sz : sz t ≤ 100
  mok : MOk 20 t
structure ModesOk (ms : List Md) : Prop where
  len : ms.length ≤ 20
  kd : ∀ m ∈ ms, PyData.strOk m.1 = true
  rl : ∀ m ∈ ms, m.2.length ≤ 30
  tm : ∀ m ∈ ms, ∀ t ∈ m.2, TmOk t
end K11
namespace L2
open PySem PySem.Spec PyProof.Rows PySem.W
section
variable {prog : Program} {w : World} {A : Around} {E : Value → Shared → Prop} {s : Shared}
end
section
variable {X : Cx}
end
end L2
namespace L2
open PySem PySem.Spec PyProof.Rows
section
variable {prog : Program} {w : World} {A : Around} {E : Value → Shared → Prop} {s : Shared}
end
section
variable {X : Cx} {elts : List Expr} {k1 : Nat} {tpos : Pos}
end
end L2
namespace L2
open PySem PySem.Spec PyProof.Rows PySem.W
theorem strs_of_vals : ∀ {ss : List Str} {us : List Value}, Vals (ss.map V.str) us → StrsAre us ss
  | [], _, .nil => .nil
  | x :: r, _, .cons h t => by
    obtain ⟨k, rfl⟩ := (show ∃ t, _ = Value.str x t from h)
    exact .cons x k (strs_of_vals t)
section
variable {X : Cx}
theorem mt_join : MtR X "str.join" (fun x vs H Q => ∃ (sep : Str) (l : Addr) (ss : List Str), x = .str sep ∧ vs = [.ref l] ∧ SqL X.K H l (ss.map V.str) ∧ (ss.map (·.length)).sum + ss.length * sep.length ≤ 16777216 ∧ Q (.str (Txt.join sep ss)) H) := by
  intro pins s σ H x xs v us Q I rx rv h
  obtain ⟨sep, l, ss, rfl, rfl, hl, hz, q⟩ := h
  obtain ⟨t, rfl⟩ := (show ∃ t, v = Value.str sep t from rx)
  obtain ⟨u, rfl, ru⟩ := rv.one
  obtain rfl : u = Value.ref l := ru
  obtain ⟨its, r, p, _⟩ := I.list hl
  exact join_list p.isList (strs_of_vals r) hz fun t' k => ⟨.str _, H, I.tok _, ⟨_, rfl⟩, q⟩
end
section
variable {prog : Program} {w : World} {A : Around} {E : Value → Shared → Prop} {s : Shared}
end
section
variable {X : Cx} {tg : Expr}
end
end L2
namespace K60
open PySem L2 TM TT K9 K11
def top (i : Nat) : Stmt := PySem.Challenge.pw_turnery_k60_starts_that_stray.main.body.getD i (.Pass ⟨0, 0, 0, 0⟩)
abbrev sIsC : Stmt := top 4
abbrev sRowsOf : Stmt := top 11
abbrev sLeaf : Stmt := top 12
abbrev sLeafy : Stmt := top 14
abbrev sAbove : Stmt := top 15
abbrev sTreeOn : Stmt := top 16
abbrev sStrays : Stmt := top 19
abbrev sLvN : Stmt := top 20
abbrev sCell : Stmt := top 23
abbrev sMixed : Stmt := top 24
abbrev sNames : Stmt := top 25
abbrev sGreat : Stmt := top 26
abbrev sWood : Stmt := top 27
abbrev sTyped : Stmt := top 28
abbrev sRow : Stmt := top 29
abbrev sFits : Stmt := top 30
abbrev sWhole : Stmt := top 31
abbrev sOfK : Stmt := top 32
abbrev sSpoil : Stmt := top 33
abbrev sWrong : Stmt := top 34
abbrev sLaw : Stmt := top 35
structure Gm (mg : Str → Option Value) : Prop where
  len : mg "len" = none
  isi : mg "isinstance" = none
  int : mg "int" = none
  boo : mg "bool" = none
  str : mg "str" = none
  tup : mg "tuple" = none
  lst : mg "list" = none
  rng : mg "range" = none
  zip : mg "zip" = none
  dct : mg "dict" = none
  srt : mg "sorted" = none
  rev : mg "reversed" = none
  enu : mg "enumerate" = none
theorem tm_open {K : PySem.W.Frag} {H : Hp} {v : V} {t : Tm} (h : TmV K H v t) : (∃ a m b, v = .ref a ∧ t = leaf m b ∧ SqT K H a [.str CALL, .int m, .int b]) ∨
    ∃ a b vs n k ad, v = .ref a ∧ t = .node (.put n k ad) 0 t.bs ∧ SqT K H a [.str PUT, .str n, .bl k, .int ad, .ref b] ∧ SqT K H b vs ∧ TmAll K H vs t.bs ∧ vs.length ≤ 1000 := by
  cases h with
  | call h => exact .inl ⟨_, _, _, rfl, rfl, h⟩
  | put h1 h2 h3 h4 => exact .inr ⟨_, _, _, _, _, _, rfl, rfl, h1, h2, h3, h4⟩
def spIsC (K : PySem.W.Frag) : Sp := fun vs H Q _ => ∃ (v : V) (t : Tm), vs = [v] ∧ TmV K H v t ∧ Q (.bl (isC (lab t))) H
def spRowsOf (K : PySem.W.Frag) : Sp := fun vs H Q _ => ∃ (w : Addr) (kind : Str) (ks : List KdT), vs = [.ref w, .str kind] ∧ WoodAt K H w ks ∧ WoodOk ks ∧ ∀ (lr : Addr) (H' : Hp), Same H H' → RowsL K H' lr (rowsK ks kind) → Q (.ref lr) H'
def spCell (K : PySem.W.Frag) : Sp := fun vs H Q _ => ∃ (a : Addr) (ns : List Int) (k : Int), vs = [.ref a, .int k] ∧ 0 ≤ k ∧ SqL K H a (ns.map V.int) ∧ ∀ c : Int, Q (.int c) H
def spWhole : Sp := fun vs H Q _ => ∃ i : Int, vs = [.int i] ∧ Q (.bl true) H
abbrev MM : Int := 2147483647
def spMixed : Sp := fun vs H Q _ => ∃ (c k : Int), vs = [.int c, .int k] ∧ 0 ≤ k ∧ k < 1000000 ∧ ∀ x : Int, 0 ≤ x → x < MM → Q (.int x) H
def spGreat : Sp := fun vs H Q _ => ∃ c : Int, vs = [.int c] ∧ ∀ x : Int, Q (.int x) H
theorem at_rest {xs : List V} {k : Int} (hk : k = (xs.length : Int)) (h : 0 < xs.length) (n : Int) : ∃ v ∈ xs, atI xs (n % k) = some v := by
  subst hk
  have x0 : 0 ≤ n % (xs.length : Int) := Int.emod_nonneg _ (by omega)
  have x1 : n % (xs.length : Int) < (xs.length : Int) := Int.emod_lt_of_pos _ (by omega)
  obtain ⟨y, hy⟩ : ∃ y : Nat, n % (xs.length : Int) = (y : Int) := ⟨_, (Int.toNat_of_nonneg x0).symm⟩
  have hyl : y < xs.length := by omega
  exact ⟨xs[y], List.getElem_mem hyl, by rw [hy]; exact atI_nat (List.getElem?_eq_getElem hyl)⟩
section
variable {P : Program} {w : World} {K : PySem.W.Frag} {mg : Str → Option Value} {base : Heap} {f : Addr} {fd : FuncData}
theorem scIsC : FnScope ["term"] ["term"] (defScope sIsC) := ⟨rfl, rfl, rfl, by decide +kernel, rfl, by decide +kernel, by decide +kernel⟩
theorem ok_isC (F : Fun K "is_call" "is_call" sIsC f fd) : FnOk P w K mg base CX0 1 f fd ["term"] (spIsC K) := by
  refine F.ok scIsC (fun vs H Q E h => ?_) (fun cdv A outer s H vs Q E hr h => ?_)
  · obtain ⟨v, t, rfl, _⟩ := h
    rfl
  obtain ⟨v, t, rfl, ht, q⟩ := h
  refine ⟨_, (pss_one (ps_ret (pe_cmpR op_eq (pe_ix ix_tup (pv 0) pe_int (fun _ _ => rfl)) pe_str (nomark _)))), ?_⟩
  rcases tm_open ht with ⟨a, m, b, rfl, rfl, h1⟩ | ⟨a, b, bs, n, k, ad, rfl, et, h1, h2, h3, h4⟩
  · refine ⟨_, rfl, a, _, 0, _, rfl, rfl, h1, rfl, rfl, ?_⟩
    have e : decide (V.str CALL = V.str CALL) = true := decide_eq_true rfl
    show Q (.bl (decide (V.str CALL = V.str CALL))) H
    rw [e]; exact q
  · refine ⟨_, rfl, a, _, 0, _, rfl, rfl, h1, rfl, rfl, ?_⟩
    have e : decide (V.str PUT = V.str CALL) = false := by decide +kernel
    show Q (.bl (decide (V.str PUT = V.str CALL))) H
    rw [et] at q
    rw [e]; exact q
theorem scRowsOf : FnScope ["wood", "kind"] ["wood", "kind"] (defScope sRowsOf) := ⟨rfl, rfl, rfl, by decide +kernel, rfl, by decide +kernel, by decide +kernel⟩
theorem ok_rowsOf (F : Fun K "rows_of" "rows_of" sRowsOf f fd) (G : Gm mg) : FnOk P w K mg base CX0 1 f fd ["wood", "kind"] (spRowsOf K) := by
  refine F.ok scRowsOf (fun vs H Q E h => ?_) (fun cdv A outer s H vs Q E hr h => ?_)
  · obtain ⟨w, kind, ks, rfl, _⟩ := h
    rfl
  obtain ⟨wd, kind, ks, rfl, hW, hO, q⟩ := h
  refine ⟨_, (pss_one (ps_ret (pe_dget2 (hu_of hr) (pe_callTy (call_dictP rfl) rfl G.dct PyProof.Rows.boot_dict (pa_cons (pv 0) pa_nil)) (pv 1) (pe_lst pa_nil) ⟨rfl, rfl, rfl, rfl⟩))), ?_⟩
  have hlen := hO.len
  refine ⟨_, rfl, wd, ks.map (fun k => (k.1, k.2.1, V.ref k.2.2.1)), rfl, (by rw [List.map_map]; exact hW.1), fun t ht => ?_, (by rw [List.map_map]; exact hO.nd), (by rw [List.length_map]; omega), fun d hd => ⟨d, rfl, .inl ⟨_, .inl upd_same⟩, _, rfl, (by show 0 ≤ sizeLine; decide), fun p hp => ⟨_, DGet.k (k := Sum.inr kind) ((same_new hp _) _ _ upd_same), ?_⟩⟩⟩
  · obtain ⟨k, hk, rfl⟩ := List.mem_map.mp ht
    exact (hW.2 k hk).1
  · have g1 := same_new hd (.dK ((ks.map (fun k => (k.1, k.2.1, V.ref k.2.2.1))).map fun t => ((Sum.inr t.2.1 : Key), t.2.2)))
    have g2 := same_new hp (.lst [])
    have g12 := g1.trans g2
    have ev : valV ((ks.map (fun k => (k.1, k.2.1, V.ref k.2.2.1))).map fun t => ((Sum.inr t.2.1 : Key), t.2.2)) (Sum.inr kind) = (ks.find? fun k => decide (k.2.1 = kind)).map fun k => V.ref k.2.2.1 := by
      rw [List.map_map]
      exact val_map (fun k : KdT => k.2.1) (fun k => V.ref k.2.2.1) kind ks
    rw [ev]
    unfold rowsK at q
    cases e : ks.find? fun k => decide (k.2.1 = kind) with
    | none =>
      rw [e] at q
      exact q p _ g12 ⟨SqL.of upd_same, fun t ht => (nomatch ht)⟩
    | some k =>
      rw [e] at q
      exact q k.2.2.1 _ g12 ((hW.2 k (List.mem_of_find?_eq_some e)).2.same g12)
theorem scCell : FnScope ["_law_script", "_law_k"] ["_law_script", "_law_k"] (defScope sCell) := ⟨rfl, rfl, rfl, by decide +kernel, rfl, by decide +kernel, by decide +kernel⟩
theorem ok_cell (F : Fun K "_law_cell_at" "_law_cell_at" sCell f fd) (G : Gm mg) : FnOk P w K mg base CX0 1 f fd ["_law_script", "_law_k"] (spCell K) := by
  refine F.ok scCell (fun vs H Q E h => ?_) (fun cdv A outer s H vs Q E hr h => ?_)
  · obtain ⟨a, ns, k, rfl, _⟩ := h
    rfl
  obtain ⟨a, ns, k, rfl, hk0, hS, q⟩ := h
  obtain ⟨j, rfl⟩ : ∃ j : Nat, k = (j : Int) := ⟨k.toNat, by omega⟩
  refine ⟨_, (pss_cons (ps_if (pt_cmpR op_lt (pv 1) (pe_callB call_len_seq rfl G.len PySem.boot_len (pa_cons (pv 0) pa_nil)) (nomark _)) (pss_one (ps_ret (pe_ix ix_list (pv 0) (pv 1) (fun _ _ => rfl)))) pss_nil)
    (pss_one (ps_ret pe_int))), ?_⟩
  refine ⟨_, rfl, _, rfl, a, _, rfl, .inl hS, _, _, rfl, rfl, _, rfl, ite2 (fun c => ?_) (fun c => ?_)⟩
  · have c' : (j : Int) < (((ns.map V.int).length : Nat) : Int) := of_decide_eq_true c
    rw [List.length_map] at c'
    have hk : j < ns.length := by omega
    exact ⟨_, rfl, _, rfl, a, _, j, .int ns[j], rfl, rfl, hS, atI_nat (by rw [List.getElem?_map, List.getElem?_eq_getElem hk]; rfl), q _⟩
  · exact q 0
theorem scWhole : FnScope ["_law_found"] ["_law_found"] (defScope sWhole) := ⟨rfl, rfl, rfl, by decide +kernel, rfl, by decide +kernel, by decide +kernel⟩
theorem ok_whole (F : Fun K "_law_whole" "_law_whole" sWhole f fd) (G : Gm mg) : FnOk P w K mg base CX0 1 f fd ["_law_found"] spWhole := by
  refine F.ok scWhole (fun vs H Q E h => ?_) (fun cdv A outer s H vs Q E hr h => ?_)
  · obtain ⟨i, rfl, _⟩ := h
    rfl
  obtain ⟨i, rfl, q⟩ := h
  refine ⟨_, (pss_one (ps_ret (pe_and (pe_callB call_isinst rfl G.isi PyProof.Rows.boot_isinstance (pa_cons (pv 0) (pa_cons (pe_bltn (v := .ty "int") rfl G.int PyProof.Rows.boot_int rfl) pa_nil))) (pe_one (pe_not (pe_callB call_isinst rfl G.isi PyProof.Rows.boot_isinstance (pa_cons (pv 0) (pa_cons (pe_bltn (v := .ty "bool") rfl G.boo PyProof.Rows.boot_bool rfl) pa_nil)))))))), ?_⟩
  exact ⟨_, rfl, _, "int", _, true, rfl, .int _, rfl, _, rfl, iteT ⟨_, rfl, _, "bool", _, false, rfl, .int _, rfl, _, rfl, q⟩⟩
theorem scMixed : FnScope ["_law_cell", "_law_k", "_law_number"] ["_law_cell", "_law_k"] (defScope sMixed) := ⟨rfl, rfl, rfl, by decide +kernel, rfl, by decide +kernel, by decide +kernel⟩
theorem ok_mixed (F : Fun K "_law_mixed" "_law_mixed" sMixed f fd) : FnOk P w K mg base CX0 1 f fd ["_law_cell", "_law_k"] spMixed := by
  refine F.ok scMixed (fun vs H Q E h => ?_) (fun cdv A outer s H vs Q E hr h => ?_)
  · obtain ⟨c, k, rfl, _⟩ := h
    rfl
  obtain ⟨c, k, rfl, k0, k1, q⟩ := h
  refine ⟨_, (pss_cons (ps_set (i := 2) scMixed.nd rfl (Or.inl rfl) (pe_op op_add (pe_op op_mod (pv 0) pe_int) (pe_op op_mul pe_int (pe_op op_add (pv 1) pe_int))))
    (pss_cons (ps_set (i := 2) scMixed.nd rfl (Or.inl rfl) (pe_op op_mod (pe_op op_add (pe_op op_mul (pv 2) (pv 2)) (pe_op op_mul pe_int (pv 1))) pe_int))
    (pss_one (ps_ret (pe_op op_mod (pe_op op_add (pe_op op_add (pe_op op_mul (pv 2) (pv 2)) (pe_op op_mul pe_int (pv 1))) pe_int) pe_int))))), ?_⟩
  refine ⟨_, rfl, _, _, rfl, rfl, (by show (0 : Int) < 2147483647; decide), _, rfl, _, _, rfl, rfl, _, _, rfl, rfl, .inl ⟨by decide, by decide⟩, _, _, rfl, rfl, ?_⟩
  dsimp only
  have a0 : 0 ≤ c % 2147483647 := Int.emod_nonneg _ (by decide)
  have a1 : c % 2147483647 < 2147483647 := Int.emod_lt_of_pos _ (by decide)
  generalize hx : c % 2147483647 + 48271 * (k + 1) = x
  refine ⟨_, rfl, _, rfl, _, _, rfl, rfl, .inl ⟨by omega, by omega⟩, _, rfl, _, _, rfl, rfl, .inl ⟨by decide, by decide⟩, _, _, rfl, rfl, _, _, rfl, rfl, (by show (0 : Int) < 2147483647; decide), ?_⟩
  dsimp only
  generalize hy : (x * x + 69621 * k) % 2147483647 = y
  have b0 : 0 ≤ y := by rw [← hy]; exact Int.emod_nonneg _ (by decide)
  have b1 : y < 2147483647 := by rw [← hy]; exact Int.emod_lt_of_pos _ (by decide)
  refine ⟨_, rfl, _, rfl, _, _, rfl, rfl, .inl ⟨by omega, by omega⟩, _, rfl, _, _, rfl, rfl, .inl ⟨by decide, by decide⟩, _, _, rfl, rfl, _, _, rfl, rfl, _, _, rfl, rfl, (by show (0 : Int) < 2147483647; decide), ?_⟩
  exact q _ (Int.emod_nonneg _ (by decide)) (Int.emod_lt_of_pos _ (by decide))
theorem scGreat : FnScope ["_law_cell"] ["_law_cell"] (defScope sGreat) := ⟨rfl, rfl, rfl, by decide +kernel, rfl, by decide +kernel, by decide +kernel⟩
theorem ok_great (F : Fun K "_law_great" "_law_great" sGreat f fd) : FnOk P w K mg base CX0 1 f fd ["_law_cell"] spGreat := by
  refine F.ok scGreat (fun vs H Q E h => ?_) (fun cdv A outer s H vs Q E hr h => ?_)
  · obtain ⟨c, rfl, _⟩ := h
    rfl
  obtain ⟨c, rfl, q⟩ := h
  refine ⟨_, (pss_one (ps_ret (pe_op op_sub (pe_op op_mod (pv 0) (pe_op op_add (pe_op op_mul pe_int (pe_op op_pow pe_int pe_int)) pe_int)) (pe_op op_pow pe_int pe_int)))), ?_⟩
  exact ⟨_, rfl, _, _, rfl, rfl, ⟨by decide, by decide, by decide⟩, _, _, rfl, rfl, .inl ⟨by decide, by decide⟩, _, _, rfl, rfl, _, _, rfl, rfl, (by show (0 : Int) < 2 * 10 ^ 59 + 1; decide), _, _, rfl, rfl, ⟨by decide, by decide, by decide⟩, _, _, rfl, rfl, q _⟩
end
end K60
namespace K60
open PySem L2 TM TT K9 K11
theorem join_one (cs : List Nat) : Txt.join (S []) (cs.map fun c => S [c]) = S cs := by
  unfold Txt.join
  cases cs with
  | nil => rfl
  | cons x r =>
    have h : ∀ (r : List Nat) (a : List Nat), (r.map fun c => S [c]).foldl (fun acc p => acc ++ (S []).cps ++ p.cps) (S a).cps = (S (a ++ r)).cps := by
      intro r
      induction r with
      | nil => intro a; simp
      | cons y r ih =>
        intro a
        rw [List.map_cons, List.foldl_cons]
        have e : (S a).cps ++ (S []).cps ++ (S [y]).cps = (S (a ++ [y])).cps := by simp [S]
        rw [e, ih, List.append_assoc]; rfl
    have := h r [x]
    show (⟨(r.map fun c => S [c]).foldl (fun acc p => acc ++ (S []).cps ++ p.cps) (S [x]).cps⟩ : Str) = _
    rw [this]; rfl
abbrev LETS : Str := Str.ofString "abcdefghijklmnopqrstuvwxyz"
def letL : List Nat := [97, 98, 99, 100, 101, 102, 103, 104, 105, 106, 107, 108, 109, 110, 111, 112, 113, 114, 115, 116, 117, 118, 119, 120, 121, 122]
theorem let_eq : LETS = S letL := by decide +kernel
theorem let_cps : LETS.cps.toList = letL := by rw [let_eq, S_list]
theorem none_eq : Str.ofString "" = S [] := by decide +kernel
def Nm (z : Str) : Prop := PyData.strOk z = true
theorem Nm.of {u : List Nat} (h : ∀ c ∈ u, c < 128) : Nm (S u) := by
  unfold Nm PyData.strOk
  rw [Array.all_eq_true_iff_forall_mem]
  intro c hc
  have : c ∈ u := by simpa [S] using hc
  have := h c this
  simp; omega
theorem letL_inj {i j : Nat} (hi : i < 26) (hj : j < 26) (e : letL.getD i 0 = letL.getD j 0) : i = j := by
  have hn : letL.Nodup := by decide
  have h1 : letL.getD i 0 = letL[i]'hi := by rw [List.getD_eq_getElem?_getD, List.getElem?_eq_getElem (show i < letL.length from hi)]; rfl
  have h2 : letL.getD j 0 = letL[j]'hj := by rw [List.getD_eq_getElem?_getD, List.getElem?_eq_getElem (show j < letL.length from hj)]; rfl
  rw [h1, h2] at e
  exact (List.getElem_inj hn).mp e
theorem letL_mem {i : Nat} (hi : i < 26) : letL.getD i 0 ∈ letL ∧ letL[i]? = some (letL.getD i 0) := by
  have hl : i < letL.length := hi
  have e : letL.getD i 0 = letL[i] := by rw [List.getD_eq_getElem?_getD, List.getElem?_eq_getElem hl]; rfl
  rw [e]
  exact ⟨List.getElem_mem hl, List.getElem?_eq_getElem hl⟩
theorem letL_small : ∀ c ∈ letL, c < 128 := by decide
def code (j : Nat) : Nat := letL.getD j 0
abbrev rJoin (K : PySem.W.Frag) : V → List V → Hp → VK → Prop := fun x vs H Q => ∃ (sep : Str) (l : Addr) (ss : List Str), x = .str sep ∧ vs = [.ref l] ∧ SqL K H l (ss.map V.str) ∧ (ss.map (·.length)).sum + ss.length * sep.length ≤ 16777216 ∧ Q (.str (Txt.join sep ss)) H
abbrev NV (bs : List Nat) : List V := bs.map fun (b : Nat) => V.int (b : Int)
theorem pe_bmK {X : Cx} {K : PySem.W.Frag} {o e : Expr} {es : List Expr} {to : TE} {t : TA} {name : Str} {apos cpos : Pos} {T id : String} {r : V → List V → Hp → VK → Prop} (hK : X.K = K) (pa : PlainAttrs T) (slot : Slot T name id) (hty : typeOf (.builtin id) = pure (.type "method_descriptor")) (hm : MtR X id r) (ho : PE X o to) (ha : PA X (e :: es) t)
    (hbase : attributeBase o name X.env (eval o X.env) = eval o X.env := by rfl)
    (hfew : ((backTo cpos (starEach (e :: es) X.env)).all (fun x => !x.1) && (backToKw cpos (keywordEach [] X.env)).all (fun x => x.1.isSome)
      && decide ((e :: es).length + ([] : List Keyword).length + (if ([] : List Keyword).isEmpty then 0 else 1) < 30)) = true := by rfl)
    (hline : (apos.endLine == cpos.line) = true := by rfl) (hs : starEach (e :: es) X.env = (false, eval e X.env) :: starEach es X.env := by rfl) (hplain : (backTo cpos (starEach es X.env)).any (·.1) = false := by rfl) :
    PE X (.Call (.Attribute o name apos) (e :: es) [] cpos) (tBM K T r to t) := by
  subst hK
  exact pe_bm pa slot hty hm ho ha hbase hfew hline hs hplain
theorem pi_listK {X : Cx} {K : PySem.W.Frag} {tg l : Expr} {tl : TE} (hK : X.K = K) (hl : PE X l tl) : PI X tg l (iList K tl) := by
  subst hK
  exact pi_list hl
theorem nodup_map {α : Type} (g : Nat → α) (n : Nat) (h : ∀ i j, i < n → j < n → g i = g j → i = j) : ((List.range n).map g).Nodup := by
  rw [List.Nodup, List.pairwise_map]
  refine (List.nodup_range (n := n)).imp_of_mem fun {a b} ha hb hne e => hne (h a b (List.mem_range.mp ha) (List.mem_range.mp hb) e)
theorem code_ok {bs : List Nat} (h : ∀ b ∈ bs, b < 26) : PyData.strOk (S (bs.map code)) = true := Nm.of fun c hc => by
  obtain ⟨b, hb, rfl⟩ := List.mem_map.mp hc
  exact letL_small _ (letL_mem (h b hb)).1
theorem join_codes {cs : List Nat} (h : cs.length ≤ 8) : ((cs.map fun c => S [c]).map (·.length)).sum + (cs.map fun c => S [c]).length * (S []).length ≤ 16777216 := by
  have e : ((cs.map fun c => S [c]).map (·.length)) = cs.map fun _ => 1 := by
    rw [List.map_map]
    exact List.map_congr_left fun c _ => by simp [S_len]
  have e2 : (cs.map fun _ => 1).sum = cs.length := by
    clear e h
    induction cs with
    | nil => rfl
    | cons x r ih => rw [List.map_cons, List.sum_cons, ih, List.length_cons]; omega
  rw [e, e2, S_len]
  simp only [List.length_nil, Nat.mul_zero]
  omega
theorem at_let {y : Nat} (hy : y < 26) : atI LETS.cps.toList ((y : Nat) : Int) = some (code y) := by rw [let_cps]; exact atI_nat (letL_mem hy).2
def spNames (K : PySem.W.Frag) : Sp := fun vs H Q _ => ∃ c : Int, vs = [.int c] ∧ ∀ (l : Addr) (H' : Hp) (ns : List Str), Same H H' → H' l = some (.lst (ns.map V.str)) → ns.length = 8 → ns.Nodup → (∀ n ∈ ns, PyData.strOk n = true) → Q (.ref l) H'
section
variable {P : Program} {w : World} {K : PySem.W.Frag} {mg : Str → Option Value} {base : Heap} {f : Addr} {fd : FuncData}
theorem scNames : FnScope ["_law_cell", "_law_letters", "_law_base", "_law_width", "_law_spot", "_law_names_here", "_law_k", "_law_moved"] ["_law_cell"] (defScope sNames) := ⟨rfl, rfl, rfl, by decide +kernel, rfl, by decide +kernel, by decide +kernel⟩
theorem ok_names (F : Fun K "_law_names" "_law_names" sNames f fd) (G : Gm mg) (RM : Fn P w K mg base 1 "_law_mixed" ["_law_cell", "_law_k"] spMixed) : FnOk P w K mg base CX0 2 f fd ["_law_cell"] (spNames K) := by
  refine F.ok scNames (fun vs H Q E h => ?_) (fun cdv A outer s H vs Q E hr h => ?_)
  · obtain ⟨c, rfl, _⟩ := h
    rfl
  obtain ⟨c, rfl, q⟩ := h
  refine ⟨_, (pss_cons (ps_set (i := 1) scNames.nd rfl (Or.inr rfl) pe_str)
    (pss_cons (ps_set (i := 2) scNames.nd rfl (Or.inr rfl) (pe_lcompG (CompG.many (xs := ["_law_j"]) (caps := ["_law_cell"]) (cap := [0]) (cs := [_]) rfl rfl (by decide +kernel) (by decide +kernel) (by decide +kernel) (by decide +kernel) (by decide +kernel) (by decide +kernel) rfl rfl rfl) rfl (pi_range1 rfl G.rng (pa_cons (pe_int) pa_nil)) (pg_c1 (CompG.many (xs := ["_law_j"]) (caps := ["_law_cell"]) (cap := [0]) (cs := [_]) rfl rfl (by decide +kernel) (by decide +kernel) (by decide +kernel) (by decide +kernel) (by decide +kernel) (by decide +kernel) rfl rfl rfl)) (fun _ _ _ _ => pf_nil) (fun _ _ _ _ => pe_op (r := rI (fun _ j => 0 < j) fun i j => .int (i % j)) op_mod (pe_fn RM hr (pa_cons (pv 1) (pa_cons (pv 0) pa_nil))) pe_int)))
    (pss_cons (ps_if (pt_cmpR op_eq (pe_op op_mod (pe_op op_fdiv (pv 0) pe_int) pe_int) pe_int (nomark _)) (pss_one (ps_ret (pe_lcompG (CompG.many (xs := ["_law_k"]) (caps := ["_law_base", "_law_letters"]) (cap := [2, 1]) (cs := [_, _]) rfl rfl (by decide +kernel) (by decide +kernel) (by decide +kernel) (by decide +kernel) (by decide +kernel) (by decide +kernel) rfl rfl rfl) rfl (pi_range1 rfl G.rng (pa_cons (pe_int) pa_nil)) (pg_c1 (CompG.many (xs := ["_law_k"]) (caps := ["_law_base", "_law_letters"]) (cap := [2, 1]) (cs := [_, _]) rfl rfl (by decide +kernel) (by decide +kernel) (by decide +kernel) (by decide +kernel) (by decide +kernel) (by decide +kernel) rfl rfl rfl)) (fun _ _ _ _ => pf_nil)
      (fun _ _ _ _ => pe_bmK (K := K) (r := rJoin K) rfl PySem.F.plainAttrs_str PySem.F.slot_str_join PySem.F.type_str_join mt_join pe_str (pa_cons (pe_lcompG (CompG.many (xs := ["_law_j"]) (caps := ["_law_letters"]) (cap := [2]) (cs := [_]) rfl rfl (by decide +kernel) (by decide +kernel) (by decide +kernel) (by decide +kernel) (by decide +kernel) (by decide +kernel) rfl rfl rfl) rfl (pi_listK (K := K) rfl (pe_slice (r := rSlL K) sl_list (pv 1) po_none (po_some (pe_op (r := rI0 fun i j => .int (i + j)) op_add (pv 0) pe_int)))) (pg_c1 (CompG.many (xs := ["_law_j"]) (caps := ["_law_letters"]) (cap := [2]) (cs := [_]) rfl rfl (by decide +kernel) (by decide +kernel) (by decide +kernel) (by decide +kernel) (by decide +kernel) (by decide +kernel) rfl rfl rfl)) (fun _ _ _ _ => pf_nil) (fun _ _ _ _ => pe_ix ix_str (pv 1) (pv 0) (fun _ _ => rfl))) pa_nil))))) pss_nil)
    (pss_cons (ps_set (i := 3) scNames.nd rfl (Or.inl rfl) (pe_op op_add pe_int (pe_op op_mod (pv 0) pe_int)))
    (pss_cons (ps_set (i := 4) scNames.nd rfl (Or.inl rfl) (pe_op op_mod (pe_op op_fdiv (pv 0) pe_int) (pv 3)))
    (pss_cons (ps_set (i := 5) scNames.nd rfl (Or.inl rfl) (pe_lst pa_nil))
    (pss_cons (ps_for PassesOwn.never rfl (pi_range1 rfl G.rng (pa_cons (pe_int) pa_nil)) (pg_name (i := 6) scNames.nd rfl (Or.inl rfl)) (pss_cons (ps_set (i := 7) scNames.nd rfl (Or.inl rfl) (pe_slice sl_list (pv 2) po_none (po_some (pv 3))))
    (pss_cons (ps_asg (pe_op op_mod (pe_op op_add (pe_ix ix_list (pv 7) (pv 4) (fun _ _ => rfl)) (pv 6)) pe_int) (pg_sub (pv 7) (pv 4) set_list))
    (pss_one (ps_expr (pe_bm PySem.F.plainAttrs_list PySem.F.slot_list_append PySem.F.type_list_append mt_append (pv 5) (pa_cons (pe_bm (r := rJoin K) PySem.F.plainAttrs_str PySem.F.slot_str_join PySem.F.type_str_join mt_join pe_str (pa_cons (pe_lcompG (CompG.many (xs := ["_law_j"]) (caps := ["_law_letters"]) (cap := [1]) (cs := [_]) rfl rfl (by decide +kernel) (by decide +kernel) (by decide +kernel) (by decide +kernel) (by decide +kernel) (by decide +kernel) rfl rfl rfl) rfl (pi_list (pv 7)) (pg_c1 (CompG.many (xs := ["_law_j"]) (caps := ["_law_letters"]) (cap := [1]) (cs := [_]) rfl rfl (by decide +kernel) (by decide +kernel) (by decide +kernel) (by decide +kernel) (by decide +kernel) (by decide +kernel) rfl rfl rfl)) (fun _ _ _ _ => pf_nil) (fun _ _ _ _ => pe_ix ix_str (pv 1) (pv 0) (fun _ _ => rfl))) pa_nil)) pa_nil)))))))
    (pss_one (ps_ret (pv 5)))))))))), ?_⟩
  have eL : Str.ofString "abcdefghijklmnopqrstuvwxyz" = LETS := rfl
  refine ⟨8, rfl, by decide, by decide, fun lb hlb => ?_⟩
  refine c1_range (lo := 0) (n := 8) (cs := [some (.int c)]) (tt := fun _ H Q => Q true H) (fun j ys H' => ∃ bs : List Nat, ys = NV bs ∧ bs.length = j ∧ (∀ b ∈ bs, b < 26) ∧ H' lb = some (.lst ys) ∧ Same H H')
    ⟨[], rfl, rfl, fun b hb => (nomatch hb), upd_same, same_new hlb _⟩ ?_ ?_
  · rintro j ys H' hj ⟨bs, rfl, hbl, hb26, hy, g⟩
    refine iteT ⟨_, rfl, _, rfl, c, 0 + (j : Int), rfl, by omega, by omega, fun x x0 x1 => ⟨_, _, rfl, rfl, (by show (0 : Int) < 26; decide), ?_⟩⟩
    have y0 : 0 ≤ x % 26 := Int.emod_nonneg _ (by decide)
    have y1 : x % 26 < 26 := Int.emod_lt_of_pos _ (by decide)
    refine comp_next hj hy (by rw [List.length_map]; omega) ⟨bs ++ [(x % 26).toNat], ?_, by rw [List.length_append, List.length_singleton, hbl], fun b hb => ?_, upd_same, fun z u e => ?_⟩
    · unfold NV
      rw [List.map_append]
      show _ ++ [V.int (x % 26)] = _ ++ [V.int (((x % 26).toNat : Nat) : Int)]
      rw [Int.toNat_of_nonneg y0]
    · rcases List.mem_append.mp hb with hb | hb
      · exact hb26 b hb
      · have : b = (x % 26).toNat := by simpa using hb
        rw [this]; omega
    · rw [upd_ne (ne_of_none e hlb)]; exact g _ _ e
  rintro ys H1 ⟨bs, rfl, hbl, hb26, hlb1, g1⟩
  have word : ∀ (us : List Nat) (l2 lu : Addr) (Hx : Hp) (R : Hp → Prop), Hx l2 = none → Hx lu = some (.lst (NV us)) → us.length ≤ 8 → (∀ b ∈ us, b < 26) →
      (∀ H', Same Hx H' → H' l2 = some (.lst (((us.map code).map fun c => S [c]).map V.str)) → R H') → CGoal (Itl K lu) 1 [some (.str LETS)] (gName 0) (fun _ H Q => Q true H) (tOp rIxS (tVar 1) (tVar 0)) Hx l2 R := by
    intro us l2 lu Hx R h2 hu hul hu26 hR
    have hne : lu ≠ l2 := fun z => by rw [z, h2] at hu; cases hu
    refine c1_list (K := K) (xs := NV us) (cs := [some (.str LETS)]) (fun m ys H' => ys = (((us.take m).map code).map fun c => S [c]).map V.str ∧ H' l2 = some (.lst ys) ∧ Same Hx H')
      ⟨rfl, upd_same, same_new h2 _⟩ ?_ ?_ ?_
    · rintro m ys H' _ ⟨_, _, g⟩
      exact SqL.of (g _ _ hu)
    · rintro m x ys H' hm hx ⟨rfl, hy, g⟩
      have hml : m < us.length := by simpa using hm
      obtain rfl : x = .int ((us[m] : Nat) : Int) := by
        rw [List.getElem?_map, List.getElem?_eq_getElem hml] at hx
        exact (Option.some.inj hx).symm
      have hlt := hu26 _ (List.getElem_mem hml)
      refine iteT ⟨_, rfl, _, rfl, LETS, _, _, rfl, rfl, (by rw [let_eq, S_len]; exact line_of (by decide)), at_let hlt, ?_⟩
      refine comp_next hm hy (by simp only [List.length_map, List.length_take]; omega) ⟨?_, upd_same, fun z u e => ?_⟩
      · rw [List.take_add_one, List.getElem?_eq_getElem hml]
        simp only [Option.toList_some, List.map_append, List.map_cons, List.map_nil]
        rfl
      · rw [upd_ne (ne_of_none e h2)]; exact g _ _ e
    · rintro ys H' ⟨rfl, hy, g⟩
      rw [List.length_map, List.take_length] at hy
      exact hR H' g hy
  refine ⟨_, rfl, _, _, rfl, rfl, ⟨by decide, by decide⟩, _, _, rfl, rfl, (by show (0 : Int) < 4; decide), rfl, _, rfl, ite2 (fun _ => ?_) (fun _ => ?_)⟩
  · refine ⟨8, rfl, by decide, by decide, fun ln hln => ?_⟩
    refine c1_range (lo := 0) (n := 8) (cs := [some (.ref lb), some (.str LETS)]) (tt := fun _ H Q => Q true H) (fun j ys H' => ys = ((List.range j).map fun k => S ((bs.take (k + 1)).map code)).map V.str ∧ H' ln = some (.lst ys) ∧ Same H1 H')
      ⟨rfl, upd_same, same_new hln _⟩ ?_ ?_
    · rintro j ys H' hj ⟨rfl, hy, g⟩
      refine iteT ⟨rfl, _, rfl, _, rfl, _, _, rfl, rfl, _, rfl, lb, _, rfl, SqL.of (g _ _ hlb1), fun ps hps => ⟨ps, rfl, ⟨_, SqL.of upd_same⟩, fun l2 hl2 => ?_⟩⟩
      have ecut : cutV (NV bs) none (some (0 + (j : Int) + 1)) = NV (bs.take (j + 1)) := by
        rw [show (0 : Int) + (j : Int) + 1 = ((j + 1 : Nat) : Int) by omega, cutTo]; unfold NV; rw [List.map_take]
      have kp := same_new hps (.lst (cutV (NV bs) none (some (0 + (j : Int) + 1))))
      refine word (bs.take (j + 1)) l2 ps _ _ hl2 (by rw [← ecut]; exact upd_same) (by rw [List.length_take]; omega) (fun b hb => hb26 b (List.mem_of_mem_take hb)) fun H3 g3 h3 => ?_
      have k3 := kp.trans g3
      refine ⟨S [], l2, _, by rw [← none_eq], rfl, SqL.of h3, join_codes (by rw [List.length_map, List.length_take]; omega), ?_⟩
      rw [join_one]
      refine comp_next hj (k3 _ _ hy) (by simp only [List.length_map, List.length_range]; omega) ⟨?_, upd_same, fun z u e => ?_⟩
      · rw [List.range_succ, List.map_append, List.map_append]; rfl
      · rw [upd_ne (ne_of_none e hln)]; exact k3 _ _ (g _ _ e)
    · rintro ys H' ⟨rfl, hy, g⟩
      refine q ln H' _ (g1.trans g) hy (by simp) (nodup_map _ 8 fun i j hi hj e => ?_) fun x hx => ?_
      · have := congrArg List.length (S_inj e)
        simp only [List.length_map, List.length_take] at this
        omega
      · obtain ⟨k, _, rfl⟩ := List.mem_map.mp hx
        exact code_ok fun b hb => hb26 b (List.mem_of_mem_take hb)
  have w0 : 0 ≤ c % 8 := Int.emod_nonneg _ (by decide)
  have w1 : c % 8 < 8 := Int.emod_lt_of_pos _ (by decide)
  refine ⟨_, rfl, _, _, rfl, rfl, (by show (0 : Int) < 8; decide), _, _, rfl, rfl, ?_⟩
  dsimp only
  obtain ⟨wi, hwi⟩ : ∃ wi : Nat, 1 + c % 8 = (wi : Int) := ⟨(1 + c % 8).toNat, by omega⟩
  rw [hwi]
  have hwi0 : 0 < wi := by omega
  have hwi8 : wi ≤ 8 := by omega
  refine ⟨_, rfl, _, _, rfl, rfl, ⟨by decide, by decide⟩, _, rfl, _, _, rfl, rfl, (by show (0 : Int) < (wi : Int); omega), ?_⟩
  dsimp only
  have s0 : 0 ≤ c / 8 % (wi : Int) := Int.emod_nonneg _ (by omega)
  have s1 : c / 8 % (wi : Int) < (wi : Int) := Int.emod_lt_of_pos _ (by omega)
  obtain ⟨sp, hsp⟩ : ∃ sp : Nat, c / 8 % (wi : Int) = (sp : Int) := ⟨(c / 8 % (wi : Int)).toNat, by omega⟩
  rw [hsp]
  have hspw : sp < wi := by omega
  obtain ⟨bw, hbw⟩ : ∃ bw, bw = bs.take wi := ⟨_, rfl⟩
  have hbwl : bw.length = wi := by rw [hbw, List.length_take]; omega
  have hbw26 : ∀ b ∈ bw, b < 26 := fun b hb => hb26 b (List.mem_of_mem_take (by rw [← hbw]; exact hb))
  have hspl : sp < bw.length := by omega
  refine ⟨(by show 0 ≤ sizeLine; decide), fun ln hln => ?_⟩
  refine ⟨8, rfl, by decide, by decide, ?_⟩
  refine for_range (lo := 0) (n := 8) (fun j σ H' => ∃ c6 c7 : Option V, σ = [some (.int c), some (.str LETS), some (.ref lb), some (.int (wi : Int)), some (.int (sp : Int)), some (.ref ln), c6, c7] ∧ Same H1 H' ∧ H' ln = some (.lst (((List.range j).map fun k => S ((bw.set sp ((bw[sp] + k) % 26)).map code)).map V.str)))
    ⟨none, none, rfl, same_new hln _, upd_same⟩ ?_ ?_
  · rintro j σ H' hj ⟨c6, c7, rfl, g, hy⟩
    refine ⟨_, rfl, _, rfl, _, rfl, lb, _, rfl, SqL.of (g _ _ hlb1), fun lm hlm => ?_⟩
    have ecut : cutV (NV bs) none (some (wi : Int)) = NV bw := by rw [cutTo, hbw]; unfold NV; rw [List.map_take]
    have km := same_new hlm (.lst (cutV (NV bs) none (some (wi : Int))))
    have hlm2 : upd H' lm (.lst (cutV (NV bs) none (some (wi : Int)))) lm = some (.lst (NV bw)) := by rw [← ecut]; exact upd_same
    have hlnm : ln ≠ lm := fun z => by rw [← z, hy] at hlm; cases hlm
    generalize upd H' lm (.lst (cutV (NV bs) none (some (wi : Int)))) = H2 at km hlm2
    have hat : atI (NV bw) (sp : Int) = some (.int ((bw[sp] : Nat) : Int)) := atI_nat (by rw [List.getElem?_map, List.getElem?_eq_getElem hspl]; rfl)
    refine ⟨_, rfl, _, rfl, lm, _, _, _, rfl, rfl, SqL.of hlm2, hat, _, rfl, _, _, rfl, rfl, _, _, rfl, rfl, (by show (0 : Int) < 26; decide), _, rfl, _, rfl, lm, NV bw, (sp : Int), sp, rfl, rfl, hlm2, ixN_nat (by rw [List.length_map]; exact hspl), ?_⟩
    have hset : (NV bw).set sp (.int ((((bw[sp] : Nat) : Int) + (0 + (j : Int))) % 26)) = NV (bw.set sp ((bw[sp] + j) % 26)) := by
      unfold NV
      rw [List.map_set]
      congr 2
      omega
    rw [hset]
    have hln3 : upd H2 lm (.lst (NV (bw.set sp ((bw[sp] + j) % 26)))) ln = some (.lst (((List.range j).map fun k => S ((bw.set sp ((bw[sp] + k) % 26)).map code)).map V.str)) := by rw [upd_ne hlnm]; exact km _ _ hy
    refine ⟨_, rfl, .inl ⟨rfl, _, SqL.of hln3⟩, rfl, _, rfl, lm, rfl, ⟨_, SqL.of upd_same⟩, fun l2 hl2 => ?_⟩
    have hml : ∀ b ∈ bw.set sp ((bw[sp] + j) % 26), b < 26 := fun b hb => by
      rcases List.mem_or_eq_of_mem_set hb with hb | hb
      · exact hbw26 b hb
      · rw [hb]; exact Nat.mod_lt _ (by decide)
    refine word _ l2 lm _ _ hl2 upd_same (by rw [List.length_set]; omega) hml fun H4 g4 h4 => ?_
    refine ⟨S [], l2, _, by rw [← none_eq], rfl, SqL.of h4, join_codes (by rw [List.length_map, List.length_set]; omega), ?_⟩
    rw [join_one]
    refine ⟨ln, _, _, rfl, rfl, g4 _ _ hln3, by simp only [List.length_map, List.length_range, size_line]; omega, _, _, rfl, fun z u e => ?_, ?_⟩
    · rw [upd_ne (ne_of_none e hln)]
      refine g4 _ _ ?_
      have hz : z ≠ lm := fun y => by rw [y] at e; rw [g _ _ e] at hlm; cases hlm
      rw [upd_ne hz]
      exact km _ _ (g _ _ e)
    · rw [upd_same, List.range_succ, List.map_append, List.map_append]; rfl
  · rintro σ H' ⟨c6, c7, rfl, g, hy⟩
    refine ⟨_, rfl, q ln H' _ (g1.trans g) hy (by simp) (nodup_map _ 8 fun i j hi hj e => ?_) fun x hx => ?_⟩
    · have e2 := congrArg (fun l => l[sp]?) (S_inj e)
      simp only [List.getElem?_map, List.getElem?_set_self hspl, Option.map_some] at e2
      have e3 := letL_inj (Nat.mod_lt _ (by decide)) (Nat.mod_lt _ (by decide)) (Option.some.inj e2)
      omega
    · obtain ⟨k, _, rfl⟩ := List.mem_map.mp hx
      refine code_ok fun b hb => ?_
      rcases List.mem_or_eq_of_mem_set hb with hb | hb
      · exact hbw26 b hb
      · rw [hb]; exact Nat.mod_lt _ (by decide)
end
end K60
namespace K60
open PySem L2 TM TT K9 K11
def tCutE (t : TE) : TE := fun σ H Q => ∃ R : VK, t σ H R ∧ ∀ v H', R v H' → Q v H'
theorem pe_cut {X : Cx} {e : Expr} {t : TE} (h : PE X e t) : PE X e (tCutE t) := by
  intro pins s σ H Q I hw
  obtain ⟨R, h1, h2⟩ := hw
  exact thn (h pins s σ H R I h1) fun u s1 ⟨x, H1, I1, r1, q1⟩ => ⟨x, H1, I1, r1, h2 x H1 q1⟩
def KdH (K : PySem.W.Frag) (H : Hp) (lw : Addr) (k : KdT) : Prop := SqT K H k.1 [.str k.2.1, .ref k.2.2.1] ∧ H k.2.2.1 = some (.lst (k.2.2.2.map fun t => V.ref t.1)) ∧ k.2.2.1 ≠ lw ∧ ∀ t ∈ k.2.2.2, RowAt K H t
theorem KdH.same {K : PySem.W.Frag} {H H' : Hp} {lw : Addr} {k : KdT} (g : Same H H') (h : KdH K H lw k) : KdH K H' lw k := ⟨g.seqT h.1, g _ _ h.2.1, h.2.2.1, fun t ht => (h.2.2.2 t ht).same g⟩
theorem KdH.put {K : PySem.W.Frag} {H : Hp} {lw : Addr} {k : KdT} {ys : List V} {o : HO} (hl : H lw = some (.lst ys)) (h : KdH K H lw k) : KdH K (upd H lw o) lw k :=
  ⟨h.1.put hl, by rw [upd_ne h.2.2.1]; exact h.2.1, h.2.2.1, fun t ht => ⟨(h.2.2.2 t ht).1.put hl, (h.2.2.2 t ht).2.put hl⟩⟩
abbrev rLenS (K : PySem.W.Frag) : List V → Hp → VK → Prop := fun xs H Q => ∃ p ys, xs = [.ref p] ∧ (SqL K H p ys ∨ SqT K H p ys) ∧ Q (.int ys.length) H
structure KF (kn : List Str) (rs : List PNx) : Prop where
  ok : RowsOk rs
  bare : ∃ r ∈ rs, r.2.2.2 = []
  cl : ∀ r ∈ rs, ∀ x ∈ r.2.2.2, x ∈ kn
  w3 : ∀ r ∈ rs, r.2.2.2.length ≤ 3
structure WF (ks : List KdT) : Prop where
  ok : WoodOk ks
  ne : 0 < ks.length
  l3 : ks.length ≤ 3
  nm : ∀ k ∈ ks, PyData.strOk k.2.1 = true
  kf : ∀ k ∈ ks, KF (ks.map fun k => k.2.1) k.2.2.2
def spWood (K : PySem.W.Frag) : Sp := fun vs H Q _ => ∃ (c : Int) (ln : Addr) (ns : List Str), vs = [.int c, .ref ln] ∧ SqL K H ln (ns.map V.str) ∧ ns.length = 8 ∧ ns.Nodup ∧ (∀ x ∈ ns, PyData.strOk x = true) ∧
  ∀ (lw : Addr) (H' : Hp) (ks : List KdT), Same H H' → WoodAt K H' lw ks → WF ks → Q (.ref lw) H'
abbrev woodN : List Str := ["_law_cell", "_law_names_here", "_law_kinds", "_law_wood_here", "_law_i", "_law_first", "_law_rows", "_law_r", "_law_number", "_law_wide", "_law_branches"]
section
variable {P : Program} {w : World} {K : PySem.W.Frag} {mg : Str → Option Value} {base : Heap} {f : Addr} {fd : FuncData}
theorem scWood : FnScope woodN ["_law_cell", "_law_names_here"] (defScope sWood) := ⟨rfl, rfl, rfl, by decide +kernel, rfl, by decide +kernel, by decide +kernel⟩
theorem ok_wood (F : Fun K "_law_wood" "_law_wood" sWood f fd) (G : Gm mg) (RM : Fn P w K mg base 1 "_law_mixed" ["_law_cell", "_law_k"] spMixed) : FnOk P w K mg base CX0 2 f fd ["_law_cell", "_law_names_here"] (spWood K) := by
  refine F.ok scWood (fun vs H Q E h => ?_) (fun cdv A outer s H vs Q E hr h => ?_)
  · obtain ⟨c, ln, ns, rfl, _⟩ := h
    rfl
  obtain ⟨c, ln, ns, rfl, hln, hn8, hnd, hnok, q⟩ := h
  have room : ∀ m : Nat, m ≤ 64 → (A.deeper (PyProof.Rows.envOfC "_law_wood" (defScope sWood) s.heap.objs.size f cdv)).units + m < cLine := fun m hm => by have := hr.units; omega
  refine ⟨_, (pss_cons (ps_set (i := 2) scWood.nd rfl (Or.inr rfl) (pe_slice sl_list (pv 1) po_none (po_some (pe_op op_add pe_int (pe_op op_mod (pv 0) pe_int)))))
    (pss_cons (ps_set (i := 3) scWood.nd rfl (Or.inl rfl) (pe_lst pa_nil))
    (pss_cons (ps_for PassesOwn.never rfl (pi_range1 rfl G.rng (pa_cons (pe_callB call_len_seq rfl G.len PySem.boot_len (pa_cons (pv 2) pa_nil)) pa_nil)) (pg_name (i := 4) scWood.nd rfl (Or.inl rfl)) (pss_cons (ps_set (i := 5) scWood.nd rfl (Or.inl rfl) (pe_fn RM hr (pa_cons (pv 0) (pa_cons (pv 4) pa_nil))))
    (pss_cons (ps_set (i := 6) scWood.nd rfl (Or.inl rfl) (pe_lst pa_nil))
    (pss_cons (ps_for PassesOwn.never rfl (pi_range1 rfl G.rng (pa_cons (pe_cut (pe_op op_sub (pe_op op_add pe_int (pe_op op_mod (pv 5) pe_int)) (pe_callTy call_int1 rfl G.int PyProof.Rows.boot_int (pa_cons (pe_and (pe_cmpR op_gt (pv 4) pe_int (nomark _)) (pe_one (pe_cmpR op_eq (pe_op op_mod (pe_op op_fdiv (pv 5) pe_int) pe_int) pe_int (nomark _)))) pa_nil)))) pa_nil)) (pg_name (i := 7) scWood.nd rfl (Or.inl rfl)) (pss_cons (ps_set (i := 8) scWood.nd rfl (Or.inr rfl) (pe_fn RM hr (pa_cons (pv 0) (pa_cons (pe_op op_add (pe_op op_add pe_int (pe_op op_mul pe_int (pv 4))) (pv 7)) pa_nil))))
    (pss_cons (ps_cut (ps_set (i := 9) scWood.nd rfl (Or.inl rfl) (pe_ix ix_list (pe_lst (pa_cons (pe_int) (pa_cons (pe_op op_add pe_int (pe_op op_mod (pv 8) pe_int)) (pa_cons (pe_op op_mod (pv 8) pe_int) pa_nil)))) (pv 7) (fun _ _ => rfl))))
    (pss_cons (ps_setG (i := 10) (CompG.many (xs := ["_law_j"]) (caps := ["_law_kinds", "_law_number"]) (cap := [2, 8]) (cs := [_, _]) rfl rfl (by decide +kernel) (by decide +kernel) (by decide +kernel) (by decide +kernel) (by decide +kernel) (by decide +kernel) rfl rfl rfl) rfl (pi_range1 rfl G.rng (pa_cons (pv 9) pa_nil)) (pg_c1 (CompG.many (xs := ["_law_j"]) (caps := ["_law_kinds", "_law_number"]) (cap := [2, 8]) (cs := [_, _]) rfl rfl (by decide +kernel) (by decide +kernel) (by decide +kernel) (by decide +kernel) (by decide +kernel) (by decide +kernel) rfl rfl rfl)) (fun _ _ _ _ => pf_nil) (fun _ _ _ _ => pe_ix (r := rIxL K) ix_list (pv 1) (pe_op (r := rI (fun _ j => 0 < j) fun i j => .int (i % j)) op_mod (pe_fn RM hr (pa_cons (pv 2) (pa_cons (pv 0) pa_nil))) (pe_callB (r := rLenS K) call_len_seq rfl G.len PySem.boot_len (pa_cons (pv 1) pa_nil))) (fun _ _ => rfl)) scWood.nd rfl rfl)
    (pss_one (ps_expr (pe_bm PySem.F.plainAttrs_list PySem.F.slot_list_append PySem.F.type_list_append mt_append (pv 6) (pa_cons ((pe_tup (pa_cons (pe_ix ix_list (pv 1) (pe_op op_mod (pe_op op_add (pe_op op_fdiv (pv 5) pe_int) (pv 7)) pe_int) (fun _ _ => rfl)) (pa_cons (pe_callTy call_tuple_of rfl G.tup PyProof.Rows.boot_tuple (pa_cons (pv 10) pa_nil)) pa_nil)))) pa_nil))))))))
    (pss_one (ps_expr (pe_bm PySem.F.plainAttrs_list PySem.F.slot_list_append PySem.F.type_list_append mt_append (pv 3) (pa_cons ((pe_tup (pa_cons (pe_ix ix_list (pv 2) (pv 4) (fun _ _ => rfl)) (pa_cons (pe_callB (call_sortedN (room 4 (by decide))) rfl G.srt PyProof.Rows.boot_sorted (pa_cons (pv 6) pa_nil)) pa_nil)))) pa_nil))))))))
    (pss_one (ps_ret (pv 3)))))), ?_⟩
  have m0 : 0 ≤ c % 3 := Int.emod_nonneg _ (by decide)
  have m1 : c % 3 < 3 := Int.emod_lt_of_pos _ (by decide)
  refine ⟨_, rfl, _, rfl, _, _, rfl, rfl, (by show (0 : Int) < 3; decide), _, _, rfl, rfl, _, rfl, ln, _, rfl, hln, fun lk hlk => ?_⟩
  obtain ⟨mm, hmm⟩ : ∃ mm : Nat, 1 + c % 3 = (mm : Int) := ⟨(1 + c % 3).toNat, by omega⟩
  dsimp only at hlk ⊢
  obtain ⟨kn, hkn⟩ : ∃ kn, kn = ns.take mm := ⟨_, rfl⟩
  have ecut : cutV (ns.map V.str) none (some (1 + c % 3)) = kn.map V.str := by rw [hmm, cutTo, hkn, List.map_take]
  have g1 := same_new hlk (.lst (cutV (ns.map V.str) none (some (1 + c % 3))))
  have hlk1 : upd H lk (.lst (cutV (ns.map V.str) none (some (1 + c % 3)))) lk = some (.lst (kn.map V.str)) := by rw [← ecut]; exact upd_same
  generalize upd H lk (.lst (cutV (ns.map V.str) none (some (1 + c % 3)))) = H1 at g1 hlk1
  have hkl : kn.length = mm := by rw [hkn, List.length_take]; omega
  have hknd : kn.Nodup := by rw [hkn]; exact hnd.sublist (List.take_sublist _ _)
  have hkok : ∀ x ∈ kn, PyData.strOk x = true := fun x hx => hnok x (List.mem_of_mem_take (by rw [← hkn]; exact hx))
  have hkm : (kn.map V.str).length = kn.length := List.length_map ..
  refine ⟨(by show 0 ≤ sizeLine; decide), fun lw hlw => ?_⟩
  have k2 := same_new hlw (.lst [])
  refine ⟨_, rfl, lk, _, rfl, .inl (SqL.of (k2 _ _ hlk1)), _, rfl, by rw [hkm]; omega, by rw [hkm]; omega, ?_⟩
  have en : (((kn.map V.str).length : Nat) : Int).toNat = kn.length := by rw [hkm]; omega
  rw [en]
  refine for_range (lo := 0) (n := kn.length) (fun i σ H' => ∃ (c4 c5 c6 c7 c8 c9 c10 : Option V) (ks : List KdT), σ = [some (.int c), some (.ref ln), some (.ref lk), some (.ref lw), c4, c5, c6, c7, c8, c9, c10] ∧ Same H1 H' ∧ H' lw = some (.lst (ks.map fun k => V.ref k.1)) ∧ (∀ k ∈ ks, KdH K H' lw k ∧ KF kn k.2.2.2) ∧ (ks.map fun k => k.2.1) = kn.take i)
    ⟨none, none, none, none, none, none, none, [], rfl, k2, upd_same, fun k hk => (nomatch hk), rfl⟩ ?_ ?_
  · rintro i σ H2 hi ⟨c4, c5, c6, c7, c8, c9, c10, ks, rfl, g2, hlw2, hks, hkk⟩
    have hksl : ks.length = i := by
      have := congrArg List.length hkk
      rw [List.length_map, List.length_take] at this
      omega
    refine ⟨_, rfl, _, rfl, c, _, rfl, by omega, by omega, fun fi f0 f1 => ?_⟩
    refine ⟨(by show 0 ≤ sizeLine; decide), fun lr hlr => ?_⟩
    have k3 := same_new hlr (.lst [])
    have hlrw : lw ≠ lr := fun z => by rw [← z, hlw2] at hlr; cases hlr
    refine ⟨fun v H' => H' = upd H2 lr (.lst []) ∧ ∃ n : Nat, v = .int (n : Int) ∧ 1 ≤ n ∧ n ≤ 3, ?_, ?_⟩
    · refine ⟨_, rfl, _, _, rfl, rfl, (by show (0 : Int) < 2; decide), _, _, rfl, rfl, ?_⟩
      have p0 : 0 ≤ fi % 2 := Int.emod_nonneg _ (by decide)
      have p1 : fi % 2 < 2 := Int.emod_lt_of_pos _ (by decide)
      refine ⟨_, rfl, _, _, rfl, rfl, _, rfl, ite2 (fun _ => ?_) (fun hb => ?_)⟩
      · refine ⟨_, rfl, _, _, rfl, rfl, ⟨by decide, by decide⟩, _, _, rfl, rfl, (by show (0 : Int) < 3; decide), rfl, .inr ⟨_, rfl, _, _, rfl, rfl, rfl, ?_⟩⟩
        refine ⟨(2 + fi % 2 - (if decide (V.int (fi / 2 % 3) = V.int 0) = true then 1 else 0)).toNat, ?_, ?_, ?_⟩
        · rw [Int.toNat_of_nonneg (by split <;> omega)]
        · split <;> omega
        · split <;> omega
      · refine .inr ⟨_, rfl, _, _, rfl, rfl, rfl, (2 + fi % 2).toNat, ?_, by omega, by omega⟩
        dsimp only
        rw [Int.toNat_of_nonneg (by omega)]
        simp
    rintro v H3 ⟨rfl, cnt, rfl, hc1, hc3⟩
    refine ⟨_, rfl, by omega, by omega, ?_⟩
    rw [Int.toNat_natCast]
    refine for_range (lo := 0) (n := cnt) (fun r σ H' => ∃ (c7 c8 c9 c10 : Option V) (rs : List PNx), σ = [some (.int c), some (.ref ln), some (.ref lk), some (.ref lw), some (.int (0 + (i : Int))), some (.int fi), some (.ref lr), c7, c8, c9, c10] ∧ Same H2 H' ∧ H' lr = some (.lst (rs.map fun t => V.ref t.1)) ∧ rs.length = r ∧ (∀ t ∈ rs, RowAt K H' t ∧ (∀ x ∈ t.2.2.2, x ∈ kn) ∧ t.2.2.2.length ≤ 3) ∧ (∀ (j : Nat) t, rs[j]? = some t → ns[((fi / 16 + (j : Int)) % 8).toNat]? = some t.2.1) ∧ ∀ t, rs[0]? = some t → t.2.2.2 = [])
      ⟨_, _, _, _, [], rfl, k3, upd_same, rfl, fun t ht => (nomatch ht), fun j t h => by simp at h, fun t h => by simp at h⟩ ?_ ?_
    · rintro r σ H4 hr3 ⟨c7, c8, c9, c10, rs, rfl, g4, hlr4, hrl, hrs, hrn, hr0⟩
      refine ⟨_, rfl, _, rfl, _, _, rfl, rfl, .inl ⟨by decide, by decide⟩, _, _, rfl, rfl, _, rfl, _, _, rfl, rfl, c, _, rfl, by omega, by omega, fun nu n0 n1 => ?_⟩
      refine ⟨fun σ' H' => Same H4 H' ∧ ∃ wi : Nat, wi ≤ 3 ∧ (r = 0 → wi = 0) ∧ σ' = [some (.int c), some (.ref ln), some (.ref lk), some (.ref lw), some (.int (0 + (i : Int))), some (.int fi), some (.ref lr), some (.int (0 + (r : Int))), some (.int nu), some (.int (wi : Int)), c10], ?_, ?_⟩
      · refine ⟨_, rfl, _, _, rfl, rfl, (by show (0 : Int) < 2; decide), _, _, rfl, rfl, _, rfl, _, _, rfl, rfl, (by show (0 : Int) < 3; decide), (by show 3 ≤ sizeLine; decide), fun pl hpl => ?_⟩
        have a0 : 0 ≤ nu % 2 := Int.emod_nonneg _ (by decide)
        have a1 : nu % 2 < 2 := Int.emod_lt_of_pos _ (by decide)
        have b0 : 0 ≤ nu % 3 := Int.emod_nonneg _ (by decide)
        have b1 : nu % 3 < 3 := Int.emod_lt_of_pos _ (by decide)
        have kl := same_new hpl (.lst [.int 0, .int (1 + nu % 2), .int (nu % 3)])
        rcases (show r = 0 ∨ r = 1 ∨ r = 2 by omega) with rfl | rfl | rfl
        · exact ⟨_, rfl, pl, _, _, _, rfl, rfl, SqL.of upd_same, rfl, kl, 0, by omega, fun _ => rfl, rfl⟩
        · exact ⟨_, rfl, pl, _, _, .int (1 + nu % 2), rfl, rfl, SqL.of upd_same, rfl, kl, (1 + nu % 2).toNat, by omega, fun z => by omega, by rw [Int.toNat_of_nonneg (by omega)]; rfl⟩
        · exact ⟨_, rfl, pl, _, _, .int (nu % 3), rfl, rfl, SqL.of upd_same, rfl, kl, (nu % 3).toNat, by omega, fun z => by omega, by rw [Int.toNat_of_nonneg (by omega)]; rfl⟩
      rintro σ H5 ⟨g5, wi, hw3, hw0, rfl⟩
      refine ⟨_, rfl, _, rfl, by omega, by omega, fun lb hlb => ?_⟩
      rw [Int.toNat_natCast]
      have hlk5 := g5 _ _ (g4 _ _ (g2 _ _ hlk1))
      refine c1_range (lo := 0) (n := wi) (cs := [some (.ref lk), some (.int nu)]) (tt := fun _ H Q => Q true H) (fun j ys H' => ∃ ss : List Str, ys = ss.map V.str ∧ ss.length = j ∧ (∀ x ∈ ss, x ∈ kn) ∧ H' lb = some (.lst ys) ∧ Same H5 H')
        ⟨[], rfl, rfl, fun x hx => (nomatch hx), upd_same, same_new hlb _⟩ ?_ ?_
      · rintro j ys H6 hj ⟨ss, rfl, hsl, hsk, hy, g6⟩
        refine iteT ⟨_, rfl, _, rfl, _, rfl, nu, _, rfl, by omega, by omega, fun z z0 z1 => ⟨_, rfl, lk, _, rfl, .inl (SqL.of (g6 _ _ hlk5)), _, _, rfl, rfl, (by rw [hkm]; omega), ?_⟩⟩
        obtain ⟨y, hyn, hat⟩ := at_rest (xs := kn.map V.str) (k := ((kn.map V.str).length : Int)) rfl (by rw [hkm]; omega) z
        obtain ⟨x, hx, rfl⟩ := List.mem_map.mp hyn
        refine ⟨lk, _, _, _, rfl, rfl, SqL.of (g6 _ _ hlk5), hat, ?_⟩
        refine comp_next hj hy (by rw [List.length_map]; omega) ⟨ss ++ [x], by simp, by simp [hsl], fun x' hx' => ?_, upd_same, fun z u e => ?_⟩
        · rcases List.mem_append.mp hx' with hx' | hx'
          · exact hsk x' hx'
          · have : x' = x := by simpa using hx'
            rw [this]; exact hx
        · rw [upd_ne (ne_of_none e hlb)]; exact g6 _ _ e
      rintro ys H6 ⟨ss, rfl, hsl, hsk, hy, g6⟩
      have g46 := g5.trans g6
      have g16 := (g1.trans (g2.trans g4)).trans g46
      have hi8 : 0 ≤ (fi / 16 + (0 + (r : Int))) % 8 := Int.emod_nonneg _ (by decide)
      have hi9 : (fi / 16 + (0 + (r : Int))) % 8 < 8 := Int.emod_lt_of_pos _ (by decide)
      have hnx : ((fi / 16 + (0 + (r : Int))) % 8).toNat < ns.length := by omega
      have hat : atI (ns.map V.str) ((fi / 16 + (0 + (r : Int))) % 8) = some (.str ns[((fi / 16 + (0 + (r : Int))) % 8).toNat]) := by
        have z := atI_nat (xs := ns.map V.str) (j := ((fi / 16 + (0 + (r : Int))) % 8).toNat) (v := .str ns[((fi / 16 + (0 + (r : Int))) % 8).toNat]) (by rw [List.getElem?_map, List.getElem?_eq_getElem hnx]; rfl)
        rw [Int.toNat_of_nonneg hi8] at z
        exact z
      refine ⟨_, rfl, .inl ⟨rfl, _, SqL.of (g46 _ _ hlr4)⟩, _, rfl, _, rfl, _, _, rfl, rfl, ⟨by decide, by decide⟩, _, rfl, _, _, rfl, rfl, _, _, rfl, rfl, (by show (0 : Int) < 8; decide), ln, _, _, _, rfl, rfl, g16.seq hln, hat, _, rfl, lb, _, rfl, .inl ⟨SqL.of hy, fun pb hpb => ⟨(by show 2 ≤ sizeLine; decide), fun pr hpr => ?_⟩⟩⟩
      generalize hnm : ns[((fi / 16 + (0 + (r : Int))) % 8).toNat] = nm
      have e1 := same_new hpb (.tup (ss.map V.str))
      have e2 := same_new hpr (.tup [.str nm, .ref pb])
      have e12 := e1.trans e2
      have hlr7 := e12 _ _ (g46 _ _ hlr4)
      refine ⟨lr, _, _, rfl, rfl, hlr7, by rw [List.length_map, size_line]; omega, ?_⟩
      refine ⟨_, _, _, _, rs ++ [(pr, nm, pb, ss)], rfl, fun z u e => ?_, by rw [upd_same]; simp, by rw [List.length_append, List.length_singleton, hrl], fun t ht => ?_, fun j t e => ?_, fun t e => ?_⟩
      · rw [upd_ne (ne_of_none e hlr)]; exact e12 _ _ (g46 _ _ (g4 _ _ e))
      · rcases List.mem_append.mp ht with ht | ht
        · obtain ⟨h1, h2⟩ := hrs t ht
          have h1' := h1.same (g46.trans e12)
          exact ⟨⟨h1'.1.put hlr7, h1'.2.put hlr7⟩, h2⟩
        · have : t = (pr, nm, pb, ss) := by simpa using ht
          rw [this]
          exact ⟨⟨SqT.put (SqT.of upd_same) hlr7, SqT.put (e2.seqT (SqT.of upd_same)) hlr7⟩, hsk, by show ss.length ≤ 3; omega⟩
      · by_cases hj : j < r
        · rw [List.getElem?_append_left (by omega)] at e
          exact hrn j t e
        · have hjr : j = r := by
            have := (List.getElem?_eq_some_iff.mp e).1
            rw [List.length_append, List.length_singleton] at this
            omega
          rw [List.getElem?_append_right (by omega), hrl, hjr, Nat.sub_self] at e
          obtain rfl := Option.some.inj e
          rw [hjr, ← hnm, show fi / 16 + (r : Int) = fi / 16 + (0 + (r : Int)) by omega]
          exact List.getElem?_eq_getElem hnx
      · by_cases hr0' : r = 0
        · have hrs0 : rs = [] := List.length_eq_zero_iff.mp (by omega)
          rw [hrs0] at e
          obtain rfl := Option.some.inj e
          have : ss.length = 0 := by rw [hsl]; exact hw0 hr0'
          exact List.length_eq_zero_iff.mp this
        · rw [List.getElem?_append_left (by omega)] at e
          exact hr0 t e
    rintro σ H4 ⟨c7, c8, c9, c10, rs, rfl, g4, hlr4, hrl, hrs, hrn, hr0⟩
    have hat : atI (kn.map V.str) (0 + (i : Int)) = some (.str kn[i]) := by
      rw [Int.zero_add]
      exact atI_nat (by rw [List.getElem?_map, List.getElem?_eq_getElem hi]; rfl)
    have hrnd : (rs.map fun t => t.2.1).Nodup := by
      rw [List.Nodup, List.pairwise_iff_getElem]
      intro a b ha hb hab
      rw [List.length_map] at ha hb
      rw [List.getElem_map, List.getElem_map]
      intro e
      have h1 := hrn a rs[a] (List.getElem?_eq_getElem ha)
      have h2 := hrn b rs[b] (List.getElem?_eq_getElem hb)
      rw [e, ← h2] at h1
      have hl1 : ((fi / 16 + (a : Int)) % 8).toNat < ns.length := by
        have := Int.emod_lt_of_pos (fi / 16 + (a : Int)) (show (0 : Int) < 8 by decide)
        have := Int.emod_nonneg (fi / 16 + (a : Int)) (show (8 : Int) ≠ 0 by decide)
        omega
      have := (List.getElem?_inj hl1 hnd).mp h1
      omega
    have hlr4' := SqL.of (K := K) hlr4
    have hrs4 : ∀ t ∈ rs, SqT K H4 t.1 [.str t.2.1, .ref t.2.2.1] ∧ SqT K H4 t.2.2.1 (t.2.2.2.map V.str) ∧ ∀ x ∈ t.2.2.2, PyData.strOk x = true := fun t ht => ⟨(hrs t ht).1.1, (hrs t ht).1.2, fun x hx => hkok x ((hrs t ht).2.1 x hx)⟩
    have hlw4 := g4 _ _ hlw2
    refine ⟨_, rfl, .inl ⟨rfl, _, SqL.of hlw4⟩, _, rfl, _, rfl, lk, _, _, _, rfl, rfl, SqL.of (g4 _ _ (g2 _ _ hlk1)), hat, _, rfl, lr, rs, rfl, hlr4', hrs4, hrnd, by omega, fun out po hperm hasc hpo => ⟨(by show 2 ≤ sizeLine; decide), fun pk hpk => ?_⟩⟩
    have e1 := same_new hpo (.lst (out.map fun t => V.ref t.1))
    have e2 := same_new hpk (.tup [.str kn[i], .ref po])
    have e12 := e1.trans e2
    have hlw6 := e12 _ _ hlw4
    have hpow : po ≠ lw := fun z => by rw [z, hlw4] at hpo; cases hpo
    refine ⟨lw, _, _, rfl, rfl, hlw6, by rw [List.length_map, size_line]; omega, ?_⟩
    have hom : ∀ t ∈ out, t ∈ rs := fun t ht => hperm.mem_iff.mp ht
    refine ⟨_, _, _, _, _, _, _, ks ++ [(pk, kn[i], po, out)], rfl, fun z u e => ?_, by rw [upd_same]; simp, fun k hk => ?_, ?_⟩
    · rw [upd_ne (ne_of_none e hlw)]; exact e12 _ _ (g4 _ _ (g2 _ _ e))
    · rcases List.mem_append.mp hk with hk | hk
      · exact ⟨KdH.put hlw6 ((hks k hk).1.same (g4.trans e12)), (hks k hk).2⟩
      · have : k = (pk, kn[i], po, out) := by simpa using hk
        rw [this]
        refine ⟨KdH.put hlw6 ⟨SqT.of upd_same, e2 _ _ upd_same, hpow, fun t ht => ((hrs t (hom t ht)).1).same e12⟩, ⟨⟨?_, ?_, fun t ht => ?_, fun t ht x hx => ?_, fun t ht => ?_⟩, ?_, fun t ht => (hrs t (hom t ht)).2.1, fun t ht => (hrs t (hom t ht)).2.2⟩⟩
        · exact (hperm.map _).nodup_iff.mpr hrnd
        · show out.length ≤ 10
          rw [hperm.length_eq]; omega
        · obtain ⟨j, hj, e⟩ := List.getElem_of_mem (hom t ht)
          have := hrn j t (by rw [List.getElem?_eq_getElem hj, e])
          exact hnok _ (List.mem_of_getElem? this)
        · exact hkok x ((hrs t (hom t ht)).2.1 x hx)
        · have := (hrs t (hom t ht)).2.2
          omega
        · have h0 : 0 < rs.length := by omega
          exact ⟨rs[0], hperm.mem_iff.mpr (List.getElem_mem h0), hr0 rs[0] (List.getElem?_eq_getElem h0)⟩
    · rw [List.map_append, hkk, List.take_add_one, List.getElem?_eq_getElem hi]; rfl
  · rintro σ H2 ⟨c4, c5, c6, c7, c8, c9, c10, ks, rfl, g2, hlw2, hks, hkk⟩
    rw [List.take_of_length_le (Nat.le_refl _)] at hkk
    have hksl : ks.length = kn.length := by
      have := congrArg List.length hkk
      rwa [List.length_map] at this
    refine ⟨_, rfl, q lw H2 ks (g1.trans g2) ⟨SqL.of hlw2, fun k hk => ⟨(hks k hk).1.1, SqL.of (hks k hk).1.2.1, (hks k hk).1.2.2.2⟩⟩ ⟨⟨by rw [hkk]; exact hknd, by omega, fun k hk => (hks k hk).2.ok⟩, by omega, by omega, fun k hk => hkok _ (by rw [← hkk]; exact List.mem_map.mpr ⟨k, hk, rfl⟩), fun k hk => by rw [hkk]; exact (hks k hk).2⟩⟩
end
end K60
namespace K60
open PySem L2 TM TT K9 K11
def lnm : Lab → Str
  | .put n _ _ => n
  | .call _ _ => S []
def nmP (t : Tm) : Str := lnm (lab t)
def PutT (c : Nat) : Nat → Tm → Prop
  | 0, _ => False
  | d + 1, t => (∃ n k a, lab t = .put n k a ∧ PyData.strOk n = true) ∧ t.bs.length ≤ c ∧ ∀ b ∈ t.bs, PutT c d b
theorem PutT.mono {c e : Nat} (hc : c ≤ e) : ∀ {d : Nat} {t : Tm}, PutT c d t → PutT e (d + 1) t
  | 0, _, h => h.elim
  | d + 1, t, ⟨h1, h2, h3⟩ => ⟨h1, Nat.le_trans h2 hc, fun b hb => PutT.mono hc (h3 b hb)⟩
theorem PutT.wide {c e : Nat} (hc : c ≤ e) : ∀ {d : Nat} {t : Tm}, PutT c d t → PutT e d t
  | 0, _, h => h.elim
  | d + 1, t, ⟨h1, h2, h3⟩ => ⟨h1, Nat.le_trans h2 hc, fun b hb => PutT.wide hc (h3 b hb)⟩
theorem PutT.mok {c : Nat} : ∀ {d : Nat} {t : Tm}, PutT c d t → MOk (2 * d) t
  | 0, _, h => h.elim
  | d + 1, .node l m bs, ⟨⟨n, k, a, e, hn⟩, h2, h3⟩ => by
    have e' : l = .put n k a := e
    subst e'
    exact (put_ok (d := 2 * d) hn fun b hb => PutT.mok (h3 b hb)).mono (by omega)
theorem PutT.isC {c d : Nat} {t : Tm} (h : PutT c d t) : TT.isC (lab t) = false := by
  cases d with
  | zero => exact h.elim
  | succ d =>
    obtain ⟨⟨n, k, a, e, _⟩, _⟩ := h
    rw [e]; rfl
def Fits (f : Str → Str → Option (List Str)) (t : Tm) (k : Str) : Prop := ∃ ss, f k (nmP t) = some ss ∧ ss.length = t.bs.length
def okN (f : Str → Str → Option (List Str)) : Nat → Tm → Str → Prop
  | 0, _, _ => False
  | d + 1, t, k => ∃ ss, f k (nmP t) = some ss ∧ ss.length = t.bs.length ∧ ∀ (i : Nat) b s, t.bs[i]? = some b → ss[i]? = some s → okN f d b s
def Wr (f : Str → Str → Option (List Str)) : Tm → Str → List Int → Prop
  | t, k, [] => ¬ Fits f t k
  | t, k, j :: r => ∃ (i : Nat) (b : Tm) (s : Str) (ss : List Str), j = (i : Int) ∧ f k (nmP t) = some ss ∧ ss.length = t.bs.length ∧ t.bs[i]? = some b ∧ ss[i]? = some s ∧ Wr f b s r
def Ld (f : Str → Str → Option (List Str)) : Tm → Str → List Int → Tm → Str → Prop
  | t, k, [], t', k' => t = t' ∧ k = k'
  | t, k, j :: r, t', k' => ∃ (i : Nat) (b : Tm) (s : Str) (ss : List Str), j = (i : Int) ∧ f k (nmP t) = some ss ∧ ss.length = t.bs.length ∧ t.bs[i]? = some b ∧ ss[i]? = some s ∧ Ld f b s r t' k'
theorem Ld.wr {f : Str → Str → Option (List Str)} : ∀ {p : List Int} {t0 t : Tm} {k0 k : Str}, Ld f t0 k0 p t k → ¬ Fits f t k → Wr f t0 k0 p
  | [], _, _, _, _, ⟨rfl, rfl⟩, h => h
  | j :: r, t0, t, k0, k, ⟨i, b, s, ss, e, h1, h2, h3, h4, h5⟩, h => ⟨i, b, s, ss, e, h1, h2, h3, h4, Ld.wr h5 h⟩
theorem Ld.snoc {f : Str → Str → Option (List Str)} {i : Nat} {b : Tm} {s : Str} {ss : List Str} : ∀ {p : List Int} {t0 t : Tm} {k0 k : Str}, Ld f t0 k0 p t k → f k (nmP t) = some ss → ss.length = t.bs.length → t.bs[i]? = some b → ss[i]? = some s → Ld f t0 k0 (p ++ [(i : Int)]) b s
  | [], _, _, _, _, ⟨rfl, rfl⟩, h1, h2, h3, h4 => ⟨i, b, s, ss, rfl, h1, h2, h3, h4, rfl, rfl⟩
  | j :: r, t0, t, k0, k, ⟨i', b', s', ss', e, g1, g2, g3, g4, g5⟩, h1, h2, h3, h4 => ⟨i', b', s', ss', e, g1, g2, g3, g4, Ld.snoc g5 h1 h2 h3 h4⟩
theorem Wr.bad {f : Str → Str → Option (List Str)} : ∀ {p : List Int} {d : Nat} {t : Tm} {k : Str}, Wr f t k p → ¬ okN f d t k
  | _, 0, _, _, _, h => h.elim
  | [], d + 1, t, k, h, ⟨ss, h1, h2, _⟩ => h ⟨ss, h1, h2⟩
  | j :: r, d + 1, t, k, ⟨i, b, s, ss, _, g1, g2, g3, g4, g5⟩, ⟨ss', h1, h2, h3⟩ => by
    rw [g1] at h1
    obtain rfl := Option.some.inj h1
    exact Wr.bad g5 (h3 i b s g3 g4)
def HasLeaf (ks : List KdT) (s : Str) : Prop := ∃ r ∈ rowsK ks s, r.2.2.2 = []
def leafN (ks : List KdT) (s : Str) : Str := (((rowsK ks s).find? fun r => r.2.2.2.isEmpty).map fun r => r.2.1).getD (S [])
def leafT (ks : List KdT) (s : Str) : Tree Str := .node (leafN ks s) 0 []
theorem HasLeaf.find {ks : List KdT} {s : Str} (h : HasLeaf ks s) : ∃ r, (rowsK ks s).find? (fun r => r.2.2.2.isEmpty) = some r ∧ leafN ks s = r.2.1 := by
  obtain ⟨r0, h0, e0⟩ := h
  cases e : (rowsK ks s).find? fun r => r.2.2.2.isEmpty with
  | none =>
    have := List.find?_eq_none.mp e r0 h0
    rw [e0] at this
    exact absurd rfl this
  | some r => exact ⟨r, rfl, by unfold leafN; rw [e]; rfl⟩
theorem leaf_row {ks : List KdT} (hO : WoodOk ks) {s : Str} (h : HasLeaf ks s) : rowK ks s (leafN ks s) = some [] := by
  obtain ⟨r, hr, e⟩ := h.find
  have hm := List.mem_of_find?_eq_some hr
  have hp0 := List.find?_some hr
  have hp : r.2.2.2 = [] := List.isEmpty_iff.mp hp0
  rw [e]
  unfold rowK
  cases e2 : (rowsK ks s).find? fun x => decide (x.2.1 = r.2.1) with
  | none =>
    have := List.find?_eq_none.mp e2 r hm
    simp at this
  | some x =>
    have hx := List.mem_of_find?_eq_some e2
    have hxe : x.2.1 = r.2.1 := by simpa using List.find?_some e2
    have hnd := (rowsK_ok hO s).nd
    have : x = r := by
      obtain ⟨i, hi, ei⟩ := List.getElem_of_mem hx
      obtain ⟨j, hj, ej⟩ := List.getElem_of_mem hm
      have hij : i = j := by
        have h1 : ((rowsK ks s).map fun t => t.2.1)[i]? = ((rowsK ks s).map fun t => t.2.1)[j]? := by
          rw [List.getElem?_map, List.getElem?_map, List.getElem?_eq_getElem hi, List.getElem?_eq_getElem hj, ei, ej]
          show some x.2.1 = some r.2.1
          rw [hxe]
        exact (List.getElem?_inj (by rw [List.length_map]; exact hi) hnd).mp h1
      subst hij
      rw [← ei, ← ej]
    rw [this]
    show some r.2.2.2 = some []
    rw [hp]
end K60
namespace L2
open PySem PySem.Spec PyProof.Rows
section
variable {prog : Program} {w : World} {A : Around} {E : Value → Shared → Prop} {s : Shared}
end
section
variable {X : Cx} {e : Expr} {te : TE} {p pos p2 pos2 : Pos}
end
end L2
namespace L2
open PySem PySem.Spec PyProof.Rows
def Itv (K : PySem.W.Frag) (a : Addr) (n : Nat) : It :=
  ⟨fun i H => ∃ xs x, SqL K H a xs ∧ xs.length = n ∧ i < n ∧ xs[n - 1 - i]? = some x, fun i H x H' => H' = H ∧ ∀ xs, SqL K H a xs → xs[n - 1 - i]? = some x, fun i H => i = n⟩
theorem turn_rev {P : Program} {w : World} {K : PySem.W.Frag} {tg : Expr} (a it : Addr) (n : Nat) : Turn P w K tg (Itv K a n) [it] it (fun i h => h.IsRevIter it a ((n : Int) - 1 - (i : Int))) where
  mem := by simp
  obj := fun i h st b hb => by
    have e : b = it := by simpa using hb
    subst e
    obtain ⟨o, e, c, d⟩ := st
    exact ⟨o, e, fun v z => by rw [d] at z; cases z⟩
  keep := fun i h h' st k => st.at fun o e => k it (by simp) o e
  item := by
    intro X hP hw hK hc i pins s σ H E I hf st hg
    subst hP hw hK
    obtain ⟨xs, x, hq, hn, hi, hx⟩ := hg
    obtain ⟨its, rv, p, hz⟩ := I.list hq
    obtain ⟨u, hu, ru⟩ := rv.get hx
    obtain ⟨f0, f1, f2, f3, f4, f5⟩ := hf it (by simp)
    have e0 : (n : Int) - 1 - (i : Int) = ((n - 1 - i : Nat) : Int) := by omega
    have st2 : s.heap.IsRevIter it a ((n - 1 - i : Nat) : Int) := by rw [← e0]; exact st
    refine wpAny_pyNext_rev_item st2 p.isList (x := u) (by simpa using hu) fun h' st' sb => ?_
    have I1 : Inv X pins σ H { s with heap := h' } := I.turned (t' := s.toks) (fun b o hb e => (sb.2 b hb).trans e) f0 f1 f3 f4 f5
    obtain ⟨o, e, c, d⟩ := id st'
    have e1 : ((n - 1 - i : Nat) : Int) - 1 = (n : Int) - 1 - ((i + 1 : Nat) : Int) := by omega
    have st3 : h'.IsRevIter it a ((n : Int) - 1 - ((i + 1 : Nat) : Int)) := by rw [← e1]; exact st'
    exact ⟨u, rfl, go_of (s := { s with heap := h' }) e c d (by decide) ⟨x, H, I1, ru, ⟨rfl, fun ys hy => by rw [I.list_inj hy hq]; exact hx⟩, st3, fun b hb => (hf b hb).1⟩⟩
  done := by
    intro X hP hw hK hc i pins s σ H E I hf st hg
    subst hP hw hK
    have hi : i = n := hg
    subst hi
    obtain ⟨f0, f1, f2, f3, f4, f5⟩ := hf it (by simp)
    have e0 : (i : Int) - 1 - (i : Int) = -1 := by omega
    have st2 : s.heap.IsRevIter it a (-1) := by rw [← e0]; exact st
    exact wpAny_pyNext_rev_end (I.ok.hd hc) st2 fun h' eb => ⟨rfl, I.turned (t' := s.toks) (fun b o hb e => eb b o hb e) f0 f1 f3 f4 f5⟩
  self := fun _ _ _ _ _ st h => wpAny_pyIter_revIter st h
section
variable {X : Cx} {tg : Expr}
def iRevL (K : PySem.W.Frag) (ta : TA) : TI := fun σ H R => ta σ H fun vs H1 => ∃ (l : Addr) (ys : List V), vs = [.ref l] ∧ SqL K H1 l ys ∧ R (Itv K l ys.length) H1
theorem pi_revL {a : Expr} {ta : TA} {p pos : Pos} (hg : Gl X "reversed") (hm : X.mg "reversed" = none) (ha : PA X [a] ta) (hs : starEach [a] X.env = [(false, eval a X.env)] := by rfl) : PI X tg (.Call (.Name "reversed" p) [a] [] pos) (iRevL X.K ta) := by
  intro pins s σ H R I h
  refine Call_ (ld_blt I hg hm boot_reversed (PyProof.Rows.callWith_type1 (thn (ha pos pins s σ H _ I h) fun us s1 ⟨vs, H1, I1, r1, q1⟩ => ?_) hs rfl))
  obtain ⟨l, ys, e, hl, q⟩ := q1
  subst e
  cases r1 with
  | cons rr rr2 =>
    cases rr2
    obtain rfl : _ = Value.ref l := rr
    obtain ⟨its, rv, p, hz⟩ := I1.list hl
    refine call_reversed_list p.isList ?_
    have hlen : its.toArray.size = ys.length := by rw [List.size_toArray]; exact rv.length.symm
    have st : (s1.heap.push (revObj l ((its.toArray.size : Int) - 1))).IsRevIter s1.heap.objs.size l ((its.toArray.size : Int) - 1) := ⟨_, Heap.get?_push_size _ rfl, rfl, rfl⟩
    refine wpAny_pyIter_revIter st ?_
    refine ⟨s1.heap.objs.size, [s1.heap.objs.size], _, _, H1, rfl, I1.kept (t' := s1.toks) fun b o e => Heap.get?_push_of_some _ e, turn_rev l _ ys.length, ?_, fun b hb => ?_, q⟩
    · rw [hlen] at st
      have e0 : (ys.length : Int) - 1 - ((0 : Nat) : Int) = (ys.length : Int) - 1 := by omega
      show Heap.IsRevIter _ _ _ ((ys.length : Int) - 1 - ((0 : Nat) : Int))
      rw [e0, hlen]
      exact st
    · have e : b = s1.heap.objs.size := by simpa using hb
      subst e
      exact I1.fpOk (Nat.le_refl _) (I1.hok.fresh (Nat.le_refl _))
end
theorem for_rev {K : PySem.W.Frag} {a : Addr} {xs : List V} {g : TG} {tb : TS} {D : Ends} {σ : St} {H : Hp} (Pv : Nat → St → Hp → Prop) (h0 : Pv 0 σ H) (hl : ∀ i σ H, i ≤ xs.length → Pv i σ H → SqL K H a xs)
    (hs : ∀ i x σ H, i < xs.length → xs[xs.length - 1 - i]? = some x → Pv i σ H → g x σ H fun σ2 H2 => tb { D with nx := Pv (i + 1), ct := Pv (i + 1), bk := D.nx } σ2 H2) (hd : ∀ σ H, Pv xs.length σ H → D.nx σ H) :
    ∃ W : Nat → Nat → St → Hp → Prop, (∃ m, W 0 m σ H) ∧ ∀ i m σ H, W i m σ H →
      ((Itv K a xs.length).stop i H ∧ D.nx σ H) ∨ ((Itv K a xs.length).go i H ∧ ∃ N : St → Hp → Prop, (∀ σ' H', N σ' H' → ∃ m', m' < m ∧ W (i + 1) m' σ' H') ∧ ∀ x H', (Itv K a xs.length).yld i H x H' → g x σ H' fun σ2 H2 => tb { D with nx := N, ct := N, bk := D.nx } σ2 H2) := by
  refine ⟨fun i m σ H => m = xs.length - i ∧ i ≤ xs.length ∧ Pv i σ H, ⟨xs.length, by simp, Nat.zero_le _, h0⟩, ?_⟩
  rintro i m σ H ⟨rfl, hi, p⟩
  have q := hl i σ H hi p
  by_cases hlt : i < xs.length
  · refine .inr ⟨⟨xs, xs[xs.length - 1 - i], q, rfl, hlt, List.getElem?_eq_getElem _⟩, Pv (i + 1), fun σ' H' p' => ⟨xs.length - (i + 1), by omega, rfl, hlt, p'⟩, fun x H' y => ?_⟩
    obtain ⟨e, y⟩ := y
    subst e
    exact hs i x σ _ hlt (y xs q) p
  · have e : i = xs.length := by omega
    subst e
    exact .inl ⟨rfl, hd σ H p⟩
end L2
namespace L2
open PySem PySem.Spec PyProof.Rows HT
section
variable {prog : Program} {w : World} {A : Around} {E : Value → Shared → Prop} {s : Shared}
theorem getItem_tuple_all {t sl : Addr} {items : Array Value} {vl vu : Value} {lo hi : Option Int} {Q : Value → Shared → Prop} (ht : IsTup s.heap t items) (hs : s.heap.IsSliceOf sl vl vu .none) (pl : IsPart vl lo) (pu : IsPart vu hi)
    (hw : sIx items.size 0 lo = 0 ∧ sIx items.size items.size hi = items.size) (h : Q (.ref t) s) : wpAny (model prog w) A (getItem (.ref t) (.ref sl)) Q E s := by
  obtain ⟨os, hos, hcs, hds⟩ := id hs
  have hTs : s.TypeIs (.ref sl) "slice" := ⟨os, hos, hcs⟩
  unfold getItem
  try with_reducible refine wpAny_holding ?_
  first | refine wpAny_bind (wpAny_pure ?_) | skip
  refine wpAny_bind (wpAny_sequenceKey ht.typeIs (by decide) ?_)
  refine wpAny_bind (wpAny_callSpecial?_slot (name := Str.ofString "__getitem__") ht.typeIs PyProof.Rows.slot_tuple_getitem
    (wpAny_call_entry PyProof.Rows.slot_tuple_getitem ht.typeIs entry_tuple_getitem ?_ (args_tuple_getitem _ _)))
  show wpAny _ _ (Builtin.Tuple.tupleItemsOf (.ref t) >>= _) _ _ s
  refine wpAny_bind (tupleItemsOf_ ht ?_)
  refine wpAny_bind (wpAny_typeOf hTs ?_)
  rw [if_pos (by decide)]
  refine wpAny_bind (sliceApplied_gen hs pl pu ?_)
  have hyes : ((((sIx items.size 0 lo : Nat) : Int) == 0 && (1 : Int) == 1 && (sIx items.size items.size hi - sIx items.size 0 lo) == items.size) = true) := by
    rw [hw.1, hw.2]; simp
  show wpAny _ _ (if (((sIx items.size 0 lo : Nat) : Int) == 0 && (1 : Int) == 1 && (sIx items.size items.size hi - sIx items.size 0 lo) == items.size) = true then _ else _) _ _ s
  rw [if_pos hyes]
  first
    | refine wpAny_bind (m := Builtin.Tuple.tupleIsExact _) (wpAny_bind (wpAny_typeOf ht.typeIs (wpAny_pure ?_)))
    | refine wpAny_bind (wpAny_bind (m := Builtin.Tuple.tupleIsExact _) (wpAny_bind (wpAny_typeOf ht.typeIs (wpAny_pure ?_))))
  rw [if_pos (by decide)]
  exact wpAny_bind (wpAny_rule (wpAny_pure ⟨_, rfl, wpAny_pure h⟩))
end
section
variable {X : Cx}
def rSlG (K : PySem.W.Frag) : V → Option Int → Option Int → Hp → VK → Prop := fun x lo hi H Q => ∃ a xs, x = .ref a ∧ SqT K H a xs ∧ ∀ p H', Same H H' → SqT K H' p (cutV xs lo hi) → Q (.ref p) H'
theorem sl_tupG : SlR X (rSlG X.K) := by
  intro pins s σ H x v vl vu lo hi sl Q I rx hs pl pu h
  obtain ⟨a, xs, rfl, hx, q⟩ := h
  by_cases hw : HT.sIx xs.length 0 lo = 0 ∧ HT.sIx xs.length xs.length hi = xs.length
  · cases rx
    obtain ⟨its, r, ht, hz⟩ := I.tuple hx
    have hlen : its.toArray.size = xs.length := by rw [List.size_toArray]; exact r.length.symm
    refine ⟨"tuple", _, PyProof.Rows.slot_tuple_getitem.lookup, ht.typeIs, ?_⟩
    refine getItem_tuple_all ht hs pl pu (by rw [hlen]; exact hw) ⟨.ref a, H, I, rfl, q a H (Same.refl _) ?_⟩
    have e : cutV xs lo hi = xs := by
      unfold cutV
      rw [hw.1, hw.2, List.drop_zero, Nat.sub_zero, List.take_length]
    rw [e]; exact hx
  · exact sl_tup pins s σ H _ v vl vu lo hi sl Q I rx hs pl pu ⟨a, xs, rfl, hx, hw, fun p hp => q p _ (same_new hp _) (SqT.of upd_same)⟩
end
end L2
namespace L2
open PySem PySem.Spec PyProof.Rows HT
section
variable {prog : Program} {w : World} {A : Around} {E : Value → Shared → Prop} {s : Shared}
theorem adjust_rev (n : Nat) : Builtin.Slice.sliceAdjust none none (-1) (n : Int) = ((n : Int) - 1, -1) := by
  unfold Builtin.Slice.sliceAdjust
  have h1 : ((-1 : Int) < 0) := by omega
  simp only [h1, if_true]
theorem places_rev (n : Nat) : Builtin.Slice.slicePlaces ((n : Int) - 1) (-1) (-1) = n := by
  unfold Builtin.Slice.slicePlaces
  have h1 : ¬ ((-1 : Int) > 0) := by omega
  simp only [h1, if_false]
  by_cases h : ((n : Int) - 1 > -1)
  · rw [if_pos h]
    have : ((n : Int) - 1 - -1 - 1) / (- -1) = (n : Int) - 1 := by
      rw [show (- -1 : Int) = 1 by omega, Int.ediv_one]; omega
    rw [this]; omega
  · rw [if_neg h]; omega
theorem sliceApplied_rev {sl : Addr} {vc : Value} {n : Nat} {Q : Int × Int × Nat → Shared → Prop} (hs : s.heap.IsSliceOf sl .none .none vc) (pc : IsPart vc (some (-1)))
    (h : Q ((n : Int) - 1, -1, n) s) : wpAny (model prog w) A (Builtin.Slice.sliceApplied (.ref sl) (pure (n : Int))) Q E s := by
  obtain ⟨os, hos, hcs, hds⟩ := id hs
  unfold Builtin.Slice.sliceApplied Builtin.Slice.sliceFields
  refine wpAny_bind (wpAny_bind (wpAny_field hos hds (x := .none) rfl (wpAny_bind (wpAny_field hos hds (x := .none) rfl (wpAny_bind (wpAny_field hos hds (x := vc) rfl (wpAny_pure ?_)))))))
  refine wpAny_bind (slicePart_ pc ?_)
  show wpAny _ _ (if ((-1 : Int) == 0) = true then _ else _) _ _ s
  rw [if_neg (by decide)]
  refine wpAny_bind (slicePart_none (wpAny_bind (slicePart_none (wpAny_bind (wpAny_pure ?_)))))
  show wpAny _ _ (match Builtin.Slice.sliceAdjust none none (-1) (n : Int) with | (lo, hi) => pure (lo, (-1 : Int), Builtin.Slice.slicePlaces lo hi (-1))) _ _ s
  rw [adjust_rev n]
  show wpAny _ _ (pure ((n : Int) - 1, (-1 : Int), Builtin.Slice.slicePlaces ((n : Int) - 1) (-1) (-1))) _ _ s
  rw [places_rev]
  exact wpAny_pure h
theorem pick_rev (xs : Array Value) : ((List.range xs.size).filterMap fun (m : Nat) => xs[((xs.size : Int) - 1 + (m : Int) * (-1)).toNat]?).toArray = xs.toList.reverse.toArray := by
  congr 1
  have e : ∀ k, k ≤ xs.size → (List.range k).filterMap (fun (m : Nat) => xs[((xs.size : Int) - 1 + (m : Int) * (-1)).toNat]?) = xs.toList.reverse.take k := by
    intro k
    induction k with
    | zero => intro _; simp
    | succ k ih =>
      intro hk
      rw [List.range_succ, List.filterMap_append, ih (by omega), List.take_add_one]
      have e1 : ((xs.size : Int) - 1 + (k : Int) * (-1)).toNat = xs.size - 1 - k := by omega
      have e2 : xs.toList.reverse[k]? = xs[xs.size - 1 - k]? := by
        rw [List.getElem?_reverse (by rw [Array.length_toList]; omega), Array.length_toList, Array.getElem?_toList]
      rw [e2]
      simp only [List.filterMap_cons, List.filterMap_nil, e1]
      rw [Array.getElem?_eq_getElem (by omega)]
      rfl
  rw [e xs.size (Nat.le_refl _), List.take_of_length_le (by simp)]
theorem getItem_tuple_rev {t sl : Addr} {items : Array Value} {vc : Value} {Q : Value → Shared → Prop} (ht : IsTup s.heap t items) (hs : s.heap.IsSliceOf sl .none .none vc) (pc : IsPart vc (some (-1)))
    (h : Q (.ref s.heap.objs.size) { s with heap := s.heap.push { cls := .type "tuple", data := .seq items.toList.reverse.toArray } })
    (hsz : items.size ≤ sizeLine) : wpAny (model prog w) A (getItem (.ref t) (.ref sl)) Q E s := by
  have htake : sizeOk (.seq items.toList.reverse.toArray) := by
    show items.toList.reverse.toArray.size ≤ sizeLine
    rw [List.size_toArray, List.length_reverse, Array.length_toList]
    omega
  obtain ⟨os, hos, hcs, hds⟩ := id hs
  have hTs : s.TypeIs (.ref sl) "slice" := ⟨os, hos, hcs⟩
  unfold getItem
  try with_reducible refine wpAny_holding ?_
  first | refine wpAny_bind (wpAny_pure ?_) | skip
  refine wpAny_bind (wpAny_sequenceKey ht.typeIs (by decide) ?_)
  refine wpAny_bind (wpAny_callSpecial?_slot (name := Str.ofString "__getitem__") ht.typeIs PyProof.Rows.slot_tuple_getitem
    (wpAny_call_entry PyProof.Rows.slot_tuple_getitem ht.typeIs entry_tuple_getitem ?_ (args_tuple_getitem _ _)))
  show wpAny _ _ (Builtin.Tuple.tupleItemsOf (.ref t) >>= _) _ _ s
  refine wpAny_bind (tupleItemsOf_ ht ?_)
  refine wpAny_bind (wpAny_typeOf hTs ?_)
  rw [if_pos (by decide)]
  refine wpAny_bind (sliceApplied_rev hs pc ?_)
  have hno : ¬ ((((items.size : Int) - 1) == 0 && (-1 : Int) == 1 && items.size == items.size) = true) := by
    rw [show ((-1 : Int) == 1) = false by decide]; simp
  show wpAny _ _ (if (((items.size : Int) - 1) == 0 && (-1 : Int) == 1 && items.size == items.size) = true then _ else _) _ _ s
  rw [if_neg hno, pick_rev]
  first
    | exact wpAny_bind (m := Builtin.Tuple.tupleExact _) (wpAny_newObj_type (wpAny_pure ⟨_, rfl, wpAny_pure h⟩) htake)
    | exact wpAny_bind (m := Builtin.Tuple.tupleExact _) (wpAny_newObj_type (wpAny_bind (wpAny_pure (wpAny_pure ⟨_, rfl, wpAny_pure h⟩))) htake)
    | exact wpAny_bind (wpAny_bind (m := Builtin.Tuple.tupleExact _) (wpAny_newObj_type (wpAny_pure (wpAny_pure ⟨_, rfl, wpAny_pure h⟩)) htake))
    | exact wpAny_bind (wpAny_bind (m := Builtin.Tuple.tupleExact _) (wpAny_newObj_type (wpAny_pure ⟨_, rfl, wpAny_pure h⟩) htake))
end
section
variable {X : Cx} {e st : Expr} {te : TE} {ts : TO} {pos p2 : Pos}
def tRevT (K : PySem.W.Frag) (te : TE) (ts : TO) : TE := fun σ H Q => te σ H fun x H1 => ts σ H1 fun o H2 => o = some (-1) ∧ ∃ a xs, x = .ref a ∧ SqT K H2 a xs ∧ ∀ p, H2 p = none → Q (.ref p) (upd H2 p (.tup xs.reverse))
theorem Vals.rev {xs : List V} {us : List Value} (r : Vals xs us) : Vals xs.reverse us.reverse := by
  induction r with
  | nil => exact .nil
  | cons h _ ih => rw [List.reverse_cons, List.reverse_cons]; exact ih.append (.cons h .nil)
theorem pe_revT (he : PE X e te) (hs : PO X (some st) ts) : PE X (.Subscript e (.Slice none none (some st) p2) pos) (tRevT X.K te ts) := by
  intro pins s σ H Q I h
  refine Subscript_ (thn (he pins s σ H _ I h) fun v s1 ⟨x, H1, I1, r1, q1⟩ => ?_)
  refine wpAny_Slice ?_
  rw [evalPart_none]
  refine wpAny_pure ?_
  refine wpAny_pure ?_
  refine thn (hs pins s1 σ H1 _ I1 q1) fun vc s2 ⟨o, H2, I2, pc, q2⟩ => ?_
  obtain ⟨rfl, a, xs, rfl, hx, q⟩ := q2
  have I4 : Inv X pins σ H2 { s2 with heap := s2.heap.push { cls := .type "slice", data := .fields #[.none, .none, vc] } } := I2.kept (t' := s2.toks) fun b ob q => Heap.get?_push_of_some _ q
  cases r1
  obtain ⟨its, r, ht, hz⟩ := I4.tuple hx
  have hlen : its.toArray.size = xs.length := by rw [List.size_toArray]; exact r.length.symm
  show wpAny (model X.prog X.w) X.A (subscriptTail e (.Slice none none (some st) p2) (.ref a) (.ref s2.heap.objs.size)) (EP X pins σ Q) X.xe { s2 with heap := s2.heap.push { cls := .type "slice", data := .fields #[.none, .none, vc] } }
  refine tail_any (ops := [.ref a, .ref s2.heap.objs.size]) ht.typeIs PyProof.Rows.slot_tuple_getitem.lookup ?_ (by with_unfolding_all rfl)
  refine getItem_tuple_rev ht (Heap.IsSliceOf.new ..) pc ?_ (by rw [hlen]; exact hz)
  refine ⟨.ref _, _, I4.laid (t' := s2.toks) (o := .tup xs.reverse) (fun b ob q => Heap.get?_push_of_some _ q) (Nat.le_refl _) ?_, rfl, q _ (I4.hok.fresh (Nat.le_refl _))⟩
  exact ⟨by rw [List.length_reverse]; exact hz, _, r.rev, IsTup.new _ _⟩
end
end L2
namespace K60
open PySem L2 TM TT K9 K11
def spLeaf (K : PySem.W.Frag) : Sp := fun vs H Q _ => ∃ (w : Addr) (kind : Str) (ks : List KdT), vs = [.ref w, .str kind] ∧ WoodAt K H w ks ∧ WoodOk ks ∧ HasLeaf ks kind ∧ ∀ (v : V) (H' : Hp), Same H H' → TrV K H' v (leafT ks kind) → Q v H'
def spLeafy (K : PySem.W.Frag) : Sp := fun vs H Q _ => ∃ (w kb : Addr) (name : Str) (mark : Int) (ks : List KdT) (ss : List Str), vs = [.ref w, .str name, .int mark, .ref kb] ∧ WoodAt K H w ks ∧ WoodOk ks ∧ SqT K H kb (ss.map V.str) ∧ ss.length ≤ 10 ∧ (∀ s ∈ ss, HasLeaf ks s) ∧
  ∀ (v : V) (H' : Hp), Same H H' → TrV K H' v (.node name mark (ss.map (leafT ks))) → Q v H'
def spAbove (K : PySem.W.Frag) : Sp := fun vs H Q _ => ∃ (w : Addr) (ks : List KdT) (k0 : KdT), vs = [.ref w] ∧ WoodAt K H w ks ∧ ks[0]? = some k0 ∧ ∀ (p b : Addr) (H' : Hp), Same H H' → SqT K H' p [.str (S []), .ref b] → SqT K H' b [.str k0.2.1] → Q (.ref p) H'
def spTreeOn (K : PySem.W.Frag) : Sp := fun vs H Q _ => ∃ (w lw row kb : Addr) (mark : Int) (nm k : Str) (ks : List KdT), vs = [.ref w, .ref lw, .ref row, .int mark] ∧ WoodAt K H w ks ∧ WoodOk ks ∧ H lw = some (.lst []) ∧ SqT K H row [.str nm, .ref kb] ∧ SqT K H kb [.str k] ∧ HasLeaf ks k ∧
  ∀ (v : V) (H' : Hp), Same H H' → TrV K H' v (leafT ks k) → Q v H'
def LvAt (K : PySem.W.Frag) (H : Hp) (sp : Addr) (L : Int) : Prop := ∃ (n : Int) (vd : V) (row kk : Addr) (nm : Str) (xs : List V), SqT K H sp [.int n, vd, .ref row] ∧ SqT K H row [.str nm, .ref kk] ∧ SqT K H kk xs ∧ L = n + (if 0 < xs.length then 1 else 0)
def spLvN (K : PySem.W.Frag) : Sp := fun vs H Q _ => ∃ (fa sp : Addr) (y : V) (L : Int), vs = [.ref fa] ∧ SqT K H fa [.ref sp, y] ∧ LvAt K H sp L ∧ Q (.int L) H
section
variable {P : Program} {w : World} {K : PySem.W.Frag} {mg : Str → Option Value} {base : Heap} {f : Addr} {fd : FuncData}
theorem scLeaf : FnScope ["wood", "kind", "name", "branches"] ["wood", "kind"] (defScope sLeaf) := ⟨rfl, rfl, rfl, by decide +kernel, rfl, by decide +kernel, by decide +kernel⟩
theorem ok_leaf (F : Fun K "leaf_of" "leaf_of" sLeaf f fd) (G : Gm mg) (RO : Fn P w K mg base 1 "rows_of" ["wood", "kind"] (spRowsOf K)) : FnOk P w K mg base CX0 2 f fd ["wood", "kind"] (spLeaf K) := by
  refine F.ok scLeaf (fun vs H Q E h => ?_) (fun cdv A outer s H vs Q E hr h => ?_)
  · obtain ⟨w, kind, ks, rfl, _⟩ := h
    rfl
  obtain ⟨wd, kind, ks, rfl, hW, hO, hL, q⟩ := h
  obtain ⟨r0, hr0, er0⟩ := hL.find
  unfold leafT at q
  rw [er0] at q
  refine ⟨_, (pss_cons (ps_for PassesOwn.never rfl (pi_list (pe_fn RO hr (pa_cons (pv 0) (pa_cons (pv 1) pa_nil)))) (pg_tup rfl (pgs_cons (pg_name (i := 2) scLeaf.nd rfl (Or.inl rfl)) (pgs_cons (pg_name (i := 3) scLeaf.nd rfl (Or.inl rfl)) pgs_nil))) (pss_one (ps_if (pt_cmpR op_eq (pe_callB call_len_seq rfl G.len PySem.boot_len (pa_cons (pv 3) pa_nil)) pe_int (nomark _)) (pss_one (ps_ret (pe_tup (pa_cons (pv 2) (pa_cons (pe_int) (pa_cons (pe_tup pa_nil) pa_nil)))))) pss_nil)))
    (pss_one (ps_ret pe_non))), ?_⟩
  refine ⟨_, rfl, _, rfl, wd, kind, ks, rfl, hW, hO, fun lr H1 g1 hR => ?_⟩
  clear hL er0
  generalize rowsK ks kind = rs at hr0 hR
  refine ⟨lr, rfl, ⟨_, hR.1⟩, ?_⟩
  refine for_list (K := K) (xs := rs.map fun t => V.ref t.1) (fun i σ H' => ∃ c1 c2 : Option V, σ = [some (.ref wd), some (.str kind), c1, c2] ∧ H' = H1 ∧ (rs.drop i).find? (fun r => r.2.2.2.isEmpty) = some r0) ⟨none, none, rfl, rfl, hr0⟩ ?_ ?_ ?_
  · rintro i σ H' _ ⟨c1, c2, _, rfl, _⟩
    exact hR.1
  · rintro i x σ H' hx ⟨c1, c2, rfl, rfl, hf⟩
    have hi : i < rs.length := by
      have := (List.getElem?_eq_some_iff.mp hx).1
      rwa [List.length_map] at this
    obtain rfl : x = .ref rs[i].1 := by
      rw [List.getElem?_map, List.getElem?_eq_getElem hi] at hx
      exact (Option.some.inj hx).symm
    obtain ⟨hr1, hr2⟩ := hR.2 _ (List.getElem_mem hi)
    rw [List.drop_eq_getElem_cons hi, List.find?_cons] at hf
    refine ⟨rs[i].1, _, rfl, hr1, rfl, _, _, rfl, _, _, rfl, rfl, ?_⟩
    refine ⟨_, rfl, rs[i].2.2.1, _, rfl, .inr hr2, rfl, _, rfl, ?_⟩
    cases hes : rs[i].2.2.2 with
    | nil =>
      rw [hes] at hf
      have e0 : rs[i] = r0 := by simpa using hf
      refine iteP (by rfl) ⟨_, rfl, (by show 0 ≤ sizeLine; decide), fun p0 hp0 => ⟨(by show 3 ≤ sizeLine; decide), fun p1 hp1 => ?_⟩⟩
      have k0 := same_new hp0 (.tup [])
      have k1 := same_new hp1 (.tup [.str rs[i].2.1, .int 0, .ref p0])
      refine q (.ref p1) _ (g1.trans (k0.trans k1)) ?_
      rw [← e0]
      exact .mk (SqT.of upd_same) (k1.seqT (SqT.of upd_same)) .nil (Nat.zero_le _)
    | cons y ys =>
      rw [hes] at hf
      refine iteN (fun z => ?_) ⟨_, _, rfl, rfl, by simpa using hf⟩
      injection z with z
      simp at z
      omega
  · rintro σ H' ⟨c1, c2, rfl, rfl, hf⟩
    rw [List.length_map, List.drop_of_length_le (Nat.le_refl _)] at hf
    cases hf
theorem scLeafy : FnScope ["wood", "name", "mark", "kinds"] ["wood", "name", "mark", "kinds"] (defScope sLeafy) := ⟨rfl, rfl, rfl, by decide +kernel, rfl, by decide +kernel, by decide +kernel⟩
theorem ok_leafy (F : Fun K "leafy" "leafy" sLeafy f fd) (G : Gm mg) (RL : Fn P w K mg base 2 "leaf_of" ["wood", "kind"] (spLeaf K)) : FnOk P w K mg base CX0 3 f fd ["wood", "name", "mark", "kinds"] (spLeafy K) := by
  refine F.ok scLeafy (fun vs H Q E h => ?_) (fun cdv A outer s H vs Q E hr h => ?_)
  · obtain ⟨w, kb, name, mark, ks, ss, rfl, _⟩ := h
    rfl
  obtain ⟨wd, kb, name, mark, ks, ss, rfl, hW, hO, hkb, hsl, hL, q⟩ := h
  refine ⟨_, (pss_one (ps_ret (pe_tup (pa_cons (pv 1) (pa_cons (pv 2) (pa_cons (pe_callTy call_tuple_of rfl G.tup PyProof.Rows.boot_tuple (pa_cons (pe_lcompG (CompG.many (xs := ["kind"]) (caps := ["wood"]) (cap := [0]) (cs := [_]) rfl rfl (by decide +kernel) (by decide +kernel) (by decide +kernel) (by decide +kernel) (by decide +kernel) (by decide +kernel) rfl rfl rfl) rfl (pi_tup (pv 3)) (pg_c1 (CompG.many (xs := ["kind"]) (caps := ["wood"]) (cap := [0]) (cs := [_]) rfl rfl (by decide +kernel) (by decide +kernel) (by decide +kernel) (by decide +kernel) (by decide +kernel) (by decide +kernel) rfl rfl rfl)) (fun _ _ _ _ => pf_nil) (fun _ _ _ _ => pe_fn RL hr (pa_cons (pv 1) (pa_cons (pv 0) pa_nil)))) pa_nil)) pa_nil)))))), ?_⟩
  refine ⟨_, rfl, _, rfl, _, rfl, kb, rfl, ⟨_, hkb⟩, fun acc hacc => ?_⟩
  refine c1_tup (K := K) (xs := ss.map V.str) (cs := [some (.ref wd)]) (tt := fun _ H Q => Q true H) (te := tCall (spLeaf K) [] E0 (tCons (tVar 1) (tCons (tVar 0) tNil))) (fun i ys H' => H' acc = some (.lst ys) ∧ Same H H' ∧ TrAll K H' ys ((ss.take i).map (leafT ks)))
    ⟨upd_same, same_new hacc _, .nil⟩ ?_ ?_ ?_
  · rintro i ys H' _ ⟨_, g, _⟩
    exact g.seqT hkb
  · rintro i y ys H' hi hy ⟨hya, g, hys⟩
    have his : i < ss.length := by rw [List.length_map] at hi; exact hi
    obtain rfl : y = .str ss[i] := by
      rw [List.getElem?_map, List.getElem?_eq_getElem his] at hy
      exact (Option.some.inj hy).symm
    have hyl := hys.length
    rw [List.length_map, List.length_take] at hyl
    refine iteT ⟨_, rfl, _, rfl, wd, ss[i], ks, rfl, hW.same g, hO, hL _ (List.getElem_mem his), fun v H4 g4 hv => ?_⟩
    have hya4 := g4 _ _ hya
    refine comp_next (ys := ys) hi hya4 (by omega) ⟨upd_same, fun b u e => ?_, ?_⟩
    · rw [upd_ne (ne_of_none e hacc)]; exact g4 _ _ (g _ _ e)
    · rw [List.take_add_one, List.getElem?_eq_getElem his, List.map_append]
      exact TrAll.append (hys.mono fun _ _ h => (g4.seqT h).put hya4) (.cons (hv.mono fun _ _ h => h.put hya4) .nil)
  rintro ys H2 ⟨hya, g2, hys⟩
  rw [List.length_map, List.take_length] at hys
  have hyl := hys.length
  rw [List.length_map] at hyl
  refine ⟨acc, _, rfl, .inl ⟨SqL.of hya, fun pb hpb => ⟨(by show 3 ≤ sizeLine; decide), fun p hp => ?_⟩⟩⟩
  have k1 := same_new hpb (.tup ys)
  have k2 := same_new hp (.tup [.str name, .int mark, .ref pb])
  exact q (.ref p) _ (g2.trans (k1.trans k2)) (.mk (SqT.of upd_same) (k2.seqT (SqT.of upd_same)) (hys.mono fun _ _ => (k1.trans k2).seqT) (by omega))
theorem scAbove : FnScope ["wood"] ["wood"] (defScope sAbove) := ⟨rfl, rfl, rfl, by decide +kernel, rfl, by decide +kernel, by decide +kernel⟩
theorem ok_above (F : Fun K "row_above" "row_above" sAbove f fd) : FnOk P w K mg base CX0 1 f fd ["wood"] (spAbove K) := by
  refine F.ok scAbove (fun vs H Q E h => ?_) (fun cdv A outer s H vs Q E hr h => ?_)
  · obtain ⟨w, ks, k0, rfl, _⟩ := h
    rfl
  obtain ⟨wd, ks, k0, rfl, hW, hk0, q⟩ := h
  refine ⟨_, (pss_one (ps_ret (pe_tup (pa_cons (pe_str) (pa_cons ((pe_tup (pa_cons (pe_ix ix_tup (pe_ix ix_list (pv 0) pe_int (fun _ _ => rfl)) pe_int (fun _ _ => rfl)) pa_nil))) pa_nil))))), ?_⟩
  have hat : atI (ks.map fun k => V.ref k.1) 0 = some (.ref k0.1) := atI_nat (j := 0) (by rw [List.getElem?_map, hk0]; rfl)
  refine ⟨_, rfl, wd, _, 0, _, rfl, rfl, hW.1, hat, k0.1, _, 0, _, rfl, rfl, (hW.2 k0 (List.mem_of_getElem? hk0)).1, rfl, (by show 1 ≤ sizeLine; decide), fun b hb => ⟨(by show 2 ≤ sizeLine; decide), fun p hp => ?_⟩⟩
  have k1 := same_new hb (.tup [.str k0.2.1])
  have k2 := same_new hp (.tup [.str (Str.ofString ""), .ref b])
  refine q p b _ (k1.trans k2) ?_ (k2.seqT (SqT.of upd_same))
  rw [← none_eq]
  exact SqT.of upd_same
theorem scLvN : FnScope ["fault", "spot"] ["fault"] (defScope sLvN) := ⟨rfl, rfl, rfl, by decide +kernel, rfl, by decide +kernel, by decide +kernel⟩
theorem ok_lvn (F : Fun K "levels_needed" "levels_needed" sLvN f fd) (G : Gm mg) : FnOk P w K mg base CX0 1 f fd ["fault"] (spLvN K) := by
  refine F.ok scLvN (fun vs H Q E h => ?_) (fun cdv A outer s H vs Q E hr h => ?_)
  · obtain ⟨fa, sp, y, L, rfl, _⟩ := h
    rfl
  obtain ⟨fa, sp, y, L, rfl, hfa, ⟨n, vd, row, kk, nm, xs, h1, h2, h3, rfl⟩, q⟩ := h
  refine ⟨_, (pss_cons (ps_set (i := 1) scLvN.nd rfl (Or.inl rfl) (pe_ix ix_tup (pv 0) pe_int (fun _ _ => rfl)))
    (pss_one (ps_ret (pe_op op_add (pe_ix ix_tup (pv 1) pe_int (fun _ _ => rfl)) (pe_ifExp (pt_cmpR op_gt (pe_callB call_len_seq rfl G.len PySem.boot_len (pa_cons (pe_ix ix_tup (pe_ix ix_tup (pv 1) pe_int (fun _ _ => rfl)) pe_int (fun _ _ => rfl)) pa_nil)) pe_int (nomark _)) pe_int pe_int))))), ?_⟩
  refine ⟨_, rfl, fa, _, 0, _, rfl, rfl, hfa, rfl, ?_⟩
  refine ⟨_, rfl, sp, _, 0, _, rfl, rfl, h1, rfl, _, rfl, sp, _, 2, _, rfl, rfl, h1, rfl, row, _, 1, _, rfl, rfl, h2, rfl, kk, xs, rfl, .inr h3, _, _, rfl, rfl, _, rfl, ?_⟩
  by_cases hx : 0 < xs.length
  · rw [if_pos hx] at q
    refine iteP (show (((xs.length : Nat) : Int) > 0) by omega) ⟨_, _, rfl, rfl, q⟩
  · rw [if_neg hx] at q
    refine iteN (show ¬ (((xs.length : Nat) : Int) > 0) by omega) ⟨_, _, rfl, rfl, q⟩
theorem scTreeOn : FnScope ["wood", "way", "row", "mark", "tree", "above", "its_mark", "branch"] ["wood", "way", "row", "mark"] (defScope sTreeOn) := ⟨rfl, rfl, rfl, by decide +kernel, rfl, by decide +kernel, by decide +kernel⟩
theorem ok_treeOn (F : Fun K "tree_on" "tree_on" sTreeOn f fd) (G : Gm mg) (RL : Fn P w K mg base 3 "leafy" ["wood", "name", "mark", "kinds"] (spLeafy K)) : FnOk P w K mg base CX0 4 f fd ["wood", "way", "row", "mark"] (spTreeOn K) := by
  refine F.ok scTreeOn (fun vs H Q E h => ?_) (fun cdv A outer s H vs Q E hr h => ?_)
  · obtain ⟨w, lw, row, kb, mark, nm, k, ks, rfl, _⟩ := h
    rfl
  obtain ⟨wd, lw, row, kb, mark, nm, k, ks, rfl, hW, hO, hlw, h1, h2, hL, q⟩ := h
  refine ⟨_, (pss_cons (ps_set (i := 4) scTreeOn.nd rfl (Or.inl rfl) (pe_fn RL hr (pa_cons (pv 0) (pa_cons (pe_ix ix_tup (pv 2) pe_int (fun _ _ => rfl)) (pa_cons (pv 3) (pa_cons (pe_ix ix_tup (pv 2) pe_int (fun _ _ => rfl)) pa_nil))))))
    (pss_cons (ps_for PassesOwn.never rfl (pi_revL rfl G.rev (pa_cons (pv 1) pa_nil)) (pg_tup rfl (pgs_cons (pg_name (i := 5) scTreeOn.nd rfl (Or.inl rfl)) (pgs_cons (pg_name (i := 6) scTreeOn.nd rfl (Or.inl rfl)) (pgs_cons (pg_name (i := 7) scTreeOn.nd rfl (Or.inl rfl)) pgs_nil)))) pss_never)
    (pss_one (ps_ret (pe_ix ix_tup (pe_ix ix_tup (pv 4) pe_int (fun _ _ => rfl)) pe_int (fun _ _ => rfl)))))), ?_⟩
  refine ⟨_, rfl, _, rfl, row, _, 0, _, rfl, rfl, h1, rfl, _, rfl, _, rfl, row, _, 1, _, rfl, rfl, h1, rfl, wd, kb, nm, mark, ks, [k], rfl, hW, hO, h2, (by show 1 ≤ 10; decide), fun s hs => ?_, fun v H1 g1 hv => ?_⟩
  · obtain rfl : s = k := by simpa using hs
    exact hL
  refine ⟨_, rfl, lw, [], rfl, SqL.of (g1 _ _ hlw), ?_⟩
  refine for_rev (K := K) (xs := []) (fun i σ H' => σ = [some (.ref wd), some (.ref lw), some (.ref row), some (.int mark), some v, none, none, none] ∧ H' = H1) ⟨rfl, rfl⟩ ?_ ?_ ?_
  · rintro i σ H' _ ⟨_, rfl⟩
    exact SqL.of (g1 _ _ hlw)
  · rintro i x σ H' hi
    exact absurd hi (Nat.not_lt_zero _)
  · rintro σ H' ⟨rfl, rfl⟩
    obtain ⟨a, b, vs, name, mk, rfl, et, t1, t2, t3, t4⟩ := tr_open hv
    have e3 : (Tree.node nm mark ([k].map (leafT ks))).bs = [leafT ks k] := rfl
    rw [e3] at t3
    obtain ⟨c, hc, hct⟩ := t3.get (i := 0) rfl
    exact ⟨_, rfl, a, _, 2, _, rfl, rfl, t1, rfl, b, _, 0, _, rfl, rfl, t2, atI_nat (j := 0) hc, q c _ g1 hct⟩
end
end K60
namespace L2
open PySem
def SameX (x : Addr) (H H' : Hp) : Prop := ∀ b u, b ≠ x → H b = some u → H' b = some u
theorem SameX.refl (x : Addr) (H : Hp) : SameX x H H := fun _ _ _ e => e
theorem SameX.trans {x : Addr} {H H1 H2 : Hp} (a : SameX x H H1) (b : SameX x H1 H2) : SameX x H H2 := fun c u n e => b c u n (a c u n e)
theorem SameX.of {x : Addr} {H H' : Hp} (h : Same H H') : SameX x H H' := fun b u _ e => h b u e
theorem SameX.upd {x : Addr} {H : Hp} {o : HO} : SameX x H (upd H x o) := fun b u n e => by rw [upd_ne n]; exact e
structure InsAt (H : Hp) (x : Addr) : Prop where
  ex : ∃ C dx fs, H x = some (.ins C dx fs)
theorem InsAt.seqT {K : PySem.W.Frag} {x : Addr} {H H' : Hp} {a : Addr} {xs : List V} (i : InsAt H x) (g : SameX x H H') (h : SqT K H a xs) : SqT K H' a xs := by
  obtain ⟨C, dx, fs, hx⟩ := i.ex
  rcases h with (h | ⟨o, h⟩) | h
  · exact .inl (.inl (g _ _ (ne_of h hx (by intro z; cases z)) h))
  · exact .inl (.inr ⟨o, g _ _ (ne_of h hx (by intro z; cases z)) h⟩)
  · exact .inr h
theorem InsAt.seq {K : PySem.W.Frag} {x : Addr} {H H' : Hp} {a : Addr} {xs : List V} (i : InsAt H x) (g : SameX x H H') (h : SqL K H a xs) : SqL K H' a xs := by
  obtain ⟨C, dx, fs, hx⟩ := i.ex
  rcases h with (h | ⟨o, h⟩) | h
  · exact .inl (.inl (g _ _ (ne_of h hx (by intro z; cases z)) h))
  · exact .inl (.inr ⟨o, g _ _ (ne_of h hx (by intro z; cases z)) h⟩)
  · exact .inr h
theorem InsAt.lst {x : Addr} {H H' : Hp} {a : Addr} {xs : List V} (i : InsAt H x) (g : SameX x H H') (h : H a = some (.lst xs)) : H' a = some (.lst xs) := by
  obtain ⟨C, dx, fs, hx⟩ := i.ex
  exact g _ _ (ne_of h hx (by intro z; cases z)) h
theorem InsAt.dK {x : Addr} {H H' : Hp} {a : Addr} {xs : List (Key × V)} (i : InsAt H x) (g : SameX x H H') (h : H a = some (.dK xs)) : H' a = some (.dK xs) := by
  obtain ⟨C, dx, fs, hx⟩ := i.ex
  exact g _ _ (ne_of h hx (by intro z; cases z)) h
theorem put_no {f g : Str} {v y : V} {r : List (Str × V)} (h : ¬ g = f) : putF f v ((g, y) :: r) = (g, y) :: putF f v r := by
  show (if g = f then _ else _) = _
  rw [if_neg h]
theorem put_yes {f : Str} {v y : V} {r : List (Str × V)} : putF f v ((f, y) :: r) = (f, v) :: r := by
  show (if f = f then _ else _) = _
  rw [if_pos rfl]
end L2
namespace K60
open PySem L2 TM TT K9 K11
abbrev sInit : Stmt := inClass (top 21) 0
abbrev sLook : Stmt := inClass (top 21) 2
abbrev sMF : Stmt := inClass (top 21) 4
abbrev sTP : Stmt := inClass (top 21) 5
def flds (tu kb st wt : Addr) (fv : V) : List (Str × V) := [("turning", .ref tu), ("kinds_below", .ref kb), ("steps", .ref st), ("waiting", .ref wt), ("fault", fv)]
theorem putFault (tu kb st wt : Addr) (fv v : V) : putF "fault" v (flds tu kb st wt fv) = flds tu kb st wt v := by
  unfold flds
  rw [put_no (by decide +kernel), put_no (by decide +kernel), put_no (by decide +kernel), put_no (by decide +kernel), put_yes]
def KbAt (K : PySem.W.Frag) (H : Hp) (kb : Addr) (ks : List KdT) : Prop := ∃ l : List (KdT × Addr), l.map (·.1) = ks ∧ H kb = some (.dK (l.map fun q => ((Sum.inr q.1.2.1 : Key), V.ref q.2))) ∧
  ∀ q ∈ l, H q.2 = some (.dK (q.1.2.2.2.map fun r => ((Sum.inr r.2.1 : Key), V.ref r.2.2.1))) ∧ ∀ r ∈ q.1.2.2.2, SqT K H r.2.2.1 (r.2.2.2.map V.str)
theorem KbAt.insX {K : PySem.W.Frag} {H H' : Hp} {x kb : Addr} {ks : List KdT} (i : InsAt H x) (g : SameX x H H') (h : KbAt K H kb ks) : KbAt K H' kb ks := by
  obtain ⟨l, e, h1, h2⟩ := h
  exact ⟨l, e, i.dK g h1, fun q hq => ⟨i.dK g (h2 q hq).1, fun r hr => i.seqT g ((h2 q hq).2 r hr)⟩⟩
theorem KbAt.same {K : PySem.W.Frag} {H H' : Hp} {kb : Addr} {ks : List KdT} (g : Same H H') (h : KbAt K H kb ks) : KbAt K H' kb ks := by
  obtain ⟨l, e, h1, h2⟩ := h
  exact ⟨l, e, g _ _ h1, fun q hq => ⟨g _ _ (h2 q hq).1, fun r hr => g.seqT ((h2 q hq).2 r hr)⟩⟩
theorem KbAt.get {K : PySem.W.Frag} {H : Hp} {kb : Addr} {ks : List KdT} (h : KbAt K H kb ks) {kind : Str} (hk : ∃ k ∈ ks, k.2.1 = kind) (name : Str) : ∃ (d : Addr) (o : Option V), DGet H kb (.str kind) (some (.ref d)) ∧ IsD H d ∧ DGet H d (.str name) o ∧ RowV K H (o.getD .non) (rowK ks kind name) := by
  obtain ⟨l, e, h1, h2⟩ := h
  have ef : ks.find? (fun k => decide (k.2.1 = kind)) = (l.find? fun q => decide (q.1.2.1 = kind)).map (·.1) := by rw [← e, List.find?_map]; rfl
  cases eq : l.find? fun q => decide (q.1.2.1 = kind) with
  | none =>
    rw [eq] at ef
    obtain ⟨k, hk, ek⟩ := hk
    have := List.find?_eq_none.mp ef k hk
    simp [ek] at this
  | some q =>
    rw [eq] at ef
    obtain ⟨g1, g2⟩ := h2 q (List.mem_of_find?_eq_some eq)
    have v1 := DGet.k (k := Sum.inr kind) h1
    rw [val_map (fun q : KdT × Addr => q.1.2.1) (fun q => V.ref q.2) kind l, eq] at v1
    have v2 := DGet.k (k := Sum.inr name) g1
    rw [val_map (fun r : PNx => r.2.1) (fun r => V.ref r.2.2.1) name q.1.2.2.2] at v2
    refine ⟨q.2, _, v1, .inl ⟨_, .inl g1⟩, v2, ?_⟩
    have er : rowsK ks kind = q.1.2.2.2 := by unfold rowsK; rw [ef]; rfl
    unfold rowK
    rw [er]
    cases eq2 : q.1.2.2.2.find? fun r => decide (r.2.1 = name) with
    | none => exact rfl
    | some r => exact ⟨_, rfl, g2 r (List.mem_of_find?_eq_some eq2)⟩
def FvAt (K : PySem.W.Frag) (H : Hp) (sp : Addr) (fv : V) : Option (List Int) → Prop
  | none => fv = .non
  | some q => ∃ fa qa, fv = .ref fa ∧ SqT K H fa [.ref sp, .ref qa] ∧ SqT K H qa (q.map V.int)
theorem FvAt.mono {K : PySem.W.Frag} {H H' : Hp} {sp : Addr} {fv : V} {φ : Option (List Int)} (k : ∀ a xs, SqT K H a xs → SqT K H' a xs) (h : FvAt K H sp fv φ) : FvAt K H' sp fv φ := by
  cases φ with
  | none => exact h
  | some q =>
    obtain ⟨fa, qa, e, h1, h2⟩ := h
    exact ⟨fa, qa, e, k _ _ h1, k _ _ h2⟩
theorem LvAt.mono {K : PySem.W.Frag} {H H' : Hp} {sp : Addr} {L : Int} (k : ∀ a xs, SqT K H a xs → SqT K H' a xs) (h : LvAt K H sp L) : LvAt K H' sp L := by
  obtain ⟨n, vd, row, kk, nm, xs, h1, h2, h3, e⟩ := h
  exact ⟨n, vd, row, kk, nm, xs, k _ _ h1, k _ _ h2, k _ _ h3, e⟩
structure DmT (K : PySem.W.Frag) (mg : Str → Option Value) (C : Addr) : Prop where
  cl : Cls K C
  nT : NoAttr K C "turning"
  nK : NoAttr K C "kinds_below"
  nS : NoAttr K C "steps"
  nW : NoAttr K C "waiting"
  nF : NoAttr K C "fault"
  mgC : mg "Demands" = some (.ref C)
def spMF (K : PySem.W.Frag) (C : Addr) : Sp := fun vs H Q _ => ∃ (x dx tu kb st wt sp fa qa : Addr) (fv : V) (q : List Int) (φ : Option (List Int)) (L : Int), vs = [.ref x, .ref fa] ∧ H x = some (.ins C dx (flds tu kb st wt fv)) ∧ SqT K H fa [.ref sp, .ref qa] ∧ SqT K H qa (q.map V.int) ∧ LvAt K H sp L ∧ FvAt K H sp fv φ ∧
  ∀ (H' : Hp) (fv' : V) (φ' : Option (List Int)), SameX x H H' → H' x = some (.ins C dx (flds tu kb st wt fv')) → FvAt K H' sp fv' φ' → (φ = none → φ' = some q) → (φ ≠ none → φ' = φ) → Q .non H'
def spLook (K : PySem.W.Frag) (C : Addr) (n : Nat) : Sp := fun vs H Q _ => ∃ (x dx tu kb st wt sp pl : Addr) (fv v : V) (kind k0 : Str) (ks : List KdT) (p : List Int) (t t0 : Tm) (φ : Option (List Int)) (L : Int), vs = [.ref x, .ref sp, .ref pl, v, .str kind] ∧ H x = some (.ins C dx (flds tu kb st wt fv)) ∧ KbAt K H kb ks ∧ WF ks ∧ LvAt K H sp L ∧ SqT K H pl (p.map V.int) ∧ p.length + n ≤ 100 ∧ TmV K H v t ∧ PutT 5 n t ∧ (∃ k ∈ ks, k.2.1 = kind) ∧ Ld (rowK ks) t0 k0 p t kind ∧ FvAt K H sp fv φ ∧ (∀ q, φ = some q → Wr (rowK ks) t0 k0 q) ∧
  ∀ (H' : Hp) (fv' : V) (φ' : Option (List Int)), SameX x H H' → H' x = some (.ins C dx (flds tu kb st wt fv')) → FvAt K H' sp fv' φ' → (∀ q, φ' = some q → Wr (rowK ks) t0 k0 q) → (φ' = none ↔ φ = none ∧ okN (rowK ks) n t kind) → Q .non H'
theorem row_kind {ks : List KdT} (hW : WF ks) {kind name s : Str} {ss : List Str} (e : rowK ks kind name = some ss) (hs : s ∈ ss) : ∃ k ∈ ks, k.2.1 = s := by
  unfold rowK at e
  cases er : (rowsK ks kind).find? fun r => decide (r.2.1 = name) with
  | none => rw [er] at e; cases e
  | some r =>
    rw [er] at e
    have h1 : r.2.2.2 = ss := by simpa using e
    have hm := List.mem_of_find?_eq_some er
    unfold rowsK at hm
    cases ek : ks.find? fun k => decide (k.2.1 = kind) with
    | none => rw [ek] at hm; cases hm
    | some k =>
      rw [ek] at hm
      have hkm := List.mem_of_find?_eq_some ek
      have := (hW.kf k hkm).cl r hm s (by rw [h1]; exact hs)
      obtain ⟨k', hk', e'⟩ := List.mem_map.mp this
      exact ⟨k', hk', e'⟩
section
variable {P : Program} {w : World} {K : PySem.W.Frag} {mg : Str → Option Value} {base : Heap} {f : Addr} {fd : FuncData} {C : Addr}
theorem scMF : FnScope ["self", "fault"] ["self", "fault"] (defScope sMF) := ⟨rfl, rfl, rfl, by decide +kernel, rfl, by decide +kernel, by decide +kernel⟩
theorem ok_mf (F : Fun K "meet_fault" "Demands.meet_fault" sMF f fd) (T : DmT K mg C) (RL : Fn P w K mg base 1 "levels_needed" ["fault"] (spLvN K)) : FnOk P w K mg base CX0 2 f fd ["self", "fault"] (spMF K C) := by
  refine F.ok scMF (fun vs H Q E h => ?_) (fun cdv A outer s H vs Q E hr h => ?_)
  · obtain ⟨x, dx, tu, kb, st, wt, sp, fa, qa, fv, q, φ, L, rfl, _⟩ := h
    rfl
  obtain ⟨x, dx, tu, kb, st, wt, sp, fa, qa, fv, q, φ, L, rfl, hx, hfa, hqa, hL, hφ, hQ⟩ := h
  refine ⟨_, (pss_one (ps_if (PW.pt (pw_or (pt_cmp (pc_isN (pe_fld (pv 0) rfl))) (pw_or1 (pt_cmpR op_lt (pe_fn RL hr (pa_cons (pv 1) pa_nil)) (pe_fn RL hr (pa_cons (pe_fld (pv 0) rfl) pa_nil)) (nomark _))))) (pss_one (ps_fld (pv 0) (pv 1) rfl)) pss_nil)), ?_⟩
  refine ⟨_, rfl, x, C, dx, _, _, rfl, hx, T.cl, T.nF, rfl, _, rfl, ?_⟩
  cases φ with
  | none =>
    obtain rfl : fv = .non := hφ
    refine iteP rfl ⟨_, rfl, _, rfl, x, C, dx, _, rfl, hx, T.cl, T.nF, (by show 5 < 1000; decide), ?_⟩
    rw [putFault]
    have i : InsAt H x := ⟨_, _, _, hx⟩
    exact hQ _ (.ref fa) (some q) SameX.upd upd_same ⟨fa, qa, rfl, i.seqT SameX.upd hfa, i.seqT SameX.upd hqa⟩ (fun _ => rfl) (fun z => absurd rfl z)
  | some q' =>
    obtain ⟨fa', qa', rfl, h1, h2⟩ := hφ
    refine iteN (fun z => nomatch z) ⟨_, rfl, fa, sp, .ref qa, L, rfl, hfa, hL, _, rfl, x, C, dx, _, _, rfl, hx, T.cl, T.nF, rfl, fa', sp, .ref qa', L, rfl, h1, hL, _, _, rfl, rfl, _, rfl, iteN (Int.lt_irrefl _) ?_⟩
    exact hQ H _ (some q') (SameX.refl _ _) hx ⟨fa', qa', rfl, h1, h2⟩ (fun z => nomatch z) (fun _ => rfl)
theorem scLook : FnScope ["self", "spot", "place", "term", "kind", "kinds", "number", "part"] ["self", "spot", "place", "term", "kind"] (defScope sLook) := ⟨rfl, rfl, rfl, by decide +kernel, rfl, by decide +kernel, by decide +kernel⟩
theorem ok_look {n : Nat} (F : Fun K "look" "Demands.look" sLook f fd) (G : Gm mg) (T : DmT K mg C) (RC : Fn P w K mg base 1 "is_call" ["term"] (spIsC K)) {fM : Addr} {fdM : FuncData} (mM : Meth K C "meet_fault" fM) (FM : FnOk P w K mg base CX0 2 fM fdM ["self", "fault"] (spMF K C)) (bM : Binds K fdM ["self", "fault"] [])
    (mL : Meth K C "look" f) (FL : FnOk P w K mg base CX0 (n + 2) f fd ["self", "spot", "place", "term", "kind"] (spLook K C n)) (bL : Binds K fd ["self", "spot", "place", "term", "kind"] []) : FnOk P w K mg base CX0 (n + 3) f fd ["self", "spot", "place", "term", "kind"] (spLook K C (n + 1)) := by
  refine F.ok scLook (fun vs H Q E h => ?_) (fun cdv A outer s H vs Q E hr h => ?_)
  · obtain ⟨x, dx, tu, kb, st, wt, sp, pl, fv, v, kind, k0, ks, p, t, t0, φ, L, rfl, _⟩ := h
    rfl
  obtain ⟨x, dx, tu, kb, st, wt, sp, pl, fv, v, kind, k0, ks, p, t, t0, φ, L, rfl, hx, hkb, hWF, hL, hpl, hpn, hv, hP, hkind, hLd, hφ, hwr, hQ⟩ := h
  have hr2 : Room 2 _ := hr.mono (by omega)
  have hrn : Room (n + 2) _ := hr
  refine ⟨_, (pss_cons (ps_if (pt_val (pe_fn RC hr (pa_cons (pv 3) pa_nil) (by omega))) pss_never pss_nil)
    (pss_cons (ps_set (i := 5) scLook.nd rfl (Or.inl rfl) (pe_dget1 (hu_of hr) (pe_dget (hu_of hr) (pe_fld (pv 0) rfl) (pv 4) (fun _ _ => rfl)) (pe_ix ix_tup (pv 3) pe_int (fun _ _ => rfl)) ⟨rfl, rfl, rfl, rfl⟩))
    (pss_cons (ps_if (PW.pt (pw_or (pt_cmp (pc_isN (pv 5))) (pw_or1 (pt_cmpR op_ne (pe_callB call_len_seq rfl G.len PySem.boot_len (pa_cons (pv 5) pa_nil)) (pe_callB call_len_seq rfl G.len PySem.boot_len (pa_cons (pe_ix ix_tup (pv 3) pe_int (fun _ _ => rfl)) pa_nil)) (nomark _))))) (pss_cons (ps_expr (pe_meth (pv 0) T.cl mM FM hr2 bM .nil pass0 (pa_cons ((pe_tup (pa_cons (pv 1) (pa_cons (pv 2) pa_nil)))) pa_nil)))
    (pss_one (ps_retN))) pss_nil)
    (pss_one (ps_for PassesOwn.never rfl (pi_enum rfl G.enu (pa_cons (pe_ix ix_tup (pv 3) pe_int (fun _ _ => rfl)) pa_nil)) (pg_tup rfl (pgs_cons (pg_name (i := 6) scLook.nd rfl (Or.inl rfl)) (pgs_cons (pg_name (i := 7) scLook.nd rfl (Or.inl rfl)) pgs_nil)))
      (pss_one (ps_expr (pe_meth (pv 0) T.cl mL FL hrn bL .nil pass0 (pa_cons (pv 1) (pa_cons (pe_op op_catG (pv 2) (pe_tup (pa_cons (pv 6) pa_nil))) (pa_cons (pv 7) (pa_cons (pe_ix ix_tup (pv 5) (pv 6) (fun _ _ => rfl)) pa_nil)))))))))))), ?_⟩
  refine ⟨_, rfl, v, t, rfl, hv, _, rfl, ?_⟩
  rw [hP.isC]
  refine iteF ?_
  obtain ⟨⟨nm, kp, ad, elb, hnm⟩, hbl, hbs⟩ := hP
  rcases tm_open hv with ⟨a, mo, b, rfl, rfl, h1⟩ | ⟨a, b, bs, nm', k', ad', rfl, et, h1, h2, h3, h4⟩
  · cases elb
  have hlen := h3.length
  have enm : nmP t = nm' := by unfold nmP; rw [et]; rfl
  have i0 : InsAt H x := ⟨_, _, _, hx⟩
  obtain ⟨d, o, hd, hdD, hdo, hrow⟩ := hkb.get hkind nm'
  refine ⟨_, rfl, x, C, dx, _, _, rfl, hx, T.cl, T.nK, rfl, _, rfl, kb, .ref d, rfl, hd, d, rfl, hdD, _, rfl, a, _, 1, _, rfl, rfl, h1, rfl, o, hdo, ?_⟩
  have fault : ¬ Fits (rowK ks) t kind → ∀ pp, H pp = none → spMF K C (.ref x :: ([.ref pp] ++ [])) (upd H pp (.tup [.ref sp, .ref pl])) (fun _ H' => Q .non H') E0 := fun hno pp hpp => by
    have g := same_new hpp (.tup [.ref sp, .ref pl])
    refine ⟨x, dx, tu, kb, st, wt, sp, pp, pl, fv, p, φ, L, rfl, g _ _ hx, SqT.of upd_same, g.seqT hpl, hL.mono fun _ _ => g.seqT, hφ.mono fun _ _ => g.seqT, fun H' fv' φ' gx hx' hφ' e1 e2 => ?_⟩
    refine hQ H' fv' φ' ((SameX.of g).trans gx) hx' hφ' (fun q hq => ?_) ?_
    · cases hφc : φ with
      | none =>
        rw [e1 hφc] at hq
        obtain rfl := Option.some.inj hq
        exact hLd.wr hno
      | some q0 =>
        rw [e2 (by rw [hφc]; exact fun z => nomatch z), hφc] at hq
        exact hwr q (by rw [hφc]; exact hq)
    · constructor
      · intro hn
        cases hφc : φ with
        | none => rw [e1 hφc] at hn; cases hn
        | some q0 => rw [e2 (by rw [hφc]; exact fun z => nomatch z), hφc] at hn; cases hn
      · rintro ⟨_, ss, g1, g2, _⟩
        exact absurd ⟨ss, g1, g2⟩ hno
  cases er : rowK ks kind nm' with
  | none =>
    rw [er] at hrow
    have hno : ¬ Fits (rowK ks) t kind := fun ⟨ss, g1, _⟩ => by rw [enm, er] at g1; cases g1
    rw [show o.getD .non = .non from hrow]
    exact ⟨_, rfl, _, rfl, iteP rfl ⟨_, rfl, x, dx, _, rfl, hx, rfl, _, rfl, _, rfl, (by show 2 ≤ sizeLine; decide), fun pp hpp => fault hno pp hpp⟩⟩
  | some ss =>
    rw [er] at hrow
    obtain ⟨kk, ekk, hkk⟩ := hrow
    rw [ekk]
    refine ⟨_, rfl, _, rfl, iteN (fun z => nomatch z) ⟨_, rfl, kk, _, rfl, .inr hkk, _, rfl, a, _, 4, _, rfl, rfl, h1, rfl, b, _, rfl, .inr h2, rfl, _, rfl, ?_⟩⟩
    by_cases hl : ss.length = t.bs.length
    · refine iteNS (by rw [List.length_map, hl, hlen]) ?_
      refine ⟨_, rfl, a, _, 4, _, rfl, rfl, h1, rfl, b, bs, rfl, h2, ?_⟩
      refine for_enum (K := K) (xs := bs) (fun i σ H' => ∃ (c6 c7 : Option V) (fv' : V) (φ' : Option (List Int)), σ = [some (.ref x), some (.ref sp), some (.ref pl), some (.ref a), some (.str kind), some (.ref kk), c6, c7] ∧ SameX x H H' ∧ H' x = some (.ins C dx (flds tu kb st wt fv')) ∧ FvAt K H' sp fv' φ' ∧ (∀ q, φ' = some q → Wr (rowK ks) t0 k0 q) ∧
          (φ' = none ↔ φ = none ∧ ∀ (j : Nat) b s, j < i → t.bs[j]? = some b → ss[j]? = some s → okN (rowK ks) n b s))
        ⟨none, none, fv, φ, rfl, SameX.refl _ _, hx, hφ, hwr, ⟨fun z => ⟨z, fun j _ _ hj => by omega⟩, fun z => z.1⟩⟩ ?_ ?_ ?_
      · rintro i σ H' _ ⟨c6, c7, fv', φ', _, g, _⟩
        exact i0.seqT g h2
      · rintro i u pp σ H' hu hpp ⟨c6, c7, fv', φ', rfl, g, hx', hφ', hwr', hiff⟩
        have hib : i < bs.length := (List.getElem?_eq_some_iff.mp hu).1
        have hit : i < t.bs.length := by omega
        have his : i < ss.length := by omega
        obtain ⟨cv, hcv, hct⟩ := h3.get (List.getElem?_eq_getElem hit)
        obtain rfl : cv = u := Option.some.inj (hcv.symm.trans hu)
        have gp := same_new hpp (.tup [.int (i : Int), cv])
        have g1 := g.trans (SameX.of gp)
        have hx1 := gp _ _ hx'
        refine ⟨pp, _, rfl, SqT.of upd_same, rfl, _, _, rfl, _, _, rfl, rfl, ?_⟩
        refine ⟨_, rfl, x, dx, _, rfl, hx1, rfl, _, rfl, _, rfl, _, rfl, (by show 1 ≤ sizeLine; decide), fun p1 hp1 => ?_⟩
        have g2' := same_new hp1 (.tup [.int (i : Int)])
        have g2 := g1.trans (SameX.of g2')
        refine ⟨pl, p1, p.map V.int, [.int (i : Int)], rfl, rfl, i0.seqT g2 hpl, SqT.of upd_same, (by rw [List.length_map, size_line]; simp only [List.length_singleton]; omega), fun p2 H3 g3' hp2 => ?_⟩
        have ecat : p.map V.int ++ [V.int (i : Int)] = (p ++ [(i : Int)]).map V.int := by rw [List.map_append]; rfl
        rw [ecat] at hp2
        have g3 := g2.trans (SameX.of g3')
        have gpp := gp.trans (g2'.trans g3')
        refine ⟨_, rfl, _, rfl, _, rfl, kk, _, _, .str ss[i], rfl, rfl, i0.seqT g3 hkk, atI_nat (by rw [List.getElem?_map, List.getElem?_eq_getElem his]; rfl), ?_⟩
        refine ⟨x, dx, tu, kb, st, wt, sp, p2, fv', cv, ss[i], k0, ks, p ++ [(i : Int)], t.bs[i], t0, φ', L, rfl, gpp _ _ hx', hkb.insX i0 g3, hWF, hL.mono fun _ _ => i0.seqT g3, hp2, by rw [List.length_append, List.length_singleton]; omega, hct.mono fun _ _ => i0.seqT g3, hbs _ (List.getElem_mem hit), row_kind hWF er (List.getElem_mem his), hLd.snoc (by rw [enm]; exact er) hl (List.getElem?_eq_getElem hit) (List.getElem?_eq_getElem his), hφ'.mono fun _ _ => gpp.seqT, hwr', fun H4 fv4 φ4 g4 hx4 hφ4 hwr4 hiff4 => ?_⟩
        refine ⟨_, _, fv4, φ4, rfl, g3.trans g4, hx4, hφ4, hwr4, hiff4.trans ⟨fun ⟨e1, e2⟩ => ⟨(hiff.mp e1).1, fun j b' s' hj hb hs => ?_⟩, fun ⟨e1, e2⟩ => ⟨hiff.mpr ⟨e1, fun j b' s' hj => e2 j b' s' (by omega)⟩, e2 i _ _ (by omega) (List.getElem?_eq_getElem hit) (List.getElem?_eq_getElem his)⟩⟩⟩
        by_cases hji : j = i
        · subst hji
          rw [List.getElem?_eq_getElem hit] at hb
          rw [List.getElem?_eq_getElem his] at hs
          obtain rfl := Option.some.inj hb
          obtain rfl := Option.some.inj hs
          exact e2
        · exact (hiff.mp e1).2 j b' s' (by omega) hb hs
      · rintro σ H' ⟨c6, c7, fv', φ', rfl, g, hx', hφ', hwr', hiff⟩
        refine hQ H' fv' φ' g hx' hφ' hwr' (hiff.trans ⟨fun ⟨e1, e2⟩ => ⟨e1, ss, by rw [enm]; exact er, hl, fun i b s hb hs => e2 i b s (by rw [hlen]; exact (List.getElem?_eq_some_iff.mp hb).1) hb hs⟩, ?_⟩)
        rintro ⟨e1, ss', g1, g2, g3⟩
        rw [enm, er] at g1
        obtain rfl := Option.some.inj g1
        exact ⟨e1, fun j b s _ hb hs => g3 j b s hb hs⟩
    · have hno : ¬ Fits (rowK ks) t kind := fun ⟨ss', g1, g2⟩ => by
        rw [enm, er] at g1
        obtain rfl := Option.some.inj g1
        exact hl g2
      have e2 : (!decide (V.int (((ss.map V.str).length : Nat) : Int) = V.int ((bs.length : Nat) : Int))) = true := by
        rw [List.length_map, decide_eq_false]
        · rfl
        · intro z
          injection z with z
          omega
      rw [e2]
      exact iteT ⟨_, rfl, x, dx, _, rfl, hx, rfl, _, rfl, _, rfl, (by show 2 ≤ sizeLine; decide), fun pp hpp => fault hno pp hpp⟩
theorem none_look {k : Nat} : FnOk P w K mg base CX0 k f fd ["self", "spot", "place", "term", "kind"] (spLook K C 0) := by
  have no : ∀ vs H Q E, ¬ spLook K C 0 vs H Q E := fun vs H Q E h => by
    obtain ⟨x, dx, tu, kb, st, wt, sp, pl, fv, v, kind, k0, ks, p, t, t0, φ, L, _, _, _, _, _, _, _, _, h0, _⟩ := h
    exact h0
  exact ⟨fun vs H Q E h => absurd h (no vs H Q E), fun A outer s H args us vs Q E _ _ _ _ h => absurd h (no vs H Q E)⟩
theorem all_look (F : Fun K "look" "Demands.look" sLook f fd) (G : Gm mg) (T : DmT K mg C) (RC : Fn P w K mg base 1 "is_call" ["term"] (spIsC K)) {fM : Addr} {fdM : FuncData} (mM : Meth K C "meet_fault" fM) (FM : FnOk P w K mg base CX0 2 fM fdM ["self", "fault"] (spMF K C)) (bM : Binds K fdM ["self", "fault"] [])
    (mL : Meth K C "look" f) (bL : Binds K fd ["self", "spot", "place", "term", "kind"] []) : ∀ n : Nat, FnOk P w K mg base CX0 (n + 2) f fd ["self", "spot", "place", "term", "kind"] (spLook K C n)
  | 0 => none_look
  | n + 1 => ok_look F G T RC mM FM bM mL (all_look F G T RC mM FM bM mL bL n) bL
end
end K60
namespace K60
open PySem L2 TM TT K9 K11
def fl1 (tu : Addr) : List (Str × V) := [("turning", .ref tu)]
def fl2 (tu kb : Addr) : List (Str × V) := [("turning", .ref tu), ("kinds_below", .ref kb)]
def fl3 (tu kb st : Addr) : List (Str × V) := [("turning", .ref tu), ("kinds_below", .ref kb), ("steps", .ref st)]
def fl4 (tu kb st wt : Addr) : List (Str × V) := [("turning", .ref tu), ("kinds_below", .ref kb), ("steps", .ref st), ("waiting", .ref wt)]
theorem f1 (tu : Addr) : putF "turning" (.ref tu) [] = fl1 tu := rfl
theorem f2 (tu kb : Addr) : putF "kinds_below" (.ref kb) (fl1 tu) = fl2 tu kb := by
  unfold fl1
  rw [put_no (by decide +kernel)]; rfl
theorem f3 (tu kb st : Addr) : putF "steps" (.ref st) (fl2 tu kb) = fl3 tu kb st := by
  unfold fl2
  rw [put_no (by decide +kernel), put_no (by decide +kernel)]; rfl
theorem f4 (tu kb st wt : Addr) : putF "waiting" (.ref wt) (fl3 tu kb st) = fl4 tu kb st wt := by
  unfold fl3
  rw [put_no (by decide +kernel), put_no (by decide +kernel), put_no (by decide +kernel)]; rfl
theorem f5 (tu kb st wt : Addr) : putF "fault" .non (fl4 tu kb st wt) = flds tu kb st wt .non := by
  unfold fl4
  rw [put_no (by decide +kernel), put_no (by decide +kernel), put_no (by decide +kernel), put_no (by decide +kernel)]; rfl
abbrev rDictP (K : PySem.W.Frag) : List V → Hp → VK → Prop := fun xs H Q => ∃ (l : Addr) (ts : List (Addr × Str × V)), xs = [.ref l] ∧ SqL K H l (ts.map fun t => V.ref t.1) ∧ (∀ t ∈ ts, SqT K H t.1 [.str t.2.1, t.2.2]) ∧ (ts.map fun t => t.2.1).Nodup ∧ ts.length ≤ 1000 ∧
    ∀ d, H d = none → Q (.ref d) (upd H d (.dK (ts.map fun t => ((Sum.inr t.2.1 : Key), t.2.2))))
theorem WoodAt.insX {K : PySem.W.Frag} {H H' : Hp} {x wd : Addr} {ks : List KdT} (i : InsAt H x) (g : SameX x H H') (h : WoodAt K H wd ks) : WoodAt K H' wd ks :=
  ⟨i.seq g h.1, fun k hk => ⟨i.seqT g (h.2 k hk).1, i.seq g (h.2 k hk).2.1, fun t ht => ⟨i.seqT g ((h.2 k hk).2.2 t ht).1, i.seqT g ((h.2 k hk).2.2 t ht).2⟩⟩⟩
def spInit (K : PySem.W.Frag) (C : Addr) (n : Nat) : Sp := fun vs H Q _ => ∃ (x dx tu wd lm wo : Addr) (sv : V) (ks1 ks : List KdT) (k01 k00 : KdT) (t0 : Tm), vs = [.ref x, .ref tu, .ref wo] ∧ H x = some (.ins C dx []) ∧ SqT K H tu [.ref wd, sv, .ref lm] ∧ WoodAt K H wd ks1 ∧ ks1[0]? = some k01 ∧ WoodAt K H wo ks ∧ WF ks ∧ ks[0]? = some k00 ∧ TmV K H sv t0 ∧ PutT 5 n t0 ∧ n ≤ 100 ∧
  ∀ (H' : Hp) (kb st wt sp rw kk : Addr) (fv : V) (φ : Option (List Int)), SameX x H H' → H' x = some (.ins C dx (flds tu kb st wt fv)) → SqT K H' sp [.int 0, .non, .ref rw] → SqT K H' rw [.str (S []), .ref kk] → SqT K H' kk [.str k01.2.1] → FvAt K H' sp fv φ → (∀ q, φ = some q → Wr (rowK ks) t0 k00.2.1 q) → (φ = none ↔ okN (rowK ks) n t0 k00.2.1) → Q .non H'
def spTP (K : PySem.W.Frag) (C : Addr) : Sp := fun vs H Q _ => ∃ (x dx tu kb st wt sp rw kk wd lm : Addr) (sv fv : V) (ks1 : List KdT) (q : List Int) (nm k : Str), vs = [.ref x] ∧ H x = some (.ins C dx (flds tu kb st wt fv)) ∧ SqT K H tu [.ref wd, sv, .ref lm] ∧ WoodAt K H wd ks1 ∧ WoodOk ks1 ∧ SqT K H sp [.int 0, .non, .ref rw] ∧ SqT K H rw [.str nm, .ref kk] ∧ SqT K H kk [.str k] ∧ HasLeaf ks1 k ∧ FvAt K H sp fv (some q) ∧
  ∀ (p qa : Addr) (v : V) (H' : Hp), Same H H' → SqT K H' p [v, .ref qa] → TrV K H' v (leafT ks1 k) → SqT K H' qa (q.map V.int) → Q (.ref p) H'
def spStr (K : PySem.W.Frag) (n : Nat) : Sp := fun vs H Q _ => ∃ (tu wd lm wo : Addr) (sv : V) (ks1 ks : List KdT) (k01 k00 : KdT) (t0 : Tm), vs = [.ref tu, .ref wo] ∧ SqT K H tu [.ref wd, sv, .ref lm] ∧ WoodAt K H wd ks1 ∧ WoodOk ks1 ∧ ks1[0]? = some k01 ∧ HasLeaf ks1 k01.2.1 ∧ WoodAt K H wo ks ∧ WF ks ∧ ks[0]? = some k00 ∧ TmV K H sv t0 ∧ PutT 5 n t0 ∧
  (okN (rowK ks) n t0 k00.2.1 → ∀ H', Same H H' → Q .non H') ∧ ∀ (p qa : Addr) (v : V) (q : List Int) (H' : Hp), Same H H' → SqT K H' p [v, .ref qa] → TrV K H' v (leafT ks1 k01.2.1) → SqT K H' qa (q.map V.int) → Wr (rowK ks) t0 k00.2.1 q → Q (.ref p) H'
section
variable {P : Program} {w : World} {K : PySem.W.Frag} {mg : Str → Option Value} {base : Heap} {f : Addr} {fd : FuncData} {C : Addr}
theorem scInit : FnScope ["self", "turning", "wood", "done"] ["self", "turning", "wood"] (defScope sInit) := ⟨rfl, rfl, rfl, by decide +kernel, rfl, by decide +kernel, by decide +kernel⟩
theorem ok_init {n : Nat} (F : Fun K "__init__" "Demands.__init__" sInit f fd) (G : Gm mg) (T : DmT K mg C) (RA : Fn P w K mg base 1 "row_above" ["wood"] (spAbove K)) {fL : Addr} {fdL : FuncData} (mL : Meth K C "look" fL) (FL : FnOk P w K mg base CX0 (n + 2) fL fdL ["self", "spot", "place", "term", "kind"] (spLook K C n)) (bL : Binds K fdL ["self", "spot", "place", "term", "kind"] []) :
    FnOk P w K mg base CX0 (n + 3) f fd ["self", "turning", "wood"] (spInit K C n) := by
  refine F.ok scInit (fun vs H Q E h => ?_) (fun cdv A outer s H vs Q E hr h => ?_)
  · obtain ⟨x, dx, tu, wd, lm, wo, sv, ks1, ks, k01, k00, t0, rfl, _⟩ := h
    rfl
  obtain ⟨x, dx, tu, wd, lm, wo, sv, ks1, ks, k01, k00, t0, rfl, hx, htu, hW1, hk01, hWo, hWF, hk00, hsv, hP, hn, hQ⟩ := h
  have hrn : Room (n + 2) _ := hr
  refine ⟨_, (pss_cons (ps_fld (pv 0) (pv 1) rfl)
    (pss_cons (ps_fld (pv 0) (pe_callTy (call_dictP rfl) rfl G.dct PyProof.Rows.boot_dict (pa_cons (pe_lcompG (CompG.many (xs := ["kind", "rows"]) (caps := []) (cap := []) (cs := []) rfl rfl (by decide +kernel) (by decide +kernel) (by decide +kernel) (by decide +kernel) (by decide +kernel) (by decide +kernel) rfl rfl rfl) rfl (pi_list (pv 2)) (pg_c2 (CompG.many (xs := ["kind", "rows"]) (caps := []) (cap := []) (cs := []) rfl rfl (by decide +kernel) (by decide +kernel) (by decide +kernel) (by decide +kernel) (by decide +kernel) (by decide +kernel) rfl rfl rfl) rfl) (fun _ _ _ _ => pf_nil) (fun _ _ _ _ => (pe_tup (pa_cons (pv 0) (pa_cons (pe_callTy (r := rDictP K) (call_dictP rfl) rfl G.dct PyProof.Rows.boot_dict (pa_cons (pv 1) pa_nil)) pa_nil))))) pa_nil)) rfl)
    (pss_cons (ps_fld (pv 0) pe_dnewT rfl)
    (pss_cons (ps_fld (pv 0) (pe_lst pa_nil) rfl)
    (pss_cons (ps_fld (pv 0) pe_non rfl)
    (pss_cons (ps_expr (pe_meth (pv 0) T.cl mL FL hrn bL .nil pass0 (pa_cons ((pe_tup (pa_cons (pe_int) (pa_cons (pe_non) (pa_cons (pe_fn RA hr (pa_cons (pe_ix ix_tup (pv 1) pe_int (fun _ _ => rfl)) pa_nil) (by omega)) pa_nil))))) (pa_cons (pe_tup pa_nil) (pa_cons (pe_ix ix_tup (pv 1) pe_int (fun _ _ => rfl)) (pa_cons (pe_ix ix_tup (pe_ix ix_list (pv 2) pe_int (fun _ _ => rfl)) pe_int (fun _ _ => rfl)) pa_nil))))))
    (pss_cons (ps_set (i := 3) scInit.nd rfl (Or.inl rfl) pe_int)
    (pss_one (ps_while PassesOwn.never (pt_cmpR op_lt (pv 3) (pe_callB call_len_seq rfl G.len PySem.boot_len (pa_cons (pe_fld (pv 0) rfl) pa_nil)) (nomark _)) pss_never))))))))), ?_⟩
  have i0 : InsAt H x := ⟨_, _, _, hx⟩
  refine ⟨_, rfl, _, rfl, x, C, dx, _, rfl, hx, T.cl, T.nT, (by show 0 < 1000; decide), ?_⟩
  rw [f1]
  have g1 : SameX x H (upd H x (.ins C dx (fl1 tu))) := SameX.upd
  generalize hH1 : upd H x (.ins C dx (fl1 tu)) = H1 at g1 ⊢
  have hx1 : H1 x = some (.ins C dx (fl1 tu)) := by rw [← hH1]; exact upd_same
  have hWo1 := WoodAt.insX i0 g1 hWo
  have hnk := hWF.ok.nd
  have hkl := hWF.l3
  refine ⟨_, rfl, wo, rfl, ⟨_, hWo1.1⟩, fun acc hacc => ?_⟩
  refine c2_list (K := K) (xs := ks.map fun k => V.ref k.1) (cs := []) (tt := fun _ H Q => Q true H) (te := tTup (tCons (tVar 0) (tCons (tCB (rDictP K) (tCons (tVar 1) tNil)) tNil))) (fun i ys H' => ∃ l : List (KdT × Addr × Addr), ys = l.map (fun q => V.ref q.2.1) ∧ l.map (·.1) = ks.take i ∧ (∀ q ∈ l, SqT K H' q.2.1 [.str q.1.2.1, .ref q.2.2] ∧ H' q.2.2 = some (.dK (q.1.2.2.2.map fun r => ((Sum.inr r.2.1 : Key), V.ref r.2.2.1)))) ∧ H' acc = some (.lst ys) ∧ Same H1 H')
    ⟨[], rfl, rfl, fun q hq => (nomatch hq), upd_same, same_new hacc _⟩ ?_ ?_ ?_
  · rintro i ys H' _ ⟨l, _, _, _, _, g⟩
    exact g.seq hWo1.1
  · rintro i y ys H' hi hy ⟨l, rfl, hl1, hl2, hya, g⟩
    have hik : i < ks.length := by rw [List.length_map] at hi; exact hi
    obtain rfl : y = .ref ks[i].1 := by
      rw [List.getElem?_map, List.getElem?_eq_getElem hik] at hy
      exact (Option.some.inj hy).symm
    have hkm := List.getElem_mem hik
    obtain ⟨hk1, hkr⟩ := (hWo1.same g).2 _ hkm
    have hro := hWF.ok.rows _ hkm
    have hrl := hro.len
    have hll : l.length = i := by
      have := congrArg List.length hl1
      rw [List.length_map, List.length_take] at this
      omega
    refine ⟨ks[i].1, _, _, rfl, hk1, iteT ⟨_, rfl, _, rfl, ks[i].2.2.1, ks[i].2.2.2.map (fun r => (r.1, r.2.1, V.ref r.2.2.1)), rfl, (by rw [List.map_map]; exact hkr.1), fun t ht => ?_, (by rw [List.map_map]; exact hro.nd), (by rw [List.length_map]; omega), fun d hd => ⟨(by show 2 ≤ sizeLine; decide), fun p2 hp2 => ?_⟩⟩⟩
    · obtain ⟨r, hr, rfl⟩ := List.mem_map.mp ht
      exact (hkr.2 r hr).1
    have ed : (ks[i].2.2.2.map (fun r => (r.1, r.2.1, V.ref r.2.2.1))).map (fun t => ((Sum.inr t.2.1 : Key), t.2.2)) = ks[i].2.2.2.map fun r => ((Sum.inr r.2.1 : Key), V.ref r.2.2.1) := by rw [List.map_map]; rfl
    rw [ed] at hp2 ⊢
    have e1 := same_new hd (.dK (ks[i].2.2.2.map fun r => ((Sum.inr r.2.1 : Key), V.ref r.2.2.1)))
    have e2 := same_new hp2 (.tup [.str ks[i].2.1, .ref d])
    have e12 := e1.trans e2
    have hya2 := e12 _ _ hya
    have hda : d ≠ acc := fun z => by rw [z, hya] at hd; cases hd
    refine comp_next (ys := l.map fun q => V.ref q.2.1) hi hya2 (by rw [List.length_map]; omega) ⟨l ++ [(ks[i], p2, d)], by simp, ?_, fun q hq => ?_, upd_same, fun b u e => by rw [upd_ne (ne_of_none e hacc)]; exact e12 _ _ (g _ _ e)⟩
    · rw [List.map_append, hl1, List.take_add_one, List.getElem?_eq_getElem hik]; rfl
    · rcases List.mem_append.mp hq with z | z
      · obtain ⟨a1, a2⟩ := hl2 q z
        refine ⟨(e12.seqT a1).put hya2, ?_⟩
        rw [upd_ne (ne_of (e12 _ _ a2) hya2 (by intro z; cases z))]
        exact e12 _ _ a2
      · have : q = (ks[i], p2, d) := by simpa using z
        rw [this]
        refine ⟨SqT.put (SqT.of upd_same) hya2, ?_⟩
        show upd _ acc _ d = _
        rw [upd_ne hda]
        exact e2 _ _ upd_same
  rintro ys H2 ⟨l, rfl, hl1, hl2, hya, g2⟩
  rw [List.length_map, List.take_length] at hl1
  have hll : l.length = ks.length := by
    have := congrArg List.length hl1
    rwa [List.length_map] at this
  refine ⟨acc, l.map (fun q => (q.2.1, q.1.2.1, V.ref q.2.2)), rfl, (by rw [List.map_map]; exact SqL.of hya), fun t ht => ?_, ?_, (by rw [List.length_map]; omega), fun kb hkb => ?_⟩
  · obtain ⟨q, hq, rfl⟩ := List.mem_map.mp ht
    exact (hl2 q hq).1
  · rw [List.map_map]
    have : (l.map ((fun t : Addr × Str × V => t.2.1) ∘ fun q : KdT × Addr × Addr => (q.2.1, q.1.2.1, V.ref q.2.2))) = ks.map fun k => k.2.1 := by rw [← hl1, List.map_map]; rfl
    rw [this]
    exact hnk
  have ed : (l.map (fun q : KdT × Addr × Addr => (q.2.1, q.1.2.1, V.ref q.2.2))).map (fun t => ((Sum.inr t.2.1 : Key), t.2.2)) = (l.map fun q => (q.1, q.2.2)).map fun q => ((Sum.inr q.1.2.1 : Key), V.ref q.2) := by rw [List.map_map, List.map_map]; rfl
  rw [ed]
  have g3 := same_new hkb (.dK ((l.map fun q => (q.1, q.2.2)).map fun q => ((Sum.inr q.1.2.1 : Key), V.ref q.2)))
  have g13 := g2.trans g3
  have hkb3 : KbAt K (upd H2 kb (.dK ((l.map fun q => (q.1, q.2.2)).map fun q => ((Sum.inr q.1.2.1 : Key), V.ref q.2)))) kb ks := by
    refine ⟨l.map fun q => (q.1, q.2.2), by rw [List.map_map]; exact hl1, upd_same, fun q hq => ?_⟩
    obtain ⟨q', hq', rfl⟩ := List.mem_map.mp hq
    refine ⟨g3 _ _ (hl2 q' hq').2, fun r hr => ?_⟩
    have hqk : q'.1 ∈ ks := by rw [← hl1]; exact List.mem_map.mpr ⟨q', hq', rfl⟩
    exact g13.seqT (((hWo1.2 _ hqk).2.2 r hr).2)
  generalize upd H2 kb (.dK ((l.map fun q => (q.1, q.2.2)).map fun q => ((Sum.inr q.1.2.1 : Key), V.ref q.2))) = H3 at g3 g13 hkb3 ⊢
  have hx3 := g13 _ _ hx1
  have i3 : InsAt H3 x := ⟨_, _, _, hx3⟩
  refine ⟨_, rfl, x, C, dx, _, rfl, hx3, T.cl, T.nK, (by show 1 < 1000; decide), ?_⟩
  rw [f2]
  have g4' : SameX x H3 (upd H3 x (.ins C dx (fl2 tu kb))) := SameX.upd
  generalize hH4 : upd H3 x (.ins C dx (fl2 tu kb)) = H4 at g4' ⊢
  have hx4 : H4 x = some (.ins C dx (fl2 tu kb)) := by rw [← hH4]; exact upd_same
  refine fun st hst => ⟨_, rfl, x, C, dx, _, rfl, (same_new hst _) _ _ hx4, T.cl, T.nS, (by show 2 < 1000; decide), ?_⟩
  rw [f3]
  have g5 := same_new hst (.dT [])
  have g6' : SameX x (upd H4 st (.dT [])) (upd (upd H4 st (.dT [])) x (.ins C dx (fl3 tu kb st))) := SameX.upd
  have g36 : SameX x H3 (upd (upd H4 st (.dT [])) x (.ins C dx (fl3 tu kb st))) := g4'.trans ((SameX.of g5).trans g6')
  generalize hH6 : upd (upd H4 st (.dT [])) x (.ins C dx (fl3 tu kb st)) = H6 at g36 ⊢
  have hx6 : H6 x = some (.ins C dx (fl3 tu kb st)) := by rw [← hH6]; exact upd_same
  refine ⟨(by show 0 ≤ sizeLine; decide), fun wt hwt => ⟨_, rfl, x, C, dx, _, rfl, (same_new hwt _) _ _ hx6, T.cl, T.nW, (by show 3 < 1000; decide), ?_⟩⟩
  rw [f4]
  have g7 := same_new hwt (.lst [])
  have hwx : wt ≠ x := fun z => by rw [z, hx6] at hwt; cases hwt
  have g8' : SameX x (upd H6 wt (.lst [])) (upd (upd H6 wt (.lst [])) x (.ins C dx (fl4 tu kb st wt))) := SameX.upd
  have g38 : SameX x H3 (upd (upd H6 wt (.lst [])) x (.ins C dx (fl4 tu kb st wt))) := g36.trans ((SameX.of g7).trans g8')
  have hwt8 : upd (upd H6 wt (.lst [])) x (.ins C dx (fl4 tu kb st wt)) wt = some (.lst []) := by rw [upd_ne hwx]; exact upd_same
  generalize hH8 : upd (upd H6 wt (.lst [])) x (.ins C dx (fl4 tu kb st wt)) = H8 at g38 hwt8 ⊢
  have hx8 : H8 x = some (.ins C dx (fl4 tu kb st wt)) := by rw [← hH8]; exact upd_same
  refine ⟨_, rfl, x, C, dx, _, rfl, hx8, T.cl, T.nF, (by show 4 < 1000; decide), ?_⟩
  rw [f5]
  have g9' : SameX x H8 (upd H8 x (.ins C dx (flds tu kb st wt .non))) := SameX.upd
  have g39 := g38.trans g9'
  have hwt9 : upd H8 x (.ins C dx (flds tu kb st wt .non)) wt = some (.lst []) := by rw [upd_ne hwx]; exact hwt8
  generalize hH9 : upd H8 x (.ins C dx (flds tu kb st wt .non)) = H9 at g39 hwt9 ⊢
  have hx9 : H9 x = some (.ins C dx (flds tu kb st wt .non)) := by rw [← hH9]; exact upd_same
  have i9 : InsAt H9 x := ⟨_, _, _, hx9⟩
  have g09 : SameX x H H9 := g1.trans ((SameX.of g13).trans g39)
  refine ⟨_, rfl, x, dx, _, rfl, hx9, rfl, _, rfl, tu, _, 0, _, rfl, rfl, i0.seqT g09 htu, rfl, wd, ks1, k01, rfl, WoodAt.insX i0 g09 hW1, hk01, fun rw kk H10 g10 hrw hkk => ⟨(by show 3 ≤ sizeLine; decide), fun sp hsp => ⟨(by show 0 ≤ sizeLine; decide), fun pl hpl => ?_⟩⟩⟩
  have g11 := same_new hsp (.tup [.int 0, .non, .ref rw])
  have g12 := same_new hpl (.tup [])
  have g9c := g10.trans (g11.trans g12)
  have g0c : SameX x H _ := g09.trans (SameX.of g9c)
  have hat : atI (ks.map fun k => V.ref k.1) 0 = some (.ref k00.1) := atI_nat (j := 0) (by rw [List.getElem?_map, hk00]; rfl)
  have hWoc := WoodAt.insX i0 g0c hWo
  refine ⟨_, rfl, tu, _, 1, _, rfl, rfl, i0.seqT g0c htu, rfl, _, rfl, wo, _, 0, _, rfl, rfl, hWoc.1, hat, k00.1, _, 0, _, rfl, rfl, (hWoc.2 k00 (List.mem_of_getElem? hk00)).1, rfl, ?_⟩
  have hspc : SqT K (upd (upd H10 sp (.tup [.int 0, .non, .ref rw])) pl (.tup [])) sp [.int 0, .non, .ref rw] := g12.seqT (SqT.of upd_same)
  have hrwc := (g11.trans g12).seqT hrw
  have hkkc := (g11.trans g12).seqT hkk
  refine ⟨x, dx, tu, kb, st, wt, sp, pl, .non, sv, k00.2.1, k00.2.1, ks, [], t0, t0, none, _, rfl, g9c _ _ hx9, (hkb3.insX i3 g39).same g9c, hWF, ⟨0, .non, rw, kk, S [], _, hspc, hrwc, hkkc, rfl⟩, SqT.of upd_same, by simp only [List.length_nil]; omega, hsv.mono fun _ _ => i0.seqT g0c, hP, ⟨k00, List.mem_of_getElem? hk00, rfl⟩, ⟨rfl, rfl⟩, rfl, fun q hq => (nomatch hq), fun H' fv' φ' gx hx' hφ' hwr hiff => ?_⟩
  have ic : InsAt (upd (upd H10 sp (.tup [.int 0, .non, .ref rw])) pl (.tup [])) x := ⟨_, _, _, g9c _ _ hx9⟩
  have hwt' := ic.lst gx (g9c _ _ hwt9)
  refine ⟨fun m σ H'' => σ = [some (.ref x), some (.ref tu), some (.ref wo), some (.int 0)] ∧ H'' = H', ⟨0, rfl, rfl⟩, ?_⟩
  rintro m σ H'' ⟨rfl, rfl⟩
  refine ⟨_, rfl, _, rfl, x, C, dx, _, _, rfl, hx', T.cl, T.nW, rfl, wt, [], rfl, .inl (SqL.of hwt'), _, _, rfl, rfl, _, rfl, iteN (show ¬ ((0 : Int) < ((([] : List V).length : Nat) : Int)) by decide) ?_⟩
  exact hQ _ kb st wt sp rw kk fv' φ' (g0c.trans gx) hx' (ic.seqT gx hspc) (ic.seqT gx hrwc) (ic.seqT gx hkkc) hφ' hwr (hiff.trans ⟨fun z => z.2, fun z => ⟨rfl, z⟩⟩)
theorem scTP : FnScope ["self", "spot", "place", "demand", "way", "step"] ["self"] (defScope sTP) := ⟨rfl, rfl, rfl, by decide +kernel, rfl, by decide +kernel, by decide +kernel⟩
theorem ok_tp (F : Fun K "tree_and_place" "Demands.tree_and_place" sTP f fd) (G : Gm mg) (T : DmT K mg C) (RT : Fn P w K mg base 4 "tree_on" ["wood", "way", "row", "mark"] (spTreeOn K)) : FnOk P w K mg base CX0 5 f fd ["self"] (spTP K C) := by
  refine F.ok scTP (fun vs H Q E h => ?_) (fun cdv A outer s H vs Q E hr h => ?_)
  · obtain ⟨x, dx, tu, kb, st, wt, sp, rw, kk, wd, lm, sv, fv, ks1, q, nm, k, rfl, _⟩ := h
    rfl
  obtain ⟨x, dx, tu, kb, st, wt, sp, rw, kk, wd, lm, sv, fv, ks1, q, nm, k, rfl, hx, htu, hW, hO, hsp, hrw, hkk, hL, ⟨fa, qa, rfl, hfa, hqa⟩, hQ⟩ := h
  refine ⟨_, (pss_cons (ps_set (i := 1) scTP.nd rfl (Or.inl rfl) (pe_ix ix_tup (pe_fld (pv 0) rfl) pe_int (fun _ _ => rfl)))
    (pss_cons (ps_set (i := 2) scTP.nd rfl (Or.inl rfl) (pe_ix ix_tup (pe_fld (pv 0) rfl) pe_int (fun _ _ => rfl)))
    (pss_cons (ps_set (i := 3) scTP.nd rfl (Or.inl rfl) (pe_ix ix_tup (pv 1) pe_int (fun _ _ => rfl)))
    (pss_cons (ps_set (i := 4) scTP.nd rfl (Or.inl rfl) (pe_lst pa_nil))
    (pss_cons (ps_while PassesOwn.never (pt_cmpR op_notN (pv 3) pe_non (nomark _)) pss_never)
    (pss_one (ps_ret (pe_tup (pa_cons (pe_fn RT hr (pa_cons (pe_ix ix_tup (pe_fld (pv 0) rfl) pe_int (fun _ _ => rfl)) (pa_cons (pv 4) (pa_cons (pe_ix ix_tup (pv 1) pe_int (fun _ _ => rfl)) (pa_cons (pe_int) pa_nil))))) (pa_cons (pv 2) pa_nil)))))))))), ?_⟩
  refine ⟨_, rfl, x, C, dx, _, _, rfl, hx, T.cl, T.nF, rfl, fa, _, 0, _, rfl, rfl, hfa, rfl, ?_⟩
  refine ⟨_, rfl, x, C, dx, _, _, rfl, hx, T.cl, T.nF, rfl, fa, _, 1, _, rfl, rfl, hfa, rfl, ?_⟩
  refine ⟨_, rfl, sp, _, 1, _, rfl, rfl, hsp, rfl, (by show 0 ≤ sizeLine; decide), fun lw hlw => ?_⟩
  have g1 := same_new hlw (.lst [])
  refine ⟨fun m σ H'' => σ = [some (.ref x), some (.ref sp), some (.ref qa), some .non, some (.ref lw), none] ∧ H'' = upd H lw (.lst []), ⟨0, rfl, rfl⟩, ?_⟩
  rintro m σ H'' ⟨rfl, rfl⟩
  refine ⟨_, rfl, rfl, _, rfl, iteF ?_⟩
  refine ⟨_, rfl, x, C, dx, _, _, rfl, g1 _ _ hx, T.cl, T.nT, rfl, tu, _, 0, _, rfl, rfl, g1.seqT htu, rfl, _, rfl, _, rfl, sp, _, 2, _, rfl, rfl, g1.seqT hsp, rfl, wd, lw, rw, kk, 0, nm, k, ks1, rfl, hW.same g1, hO, upd_same, g1.seqT hrw, g1.seqT hkk, hL, fun v H2 g2 hv => ⟨_, rfl, (by show 2 ≤ sizeLine; decide), fun p hp => ?_⟩⟩
  have g3 := same_new hp (.tup [v, .ref qa])
  exact hQ p qa v _ (g1.trans (g2.trans g3)) (SqT.of upd_same) (hv.mono fun _ _ => g3.seqT) ((g1.trans (g2.trans g3)).seqT hqa)
end
end K60
namespace K60
open PySem L2 TM TT K9 K11
structure DmM (P : Program) (w : World) (K : PySem.W.Frag) (mg : Str → Option Value) (base : Heap) (C : Addr) (n : Nat) : Prop where
  t : DmT K mg C
  mi : ∃ f fd, Mk K C f ∧ FnOk P w K mg base CX0 (n + 3) f fd ["self", "turning", "wood"] (spInit K C n) ∧ Binds K fd ["self", "turning", "wood"] []
  tp : ∃ f fd, Meth K C "tree_and_place" f ∧ FnOk P w K mg base CX0 5 f fd ["self"] (spTP K C) ∧ Binds K fd ["self"] []
section
variable {P : Program} {w : World} {K : PySem.W.Frag} {mg : Str → Option Value} {base : Heap} {f : Addr} {fd : FuncData} {C : Addr}
theorem scStr : FnScope ["turning", "wood", "demands"] ["turning", "wood"] (defScope sStrays) := ⟨rfl, rfl, rfl, by decide +kernel, rfl, by decide +kernel, by decide +kernel⟩
theorem ok_str (F : Fun K "strays" "strays" sStrays f fd) (M : DmM P w K mg base C 5) (RL : Fn P w K mg base 1 "levels_needed" ["fault"] (spLvN K)) {t40 : Tok} (h40 : mg "MOST_LEVELS" = some (.int 40 t40)) : FnOk P w K mg base CX0 10 f fd ["turning", "wood"] (spStr K 5) := by
  obtain ⟨fI, fdI, mkI, FI, bI⟩ := M.mi
  obtain ⟨fP, fdP, mP, FP, bP⟩ := M.tp
  have T := M.t
  refine F.ok scStr (fun vs H Q E h => ?_) (fun cdv A outer s H vs Q E hr h => ?_)
  · obtain ⟨tu, wd, lm, wo, sv, ks1, ks, k01, k00, t0, rfl, _⟩ := h
    rfl
  obtain ⟨tu, wd, lm, wo, sv, ks1, ks, k01, k00, t0, rfl, htu, hW1, hO1, hk01, hL, hWo, hWF, hk00, hsv, hP, q1, q2⟩ := h
  have hr5 : Room 5 _ := hr.mono (by decide)
  refine ⟨_, (pss_cons (ps_set (i := 2) scStr.nd rfl (Or.inl rfl) (pe_make mkI FI hr rfl T.mgC bI .nil pass0 (pa_cons (pv 0) (pa_cons (pv 1) pa_nil))))
    (pss_cons (ps_if (pt_cmp (pc_isN (pe_fld (pv 2) rfl))) (pss_one (ps_ret pe_non)) pss_nil)
    (pss_cons (ps_if (pt_cmpR op_gt (pe_fn RL hr (pa_cons (pe_fld (pv 2) rfl) pa_nil)) (pe_glob (v := .int 40) rfl h40 ⟨_, rfl⟩) (nomark _)) pss_never pss_nil)
    (pss_one (ps_ret (pe_meth0 (pv 2) T.cl mP FP hr5 bP .nil pass0)))))), ?_⟩
  refine ⟨_, rfl, _, rfl, fun x dx nx ndx ne => ?_⟩
  have s0 : Same H (upd (upd H dx (.own x)) x (.ins C dx [])) := fun b o e => by
    rw [upd_ne (ne_of_none e nx), upd_ne (ne_of_none e ndx)]
    exact e
  refine ⟨x, dx, tu, wd, lm, wo, sv, ks1, ks, k01, k00, t0, rfl, upd_same, s0.seqT htu, hW1.same s0, hk01, hWo.same s0, hWF, hk00, hsv.mono fun _ _ => s0.seqT, hP, by decide, fun H1 kb st wt sp rw kk fv φ gx hx hsp hrw hkk hφ hwr hiff => ⟨rfl, ?_⟩⟩
  have s1 : Same H H1 := fun b o e => gx b o (ne_of_none e nx) (s0 b o e)
  refine ⟨_, rfl, x, C, dx, _, _, rfl, hx, T.cl, T.nF, rfl, _, rfl, ?_⟩
  cases φ with
  | none =>
    obtain rfl : fv = .non := hφ
    exact iteP rfl (q1 (hiff.mp rfl) H1 s1)
  | some q =>
    have hφ' := hφ
    obtain ⟨fa, qa, rfl, hfa, hqa⟩ := hφ
    refine iteN (fun z => nomatch z) ?_
    refine ⟨_, rfl, x, C, dx, _, _, rfl, hx, T.cl, T.nF, rfl, fa, sp, .ref qa, 1, rfl, hfa, ⟨0, .non, rw, kk, S [], _, hsp, hrw, hkk, rfl⟩, _, _, rfl, rfl, _, rfl, iteN (by decide) ?_⟩
    refine ⟨_, rfl, x, dx, _, rfl, hx, rfl, x, dx, tu, kb, st, wt, sp, rw, kk, wd, lm, sv, .ref fa, ks1, q, S [], k01.2.1, rfl, hx, s1.seqT htu, hW1.same s1, hO1, hsp, hrw, hkk, hL, hφ', fun p qa v H2 g2 hp hv hq => ?_⟩
    exact q2 p qa v q H2 (s1.trans g2) hp hv hq (hwr q rfl)
end
end K60
namespace K60
open PySem L2 TM TT K9 K11
def datRow (r : PNx) : PyData := .tuple [.str r.2.1, .tuple (r.2.2.2.map .str)]
theorem rd_rows {K : PySem.W.Frag} {H : Hp} : ∀ {rs : List PNx}, (∀ t ∈ rs, RowAt K H t) → RdAll K H (rs.map fun t => V.ref t.1) (rs.map datRow)
  | [], _ => .nil
  | t :: r, h => .cons (.tup (h t List.mem_cons_self).1 (.cons (.str _) (.cons (.tup (h t List.mem_cons_self).2 (rd_strs _)) .nil))) (rd_rows fun u hu => h u (List.mem_cons_of_mem _ hu))
theorem lay_rows : ∀ {rs : List PNx}, (∀ r ∈ rs, PyData.strOk r.2.1 = true) → (∀ r ∈ rs, ∀ x ∈ r.2.2.2, PyData.strOk x = true) → PyData.canLayAll0 (rs.map datRow) = true
  | [], _, _ => by simp [PyData.canLayAll0]
  | r :: rs, h1, h2 => by
    simp only [List.map_cons, PyData.canLayAll0, datRow, PyData.canLay0, h1 r List.mem_cons_self, lay_strs _ (h2 r List.mem_cons_self), Bool.and_self, Bool.true_and]
    exact lay_rows (fun u hu => h1 u (List.mem_cons_of_mem _ hu)) fun u hu => h2 u (List.mem_cons_of_mem _ hu)
theorem eqv_lnil (ds : List PyData) : PyData.eqv (.list ds) (.list []) = ds.isEmpty := by
  cases ds <;> simp [PyData.eqv, PyData.eqvAll]
theorem eqv_tnil (ds : List PyData) : PyData.eqv (.tuple ds) (.tuple []) = ds.isEmpty := by
  cases ds <;> simp [PyData.eqv, PyData.eqvAll]
def keyW (k : KdT) : Str × List PNx := (k.2.1, k.2.2.2)
theorem rowsK_eq {hs ks : List KdT} (e : hs.map keyW = ks.map keyW) (z : Str) : rowsK hs z = rowsK ks z := by
  have aux : ∀ l : List KdT, rowsK l z = (((l.map keyW).find? fun p => decide (p.1 = z)).map (·.2)).getD [] := fun l => by
    unfold rowsK
    rw [List.find?_map, Option.map_map]
    rfl
  rw [aux, aux, e]
theorem rowK_eq {hs ks : List KdT} (e : hs.map keyW = ks.map keyW) : rowK hs = rowK ks := by
  funext k n
  unfold rowK
  rw [rowsK_eq e]
theorem WoodOk.of {hs ks : List KdT} (h : WoodOk ks) (e : hs.map keyW = ks.map keyW) : WoodOk hs := by
  have e1 : (hs.map fun k => k.2.1) = ks.map fun k => k.2.1 := by
    have := congrArg (List.map Prod.fst) e
    rw [List.map_map, List.map_map] at this
    exact this
  refine ⟨by rw [e1]; exact h.nd, ?_, fun k hk => ?_⟩
  · have := congrArg List.length e
    rw [List.length_map, List.length_map] at this
    rw [this]; exact h.len
  · have hm : keyW k ∈ ks.map keyW := by rw [← e]; exact List.mem_map.mpr ⟨k, hk, rfl⟩
    obtain ⟨k', hk', e'⟩ := List.mem_map.mp hm
    have : k'.2.2.2 = k.2.2.2 := congrArg (fun p : Str × List PNx => p.2) e'
    rw [← this]
    exact h.rows k' hk'
def datKind (p : Str × List PNx) : PyData := .tuple [.str p.1, .list (p.2.map datRow)]
theorem rd_kinds {K : PySem.W.Frag} {H : Hp} : ∀ {ks : List KdT}, (∀ k ∈ ks, SqT K H k.1 [.str k.2.1, .ref k.2.2.1] ∧ RowsL K H k.2.2.1 k.2.2.2) → RdAll K H (ks.map fun k => V.ref k.1) ((ks.map keyW).map datKind)
  | [], _ => .nil
  | k :: r, h => .cons (.tup (h k List.mem_cons_self).1 (.cons (.str _) (.cons (.lst (h k List.mem_cons_self).2.1 (rd_rows (h k List.mem_cons_self).2.2)) .nil))) (rd_kinds fun u hu => h u (List.mem_cons_of_mem _ hu))
theorem lay_kinds : ∀ {ks : List KdT}, (∀ k ∈ ks, PyData.strOk k.2.1 = true) → (∀ k ∈ ks, RowsOk k.2.2.2) → PyData.canLayAll0 ((ks.map keyW).map datKind) = true
  | [], _, _ => by simp [PyData.canLayAll0]
  | k :: r, h1, h2 => by
    have h3 : PyData.canLayAll0 (k.2.2.2.map datRow) = true := lay_rows (h2 k List.mem_cons_self).nm (h2 k List.mem_cons_self).kn
    simp only [List.map_cons, PyData.canLayAll0, datKind, keyW, PyData.canLay0, h1 k List.mem_cons_self, h3, Bool.and_self, Bool.true_and]
    exact lay_kinds (fun u hu => h1 u (List.mem_cons_of_mem _ hu)) fun u hu => h2 u (List.mem_cons_of_mem _ hu)
theorem depth_rows : ∀ rs : List PNx, PyData.depthAll (rs.map datRow) ≤ 2
  | [] => by simp [PyData.depthAll]
  | r :: rs => by
    have := depth_rows rs
    simp only [List.map_cons, PyData.depthAll, datRow, PyData.depth, depth_strs]
    omega
theorem depth_kinds : ∀ ks : List (Str × List PNx), PyData.depthAll (ks.map datKind) ≤ 4
  | [] => by simp [PyData.depthAll]
  | k :: r => by
    have h1 := depth_kinds r
    have h2 := depth_rows k.2
    simp only [List.map_cons, PyData.depthAll, datKind, PyData.depth]
    omega
abbrev wts (ks : List KdT) : List (Addr × Str × V) := ks.map fun k => (k.1, k.2.1, V.ref k.2.2.1)
abbrev wkv (ks : List KdT) : List (Key × V) := (wts ks).map fun t => ((Sum.inr t.2.1 : Key), t.2.2)
section
variable {K : PySem.W.Frag} {H : Hp} {wd : Addr} {ks : List KdT}
theorem wdA (hW : WoodAt K H wd ks) : SqL K H wd ((wts ks).map fun t => V.ref t.1) := by rw [List.map_map]; exact hW.1
theorem wdB (hW : WoodAt K H wd ks) : ∀ t ∈ wts ks, SqT K H t.1 [.str t.2.1, t.2.2] := fun t ht => by
  obtain ⟨k, hk, rfl⟩ := List.mem_map.mp ht
  exact (hW.2 k hk).1
theorem wdC (hO : WoodOk ks) : ((wts ks).map fun t => t.2.1).Nodup := by rw [List.map_map]; exact hO.nd
theorem wdD (hO : WoodOk ks) : (wts ks).length ≤ 1000 := by rw [List.length_map]; have := hO.len; omega
end
theorem wd_get {H : Hp} {d : Addr} {ks : List KdT} {kind : Str} (h : H d = some (.dK (wkv ks))) : DGet H d (.str kind) ((ks.find? fun k => decide (k.2.1 = kind)).map fun k => V.ref k.2.2.1) := by
  have hdg := DGet.k (k := Sum.inr kind) h
  have e : valV (wkv ks) (Sum.inr kind) = (ks.find? fun k => decide (k.2.1 = kind)).map fun k => V.ref k.2.2.1 := by
    unfold wkv wts
    rw [List.map_map]
    exact val_map (fun k : KdT => k.2.1) (fun k => V.ref k.2.2.1) kind ks
  rw [e] at hdg
  exact hdg
theorem wd_got {H : Hp} {d : Addr} {ks : List KdT} {kind : Str} {k : KdT} (h : H d = some (.dK (wkv ks))) (e : ks.find? (fun k => decide (k.2.1 = kind)) = some k) : DGet H d (.str kind) (some (.ref k.2.2.1)) := by
  have z := wd_get (kind := kind) h
  rw [e] at z
  exact z
def neverE : TE := fun _ _ _ => False
def neverT : TT := fun _ _ _ => False
theorem pe_never {X : Cx} {e : Expr} : PE X e neverE := fun _ _ _ _ _ _ h => h.elim
theorem pf_never {X : Cx} {ifs : List Expr} : PF X ifs neverT := by
  intro a b c d e f g
  exact g.elim
theorem find_kind {ks : List KdT} {kind : Str} (h : ∃ k ∈ ks, k.2.1 = kind) : ∃ k, ks.find? (fun k => decide (k.2.1 = kind)) = some k ∧ rowsK ks kind = k.2.2.2 ∧ k ∈ ks := by
  cases e : ks.find? fun k => decide (k.2.1 = kind) with
  | none =>
    obtain ⟨k, hk, ek⟩ := h
    have := List.find?_eq_none.mp e k hk
    simp [ek] at this
  | some k => exact ⟨k, rfl, by unfold rowsK; rw [e]; rfl, List.mem_of_find?_eq_some e⟩
end K60
namespace K60
open PySem L2 TM TT K9 K11
abbrev typedN : List Str := ["_law_cell", "_law_k", "_law_deep", "_law_kind", "_law_wood_here", "_law_calls", "_law_keep", "_law_number", "_law_fit", "_law_rows", "_law_full", "_law_name", "_law_branches", "_law_parts", "_law_j", "_law_kept", "_law_add"]
abbrev typedP : List Str := ["_law_cell", "_law_k", "_law_deep", "_law_kind", "_law_wood_here", "_law_calls", "_law_keep"]
def spTyped (K : PySem.W.Frag) (n : Nat) : Sp := fun vs H Q _ => ∃ (c k : Int) (d : Nat) (kind : Str) (lw lc : Addr) (ks : List KdT), d + 1 = n ∧ d ≤ 3 ∧ vs = [.int c, .int k, .int (d : Int), .str kind, .ref lw, .ref lc, .bl false] ∧ 0 ≤ k ∧ (k + 1) * 4 ^ d ≤ 1000 ∧ WoodAt K H lw ks ∧ WF ks ∧ (∃ kd ∈ ks, kd.2.1 = kind) ∧ SqL K H lc [] ∧
  ∀ (v : V) (H' : Hp) (t : Tm), Same H H' → TmV K H' v t → PutT 3 n t → Q v H'
section
variable {P : Program} {w : World} {K : PySem.W.Frag} {mg : Str → Option Value} {base : Heap} {f : Addr} {fd : FuncData}
theorem scTyped : FnScope typedN typedP (defScope sTyped) := ⟨rfl, rfl, rfl, by decide +kernel, rfl, by decide +kernel, by decide +kernel⟩
theorem ok_typed {n : Nat} (F : Fun K "_law_typed" "_law_typed" sTyped f fd) (G : Gm mg) (RM : Fn P w K mg base 1 "_law_mixed" ["_law_cell", "_law_k"] spMixed) (RG : Fn P w K mg base 1 "_law_great" ["_law_cell"] spGreat) (R : Fn P w K mg base (n + 1) "_law_typed" typedP (spTyped K n)) : FnOk P w K mg base CX0 (n + 2) f fd typedP (spTyped K (n + 1)) := by
  refine F.ok scTyped (fun vs H Q E h => ?_) (fun cdv A outer s H vs Q E hr h => ?_)
  · obtain ⟨c, k, d, kind, lw, lc, ks, _, _, rfl, _⟩ := h
    rfl
  obtain ⟨c, k, d, kind, lw, lc, ks, hdn, hd3, rfl, hk0, hk1, hW, hWF, hkind, hlc, q⟩ := h
  have room : ∀ m : Nat, m ≤ 64 → (A.deeper (PyProof.Rows.envOfC "_law_typed" (defScope sTyped) s.heap.objs.size f cdv)).units + m < cLine := fun m hm => by have := hr.units; omega
  refine ⟨_, (pss_cons (ps_set (i := 7) scTyped.nd rfl (Or.inl rfl) (pe_fn RM hr (pa_cons (pv 0) (pa_cons (pv 1) pa_nil)) (Nat.le_add_left 1 n)))
    (pss_cons (ps_setG (i := 8) (CompG.many (xs := ["_law_call"]) (caps := ["_law_kind"]) (cap := [3]) (cs := [_]) rfl rfl (by decide +kernel) (by decide +kernel) (by decide +kernel) (by decide +kernel) (by decide +kernel) (by decide +kernel) rfl rfl rfl) rfl (pi_list (pv 5)) (pg_c1 (CompG.many (xs := ["_law_call"]) (caps := ["_law_kind"]) (cap := [3]) (cs := [_]) rfl rfl (by decide +kernel) (by decide +kernel) (by decide +kernel) (by decide +kernel) (by decide +kernel) (by decide +kernel) rfl rfl rfl)) (fun _ _ _ _ => pf_never) (fun _ _ _ _ => pe_never) scTyped.nd rfl rfl)
    (pss_cons (ps_if (PW.pt (pw_and (pt_cmpR op_neD (pv 8) (pe_lst pa_nil) (nomark _)) (pw_and1 (pt_cmpR op_lt (pe_op op_mod (pv 7) pe_int) pe_int (nomark _))))) pss_never pss_nil)
    (pss_cons (ps_setG (i := 9) (CompG.many (xs := ["_law_row_here"]) (caps := ["_law_deep"]) (cap := [2]) (cs := [_]) rfl rfl (by decide +kernel) (by decide +kernel) (by decide +kernel) (by decide +kernel) (by decide +kernel) (by decide +kernel) rfl rfl rfl) rfl (pi_list (pe_dget (hu_of hr) (pe_callTy (call_dictP rfl) rfl G.dct PyProof.Rows.boot_dict (pa_cons (pv 4) pa_nil)) (pv 3) (fun _ _ => rfl))) (pg_c1 (CompG.many (xs := ["_law_row_here"]) (caps := ["_law_deep"]) (cap := [2]) (cs := [_]) rfl rfl (by decide +kernel) (by decide +kernel) (by decide +kernel) (by decide +kernel) (by decide +kernel) (by decide +kernel) rfl rfl rfl)) (fun _ _ _ _ => pf_one (PW.pt (pw_or (pt_cmpR (r := rEqD K (A.deeper (PyProof.Rows.envOfC "_law_typed" (defScope sTyped) s.heap.objs.size f cdv)) false) op_eqD (pe_ix (r := rIxT K) ix_tup (pv 0) pe_int (fun _ _ => rfl)) (pe_tup pa_nil) (nomark _)) (pw_or1 (pt_cmpR op_gt (pv 1) pe_int (nomark _)))))) (fun _ _ _ _ => pv 0) scTyped.nd rfl rfl)
    (pss_cons (ps_setG (i := 10) (CompG.many (xs := ["_law_row_here"]) (caps := []) (cap := []) (cs := []) rfl rfl (by decide +kernel) (by decide +kernel) (by decide +kernel) (by decide +kernel) (by decide +kernel) (by decide +kernel) rfl rfl rfl) rfl (pi_list (pv 9)) (pg_c1 (CompG.many (xs := ["_law_row_here"]) (caps := []) (cap := []) (cs := []) rfl rfl (by decide +kernel) (by decide +kernel) (by decide +kernel) (by decide +kernel) (by decide +kernel) (by decide +kernel) rfl rfl rfl)) (fun _ _ _ _ => pf_one (pt_cmpR (r := rEqD K (A.deeper (PyProof.Rows.envOfC "_law_typed" (defScope sTyped) s.heap.objs.size f cdv)) true) op_neD (pe_ix (r := rIxT K) ix_tup (pv 0) pe_int (fun _ _ => rfl)) (pe_tup pa_nil) (nomark _))) (fun _ _ _ _ => pv 0) scTyped.nd rfl rfl)
    (pss_cons (ps_cut (ps_if (PW.pt (pw_and (pt_cmpR op_neD (pv 10) (pe_lst pa_nil) (nomark _)) (pw_and1 (pt_cmpR op_gt (pe_op op_mod (pe_op op_fdiv (pv 7) pe_int) pe_int) pe_int (nomark _))))) (pss_one (ps_set (i := 9) scTyped.nd rfl (Or.inl rfl) (pv 10))) pss_nil))
    (pss_cons (ps_asg (pe_ix ix_list (pv 9) (pe_op op_mod (pe_op op_fdiv (pv 7) pe_int) (pe_callB call_len_seq rfl G.len PySem.boot_len (pa_cons (pv 9) pa_nil))) (fun _ _ => rfl)) (pg_tup rfl (pgs_cons (pg_name (i := 11) scTyped.nd rfl (Or.inl rfl)) (pgs_cons (pg_name (i := 12) scTyped.nd rfl (Or.inl rfl)) pgs_nil))))
    (pss_cons (ps_set (i := 13) scTyped.nd rfl (Or.inl rfl) (pe_lst pa_nil))
    (pss_cons (ps_for PassesOwn.never rfl (pi_range1 rfl G.rng (pa_cons (pe_callB call_len_seq rfl G.len PySem.boot_len (pa_cons (pv 12) pa_nil)) pa_nil)) (pg_name (i := 14) scTyped.nd rfl (Or.inl rfl)) (pss_one
      (ps_expr (pe_bm PySem.F.plainAttrs_list PySem.F.slot_list_append PySem.F.type_list_append mt_append (pv 13) (pa_cons (pe_fn R hr (pa_cons (pv 0) (pa_cons (pe_op op_add (pe_op op_add (pe_op op_mul pe_int (pv 1)) (pv 14)) pe_int) (pa_cons (pe_op op_sub (pv 2) pe_int) (pa_cons (pe_ix ix_tup (pv 12) (pv 14) (fun _ _ => rfl)) (pa_cons (pv 4) (pa_cons (pv 5) (pa_cons (pv 6) pa_nil))))))) (Nat.le_refl _)) pa_nil)))))
    (pss_cons (ps_set (i := 15) scTyped.nd rfl (Or.inl rfl) (pe_and (pv 6) (pe_one pe_never)))
    (pss_cons (ps_cut (ps_set (i := 16) scTyped.nd rfl (Or.inl rfl) (pe_ix ix_list (pe_lst (pa_cons (pe_int) (pa_cons (pe_op op_sub (pe_op op_mod (pe_op op_fdiv (pv 7) pe_int) pe_int) pe_int) (pa_cons (pe_fn RG hr (pa_cons (pv 0) pa_nil) (Nat.le_add_left 1 n)) pa_nil)))) (pe_op op_mod (pe_op op_fdiv (pv 7) pe_int) pe_int) (fun _ _ => rfl))))
    (pss_one (ps_ret (pe_tup (pa_cons (pe_str) (pa_cons (pv 11) (pa_cons (pv 15) (pa_cons (pv 16) (pa_cons (pe_callTy call_tuple_of rfl G.tup PyProof.Rows.boot_tuple (pa_cons (pv 13) pa_nil)) pa_nil))))))))))))))))))), ?_⟩
  have hk2 : k ≤ 1000 := by
    have : (1 : Int) ≤ 4 ^ d := by
      rcases (show d = 0 ∨ d = 1 ∨ d = 2 ∨ d = 3 by omega) with rfl | rfl | rfl | rfl <;> decide
    have := Int.mul_le_mul_of_nonneg_left this (show (0 : Int) ≤ k + 1 by omega)
    omega
  refine ⟨_, rfl, _, rfl, c, k, rfl, hk0, by omega, fun x x0 x1 => ?_⟩
  refine ⟨_, rfl, lc, rfl, ⟨_, hlc⟩, fun lf hlf => ?_⟩
  refine c1_list (K := K) (xs := []) (cs := [some (.str kind)]) (tt := neverT) (te := neverE) (fun i ys H' => ys = [] ∧ H' = upd H lf (.lst [])) ⟨rfl, rfl⟩ ?_ ?_ ?_
  · rintro i ys H' _ ⟨rfl, rfl⟩
    exact (same_new hlf _).seq hlc
  · rintro i y ys H' hi
    exact absurd hi (Nat.not_lt_zero _)
  rintro ys H1 ⟨rfl, rfl⟩
  have g1 := same_new hlf (.lst [])
  refine ⟨_, rfl, (by show 0 ≤ sizeLine; decide), fun pe hpe => ?_⟩
  have ge := same_new hpe (.lst [])
  refine ⟨.list [], .list [], .lst (ge.seq (SqL.of upd_same)) .nil, .lst (SqL.of upd_same) .nil, by simp [PyData.canLay0, PyData.canLayAll0], by simp [PyData.canLay0, PyData.canLayAll0], room _ (Nat.le_trans (Nat.min_le_right _ _) (by simp [PyData.depth, PyData.depthAll])), _, rfl, ?_⟩
  rw [if_pos rfl, eqv_lnil]
  refine iteF ?_
  have g2 := g1.trans ge
  generalize upd (upd H lf (.lst [])) pe (.lst []) = H2 at g2
  obtain ⟨kd, hkf, erow, hkm⟩ := find_kind hkind
  have hW2 := hW.same g2
  refine ⟨_, rfl, lw, wts ks, rfl, wdA hW2, wdB hW2, wdC hWF.ok, wdD hWF.ok, fun dd hdd => ⟨_, rfl, dd, .ref kd.2.2.1, rfl, wd_got upd_same hkf, ?_⟩⟩
  have g3' := same_new hdd (.dK (wkv ks))
  have g3 := g2.trans g3'
  generalize upd H2 dd (.dK (wkv ks)) = H3 at g3
  have hW3 := hW.same g3
  have hR3 := (hW3.2 kd hkm).2
  have hro := (hWF.kf kd hkm).ok
  have hrl := hro.len
  have h3w := (hWF.kf kd hkm).w3
  obtain ⟨rb, hrb, erb⟩ := (hWF.kf kd hkm).bare
  refine ⟨kd.2.2.1, rfl, ⟨_, hR3.1⟩, fun lr hlr => ?_⟩
  refine c1_list (K := K) (xs := kd.2.2.2.map fun t => V.ref t.1) (cs := [some (.int (d : Int))]) (te := tVar 0) (fun j ys H' => ∃ us : List PNx, ys = us.map (fun r => V.ref r.1) ∧ H' lr = some (.lst ys) ∧ Same H3 H' ∧ (∀ r ∈ us, r ∈ kd.2.2.2) ∧ us.length ≤ j ∧ (∀ r ∈ kd.2.2.2.take j, r.2.2.2 = [] → r ∈ us) ∧ (d = 0 → ∀ r ∈ us, r.2.2.2 = []))
    ⟨[], rfl, upd_same, same_new hlr _, fun r hr => (nomatch hr), Nat.le_refl _, fun r hr => by simp at hr, fun _ r hr => (nomatch hr)⟩ ?_ ?_ ?_
  · rintro j ys H' _ ⟨_, _, _, g, _⟩
    exact g.seq hR3.1
  · rintro j y ys H8 hj hy ⟨us, rfl, hya, g8, hus, hul, hub, hu0⟩
    have hjr : j < kd.2.2.2.length := by simpa using hj
    obtain rfl : y = .ref kd.2.2.2[j].1 := by
      rw [List.getElem?_map, List.getElem?_eq_getElem hjr] at hy
      exact (Option.some.inj hy).symm
    have hjm := List.getElem_mem hjr
    obtain ⟨hr1, hr2⟩ := hR3.2 _ hjm
    refine ⟨_, rfl, kd.2.2.2[j].1, _, 1, _, rfl, rfl, g8.seqT hr1, rfl, (by show 0 ≤ sizeLine; decide), fun pt hpt => ?_⟩
    have kt := same_new hpt (.tup [])
    have lay1 : (PyData.tuple (kd.2.2.2[j].2.2.2.map PyData.str)).canLay0 = true := by simp only [PyData.canLay0]; exact lay_strs _ (hro.kn _ hjm)
    refine ⟨_, .tuple [], .tup ((g8.trans kt).seqT hr2) (rd_strs _), .tup (SqT.of upd_same) .nil, lay1, by simp [PyData.canLay0, PyData.canLayAll0], room _ (Nat.le_trans (Nat.min_le_right _ _) (by simp [PyData.depth, PyData.depthAll])), _, rfl, ?_⟩
    rw [if_neg Bool.false_ne_true, eqv_tnil]
    have take : (d = 0 → kd.2.2.2[j].2.2.2 = []) → compN (kd.2.2.2.map fun t => V.ref t.1).length (fun j ys H' => ∃ us : List PNx, ys = us.map (fun r => V.ref r.1) ∧ H' lr = some (.lst ys) ∧ Same H3 H' ∧ (∀ r ∈ us, r ∈ kd.2.2.2) ∧ us.length ≤ j ∧ (∀ r ∈ kd.2.2.2.take j, r.2.2.2 = [] → r ∈ us) ∧ (d = 0 → ∀ r ∈ us, r.2.2.2 = [])) lr j ((kd.2.2.2.map fun t => V.ref t.1).length - j) (.ref kd.2.2.2[j].1) (upd H8 pt (.tup [])) := fun h0 => by
      refine comp_next (ys := us.map fun r => V.ref r.1) hj (kt _ _ hya) (by rw [List.length_map]; omega) ⟨us ++ [kd.2.2.2[j]], by rw [List.map_append]; rfl, upd_same, fun z u e => ?_, fun r hr => ?_, by rw [List.length_append, List.length_singleton]; omega, fun r hr he => ?_, fun hd r hr => ?_⟩
      · rw [upd_ne (ne_of_none e hlr)]; exact kt _ _ (g8 _ _ e)
      · rcases List.mem_append.mp hr with hr | hr
        · exact hus r hr
        · have : r = kd.2.2.2[j] := by simpa using hr
          rw [this]; exact hjm
      · rw [List.take_add_one, List.getElem?_eq_getElem hjr] at hr
        rcases List.mem_append.mp hr with hr | hr
        · exact List.mem_append_left _ (hub r hr he)
        · exact List.mem_append_right _ (by simpa using hr)
      · rcases List.mem_append.mp hr with hr | hr
        · exact hu0 hd r hr
        · have : r = kd.2.2.2[j] := by simpa using hr
          rw [this]; exact h0 hd
    refine ite2 (fun cb => ?_) (fun cb => ?_)
    · have ce : kd.2.2.2[j].2.2.2 = [] := by simpa using cb
      exact iteT ⟨_, rfl, take fun _ => ce⟩
    · refine ⟨_, rfl, _, _, rfl, rfl, _, rfl, ite2 (fun cd => ?_) (fun cd => ?_)⟩
      · have hd0 : (d : Int) > 0 := of_decide_eq_true cd
        exact ⟨_, rfl, take fun z => by omega⟩
      · refine comp_skip hj ⟨us, rfl, kt _ _ hya, g8.trans kt, hus, by omega, fun r hr he => ?_, hu0⟩
        rw [List.take_add_one, List.getElem?_eq_getElem hjr] at hr
        rcases List.mem_append.mp hr with hr | hr
        · exact hub r hr he
        · have : r = kd.2.2.2[j] := by simpa using hr
          rw [this] at he
          rw [he] at cb
          exact absurd rfl cb
  rintro ys H4 ⟨us, rfl, hlr4, g4, hus, hul, hub, hu0⟩
  rw [List.length_map] at hul hub
  rw [List.take_length] at hub
  have hune : us ≠ [] := fun z => by have := hub rb hrb erb; rw [z] at this; cases this
  have g34 := g3.trans g4
  have hR4 : ∀ H', Same H4 H' → ∀ r ∈ us, RowAt K H' r := fun H' g r hr => ((hW.same (g34.trans g)).2 kd hkm).2.2 r (hus r hr)
  refine ⟨_, rfl, lr, rfl, ⟨_, SqL.of hlr4⟩, fun lq hlq => ?_⟩
  refine c1_list (K := K) (xs := us.map fun t => V.ref t.1) (cs := []) (te := tVar 0) (fun j ys H' => ∃ fs : List PNx, ys = fs.map (fun r => V.ref r.1) ∧ H' lq = some (.lst ys) ∧ Same H4 H' ∧ (∀ r ∈ fs, r ∈ us) ∧ fs.length ≤ j)
    ⟨[], rfl, upd_same, same_new hlq _, fun r hr => (nomatch hr), Nat.le_refl _⟩ ?_ ?_ ?_
  · rintro j ys H' _ ⟨_, _, _, g, _⟩
    exact SqL.of (g _ _ hlr4)
  · rintro j y ys H8 hj hy ⟨fs, rfl, hya, g8, hfs, hfl⟩
    have hjr : j < us.length := by simpa using hj
    obtain rfl : y = .ref us[j].1 := by
      rw [List.getElem?_map, List.getElem?_eq_getElem hjr] at hy
      exact (Option.some.inj hy).symm
    have hjm := List.getElem_mem hjr
    obtain ⟨hr1, hr2⟩ := hR4 _ g8 _ hjm
    refine ⟨_, rfl, us[j].1, _, 1, _, rfl, rfl, hr1, rfl, (by show 0 ≤ sizeLine; decide), fun pt hpt => ?_⟩
    have kt := same_new hpt (.tup [])
    have lay1 : (PyData.tuple (us[j].2.2.2.map PyData.str)).canLay0 = true := by simp only [PyData.canLay0]; exact lay_strs _ (hro.kn _ (hus _ hjm))
    refine ⟨_, .tuple [], .tup (kt.seqT hr2) (rd_strs _), .tup (SqT.of upd_same) .nil, lay1, by simp [PyData.canLay0, PyData.canLayAll0], room _ (Nat.le_trans (Nat.min_le_right _ _) (by simp [PyData.depth, PyData.depthAll])), _, rfl, ?_⟩
    refine ite2 (fun cb => ?_) (fun cb => ?_)
    · refine ⟨_, rfl, comp_next (ys := fs.map fun r => V.ref r.1) hj (kt _ _ hya) (by rw [List.length_map]; omega) ⟨fs ++ [us[j]], by rw [List.map_append]; rfl, upd_same, fun z u e => ?_, fun r hr => ?_, by rw [List.length_append, List.length_singleton]; omega⟩⟩
      · rw [upd_ne (ne_of_none e hlq)]; exact kt _ _ (g8 _ _ e)
      · rcases List.mem_append.mp hr with hr | hr
        · exact hfs r hr
        · have : r = us[j] := by simpa using hr
          rw [this]; exact hjm
    · exact comp_skip hj ⟨fs, rfl, kt _ _ hya, g8.trans kt, hfs, by omega⟩
  rintro ys H5 ⟨fs, rfl, hlq5, g5, hfs, hfl⟩
  have g35 := g34.trans g5
  refine ⟨fun σ' H' => Same H5 H' ∧ ∃ (lz : Addr) (zs : List PNx), σ' = [some (.int c), some (.int k), some (.int (d : Int)), some (.str kind), some (.ref lw), some (.ref lc), some (.bl false), some (.int x), some (.ref lf), some (.ref lz), some (.ref lq), none, none, none, none, none, none] ∧ H' lz = some (.lst (zs.map fun r => V.ref r.1)) ∧ zs ≠ [] ∧ (∀ r ∈ zs, r ∈ us), ?_, ?_⟩
  · refine ⟨_, rfl, (by show 0 ≤ sizeLine; decide), fun le hle => ?_⟩
    have ke := same_new hle (.lst [])
    have layr : (PyData.list (fs.map datRow)).canLay0 = true := by
      simp only [PyData.canLay0]
      exact lay_rows (fun r hr => hro.nm r (hus r (hfs r hr))) fun r hr => hro.kn r (hus r (hfs r hr))
    refine ⟨.list (fs.map datRow), .list [], .lst (SqL.of (ke _ _ hlq5)) (rd_rows fun r hr => hR4 _ (g5.trans ke) r (hfs r hr)), .lst (SqL.of upd_same) .nil, layr, by simp [PyData.canLay0, PyData.canLayAll0], room _ (Nat.le_trans (Nat.min_le_right _ _) (by simp [PyData.depth, PyData.depthAll])), _, rfl, ?_⟩
    rw [if_pos rfl, eqv_lnil]
    have keep : ∀ H', H' = upd H5 le (.lst []) → Same H5 H' ∧ ∃ (lz : Addr) (zs : List PNx), [some (V.int c), some (.int k), some (.int (d : Int)), some (.str kind), some (.ref lw), some (.ref lc), some (.bl false), some (.int x), some (.ref lf), some (.ref lr), some (.ref lq), none, none, none, none, none, none] = [some (V.int c), some (.int k), some (.int (d : Int)), some (.str kind), some (.ref lw), some (.ref lc), some (.bl false), some (.int x), some (.ref lf), some (.ref lz), some (.ref lq), none, none, none, none, none, none] ∧ H' lz = some (.lst (zs.map fun r => V.ref r.1)) ∧ zs ≠ [] ∧ (∀ r ∈ zs, r ∈ us) := by
      rintro _ rfl
      exact ⟨ke, lr, us, rfl, ke _ _ (g5 _ _ hlr4), hune, fun r hr => hr⟩
    by_cases hfe : fs = []
    · rw [hfe]
      exact iteF (keep _ rfl)
    · have e0 : (!(fs.map datRow).isEmpty) = true := by
        cases fs with
        | nil => exact absurd rfl hfe
        | cons a b => rfl
      rw [e0]
      refine iteT ⟨_, rfl, _, _, rfl, rfl, ⟨by decide, by decide⟩, _, _, rfl, rfl, (by show (0 : Int) < 4; decide), _, _, rfl, rfl, _, rfl, ite2 (fun _ => ?_) (fun _ => ?_)⟩
      · exact ⟨_, rfl, ke, lq, fs, rfl, ke _ _ hlq5, hfe, hfs⟩
      · exact keep _ rfl
  rintro σ H6 ⟨g6, lz, zs, rfl, hlz, hzne, hzs⟩
  have g36 := g35.trans g6
  have hzl : (zs.map fun r => V.ref r.1).length = zs.length := List.length_map ..
  have hzp : 0 < zs.length := List.length_pos_iff.mpr hzne
  obtain ⟨y, hy, hat⟩ := at_rest (xs := zs.map fun r => V.ref r.1) (k := ((zs.map fun r => V.ref r.1).length : Int)) rfl (by rw [hzl]; exact hzp) (x / 8192)
  obtain ⟨r, hrz, rfl⟩ := List.mem_map.mp hy
  have hru := hzs r hrz
  have hrk := hus r hru
  obtain ⟨hr1, hr2⟩ := hR4 _ (g5.trans g6) r hru
  refine ⟨_, rfl, _, rfl, _, _, rfl, rfl, ⟨by decide, by decide⟩, _, rfl, lz, _, rfl, .inl (SqL.of hlz), _, _, rfl, rfl, (by rw [hzl]; omega), lz, _, _, _, rfl, rfl, SqL.of hlz, hat, r.1, _, rfl, hr1, rfl, _, _, rfl, _, _, rfl, rfl, ?_⟩
  refine ⟨(by show 0 ≤ sizeLine; decide), fun lp hlp => ?_⟩
  have kp := same_new hlp (.lst [])
  have hbl := h3w r hrk
  have esl : (r.2.2.2.map V.str).length = r.2.2.2.length := List.length_map ..
  refine ⟨_, rfl, r.2.2.1, _, rfl, .inr (kp.seqT hr2), _, rfl, by rw [esl]; omega, by rw [esl]; omega, ?_⟩
  have en : (((r.2.2.2.map V.str).length : Nat) : Int).toNat = r.2.2.2.length := by rw [esl]; omega
  rw [en]
  refine for_range (lo := 0) (n := r.2.2.2.length) (fun j σ H' => ∃ (c14 : Option V) (vs : List V) (ts : List Tm), σ = [some (.int c), some (.int k), some (.int (d : Int)), some (.str kind), some (.ref lw), some (.ref lc), some (.bl false), some (.int x), some (.ref lf), some (.ref lz), some (.ref lq), some (.str r.2.1), some (.ref r.2.2.1), some (.ref lp), c14, none, none] ∧ Same H6 H' ∧ H' lp = some (.lst vs) ∧ TmAll K H' vs ts ∧ ts.length = j ∧ ∀ t ∈ ts, PutT 3 n t)
    ⟨none, [], [], rfl, kp, upd_same, .nil, rfl, fun t ht => (nomatch ht)⟩ ?_ ?_
  · rintro j σ H7 hj ⟨c14, vs, ts, rfl, g7, hlp7, hvs, htl, hts⟩
    have hvl := hvs.length
    have hat2 : atI (r.2.2.2.map V.str) (0 + (j : Int)) = some (.str r.2.2.2[j]) := by
      rw [Int.zero_add]
      exact atI_nat (by rw [List.getElem?_map, List.getElem?_eq_getElem hj]; rfl)
    have hd1 : d ≠ 0 := fun z => by
      have := hu0 z r hru
      rw [this] at hj
      exact absurd hj (Nat.not_lt_zero _)
    obtain ⟨e, rfl⟩ : ∃ e, d = e + 1 := ⟨d - 1, by omega⟩
    have g37 := g36.trans g7
    refine ⟨_, rfl, .inl ⟨rfl, _, SqL.of hlp7⟩, _, rfl, _, rfl, _, _, rfl, rfl, .inl ⟨by decide, by decide⟩, _, rfl, _, _, rfl, rfl, _, _, rfl, rfl, _, rfl, _, _, rfl, rfl, _, rfl, _, rfl, r.2.2.1, _, _, _, rfl, rfl, g7.seqT hr2, hat2, _, rfl, _, rfl, _, rfl, c, 3 * k + (0 + (j : Int)) + 1, e, r.2.2.2[j], lw, lc, ks, by omega, by omega, ?_, by omega, ?_, hW.same g37, hWF, ?_, g37.seq hlc, fun v H8 t g8 hv ht => ?_⟩
    · show [V.int c, V.int (3 * k + (0 + (j : Int)) + 1), V.int (((e + 1 : Nat) : Int) - 1), V.str _, V.ref lw, V.ref lc, V.bl false] = _
      rw [show (((e + 1 : Nat) : Int) - 1) = (e : Int) by omega]
    · have p4 : (0 : Int) ≤ 4 ^ e := Int.pow_nonneg (by decide)
      have := Int.mul_le_mul_of_nonneg_right (show 3 * k + (0 + (j : Int)) + 1 + 1 ≤ (k + 1) * 4 by omega) p4
      rw [Int.mul_assoc, show (4 : Int) * 4 ^ e = 4 ^ (e + 1) by rw [Int.pow_succ, Int.mul_comm]] at this
      omega
    · have hin := (hWF.kf kd hkm).cl r hrk _ (List.getElem_mem hj)
      obtain ⟨k', hk', e'⟩ := List.mem_map.mp hin
      exact ⟨k', hk', e'⟩
    · have hlp8 := g8 _ _ hlp7
      refine ⟨lp, _, _, rfl, rfl, hlp8, by rw [size_line]; omega, ?_⟩
      refine ⟨_, vs ++ [v], ts ++ [t], rfl, fun z u e => ?_, upd_same, ?_, by rw [List.length_append, List.length_singleton, htl], fun t' ht' => ?_⟩
      · rw [upd_ne (ne_of_none e hlp)]; exact g8 _ _ (g7 _ _ e)
      · exact TmAll.append (hvs.mono fun _ _ h => (g8.seqT h).put hlp8) (.cons (hv.mono fun _ _ h => h.put hlp8) .nil)
      · rcases List.mem_append.mp ht' with ht' | ht'
        · exact hts t' ht'
        · have : t' = t := by simpa using ht'
          rw [this]; exact ht
  · rintro σ H7 ⟨c14, vs, ts, rfl, g7, hlp7, hvs, htl, hts⟩
    have hvl := hvs.length
    refine ⟨_, rfl, false, rfl, iteF ?_⟩
    refine ⟨fun σ' H' => Same H7 H' ∧ ∃ ad : Int, σ' = [some (.int c), some (.int k), some (.int (d : Int)), some (.str kind), some (.ref lw), some (.ref lc), some (.bl false), some (.int x), some (.ref lf), some (.ref lz), some (.ref lq), some (.str r.2.1), some (.ref r.2.2.1), some (.ref lp), c14, some (.bl false), some (.int ad)], ?_, ?_⟩
    · refine ⟨_, rfl, _, _, rfl, rfl, ⟨by decide, by decide⟩, _, _, rfl, rfl, (by show (0 : Int) < 19; decide), _, _, rfl, rfl, _, rfl, c, rfl, fun gx => ⟨(by show 3 ≤ sizeLine; decide), fun l hl => ?_⟩⟩
      refine ⟨_, rfl, _, _, rfl, rfl, ⟨by decide, by decide⟩, _, _, rfl, rfl, (by show (0 : Int) < 3; decide), ?_⟩
      obtain ⟨y, hy, hat⟩ := at_rest (xs := [.int 0, .int (x / 2048 % 19 - 9), .int gx]) (k := 3) rfl (by show 0 < 3; decide) (x / 64)
      refine ⟨l, _, _, y, rfl, rfl, SqL.of upd_same, hat, same_new hl _, ?_⟩
      simp only [List.mem_cons, List.mem_nil_iff, or_false] at hy
      rcases hy with rfl | rfl | rfl
      · exact ⟨_, rfl⟩
      · exact ⟨_, rfl⟩
      · exact ⟨_, rfl⟩
    rintro σ H8 ⟨g8, ad, rfl⟩
    refine ⟨_, rfl, _, rfl, _, rfl, _, rfl, lp, vs, rfl, .inl ⟨SqL.of (g8 _ _ hlp7), fun pt hpt => ⟨(by show 5 ≤ sizeLine; decide), fun pr hpr => ?_⟩⟩⟩
    have k1 := same_new hpt (.tup vs)
    have k2 := same_new hpr (.tup [.str PUT, .str r.2.1, .bl false, .int ad, .ref pt])
    have k12 := k1.trans k2
    refine q (.ref pr) _ (.node (.put r.2.1 false ad) 0 ts) (g36.trans (g7.trans (g8.trans k12))) (.put (SqT.of upd_same) (k2.seqT (SqT.of upd_same)) (hvs.mono fun _ _ => (g8.trans k12).seqT) (by omega)) ⟨⟨_, _, _, rfl, hro.nm r hrk⟩, ?_, hts⟩
    show ts.length ≤ 3
    omega
theorem none_typed {k : Nat} : FnOk P w K mg base CX0 k f fd typedP (spTyped K 0) := by
  have no : ∀ vs H Q E, ¬ spTyped K 0 vs H Q E := fun vs H Q E h => by
    obtain ⟨c, k, d, kind, lw, lc, ks, h0, _⟩ := h
    omega
  exact ⟨fun vs H Q E h => absurd h (no vs H Q E), fun A outer s H args us vs Q E _ _ _ _ h => absurd h (no vs H Q E)⟩
theorem all_typed (F : Fun K "_law_typed" "_law_typed" sTyped f fd) (G : Gm mg) (RM : Fn P w K mg base 1 "_law_mixed" ["_law_cell", "_law_k"] spMixed) (RG : Fn P w K mg base 1 "_law_great" ["_law_cell"] spGreat) (hb : Binds K fd typedP []) (hm : mg "_law_typed" = some (.ref f)) : ∀ n : Nat, FnOk P w K mg base CX0 (n + 1) f fd typedP (spTyped K n)
  | 0 => none_typed
  | n + 1 => ok_typed F G RM RG ⟨f, fd, all_typed F G RM RG hb hm n, hb, F.kp, hm⟩
end
end K60
namespace L2
open PySem
theorem for_zipT {K : PySem.W.Frag} {a b : Addr} {xs ys : List V} {g : TG} {tb : TS} {D : Ends} {σ : St} {H : Hp} (hlen : xs.length = ys.length) (Pv : Nat → St → Hp → Prop) (h0 : Pv 0 σ H) (hl : ∀ i σ H, i ≤ xs.length → Pv i σ H → SqT K H a xs ∧ SqT K H b ys)
    (hs : ∀ i u v p σ H, xs[i]? = some u → ys[i]? = some v → H p = none → Pv i σ H → g (.ref p) σ (upd H p (.tup [u, v])) fun σ2 H2 => tb { D with nx := Pv (i + 1), ct := Pv (i + 1), bk := D.nx } σ2 H2) (hd : ∀ σ H, Pv xs.length σ H → D.nx σ H) :
    ∃ W : Nat → Nat → St → Hp → Prop, (∃ m, W 0 m σ H) ∧ ∀ i m σ H, W i m σ H →
      ((ItzT K a b xs ys).stop i H ∧ D.nx σ H) ∨ ((ItzT K a b xs ys).go i H ∧ ∃ N : St → Hp → Prop, (∀ σ' H', N σ' H' → ∃ m', m' < m ∧ W (i + 1) m' σ' H') ∧ ∀ x H', (ItzT K a b xs ys).yld i H x H' → g x σ H' fun σ2 H2 => tb { D with nx := N, ct := N, bk := D.nx } σ2 H2) := by
  refine ⟨fun i m σ H => m = xs.length - i ∧ i ≤ xs.length ∧ Pv i σ H, ⟨xs.length - 0, rfl, Nat.zero_le _, h0⟩, ?_⟩
  rintro i m σ H ⟨rfl, hi, p⟩
  obtain ⟨qa, qb⟩ := hl i σ H hi p
  by_cases h : i < xs.length
  · refine .inr ⟨⟨qa, qb, h, by omega⟩, Pv (i + 1), fun σ' H' p' => ⟨xs.length - (i + 1), by omega, rfl, h, p'⟩, ?_⟩
    rintro x H' ⟨p', u, v, hp, rfl, rfl, hu, hv⟩
    exact hs i u v p' σ H hu hv hp p
  · have e : i = xs.length := by omega
    subst e
    exact .inl ⟨⟨qa, Nat.le_refl _⟩, hd σ H p⟩
end L2
namespace K60
open PySem L2 TM TT K9 K11
theorem tmTake {K : PySem.W.Frag} {H : Hp} : ∀ {vs : List V} {ts : List Tm} (n : Nat), TmAll K H vs ts → TmAll K H (vs.take n) (ts.take n)
  | _, _, 0, _ => .nil
  | _, _, _ + 1, .nil => .nil
  | _, _, n + 1, .cons a t => .cons a (tmTake n t)
theorem tmDrop {K : PySem.W.Frag} {H : Hp} : ∀ {vs : List V} {ts : List Tm} (n : Nat), TmAll K H vs ts → TmAll K H (vs.drop n) (ts.drop n)
  | _, _, 0, h => h
  | _, _, _ + 1, .nil => .nil
  | _, _, n + 1, .cons _ t => tmDrop n t
theorem tmRev {K : PySem.W.Frag} {H : Hp} : ∀ {vs : List V} {ts : List Tm}, TmAll K H vs ts → TmAll K H vs.reverse ts.reverse
  | _, _, .nil => .nil
  | _, _, .cons a t => by
    rw [List.reverse_cons, List.reverse_cons]
    exact TmAll.append (tmRev t) (.cons a .nil)
def spRow (K : PySem.W.Frag) : Sp := fun vs H Q _ => ∃ (w : Addr) (kind name : Str) (ks : List KdT), vs = [.ref w, .str kind, .str name] ∧ WoodAt K H w ks ∧ WoodOk ks ∧ (∃ k ∈ ks, k.2.1 = kind) ∧ ∀ (v : V) (H' : Hp), Same H H' → RowV K H' v (rowK ks kind name) → Q v H'
def spFits (K : PySem.W.Frag) : Sp := fun vs H Q _ => ∃ (w lb : Addr) (kind nm : Str) (z : V) (L : Int) (ks : List KdT), vs = [.ref w, .str kind, .ref lb] ∧ WoodAt K H w ks ∧ WoodOk ks ∧ (∃ k ∈ ks, k.2.1 = kind) ∧ SqT K H lb [.str nm, z, .int L] ∧
  ∀ (b : Bool) (H' : Hp), Same H H' → (b = true ↔ ∃ ss, rowK ks kind nm = some ss ∧ (ss.length : Int) = L) → Q (.bl b) H'
def spOfK (K : PySem.W.Frag) (n : Nat) : Sp := fun vs H Q _ => ∃ (w : Addr) (kind : Str) (v : V) (t : Tm) (ks : List KdT), vs = [.ref w, .str kind, v] ∧ WoodAt K H w ks ∧ WF ks ∧ (∃ k ∈ ks, k.2.1 = kind) ∧ TmV K H v t ∧ PutT 5 n t ∧
  ∀ (b : Bool) (H' : Hp), Same H H' → (b = true ↔ okN (rowK ks) n t kind) → Q (.bl b) H'
def spSpoil (K : PySem.W.Frag) (n : Nat) : Sp := fun vs H Q _ => ∃ (ln : Addr) (ns : List Str) (v : V) (t : Tm) (x : Int), vs = [.ref ln, v, .int x] ∧ SqL K H ln (ns.map V.str) ∧ ns.length = 8 ∧ (∀ x ∈ ns, PyData.strOk x = true) ∧ TmV K H v t ∧ PutT 3 n t ∧ n ≤ 10 ∧
  ∀ (v' : V) (H' : Hp) (t' : Tm), Same H H' → TmV K H' v' t' → PutT 4 (n + 1) t' → Q v' H'
def spWrong (K : PySem.W.Frag) : Sp := fun vs H Q _ => ∃ (w pl : Addr) (v : V) (t : Tm) (ks : List KdT) (k0 : KdT) (q : List Int) (d : Nat), vs = [.ref w, v, .ref pl] ∧ WoodAt K H w ks ∧ WF ks ∧ ks[0]? = some k0 ∧ TmV K H v t ∧ PutT 5 d t ∧ SqT K H pl (q.map V.int) ∧ Wr (rowK ks) t k0.2.1 q ∧ ∀ H' : Hp, Same H H' → Q (.bl true) H'
section
variable {P : Program} {w : World} {K : PySem.W.Frag} {mg : Str → Option Value} {base : Heap} {f : Addr} {fd : FuncData}
theorem scRow : FnScope ["_law_wood_here", "_law_kind", "_law_name", "_law_row_here"] ["_law_wood_here", "_law_kind", "_law_name"] (defScope sRow) := ⟨rfl, rfl, rfl, by decide +kernel, rfl, by decide +kernel, by decide +kernel⟩
theorem ok_row (F : Fun K "_law_row" "_law_row" sRow f fd) (G : Gm mg) : FnOk P w K mg base CX0 1 f fd ["_law_wood_here", "_law_kind", "_law_name"] (spRow K) := by
  refine F.ok scRow (fun vs H Q E h => ?_) (fun cdv A outer s H vs Q E hr h => ?_)
  · obtain ⟨w, kind, name, ks, rfl, _⟩ := h
    rfl
  obtain ⟨lw, kind, name, ks, rfl, hW, hO, hkind, q⟩ := h
  obtain ⟨kd, hkf, erow, hkm⟩ := find_kind hkind
  refine ⟨_, (pss_cons (ps_for PassesOwn.never rfl (pi_list (pe_dget (hu_of hr) (pe_callTy (call_dictP rfl) rfl G.dct PyProof.Rows.boot_dict (pa_cons (pv 0) pa_nil)) (pv 1) (fun _ _ => rfl))) (pg_name (i := 3) scRow.nd rfl (Or.inl rfl))
      (pss_one (ps_if (pt_cmpR op_eq (pe_ix ix_tup (pv 3) pe_int (fun _ _ => rfl)) (pv 2) (nomark _)) (pss_one (ps_ret (pe_ix ix_tup (pv 3) pe_int (fun _ _ => rfl)))) pss_nil)))
    (pss_one (ps_ret pe_non))), ?_⟩
  refine ⟨_, rfl, lw, wts ks, rfl, wdA hW, wdB hW, wdC hO, wdD hO, fun dd hdd => ⟨_, rfl, dd, .ref kd.2.2.1, rfl, wd_got upd_same hkf, ?_⟩⟩
  have g1 := same_new hdd (.dK (wkv ks))
  generalize upd H dd (.dK (wkv ks)) = H1 at g1
  have hR := ((hW.same g1).2 kd hkm).2
  unfold rowK at q
  rw [erow] at q
  refine ⟨kd.2.2.1, rfl, ⟨_, hR.1⟩, ?_⟩
  refine for_list (K := K) (xs := kd.2.2.2.map fun t => V.ref t.1) (fun i σ H' => ∃ c3 : Option V, σ = [some (.ref lw), some (.str kind), some (.str name), c3] ∧ H' = H1 ∧ kd.2.2.2.find? (fun r => decide (r.2.1 = name)) = (kd.2.2.2.drop i).find? (fun r => decide (r.2.1 = name))) ⟨none, rfl, rfl, rfl⟩ ?_ ?_ ?_
  · rintro i σ H' _ ⟨c3, _, rfl, _⟩
    exact hR.1
  · rintro i x σ H' hx ⟨c3, rfl, rfl, hf⟩
    have hi : i < kd.2.2.2.length := by
      have := (List.getElem?_eq_some_iff.mp hx).1
      rwa [List.length_map] at this
    obtain rfl : x = .ref kd.2.2.2[i].1 := by
      rw [List.getElem?_map, List.getElem?_eq_getElem hi] at hx
      exact (Option.some.inj hx).symm
    obtain ⟨hr1, hr2⟩ := hR.2 _ (List.getElem_mem hi)
    rw [List.drop_eq_getElem_cons hi, List.find?_cons] at hf
    refine ⟨_, rfl, _, _, 0, _, rfl, rfl, hr1, rfl, _, rfl, rfl, _, rfl, ?_⟩
    by_cases he : kd.2.2.2[i].2.1 = name
    · rw [decide_eq_true he] at hf
      rw [hf] at q
      refine iteP (by rw [he]) ⟨_, rfl, _, _, 1, _, rfl, rfl, hr1, rfl, q _ _ g1 ⟨_, rfl, hr2⟩⟩
    · rw [decide_eq_false he] at hf
      exact iteN (fun z => he (by injection z)) ⟨_, rfl, rfl, hf⟩
  · rintro σ H' ⟨c3, rfl, rfl, hf⟩
    rw [List.length_map, List.drop_length] at hf
    rw [hf] at q
    exact q .non _ g1 rfl
theorem scFits : FnScope ["_law_wood_here", "_law_kind", "_law_label", "_law_row_here"] ["_law_wood_here", "_law_kind", "_law_label"] (defScope sFits) := ⟨rfl, rfl, rfl, by decide +kernel, rfl, by decide +kernel, by decide +kernel⟩
theorem ok_fits (F : Fun K "_law_fits" "_law_fits" sFits f fd) (G : Gm mg) (RR : Fn P w K mg base 1 "_law_row" ["_law_wood_here", "_law_kind", "_law_name"] (spRow K)) : FnOk P w K mg base CX0 2 f fd ["_law_wood_here", "_law_kind", "_law_label"] (spFits K) := by
  refine F.ok scFits (fun vs H Q E h => ?_) (fun cdv A outer s H vs Q E hr h => ?_)
  · obtain ⟨w, lb, kind, nm, z, L, ks, rfl, _⟩ := h
    rfl
  obtain ⟨lw, lb, kind, nm, z, L, ks, rfl, hW, hO, hkind, hlb, q⟩ := h
  refine ⟨_, (pss_cons (ps_set (i := 3) scFits.nd rfl (Or.inl rfl) (pe_fn RR hr (pa_cons (pv 0) (pa_cons (pv 1) (pa_cons (pe_ix ix_tup (pv 2) pe_int (fun _ _ => rfl)) pa_nil)))))
    (pss_one (ps_ret (pe_and (pe_cmpR op_notN (pv 3) pe_non (nomark _)) (pe_one (pe_cmpR op_eq (pe_callB call_len_seq rfl G.len PySem.boot_len (pa_cons (pv 3) pa_nil)) (pe_ix ix_tup (pv 2) pe_int (fun _ _ => rfl)) (nomark _))))))), ?_⟩
  refine ⟨_, rfl, _, rfl, _, rfl, lb, _, 0, _, rfl, rfl, hlb, rfl, lw, kind, nm, ks, rfl, hW, hO, hkind, fun v H1 g1 hv => ?_⟩
  cases e : rowK ks kind nm with
  | none =>
    rw [e] at hv q
    cases (show v = .non from hv)
    exact ⟨_, rfl, rfl, _, rfl, iteF (q false H1 g1 ⟨fun z => (nomatch z), fun ⟨ss, z, _⟩ => (nomatch z)⟩)⟩
  | some ss =>
    rw [e] at hv q
    obtain ⟨b, rfl, hb⟩ := hv
    refine ⟨_, rfl, rfl, _, rfl, iteT ⟨_, rfl, b, _, rfl, .inr hb, _, rfl, lb, _, 2, _, rfl, rfl, g1.seqT hlb, rfl, rfl, ?_⟩⟩
    refine q _ H1 g1 ?_
    rw [decide_eq_true_eq, List.length_map]
    constructor
    · intro z
      exact ⟨ss, rfl, by injection z⟩
    · rintro ⟨ss', z, h2⟩
      obtain rfl := Option.some.inj z
      rw [h2]
theorem scOfK : FnScope ["_law_wood_here", "_law_kind", "_law_term", "_law_branch", "_law_part"] ["_law_wood_here", "_law_kind", "_law_term"] (defScope sOfK) := ⟨rfl, rfl, rfl, by decide +kernel, rfl, by decide +kernel, by decide +kernel⟩
theorem ok_ofK {n : Nat} (F : Fun K "_law_of_kind" "_law_of_kind" sOfK f fd) (G : Gm mg) (RR : Fn P w K mg base 1 "_law_row" ["_law_wood_here", "_law_kind", "_law_name"] (spRow K)) (RF : Fn P w K mg base 2 "_law_fits" ["_law_wood_here", "_law_kind", "_law_label"] (spFits K)) (R : Fn P w K mg base (n + 2) "_law_of_kind" ["_law_wood_here", "_law_kind", "_law_term"] (spOfK K n)) : FnOk P w K mg base CX0 (n + 3) f fd ["_law_wood_here", "_law_kind", "_law_term"] (spOfK K (n + 1)) := by
  refine F.ok scOfK (fun vs H Q E h => ?_) (fun cdv A outer s H vs Q E hr h => ?_)
  · obtain ⟨w, kind, v, t, ks, rfl, _⟩ := h
    rfl
  obtain ⟨lw, kind, v, t, ks, rfl, hW, hWF, hkind, hv, hP, q⟩ := h
  refine ⟨_, (pss_cons (ps_if (pt_not (pt_val (pe_fn RF hr (pa_cons (pv 0) (pa_cons (pv 1) (pa_cons ((pe_tup (pa_cons (pe_ix ix_tup (pv 2) pe_int (fun _ _ => rfl)) (pa_cons (pe_int) (pa_cons (pe_callB call_len_seq rfl G.len PySem.boot_len (pa_cons (pe_ix ix_tup (pv 2) pe_int (fun _ _ => rfl)) pa_nil)) pa_nil))))) pa_nil))) (by omega)))) (pss_one (ps_ret pe_bl)) pss_nil)
    (pss_cons (ps_for PassesOwn.never rfl (pi_zipT rfl G.zip (pa_cons (pe_fn RR hr (pa_cons (pv 0) (pa_cons (pv 1) (pa_cons (pe_ix ix_tup (pv 2) pe_int (fun _ _ => rfl)) pa_nil))) (by omega)) (pa_cons (pe_ix ix_tup (pv 2) pe_int (fun _ _ => rfl)) pa_nil))) (pg_tup rfl (pgs_cons (pg_name (i := 3) scOfK.nd rfl (Or.inl rfl)) (pgs_cons (pg_name (i := 4) scOfK.nd rfl (Or.inl rfl)) pgs_nil)))
      (pss_one (ps_if (pt_not (pt_val (pe_fn R hr (pa_cons (pv 0) (pa_cons (pv 3) (pa_cons (pv 4) pa_nil))) (Nat.le_refl _)))) (pss_one (ps_ret pe_bl)) pss_nil)))
    (pss_one (ps_ret pe_bl)))), ?_⟩
  obtain ⟨⟨nm, kp, ad, elb, hnm⟩, hbl, hbs⟩ := hP
  rcases tm_open hv with ⟨a, mo, b, rfl, rfl, h1⟩ | ⟨a, b, bs, nm', k', ad', rfl, et, h1, h2, h3, h4⟩
  · cases elb
  have hlen := h3.length
  have enm : nmP t = nm' := by unfold nmP; rw [et]; rfl
  refine ⟨_, rfl, _, rfl, _, rfl, a, _, 1, _, rfl, rfl, h1, rfl, _, rfl, a, _, 4, _, rfl, rfl, h1, rfl, b, _, rfl, .inr h2, (by show 3 ≤ sizeLine; decide), fun lb hlb => ?_⟩
  have g1 := same_new hlb (.tup [.str nm', .int 0, .int ((bs.length : Nat) : Int)])
  refine ⟨lw, lb, kind, nm', .int 0, _, ks, rfl, hW.same g1, hWF.ok, hkind, SqT.of upd_same, fun bb H2 g2 hiff => ⟨_, rfl, ?_⟩⟩
  have g12 := g1.trans g2
  cases bb with
  | false =>
    refine iteT (q false H2 g12 ⟨fun z => (nomatch z), fun ⟨ss, e1, e2, _⟩ => ?_⟩)
    rw [enm] at e1
    exact hiff.mpr ⟨ss, e1, by omega⟩
  | true =>
    obtain ⟨ss, er, el⟩ := hiff.mp rfl
    have hl : ss.length = t.bs.length := by omega
    refine iteF ⟨_, rfl, _, rfl, _, rfl, a, _, 1, _, rfl, rfl, g12.seqT h1, rfl, lw, kind, nm', ks, rfl, hW.same g12, hWF.ok, hkind, fun rv H3 g3 hrv => ?_⟩
    rw [er] at hrv
    obtain ⟨br, rfl, hbr⟩ := hrv
    have g13 := g12.trans g3
    have esl : (ss.map V.str).length = ss.length := List.length_map ..
    refine ⟨_, rfl, a, _, 4, _, rfl, rfl, g13.seqT h1, rfl, br, b, _, bs, rfl, hbr, g13.seqT h2, ?_⟩
    refine for_zipT (K := K) (by rw [esl]; omega) (fun i σ H' => ∃ c3 c4 : Option V, σ = [some (.ref lw), some (.str kind), some (.ref a), c3, c4] ∧ Same H3 H' ∧ ∀ (j : Nat) b s, j < i → t.bs[j]? = some b → ss[j]? = some s → okN (rowK ks) n b s)
      ⟨none, none, rfl, Same.refl _, fun j _ _ hj => by omega⟩ ?_ ?_ ?_
    · rintro i σ H' _ ⟨c3, c4, _, g, _⟩
      exact ⟨g.seqT hbr, (g13.trans g).seqT h2⟩
    · rintro i u v pp σ H' hu hv hpp ⟨c3, c4, rfl, g, hall⟩
      have his : i < ss.length := by have := (List.getElem?_eq_some_iff.mp hu).1; omega
      have hit : i < t.bs.length := by omega
      obtain ⟨cv, hcv, hct⟩ := h3.get (List.getElem?_eq_getElem hit)
      obtain rfl : cv = v := Option.some.inj (hcv.symm.trans hv)
      obtain rfl : u = .str ss[i] := by
        rw [List.getElem?_map, List.getElem?_eq_getElem his] at hu
        exact (Option.some.inj hu).symm
      have gp := same_new hpp (.tup [.str ss[i], cv])
      have gg := g13.trans (g.trans gp)
      refine ⟨pp, _, rfl, SqT.of upd_same, rfl, _, _, rfl, _, _, rfl, rfl, ?_⟩
      refine ⟨_, rfl, _, rfl, _, rfl, lw, ss[i], cv, t.bs[i], ks, rfl, hW.same gg, hWF, row_kind hWF er (List.getElem_mem his), hct.mono fun _ _ => gg.seqT, hbs _ (List.getElem_mem hit), fun b2 H5 g5 hiff2 => ⟨_, rfl, ?_⟩⟩
      cases b2 with
      | false =>
        refine iteT (q false H5 (gg.trans g5) ⟨fun z => (nomatch z), ?_⟩)
        rintro ⟨ss', e1, e2, e3⟩
        rw [enm, er] at e1
        obtain rfl := Option.some.inj e1
        exact hiff2.mpr (e3 i _ _ (List.getElem?_eq_getElem hit) (List.getElem?_eq_getElem his))
      | true =>
        refine iteF ⟨_, _, rfl, g.trans (gp.trans g5), fun j b' s' hj hb hs => ?_⟩
        by_cases hji : j = i
        · subst hji
          rw [List.getElem?_eq_getElem hit] at hb
          rw [List.getElem?_eq_getElem his] at hs
          obtain rfl := Option.some.inj hb
          obtain rfl := Option.some.inj hs
          exact hiff2.mp rfl
        · exact hall j b' s' (by omega) hb hs
    · rintro σ H' ⟨c3, c4, rfl, g, hall⟩
      refine q true H' (g13.trans g) ⟨fun _ => ⟨ss, by rw [enm]; exact er, hl, fun i b s hb hs => hall i b s (by rw [esl, hl]; exact (List.getElem?_eq_some_iff.mp hb).1) hb hs⟩, fun _ => rfl⟩
theorem none_ofK {k : Nat} : FnOk P w K mg base CX0 k f fd ["_law_wood_here", "_law_kind", "_law_term"] (spOfK K 0) := by
  have no : ∀ vs H Q E, ¬ spOfK K 0 vs H Q E := fun vs H Q E h => by
    obtain ⟨w, kind, v, t, ks, _, _, _, _, _, h0, _⟩ := h
    exact h0
  exact ⟨fun vs H Q E h => absurd h (no vs H Q E), fun A outer s H args us vs Q E _ _ _ _ h => absurd h (no vs H Q E)⟩
theorem all_ofK (F : Fun K "_law_of_kind" "_law_of_kind" sOfK f fd) (G : Gm mg) (RR : Fn P w K mg base 1 "_law_row" ["_law_wood_here", "_law_kind", "_law_name"] (spRow K)) (RF : Fn P w K mg base 2 "_law_fits" ["_law_wood_here", "_law_kind", "_law_label"] (spFits K)) (hb : Binds K fd ["_law_wood_here", "_law_kind", "_law_term"] []) (hm : mg "_law_of_kind" = some (.ref f)) : ∀ n : Nat, FnOk P w K mg base CX0 (n + 2) f fd ["_law_wood_here", "_law_kind", "_law_term"] (spOfK K n)
  | 0 => none_ofK
  | n + 1 => ok_ofK F G RR RF ⟨f, fd, all_ofK F G RR RF hb hm n, hb, F.kp, hm⟩
end
end K60
namespace K60
open PySem L2 TM TT K9 K11
theorem cut4 (a b c d e : V) : cutV [a, b, c, d, e] none (some 4) = [a, b, c, d] := cutTo [a, b, c, d, e] 4
abbrev spoilN : List Str := ["_law_names_here", "_law_term", "_law_number", "_law_parts", "_law_k", "_law_inner", "_law_name"]
section
variable {P : Program} {w : World} {K : PySem.W.Frag} {mg : Str → Option Value} {base : Heap} {f : Addr} {fd : FuncData}
theorem scSpoil : FnScope spoilN ["_law_names_here", "_law_term", "_law_number"] (defScope sSpoil) := ⟨rfl, rfl, rfl, by decide +kernel, rfl, by decide +kernel, by decide +kernel⟩
theorem ok_spoil {n : Nat} (F : Fun K "_law_spoiled" "_law_spoiled" sSpoil f fd) (G : Gm mg) (R : Fn P w K mg base (n + 1) "_law_spoiled" ["_law_names_here", "_law_term", "_law_number"] (spSpoil K n)) : FnOk P w K mg base CX0 (n + 2) f fd ["_law_names_here", "_law_term", "_law_number"] (spSpoil K (n + 1)) := by
  refine F.ok scSpoil (fun vs H Q E h => ?_) (fun cdv A outer s H vs Q E hr h => ?_)
  · obtain ⟨ln, ns, v, t, x, rfl, _⟩ := h
    rfl
  obtain ⟨ln, ns, v, t, x, rfl, hln, hn8, hnok, hv, hP, hn10, q⟩ := h
  have room : ∀ m : Nat, m ≤ 64 → (A.deeper (PyProof.Rows.envOfC "_law_spoiled" (defScope sSpoil) s.heap.objs.size f cdv)).units + m < cLine := fun m hm => by have := hr.units; omega
  refine ⟨_, (pss_cons (ps_set (i := 3) scSpoil.nd rfl (Or.inl rfl) (pe_ix ix_tup (pv 1) pe_int (fun _ _ => rfl)))
    (pss_cons (ps_if (pt_cut (PW.pt (pw_and (pt_cmpR op_neD (pv 3) (pe_tup pa_nil) (nomark _)) (pw_and1 (pt_cmpR op_gt (pe_op op_mod (pv 2) pe_int) pe_int (nomark _)))))) (pss_cons (ps_set (i := 4) scSpoil.nd rfl (Or.inl rfl) (pe_op op_mod (pe_op op_fdiv (pv 2) pe_int) (pe_callB call_len_seq rfl G.len PySem.boot_len (pa_cons (pv 3) pa_nil))))
    (pss_cons (ps_set (i := 5) scSpoil.nd rfl (Or.inl rfl) (pe_fn R hr (pa_cons (pv 0) (pa_cons (pe_ix ix_tup (pv 3) (pv 4) (fun _ _ => rfl)) (pa_cons (pe_op op_fdiv (pv 2) pe_int) pa_nil))) (Nat.le_refl _)))
    (pss_one (ps_ret (pe_op op_catG (pe_slice sl_tupG (pv 1) po_none (po_some pe_int)) (pe_tup (pa_cons (pe_op op_catG (pe_op op_catG (pe_slice sl_tupG (pv 3) po_none (po_some (pv 4))) (pe_tup (pa_cons (pv 5) pa_nil))) (pe_slice sl_tupG (pv 3) (po_some (pe_op op_add (pv 4) pe_int)) po_none)) pa_nil))))))) pss_nil)
    (pss_cons (ps_set (i := 6) scSpoil.nd rfl (Or.inl rfl) (pe_ix ix_list (pv 0) (pe_op op_mod (pe_op op_fdiv (pv 2) pe_int) pe_int) (fun _ _ => rfl)))
    (pss_cons (ps_if (pt_cmpR op_eq (pe_op op_mod (pe_op op_fdiv (pv 2) pe_int) pe_int) pe_int (nomark _)) (pss_one (ps_ret (pe_tup (pa_cons (pe_str) (pa_cons (pv 6) (pa_cons (pe_bl) (pa_cons (pe_int) (pa_cons (pv 3) pa_nil)))))))) pss_nil)
    (pss_cons (ps_if (pt_cmpR op_eq (pe_op op_mod (pe_op op_fdiv (pv 2) pe_int) pe_int) pe_int (nomark _)) (pss_one (ps_ret (pe_op op_catG (pe_slice sl_tupG (pv 1) po_none (po_some pe_int)) (pe_tup (pa_cons (pe_op op_catG (pv 3) (pe_tup (pa_cons ((pe_tup (pa_cons (pe_str) (pa_cons (pv 6) (pa_cons (pe_bl) (pa_cons (pe_int) (pa_cons (pe_tup pa_nil) pa_nil))))))) pa_nil))) pa_nil))))) pss_nil)
    (pss_cons (ps_if (pt_cmpR op_eq (pe_op op_mod (pe_op op_fdiv (pv 2) pe_int) pe_int) pe_int (nomark _)) (pss_one (ps_ret (pe_op op_catG (pe_slice sl_tupG (pv 1) po_none (po_some pe_int)) (pe_tup (pa_cons (pe_slice sl_tupG (pv 3) (po_some pe_int) po_none) pa_nil))))) pss_nil)
    (pss_one (ps_ret (pe_op op_catG (pe_slice sl_tupG (pv 1) po_none (po_some pe_int)) (pe_tup (pa_cons (pe_revT (pv 3) (po_some (pe_un un_neg pe_int))) pa_nil))))))))))), ?_⟩
  have hmk := hP.mok
  obtain ⟨⟨nm, kp, ad, elb, hnm⟩, hbl, hbs⟩ := hP
  rcases tm_open hv with ⟨a, mo, b, rfl, rfl, h1⟩ | ⟨a, b, bs, nm', k', ad', rfl, et, h1, h2, h3, h4⟩
  · cases elb
  obtain ⟨rfl, rfl, rfl⟩ : nm' = nm ∧ k' = kp ∧ ad' = ad := by
    rw [et] at elb
    have : (Lab.put nm' k' ad') = .put nm kp ad := elb
    injection this with e1 e2 e3
    exact ⟨e1, e2, e3⟩
  have hlen := h3.length
  have hbs4 : ∀ b ∈ t.bs, PutT 4 (n + 1) b := fun b hb => (hbs b hb).mono (by decide)
  have fin : ∀ (H1 : Hp) (pb p4 p : Addr) (us : List V) (ts : List Tm) (H2 : Hp), Same H H1 → SqT K H1 p4 [.str PUT, .str nm', .bl k', .int ad'] → SqT K H1 pb us → TmAll K H1 us ts → ts.length ≤ 4 → (∀ u ∈ ts, PutT 4 (n + 1) u) → Same H1 H2 → SqT K H2 p ([.str PUT, .str nm', .bl k', .int ad'] ++ [.ref pb]) → Q (.ref p) H2 := by
    intro H1 pb p4 p us ts H2 g1 _ hpb hus htl hts g2 hp
    have hul := hus.length
    exact q (.ref p) H2 (.node (.put nm' k' ad') 0 ts) (g1.trans g2) (.put hp (g2.seqT hpb) (hus.mono fun _ _ => g2.seqT) (by omega)) ⟨⟨nm', k', ad', rfl, hnm⟩, htl, hts⟩
  refine ⟨_, rfl, a, _, 4, _, rfl, rfl, h1, rfl, ?_⟩
  have layp : (PyData.tuple (tmds t.bs)).canLay0 = true := by
    obtain ⟨o1, _⟩ := tmds_ok (d := 2 * n) t.bs fun u hu => (hbs u hu).mok
    simp only [PyData.canLay0]
    exact o1
  refine ⟨fun bb H' => Same H H' ∧ (bb = true → bs ≠ []), ?_, ?_⟩
  · refine ⟨_, rfl, (by show 0 ≤ sizeLine; decide), fun pt hpt => ?_⟩
    have kt := same_new hpt (.tup [])
    refine ⟨.tuple (tmds t.bs), .tuple [], .tup (kt.seqT h2) (h3.mono fun _ _ => kt.seqT).rd, .tup (SqT.of upd_same) .nil, layp, by simp [PyData.canLay0, PyData.canLayAll0], room _ (Nat.le_trans (Nat.min_le_right _ _) (by simp [PyData.depth, PyData.depthAll])), _, rfl, ?_⟩
    rw [if_pos rfl, eqv_tnil]
    cases hb : bs with
    | nil =>
      rw [hb] at hlen
      have : t.bs = [] := List.length_eq_zero_iff.mp hlen.symm
      rw [this]
      simp only [tmds]
      exact iteF ⟨kt, fun z => nomatch z⟩
    | cons b0 br =>
      have e0 : (!(tmds t.bs).isEmpty) = true := by
        cases ht : t.bs with
        | nil => rw [hb, ht] at hlen; cases hlen
        | cons t0 tr => simp [tmds]
      rw [e0]
      exact iteT ⟨_, rfl, _, _, rfl, rfl, (by show (0 : Int) < 3; decide), _, _, rfl, rfl, _, rfl, kt, fun _ z => nomatch z⟩
  rintro bb H1 ⟨g1, hbb⟩
  cases bb with
  | true =>
    have hne := hbb rfl
    have hp : 0 < bs.length := List.length_pos_iff.mpr hne
    refine iteT ⟨_, rfl, _, _, rfl, rfl, ⟨by decide, by decide⟩, _, rfl, b, _, rfl, .inr (g1.seqT h2), _, _, rfl, rfl, (by omega), ?_⟩
    have y0 : 0 ≤ x / 3 % ((bs.length : Nat) : Int) := Int.emod_nonneg _ (by omega)
    have y1 : x / 3 % ((bs.length : Nat) : Int) < ((bs.length : Nat) : Int) := Int.emod_lt_of_pos _ (by omega)
    obtain ⟨j, hj⟩ : ∃ j : Nat, x / 3 % ((bs.length : Nat) : Int) = (j : Int) := ⟨_, (Int.toNat_of_nonneg y0).symm⟩
    dsimp only
    rw [hj]
    have hjb : j < bs.length := by omega
    have hjt : j < t.bs.length := by omega
    obtain ⟨cv, hcv, hct⟩ := h3.get (List.getElem?_eq_getElem hjt)
    refine ⟨_, rfl, _, rfl, _, rfl, b, _, _, cv, rfl, rfl, g1.seqT h2, atI_nat hcv, _, rfl, _, _, rfl, rfl, ⟨by decide, by decide⟩, ln, ns, cv, t.bs[j], x / 7, rfl, g1.seq hln, hn8, hnok, hct.mono fun _ _ => g1.seqT, hbs _ (List.getElem_mem hjt), by omega, fun iv H2 it g2 hiv hit => ?_⟩
    have g12 := g1.trans g2
    refine ⟨_, rfl, _, rfl, a, _, rfl, g12.seqT h1, fun p4 H3 g3 hp4 => ?_⟩
    rw [cut4] at hp4
    have g13 := g12.trans g3
    refine ⟨_, rfl, _, rfl, _, rfl, b, _, rfl, g13.seqT h2, fun p5 H4 g4 hp5 => ⟨_, rfl, (by show 1 ≤ sizeLine; decide), fun p6 hp6 => ?_⟩⟩
    rw [cutTo] at hp5
    have g5 := same_new hp6 (.tup [iv])
    refine ⟨p5, p6, _, _, rfl, rfl, g5.seqT hp5, SqT.of upd_same, (by rw [List.length_take, size_line]; simp only [List.length_singleton]; omega), fun p7 H6 g6 hp7 => ?_⟩
    have g36 := g4.trans (g5.trans g6)
    have g16 := g13.trans g36
    refine ⟨_, rfl, _, rfl, _, _, rfl, rfl, _, rfl, b, _, rfl, g16.seqT h2, fun p8 H7 g7 hp8 => ?_⟩
    rw [show (j : Int) + 1 = ((j + 1 : Nat) : Int) by omega, cutFrom] at hp8
    refine ⟨p7, p8, _, _, rfl, rfl, g7.seqT hp7, hp8, (by simp only [List.length_append, List.length_take, List.length_drop, List.length_singleton, size_line]; omega), fun p9 H8 g8 hp9 => ⟨(by show 1 ≤ sizeLine; decide), fun p10 hp10 => ?_⟩⟩
    have g10 := same_new hp10 (.tup [.ref p9])
    have g38 := g36.trans (g7.trans g8)
    have g1A := g13.trans (g38.trans g10)
    refine ⟨p4, p10, _, _, rfl, rfl, (g38.trans g10).seqT hp4, SqT.of upd_same, (by show 4 + 1 ≤ sizeLine; decide), fun p11 H11 g11 hp11 => ?_⟩
    refine fin _ p9 p4 p11 (bs.take j ++ [iv] ++ bs.drop (j + 1)) (t.bs.take j ++ [it] ++ t.bs.drop (j + 1)) H11 g1A ((g38.trans g10).seqT hp4) (g10.seqT hp9) ?_ ?_ ?_ g11 hp11
    · have hh := h3.mono fun _ _ => g1A.seqT
      exact TmAll.append (TmAll.append (tmTake j hh) (.cons (hiv.mono fun _ _ => (g3.trans (g38.trans g10)).seqT) .nil)) (tmDrop (j + 1) hh)
    · simp only [List.length_append, List.length_take, List.length_drop, List.length_singleton]
      omega
    · intro u hu
      rcases List.mem_append.mp hu with hu | hu
      · rcases List.mem_append.mp hu with hu | hu
        · exact hbs4 u (List.mem_of_mem_take hu)
        · have : u = it := by simpa using hu
          rw [this]; exact hit
      · exact hbs4 u (List.mem_of_mem_drop hu)
  | false =>
    refine iteF ?_
    obtain ⟨y, hyn, hat⟩ := at_rest (xs := ns.map V.str) (k := 8) (by rw [List.length_map, hn8]; rfl) (by rw [List.length_map]; omega) (x / 64)
    obtain ⟨nn, hnn, rfl⟩ := List.mem_map.mp hyn
    refine ⟨_, rfl, _, rfl, _, _, rfl, rfl, ⟨by decide, by decide⟩, _, _, rfl, rfl, (by show (0 : Int) < 8; decide), ln, _, _, _, rfl, rfl, g1.seq hln, hat, ?_⟩
    refine ⟨_, rfl, _, _, rfl, rfl, ⟨by decide, by decide⟩, _, _, rfl, rfl, (by show (0 : Int) < 4; decide), rfl, _, rfl, ite2 (fun _ => ?_) (fun _ => ?_)⟩
    · refine ⟨_, rfl, _, rfl, (by show 5 ≤ sizeLine; decide), fun p hp => ?_⟩
      have g2 := same_new hp (.tup [.str PUT, .str nn, .bl false, .int 0, .ref b])
      have g12 := g1.trans g2
      exact q (.ref p) _ (.node (.put nn false 0) 0 t.bs) g12 (.put (SqT.of upd_same) (g12.seqT h2) (h3.mono fun _ _ => g12.seqT) h4) ⟨⟨nn, false, 0, rfl, hnok nn hnn⟩, Nat.le_trans hbl (by decide), hbs4⟩
    refine ⟨_, rfl, _, _, rfl, rfl, ⟨by decide, by decide⟩, _, _, rfl, rfl, (by show (0 : Int) < 4; decide), rfl, _, rfl, ite2 (fun _ => ?_) (fun _ => ?_)⟩
    · refine ⟨_, rfl, _, rfl, a, _, rfl, g1.seqT h1, fun p4 H3 g3 hp4 => ?_⟩
      rw [cut4] at hp4
      have g13 := g1.trans g3
      refine ⟨_, rfl, _, rfl, (by show 0 ≤ sizeLine; decide), fun p5 hp5 => ⟨(by show 5 ≤ sizeLine; decide), fun p6 hp6 => ⟨(by show 1 ≤ sizeLine; decide), fun p7 hp7 => ?_⟩⟩⟩
      have e5 := same_new hp5 (.tup [])
      have e6 := same_new hp6 (.tup [.str PUT, .str nn, .bl false, .int 0, .ref p5])
      have e7 := same_new hp7 (.tup [.ref p6])
      have e57 := e5.trans (e6.trans e7)
      have g17 := g13.trans e57
      refine ⟨b, p7, _, _, rfl, rfl, g17.seqT h2, SqT.of upd_same, (by rw [size_line]; simp only [List.length_singleton]; omega), fun p8 H8 g8 hp8 => ⟨(by show 1 ≤ sizeLine; decide), fun p9 hp9 => ?_⟩⟩
      have e9 := same_new hp9 (.tup [.ref p8])
      have g89 := g8.trans e9
      have gA := g17.trans g89
      refine ⟨p4, p9, _, _, rfl, rfl, (e57.trans g89).seqT hp4, SqT.of upd_same, (by show 4 + 1 ≤ sizeLine; decide), fun p11 H11 g11 hp11 => ?_⟩
      refine fin _ p8 p4 p11 (bs ++ [V.ref p6]) (t.bs ++ [.node (.put nn false 0) 0 []]) H11 gA ((e57.trans g89).seqT hp4) (show SqT K _ p8 (bs ++ [V.ref p6]) from e9.seqT hp8) ?_ ?_ ?_ g11 hp11
      · exact TmAll.append (h3.mono fun _ _ => gA.seqT) (.cons (.put ((e7.trans g89).seqT (SqT.of upd_same)) ((e6.trans (e7.trans g89)).seqT (SqT.of upd_same)) .nil (Nat.zero_le _)) .nil)
      · simp only [List.length_append, List.length_singleton]
        omega
      · intro u hu
        rcases List.mem_append.mp hu with hu | hu
        · exact hbs4 u hu
        · have : u = .node (.put nn false 0) 0 [] := by simpa using hu
          rw [this]
          exact ⟨⟨nn, false, 0, rfl, hnok nn hnn⟩, Nat.zero_le _, fun b hb => (nomatch hb)⟩
    refine ⟨_, rfl, _, _, rfl, rfl, ⟨by decide, by decide⟩, _, _, rfl, rfl, (by show (0 : Int) < 4; decide), rfl, _, rfl, ite2 (fun _ => ?_) (fun _ => ?_)⟩
    · refine ⟨_, rfl, _, rfl, a, _, rfl, g1.seqT h1, fun p4 H3 g3 hp4 => ?_⟩
      rw [cut4] at hp4
      have g13 := g1.trans g3
      refine ⟨_, rfl, _, rfl, b, _, rfl, g13.seqT h2, fun p5 H5 g5 hp5 => ⟨(by show 1 ≤ sizeLine; decide), fun p9 hp9 => ?_⟩⟩
      have ec : cutV bs (some 1) none = bs.drop 1 := cutFrom bs 1
      rw [ec] at hp5
      have e9 := same_new hp9 (.tup [.ref p5])
      have g59 := g5.trans e9
      have gA := g13.trans g59
      refine ⟨p4, p9, _, _, rfl, rfl, g59.seqT hp4, SqT.of upd_same, (by show 4 + 1 ≤ sizeLine; decide), fun p11 H11 g11 hp11 => ?_⟩
      refine fin _ p5 p4 p11 (bs.drop 1) (t.bs.drop 1) H11 gA (g59.seqT hp4) (e9.seqT hp5) (tmDrop 1 (h3.mono fun _ _ => gA.seqT)) ?_ (fun u hu => hbs4 u (List.mem_of_mem_drop hu)) g11 hp11
      rw [List.length_drop]
      omega
    · refine ⟨_, rfl, _, rfl, a, _, rfl, g1.seqT h1, fun p4 H3 g3 hp4 => ?_⟩
      rw [cut4] at hp4
      have g13 := g1.trans g3
      refine ⟨_, rfl, _, rfl, _, rfl, rfl, b, _, rfl, g13.seqT h2, fun p5 hp5 => ⟨(by show 1 ≤ sizeLine; decide), fun p9 hp9 => ?_⟩⟩
      have g5 := same_new hp5 (.tup bs.reverse)
      have e9 := same_new hp9 (.tup [.ref p5])
      have g59 := g5.trans e9
      have gA := g13.trans g59
      refine ⟨p4, p9, _, _, rfl, rfl, g59.seqT hp4, SqT.of upd_same, (by show 4 + 1 ≤ sizeLine; decide), fun p11 H11 g11 hp11 => ?_⟩
      refine fin _ p5 p4 p11 bs.reverse t.bs.reverse H11 gA (g59.seqT hp4) (e9.seqT (SqT.of upd_same)) (tmRev (h3.mono fun _ _ => gA.seqT)) ?_ (fun u hu => hbs4 u (List.mem_reverse.mp hu)) g11 hp11
      rw [List.length_reverse]
      omega
theorem none_spoil {k : Nat} : FnOk P w K mg base CX0 k f fd ["_law_names_here", "_law_term", "_law_number"] (spSpoil K 0) := by
  have no : ∀ vs H Q E, ¬ spSpoil K 0 vs H Q E := fun vs H Q E h => by
    obtain ⟨ln, ns, v, t, x, _, _, _, _, _, h0, _⟩ := h
    exact h0
  exact ⟨fun vs H Q E h => absurd h (no vs H Q E), fun A outer s H args us vs Q E _ _ _ _ h => absurd h (no vs H Q E)⟩
theorem all_spoil (F : Fun K "_law_spoiled" "_law_spoiled" sSpoil f fd) (G : Gm mg) (hb : Binds K fd ["_law_names_here", "_law_term", "_law_number"] []) (hm : mg "_law_spoiled" = some (.ref f)) : ∀ n : Nat, FnOk P w K mg base CX0 (n + 1) f fd ["_law_names_here", "_law_term", "_law_number"] (spSpoil K n)
  | 0 => none_spoil
  | n + 1 => ok_spoil F G ⟨f, fd, all_spoil F G hb hm n, hb, F.kp, hm⟩
theorem scWrong : FnScope ["_law_wood_here", "_law_term", "_law_found", "_law_kind", "_law_k"] ["_law_wood_here", "_law_term", "_law_found"] (defScope sWrong) := ⟨rfl, rfl, rfl, by decide +kernel, rfl, by decide +kernel, by decide +kernel⟩
theorem ok_wrong (F : Fun K "_law_wrong_at" "_law_wrong_at" sWrong f fd) (G : Gm mg) (RW : Fn P w K mg base 1 "_law_whole" ["_law_found"] spWhole) (RR : Fn P w K mg base 1 "_law_row" ["_law_wood_here", "_law_kind", "_law_name"] (spRow K)) (RF : Fn P w K mg base 2 "_law_fits" ["_law_wood_here", "_law_kind", "_law_label"] (spFits K)) : FnOk P w K mg base CX0 3 f fd ["_law_wood_here", "_law_term", "_law_found"] (spWrong K) := by
  refine F.ok scWrong (fun vs H Q E h => ?_) (fun cdv A outer s H vs Q E hr h => ?_)
  · obtain ⟨w, pl, v, t, ks, k0, q, d, rfl, _⟩ := h
    rfl
  obtain ⟨lw, pl, v, t, ks, k0, q, d, rfl, hW, hWF, hk0, hv, hP, hpl, hwr, hQ⟩ := h
  refine ⟨_, (pss_cons (ps_if (pt_not (pt_val (pe_callB call_isinstT rfl G.isi PyProof.Rows.boot_isinstance (pa_cons (pv 2) (pa_cons (pe_bltn (v := .ty "tuple") rfl G.tup PyProof.Rows.boot_tuple rfl) pa_nil))))) (pss_one (ps_ret pe_bl)) pss_nil)
    (pss_cons (ps_set (i := 3) scWrong.nd rfl (Or.inl rfl) (pe_ix ix_tup (pe_ix ix_list (pv 0) pe_int (fun _ _ => rfl)) pe_int (fun _ _ => rfl)))
    (pss_cons (ps_for PassesOwn.never rfl (pi_tup (pv 2)) (pg_name (i := 4) scWrong.nd rfl (Or.inl rfl)) (pss_cons (ps_if (PW.pt (pw_or (pt_not (pt_val (pe_fn RW hr (pa_cons (pv 4) pa_nil)))) (pw_or (pt_cmpR op_lt (pv 4) pe_int (nomark _)) (pw_or1 (pt_cmpR op_ge (pv 4) (pe_callB call_len_seq rfl G.len PySem.boot_len (pa_cons (pe_ix ix_tup (pv 1) pe_int (fun _ _ => rfl)) pa_nil)) (nomark _)))))) (pss_one (ps_ret pe_bl)) pss_nil)
    (pss_cons (ps_if (pt_not (pt_val (pe_fn RF hr (pa_cons (pv 0) (pa_cons (pv 3) (pa_cons ((pe_tup (pa_cons (pe_ix ix_tup (pv 1) pe_int (fun _ _ => rfl)) (pa_cons (pe_int) (pa_cons (pe_callB call_len_seq rfl G.len PySem.boot_len (pa_cons (pe_ix ix_tup (pv 1) pe_int (fun _ _ => rfl)) pa_nil)) pa_nil))))) pa_nil)))))) (pss_one (ps_ret pe_bl)) pss_nil)
    (pss_cons (ps_set (i := 3) scWrong.nd rfl (Or.inl rfl) (pe_ix ix_tup (pe_fn RR hr (pa_cons (pv 0) (pa_cons (pv 3) (pa_cons (pe_ix ix_tup (pv 1) pe_int (fun _ _ => rfl)) pa_nil)))) (pv 4) (fun _ _ => rfl)))
    (pss_one (ps_set (i := 1) scWrong.nd rfl (Or.inl rfl) (pe_ix ix_tup (pe_ix ix_tup (pv 1) pe_int (fun _ _ => rfl)) (pv 4) (fun _ _ => rfl))))))))
    (pss_one (ps_ret (pe_not (pe_fn RF hr (pa_cons (pv 0) (pa_cons (pv 3) (pa_cons ((pe_tup (pa_cons (pe_ix ix_tup (pv 1) pe_int (fun _ _ => rfl)) (pa_cons (pe_int) (pa_cons (pe_callB call_len_seq rfl G.len PySem.boot_len (pa_cons (pe_ix ix_tup (pv 1) pe_int (fun _ _ => rfl)) pa_nil)) pa_nil))))) pa_nil)))))))))), ?_⟩
  have hat : atI (ks.map fun k => V.ref k.1) 0 = some (.ref k0.1) := atI_nat (j := 0) (by rw [List.getElem?_map, hk0]; rfl)
  refine ⟨_, rfl, pl, _, "tuple", true, rfl, hpl, rfl, _, rfl, iteF ?_⟩
  refine ⟨_, rfl, lw, _, 0, _, rfl, rfl, hW.1, hat, k0.1, _, 0, _, rfl, rfl, (hW.2 k0 (List.mem_of_getElem? hk0)).1, rfl, ?_⟩
  refine ⟨_, rfl, pl, rfl, ⟨_, hpl⟩, ?_⟩
  refine for_tup (K := K) (xs := q.map V.int) (fun i σ H' => ∃ (c4 : Option V) (v' : V) (t' : Tm) (kind : Str) (d : Nat), σ = [some (.ref lw), some v', some (.ref pl), some (.str kind), c4] ∧ Same H H' ∧ TmV K H' v' t' ∧ PutT 5 d t' ∧ (∃ k ∈ ks, k.2.1 = kind) ∧ Wr (rowK ks) t' kind (q.drop i))
    ⟨none, v, t, k0.2.1, d, rfl, Same.refl _, hv, hP, ⟨k0, List.mem_of_getElem? hk0, rfl⟩, hwr⟩ ?_ ?_ ?_
  · rintro i σ H' _ ⟨c4, v', t', kind, d, _, g, _⟩
    exact g.seqT hpl
  · rintro i x σ H' hx ⟨c4, v', t', kind, d, rfl, g, hv', hP', hkind, hwr'⟩
    have hi : i < q.length := by
      have := (List.getElem?_eq_some_iff.mp hx).1
      rwa [List.length_map] at this
    rw [List.drop_eq_getElem_cons hi] at hwr'
    obtain ⟨j, b', s', ss, ej, er, el, hbj, hsj, hwr2⟩ := hwr'
    obtain rfl : x = .int (j : Int) := by
      rw [List.getElem?_map, List.getElem?_eq_getElem hi, ej] at hx
      exact (Option.some.inj hx).symm
    cases d with
    | zero => exact hP'.elim
    | succ d =>
      obtain ⟨⟨nm, kp, ad, elb, hnm⟩, hbl, hbs⟩ := hP'
      rcases tm_open hv' with ⟨a, mo, b, rfl, rfl, h1⟩ | ⟨a, b, bs, nm', k', ad', rfl, et, h1, h2, h3, h4⟩
      · cases elb
      have hlen := h3.length
      have enm : nmP t' = nm' := by unfold nmP; rw [et]; rfl
      rw [enm] at er
      have hjt := (List.getElem?_eq_some_iff.mp hbj).1
      refine ⟨_, rfl, _, rfl, _, rfl, iteF ⟨_, rfl, _, _, rfl, rfl, _, rfl, iteN (show ¬ ((j : Int) < 0) by omega) ⟨_, rfl, _, rfl, a, _, 4, _, rfl, rfl, h1, rfl, b, _, rfl, .inr h2, _, _, rfl, rfl, _, rfl, iteN (show ¬ ((j : Int) ≥ ((bs.length : Nat) : Int)) by omega) ?_⟩⟩⟩
      refine ⟨_, rfl, _, rfl, _, rfl, a, _, 1, _, rfl, rfl, h1, rfl, _, rfl, a, _, 4, _, rfl, rfl, h1, rfl, b, _, rfl, .inr h2, (by show 3 ≤ sizeLine; decide), fun lb hlb => ?_⟩
      have g1 := same_new hlb (.tup [.str nm', .int 0, .int ((bs.length : Nat) : Int)])
      refine ⟨lw, lb, kind, nm', .int 0, _, ks, rfl, hW.same (g.trans g1), hWF.ok, hkind, SqT.of upd_same, fun bb H2 g2 hiff => ⟨_, rfl, ?_⟩⟩
      obtain rfl : bb = true := hiff.mpr ⟨ss, er, by omega⟩
      have g12 := g1.trans g2
      refine iteF ⟨_, rfl, _, rfl, _, rfl, a, _, 1, _, rfl, rfl, g12.seqT h1, rfl, lw, kind, nm', ks, rfl, hW.same (g.trans g12), hWF.ok, hkind, fun rv H3 g3 hrv => ?_⟩
      rw [er] at hrv
      obtain ⟨br, rfl, hbr⟩ := hrv
      have g13 := g12.trans g3
      have hjs := (List.getElem?_eq_some_iff.mp hsj).1
      refine ⟨_, rfl, br, _, _, .str s', rfl, rfl, hbr, atI_nat (by rw [List.getElem?_map, hsj]; rfl), ?_⟩
      obtain ⟨cv, hcv, hct⟩ := h3.get hbj
      refine ⟨_, rfl, a, _, 4, _, rfl, rfl, g13.seqT h1, rfl, _, rfl, b, _, _, cv, rfl, rfl, g13.seqT h2, atI_nat hcv, ?_⟩
      exact ⟨_, cv, b', s', d, rfl, g.trans g13, hct.mono fun _ _ => g13.seqT, hbs b' (List.mem_of_getElem? hbj), row_kind hWF er (List.mem_of_getElem? hsj), hwr2⟩
  · rintro σ H' ⟨c4, v', t', kind, d, rfl, g, hv', hP', hkind, hwr'⟩
    rw [List.length_map, List.drop_length] at hwr'
    cases d with
    | zero => exact hP'.elim
    | succ d =>
      obtain ⟨⟨nm, kp, ad, elb, hnm⟩, hbl, hbs⟩ := hP'
      rcases tm_open hv' with ⟨a, mo, b, rfl, rfl, h1⟩ | ⟨a, b, bs, nm', k', ad', rfl, et, h1, h2, h3, h4⟩
      · cases elb
      have hlen := h3.length
      have enm : nmP t' = nm' := by unfold nmP; rw [et]; rfl
      refine ⟨_, rfl, _, rfl, _, rfl, a, _, 1, _, rfl, rfl, h1, rfl, _, rfl, a, _, 4, _, rfl, rfl, h1, rfl, b, _, rfl, .inr h2, (by show 3 ≤ sizeLine; decide), fun lb hlb => ?_⟩
      have g1 := same_new hlb (.tup [.str nm', .int 0, .int ((bs.length : Nat) : Int)])
      refine ⟨lw, lb, kind, nm', .int 0, _, ks, rfl, hW.same (g.trans g1), hWF.ok, hkind, SqT.of upd_same, fun bb H2 g2 hiff => ⟨_, rfl, ?_⟩⟩
      have hb : bb = false := by
        cases bb with
        | false => rfl
        | true =>
          obtain ⟨ss, e1, e2⟩ := hiff.mp rfl
          exact absurd ⟨ss, by rw [enm]; exact e1, by omega⟩ hwr'
      rw [hb]
      exact hQ H2 (g.trans (g1.trans g2))
end
end K60
namespace K60
open PySem L2 TM TT K9 K11
abbrev rLstOf (K : PySem.W.Frag) : List V → Hp → VK → Prop := fun xs H Q => ∃ p ys, xs = [.ref p] ∧ (SqL K H p ys ∨ SqT K H p ys) ∧ ∀ l, H l = none → Q (.ref l) (upd H l (.lst ys))
theorem WF.of {hs ks : List KdT} (h : WF ks) (e : hs.map keyW = ks.map keyW) : WF hs := by
  have e1 : (hs.map fun k => k.2.1) = ks.map fun k => k.2.1 := by
    have := congrArg (List.map Prod.fst) e
    rw [List.map_map, List.map_map] at this
    exact this
  have el : hs.length = ks.length := by
    have := congrArg List.length e
    rwa [List.length_map, List.length_map] at this
  have mem : ∀ k ∈ hs, ∃ k' ∈ ks, k'.2.1 = k.2.1 ∧ k'.2.2.2 = k.2.2.2 := fun k hk => by
    have hm : keyW k ∈ ks.map keyW := by rw [← e]; exact List.mem_map.mpr ⟨k, hk, rfl⟩
    obtain ⟨k', hk', e'⟩ := List.mem_map.mp hm
    exact ⟨k', hk', congrArg (fun p : Str × List PNx => p.1) e', congrArg (fun p : Str × List PNx => p.2) e'⟩
  refine ⟨WoodOk.of h.ok e, by rw [el]; exact h.ne, by rw [el]; exact h.l3, fun k hk => ?_, fun k hk => ?_⟩
  · obtain ⟨k', hk', e2, _⟩ := mem k hk
    rw [← e2]; exact h.nm k' hk'
  · obtain ⟨k', hk', _, e3⟩ := mem k hk
    rw [← e3, e1]; exact h.kf k' hk'
theorem first_of {hs ks : List KdT} (e : hs.map keyW = ks.map keyW) {k0 : KdT} (h : ks[0]? = some k0) : ∃ k', hs[0]? = some k' ∧ k'.2.1 = k0.2.1 := by
  have h1 : (hs.map keyW)[0]? = some (keyW k0) := by rw [e, List.getElem?_map, h]; rfl
  rw [List.getElem?_map] at h1
  cases hh : hs[0]? with
  | none => rw [hh] at h1; cases h1
  | some k' =>
    rw [hh] at h1
    have h2 : keyW k' = keyW k0 := Option.some.inj h1
    exact ⟨k', rfl, congrArg (fun p : Str × List PNx => p.1) h2⟩
theorem WF.first {ks : List KdT} (h : WF ks) : ∃ k0, ks[0]? = some k0 ∧ k0 ∈ ks ∧ HasLeaf ks k0.2.1 := by
  have h0 := h.ne
  refine ⟨ks[0], List.getElem?_eq_getElem h0, List.getElem_mem h0, ?_⟩
  obtain ⟨r, hr, er⟩ := (h.kf _ (List.getElem_mem h0)).bare
  obtain ⟨k, hk, erow, hkm⟩ := find_kind ⟨ks[0], List.getElem_mem h0, rfl⟩
  refine ⟨r, ?_, er⟩
  rw [erow]
  have hkn : k.2.1 = ks[0].2.1 := by simpa using List.find?_some hk
  have : k = ks[0] := by
    obtain ⟨i, hi, ei⟩ := List.getElem_of_mem hkm
    have h1 : (ks.map fun k => k.2.1)[i]? = (ks.map fun k => k.2.1)[0]? := by
      rw [List.getElem?_map, List.getElem?_map, List.getElem?_eq_getElem hi, List.getElem?_eq_getElem h0, ei]
      show some k.2.1 = some ks[0].2.1
      rw [hkn]
    have := (List.getElem?_inj (by rw [List.length_map]; exact hi) h.ok.nd).mp h1
    subst this
    exact ei.symm
  rw [this]; exact hr
theorem HasLeaf.of {hs ks : List KdT} (e : hs.map keyW = ks.map keyW) {s : Str} (h : HasLeaf ks s) : HasLeaf hs s := by
  unfold HasLeaf at h ⊢
  rw [rowsK_eq e]; exact h
theorem leafT_eq {hs ks : List KdT} (e : hs.map keyW = ks.map keyW) (s : Str) : leafT hs s = leafT ks s := by
  unfold leafT leafN
  rw [rowsK_eq e]
theorem copyC {K : PySem.W.Frag} {H : Hp} {wd lx : Addr} {ks : List KdT} {R : Hp → Prop} (hW : WoodAt K H wd ks) (hO : WoodOk ks) (hlx : H lx = none) (q : ∀ hs H', Same H H' → hs.map keyW = ks.map keyW → WoodAt K H' lx hs → R H') :
    CGoal (Itl K wd) 2 [] (gTup K 2 (gCons (gName 0) (gCons (gName 1) gNil))) (fun _ H Q => Q true H) (tTup (tCons (tVar 0) (tCons (tCB (rLstOf K) (tCons (tVar 1) tNil)) tNil))) H lx R := by
  refine c2_list (K := K) (xs := ks.map fun k => V.ref k.1) (cs := []) (tt := fun _ H Q => Q true H) (te := tTup (tCons (tVar 0) (tCons (tCB (rLstOf K) (tCons (tVar 1) tNil)) tNil))) (fun j ys H' => ∃ hs : List KdT, ys = hs.map (fun k => V.ref k.1) ∧ hs.map keyW = (ks.take j).map keyW ∧ (∀ k ∈ hs, SqT K H' k.1 [.str k.2.1, .ref k.2.2.1] ∧ (H' k.2.2.1 = some (.lst (k.2.2.2.map fun t => V.ref t.1)) ∧ k.2.2.1 ≠ lx) ∧ ∀ t ∈ k.2.2.2, RowAt K H' t) ∧ H' lx = some (.lst ys) ∧ Same H H')
    ⟨[], rfl, rfl, fun k hk => (nomatch hk), upd_same, same_new hlx _⟩ ?_ ?_ ?_
  · rintro j ys H' _ ⟨hs, _, _, _, _, g⟩
    exact (hW.same g).1
  · rintro j x ys H' hj hx ⟨hs, rfl, hkey, hat, hya, g⟩
    have hjk : j < ks.length := by simpa using hj
    obtain rfl : x = .ref ks[j].1 := by
      rw [List.getElem?_map, List.getElem?_eq_getElem hjk] at hx
      exact (Option.some.inj hx).symm
    obtain ⟨hk1, hkr⟩ := (hW.same g).2 _ (List.getElem_mem hjk)
    have hhl : hs.length = j := by
      have := congrArg List.length hkey
      rw [List.length_map, List.length_map, List.length_take] at this
      omega
    have hkl := hO.len
    refine ⟨ks[j].1, _, _, rfl, hk1, iteT ⟨_, rfl, _, rfl, ks[j].2.2.1, _, rfl, .inl hkr.1, fun l2 hl2 => ⟨(by show 2 ≤ sizeLine; decide), fun p2 hp2 => ?_⟩⟩⟩
    have e1 := same_new hl2 (.lst (ks[j].2.2.2.map fun t => V.ref t.1))
    have e2 := same_new hp2 (.tup [.str ks[j].2.1, .ref l2])
    have e12 := e1.trans e2
    have hya2 := e12 _ _ hya
    have hl2x : l2 ≠ lx := fun z => by rw [z, hya] at hl2; cases hl2
    refine comp_next (ys := hs.map fun k => V.ref k.1) hj hya2 (by rw [List.length_map]; omega) ⟨hs ++ [(p2, ks[j].2.1, l2, ks[j].2.2.2)], by simp, ?_, fun k hk => ?_, upd_same, fun x u e => by rw [upd_ne (ne_of_none e hlx)]; exact e12 _ _ (g _ _ e)⟩
    · rw [List.map_append, hkey, List.take_add_one, List.getElem?_eq_getElem hjk, List.map_append]
      rfl
    · rcases List.mem_append.mp hk with z | z
      · obtain ⟨a1, ⟨a2, a3⟩, a4⟩ := hat k z
        exact ⟨(e12.seqT a1).put hya2, ⟨by rw [upd_ne a3]; exact e12 _ _ a2, a3⟩, fun t ht => ⟨(e12.seqT (a4 t ht).1).put hya2, (e12.seqT (a4 t ht).2).put hya2⟩⟩
      · have : k = (p2, ks[j].2.1, l2, ks[j].2.2.2) := by simpa using z
        rw [this]
        refine ⟨SqT.put (SqT.of upd_same) hya2, ⟨by rw [upd_ne hl2x]; exact e2 _ _ upd_same, hl2x⟩, fun t ht => ⟨(e12.seqT (hkr.2 t ht).1).put hya2, (e12.seqT (hkr.2 t ht).2).put hya2⟩⟩
  rintro ys H1 ⟨hs, rfl, hkey, hat, hya, g1⟩
  rw [List.length_map, List.take_length] at hkey
  exact q hs H1 g1 hkey ⟨SqL.of hya, fun k hk => by
    obtain ⟨a1, ⟨a2, _⟩, a4⟩ := hat k hk
    exact ⟨a1, SqL.of a2, a4⟩⟩
def wdD' (ks : List KdT) : PyData := .list ((ks.map keyW).map datKind)
def tuD (ks : List KdT) (t : Tm) : PyData := .tuple [wdD' ks, tmd t, .list []]
theorem lay_wd {ks : List KdT} (hW : WF ks) : (wdD' ks).canLay0 = true ∧ (wdD' ks).depth ≤ 6 := by
  have a1 := lay_kinds hW.nm fun k hk => (hW.kf k hk).ok
  have a2 := depth_kinds (ks.map keyW)
  unfold wdD'
  constructor
  · simp only [PyData.canLay0, a1]
  · simp only [PyData.depth]
    omega
theorem lay_tu {ks : List KdT} {t : Tm} (hW : WF ks) (ht : MOk 10 t) : (tuD ks t).canLay0 = true ∧ (tuD ks t).depth ≤ 20 := by
  obtain ⟨a1, a2⟩ := lay_wd hW
  obtain ⟨b1, b2⟩ := ht
  unfold tuD
  constructor
  · simp only [PyData.canLay0, PyData.canLayAll0, a1, b1, Bool.and_self]
  · simp only [PyData.depth, PyData.depthAll]
    omega
def spLaw (K : PySem.W.Frag) : Sp := fun vs H Q _ => ∃ (a : Addr) (ns : List Int), vs = [.ref a] ∧ SqL K H a (ns.map V.int) ∧ ns.length ≤ 63 ∧ ∀ H', Q (.bl true) H'
abbrev lawN : List Str := ["_law_script", "_law_names_here", "_law_wood_here", "_law_out", "_law_start", "_law_handed", "_law_other", "_law_found", "_law_tree"]
section
variable {P : Program} {w : World} {K : PySem.W.Frag} {mg : Str → Option Value} {base : Heap} {f : Addr} {fd : FuncData}
theorem scLaw : FnScope lawN ["_law_script"] (defScope sLaw) := ⟨rfl, rfl, rfl, by decide +kernel, rfl, by decide +kernel, by decide +kernel⟩
theorem ok_law (F : Fun K "law" "law" sLaw f fd) (G : Gm mg) (RC : Fn P w K mg base 1 "_law_cell_at" ["_law_script", "_law_k"] (spCell K)) (RM : Fn P w K mg base 1 "_law_mixed" ["_law_cell", "_law_k"] spMixed) (RN : Fn P w K mg base 2 "_law_names" ["_law_cell"] (spNames K)) (RW : Fn P w K mg base 2 "_law_wood" ["_law_cell", "_law_names_here"] (spWood K))
    (RT : Fn P w K mg base 5 "_law_typed" typedP (spTyped K 4)) (RS : Fn P w K mg base 5 "_law_spoiled" ["_law_names_here", "_law_term", "_law_number"] (spSpoil K 4)) (RY : Fn P w K mg base 10 "strays" ["turning", "wood"] (spStr K 5)) (RO : Fn P w K mg base 7 "_law_of_kind" ["_law_wood_here", "_law_kind", "_law_term"] (spOfK K 5))
    (RA : Fn P w K mg base 3 "_law_wrong_at" ["_law_wood_here", "_law_term", "_law_found"] (spWrong K)) (RH : Fn P w K mg base 1 "_law_whole" ["_law_found"] spWhole) (RR : Fn P w K mg base 1 "_law_row" ["_law_wood_here", "_law_kind", "_law_name"] (spRow K)) :
    FnOk P w K mg base CX0 11 f fd ["_law_script"] (spLaw K) := by
  refine F.ok scLaw (fun vs H Q E h => ?_) (fun cdv A outer s H vs Q E hr h => ?_)
  · obtain ⟨a, cs, rfl, _⟩ := h
    rfl
  obtain ⟨a, cs, rfl, hS, h63, q⟩ := h
  have room : ∀ m : Nat, m ≤ 64 → (A.deeper (PyProof.Rows.envOfC "law" (defScope sLaw) s.heap.objs.size f cdv)).units + m < cLine := fun m hm => by have := hr.units; omega
  refine ⟨_, (pss_cons (ps_set (i := 1) scLaw.nd rfl (Or.inl rfl) (pe_fn RN hr (pa_cons (pe_fn RC hr (pa_cons (pv 0) (pa_cons (pe_int) pa_nil))) pa_nil)))
    (pss_cons (ps_set (i := 2) scLaw.nd rfl (Or.inl rfl) (pe_fn RW hr (pa_cons (pe_fn RC hr (pa_cons (pv 0) (pa_cons (pe_int) pa_nil))) (pa_cons (pv 1) pa_nil))))
    (pss_cons (ps_set (i := 3) scLaw.nd rfl (Or.inl rfl) (pe_fn RW hr (pa_cons (pe_fn RC hr (pa_cons (pv 0) (pa_cons (pe_int) pa_nil))) (pa_cons (pv 1) pa_nil))))
    (pss_cons (ps_set (i := 4) scLaw.nd rfl (Or.inl rfl) (pe_fn RT hr (pa_cons (pe_fn RC hr (pa_cons (pv 0) (pa_cons (pe_int) pa_nil))) (pa_cons (pe_int) (pa_cons (pe_int) (pa_cons (pe_ix ix_tup (pe_ix ix_list (pv 3) pe_int (fun _ _ => rfl)) pe_int (fun _ _ => rfl)) (pa_cons (pv 3) (pa_cons (pe_lst pa_nil) (pa_cons (pe_bl) pa_nil)))))))))
    (pss_cons (ps_cut (ps_if (pt_cmpR op_gt (pe_op op_mod (pe_fn RC hr (pa_cons (pv 0) (pa_cons (pe_int) pa_nil))) pe_int) pe_int (nomark _)) (pss_one (ps_set (i := 4) scLaw.nd rfl (Or.inl rfl) (pe_fn RS hr (pa_cons (pv 1) (pa_cons (pv 4) (pa_cons (pe_fn RM hr (pa_cons (pe_fn RC hr (pa_cons (pv 0) (pa_cons (pe_int) pa_nil))) (pa_cons (pe_int) pa_nil))) pa_nil)))))) pss_nil))
    (pss_cons (ps_set (i := 5) scLaw.nd rfl (Or.inl rfl) (pe_tup (pa_cons (pe_lcompG (CompG.many (xs := ["_law_kind", "_law_rows"]) (caps := []) (cap := []) (cs := []) rfl rfl (by decide +kernel) (by decide +kernel) (by decide +kernel) (by decide +kernel) (by decide +kernel) (by decide +kernel) rfl rfl rfl) rfl (pi_list (pv 2)) (pg_c2 (CompG.many (xs := ["_law_kind", "_law_rows"]) (caps := []) (cap := []) (cs := []) rfl rfl (by decide +kernel) (by decide +kernel) (by decide +kernel) (by decide +kernel) (by decide +kernel) (by decide +kernel) rfl rfl rfl) rfl) (fun _ _ _ _ => pf_nil) (fun _ _ _ _ => (pe_tup (pa_cons (pv 0) (pa_cons (pe_callTy (r := rLstOf K) call_list_of rfl G.lst PyProof.Rows.boot_list (pa_cons (pv 1) pa_nil)) pa_nil))))) (pa_cons (pv 4) (pa_cons (pe_lst pa_nil) pa_nil)))))
    (pss_cons (ps_setG (i := 6) (CompG.many (xs := ["_law_kind", "_law_rows"]) (caps := []) (cap := []) (cs := []) rfl rfl (by decide +kernel) (by decide +kernel) (by decide +kernel) (by decide +kernel) (by decide +kernel) (by decide +kernel) rfl rfl rfl) rfl (pi_list (pv 3)) (pg_c2 (CompG.many (xs := ["_law_kind", "_law_rows"]) (caps := []) (cap := []) (cs := []) rfl rfl (by decide +kernel) (by decide +kernel) (by decide +kernel) (by decide +kernel) (by decide +kernel) (by decide +kernel) rfl rfl rfl) rfl) (fun _ _ _ _ => pf_nil) (fun _ _ _ _ => (pe_tup (pa_cons (pv 0) (pa_cons (pe_callTy (r := rLstOf K) call_list_of rfl G.lst PyProof.Rows.boot_list (pa_cons (pv 1) pa_nil)) pa_nil)))) scLaw.nd rfl rfl)
    (pss_cons (ps_cut (ps_set (i := 7) scLaw.nd rfl (Or.inl rfl) (pe_fn RY hr (pa_cons (pv 5) (pa_cons (pv 6) pa_nil)))))
    (pss_cons (ps_if (PW.pt (pw_or (pt_cmpR op_neD (pv 5) (pe_tup (pa_cons (pv 2) (pa_cons (pv 4) (pa_cons (pe_lst pa_nil) pa_nil)))) (nomark _)) (pw_or1 (pt_cmpR op_neD (pv 6) (pv 3) (nomark _))))) (pss_one (ps_ret pe_bl)) pss_nil)
    (pss_cons (ps_if (pt_val (pe_fn RO hr (pa_cons (pv 3) (pa_cons (pe_ix ix_tup (pe_ix ix_list (pv 3) pe_int (fun _ _ => rfl)) pe_int (fun _ _ => rfl)) (pa_cons (pv 4) pa_nil))))) (pss_one (ps_ret (pe_cmp (pc_isN (pv 7))))) pss_nil)
    (pss_cons (ps_if (PW.pt (pw_or (pt_not (pt_val (pe_callB call_isinstT rfl G.isi PyProof.Rows.boot_isinstance (pa_cons (pv 7) (pa_cons (pe_bltn (v := .ty "tuple") rfl G.tup PyProof.Rows.boot_tuple rfl) pa_nil))))) (pw_or (pt_cmpR op_ne (pe_callB call_len_seq rfl G.len PySem.boot_len (pa_cons (pv 7) pa_nil)) pe_int (nomark _)) (pw_or1 (pt_not (pt_val (pe_fn RA hr (pa_cons (pv 3) (pa_cons (pv 4) (pa_cons (pe_ix ix_tup (pv 7) pe_int (fun _ _ => rfl)) pa_nil)))))))))) (pss_one (ps_ret pe_bl)) pss_nil)
    (pss_cons (ps_set (i := 8) scLaw.nd rfl (Or.inl rfl) (pe_ix ix_tup (pv 7) pe_int (fun _ _ => rfl)))
    (pss_cons (ps_if (PW.pt (pw_or (pt_not (pt_val (pe_callB call_isinstT rfl G.isi PyProof.Rows.boot_isinstance (pa_cons (pv 8) (pa_cons (pe_bltn (v := .ty "tuple") rfl G.tup PyProof.Rows.boot_tuple rfl) pa_nil))))) (pw_or (pt_cmpR op_ne (pe_callB call_len_seq rfl G.len PySem.boot_len (pa_cons (pv 8) pa_nil)) pe_int (nomark _)) (pw_or (pt_not (pt_val (pe_callB call_isinst rfl G.isi PyProof.Rows.boot_isinstance (pa_cons (pe_ix ix_tup (pv 8) pe_int (fun _ _ => rfl)) (pa_cons (pe_bltn (v := .ty "str") rfl G.str PyProof.Rows.boot_str rfl) pa_nil))))) (pw_or1 (pt_not (pt_val (pe_fn RH hr (pa_cons (pe_ix ix_tup (pv 8) pe_int (fun _ _ => rfl)) pa_nil))))))))) (pss_one (ps_ret pe_bl)) pss_nil)
    (pss_one (ps_ret (pe_and (pe_cmpR op_eqD (pe_ix ix_tup (pv 8) pe_int (fun _ _ => rfl)) (pe_tup pa_nil) (nomark _)) (pe_one (pe_cmpR op_eqD (pe_fn RR hr (pa_cons (pv 2) (pa_cons (pe_ix ix_tup (pe_ix ix_list (pv 2) pe_int (fun _ _ => rfl)) pe_int (fun _ _ => rfl)) (pa_cons (pe_ix ix_tup (pv 8) pe_int (fun _ _ => rfl)) pa_nil)))) (pe_tup pa_nil) (nomark _))))))))))))))))))), ?_⟩
  refine ⟨_, rfl, a, cs, 0, rfl, by decide, hS, fun c0 => ⟨c0, rfl, fun ln H1 nn g1 hln hn8 hnd hnok => ?_⟩⟩
  refine ⟨_, rfl, a, cs, 1, rfl, by decide, g1.seq hS, fun c1 => ⟨_, rfl, c1, ln, nn, rfl, SqL.of hln, hn8, hnd, hnok, fun lw H2 k1 g2 hW1 hF1 => ?_⟩⟩
  have g12 := g1.trans g2
  refine ⟨_, rfl, a, cs, 2, rfl, by decide, g12.seq hS, fun c2 => ⟨_, rfl, c2, ln, nn, rfl, SqL.of (g2 _ _ hln), hn8, hnd, hnok, fun lo H3 k2 g3 hW2 hF2 => ?_⟩⟩
  have g13 := g12.trans g3
  obtain ⟨k01, hk01, hk01m, hL1⟩ := hF1.first
  obtain ⟨k00, hk00, hk00m, _⟩ := hF2.first
  have hat2 : atI (k2.map fun k => V.ref k.1) 0 = some (.ref k00.1) := atI_nat (j := 0) (by rw [List.getElem?_map, hk00]; rfl)
  have hat1 : atI (k1.map fun k => V.ref k.1) 0 = some (.ref k01.1) := atI_nat (j := 0) (by rw [List.getElem?_map, hk01]; rfl)
  refine ⟨_, rfl, a, cs, 3, rfl, by decide, g13.seq hS, fun c3 => ⟨_, rfl, lo, _, 0, _, rfl, rfl, hW2.1, hat2, k00.1, _, 0, _, rfl, rfl, (hW2.2 k00 hk00m).1, rfl, _, rfl, (by show 0 ≤ sizeLine; decide), fun lc hlc => ?_⟩⟩
  have g4 := same_new hlc (.lst [])
  refine ⟨c3, 0, 3, k00.2.1, lo, lc, k2, rfl, by decide, rfl, by decide, by decide, hW2.same g4, hF2, ⟨k00, hk00m, rfl⟩, SqL.of upd_same, fun sv0 H5 t00 g5 hsv0 hP0 => ?_⟩
  have g15 := g13.trans (g4.trans g5)
  have hln5 := (g2.trans (g3.trans (g4.trans g5))) _ _ hln
  refine ⟨fun σ' H' => ∃ (sv : V) (t0 : Tm), σ' = [some (.ref a), some (.ref ln), some (.ref lw), some (.ref lo), some sv, none, none, none, none] ∧ Same H5 H' ∧ TmV K H' sv t0 ∧ PutT 5 5 t0, ?_, ?_⟩
  · refine ⟨_, rfl, a, cs, 4, rfl, by decide, g15.seq hS, fun c4 => ⟨_, _, rfl, rfl, (by show (0 : Int) < 3; decide), _, _, rfl, rfl, _, rfl, ite2 (fun _ => ?_) (fun _ => ?_)⟩⟩
    · refine ⟨_, rfl, _, rfl, _, rfl, a, cs, 4, rfl, by decide, g15.seq hS, fun c5 => ⟨c5, 6, rfl, by decide, by decide, fun x x0 x1 => ⟨ln, nn, sv0, t00, x, rfl, SqL.of hln5, hn8, hnok, hsv0, hP0, by decide, fun v' H' t' g' hv' hP' => ⟨v', t', rfl, g', hv', hP'.wide (by decide)⟩⟩⟩⟩
    · exact ⟨sv0, t00, rfl, Same.refl _, hsv0, hP0.mono (by decide)⟩
  rintro σ H6 ⟨sv, t0, rfl, g6, hsv, hP⟩
  have g36 := (g4.trans g5).trans g6
  have g16 := g13.trans g36
  have hW16 := hW1.same (g3.trans g36)
  have hW26 := hW2.same g36
  refine ⟨_, rfl, lw, rfl, ⟨_, hW16.1⟩, fun lx hlx => ?_⟩
  refine copyC hW16 hF1.ok hlx fun h1 H7 g7 e7 hh1 => ?_
  refine ⟨_, rfl, (by show 0 ≤ sizeLine; decide), fun lm hlm => ⟨(by show 3 ≤ sizeLine; decide), fun tu htu => ?_⟩⟩
  have g8 := same_new hlm (.lst [])
  have g9 := same_new htu (.tup [.ref lx, sv, .ref lm])
  have g89 := g8.trans g9
  have g79 := g7.trans g89
  have htu9 : SqT K (upd (upd H7 lm (.lst [])) tu (.tup [.ref lx, sv, .ref lm])) tu [.ref lx, sv, .ref lm] := SqT.of upd_same
  have hlm9 : SqL K (upd (upd H7 lm (.lst [])) tu (.tup [.ref lx, sv, .ref lm])) lm [] := g9.seq (SqL.of upd_same)
  have hh19 := hh1.same g89
  generalize upd (upd H7 lm (.lst [])) tu (.tup [.ref lx, sv, .ref lm]) = H9 at g89 g79 htu9 hlm9 hh19
  refine ⟨_, rfl, lo, rfl, ⟨_, (hW26.same g79).1⟩, fun ly hly => ?_⟩
  refine copyC (hW26.same g79) hF2.ok hly fun h2 HA gA eA hh2 => ?_
  have g6A := g79.trans gA
  have hF1' := hF1.of e7
  have hF2' := hF2.of eA
  obtain ⟨k01', hk01', ek01⟩ := first_of e7 hk01
  obtain ⟨k00', hk00', ek00⟩ := first_of eA hk00
  have hsvA := hsv.mono fun _ _ => g6A.seqT
  refine ⟨fun σ' H' => ∃ fv : V, σ' = [some (.ref a), some (.ref ln), some (.ref lw), some (.ref lo), some sv, some (.ref tu), some (.ref ly), some fv, none] ∧ Same HA H' ∧ ((okN (rowK k2) 5 t0 k00.2.1 ∧ fv = .non) ∨ ∃ (p qa : Addr) (v : V) (qq : List Int), fv = .ref p ∧ SqT K H' p [v, .ref qa] ∧ TrV K H' v (leafT k1 k01.2.1) ∧ SqT K H' qa (qq.map V.int) ∧ Wr (rowK k2) t0 k00.2.1 qq), ?_, ?_⟩
  · refine ⟨_, rfl, _, rfl, tu, lx, lm, ly, sv, h1, h2, k01', k00', t0, rfl, gA.seqT htu9, hh19.same gA, hF1'.ok, hk01', by rw [ek01]; exact hL1.of e7, hh2, hF2', hk00', hsvA, hP, fun hok H' g' => ⟨.non, rfl, g', .inl ⟨?_, rfl⟩⟩, fun p qa v qq H' g' hp hv hqa hwr => ⟨.ref p, rfl, g', .inr ⟨p, qa, v, qq, rfl, hp, ?_, hqa, ?_⟩⟩⟩
    · rw [rowK_eq eA, ek00] at hok; exact hok
    · rw [leafT_eq e7, ek01] at hv; exact hv
    · rw [rowK_eq eA, ek00] at hwr; exact hwr
  rintro σ HB ⟨fv, rfl, gB, hfv⟩
  have g9B := gA.trans gB
  have g6B := g6A.trans gB
  have hmk : MOk 10 t0 := hP.mok
  obtain ⟨tl1, tl2⟩ := lay_tu hF1 hmk
  obtain ⟨wl1, wl2⟩ := lay_wd hF2
  refine ⟨_, rfl, _, rfl, _, rfl, (by show 0 ≤ sizeLine; decide), fun le hle => ⟨(by show 3 ≤ sizeLine; decide), fun pt hpt => ?_⟩⟩
  have gC := (same_new hle (.lst [])).trans (same_new hpt (.tup [.ref lw, sv, .ref le]))
  have hpt9 : SqT K (upd (upd HB le (.lst [])) pt (.tup [.ref lw, sv, .ref le])) pt [.ref lw, sv, .ref le] := SqT.of upd_same
  have hle9 : SqL K (upd (upd HB le (.lst [])) pt (.tup [.ref lw, sv, .ref le])) le [] := (same_new hpt _).seq (SqL.of upd_same)
  generalize upd (upd HB le (.lst [])) pt (.tup [.ref lw, sv, .ref le]) = HC at gC hpt9 hle9
  have g9C := g9B.trans gC
  have g6C := g6B.trans gC
  have hsvC := hsv.mono fun _ _ => g6C.seqT
  have hh1C := hh19.same g9C
  have hh2C := hh2.same (gB.trans gC)
  have hW1C := hW16.same g6C
  have hW2C := hW26.same g6C
  have rd1 : RdV K HC (.ref tu) (tuD k1 t0) := by
    unfold tuD wdD'
    rw [← e7]
    exact .tup (g9C.seqT htu9) (.cons (.lst hh1C.1 (rd_kinds hh1C.2)) (.cons hsvC.rd (.cons (.lst (g9C.seq hlm9) .nil) .nil)))
  have rd2 : RdV K HC (.ref pt) (tuD k1 t0) := by
    unfold tuD wdD'
    exact .tup hpt9 (.cons (.lst hW1C.1 (rd_kinds hW1C.2)) (.cons hsvC.rd (.cons (.lst hle9 .nil) .nil)))
  have rd3 : RdV K HC (.ref ly) (wdD' k2) := by
    unfold wdD'
    rw [← eA]
    exact .lst hh2C.1 (rd_kinds hh2C.2)
  have rd4 : RdV K HC (.ref lo) (wdD' k2) := by
    unfold wdD'
    exact .lst hW2C.1 (rd_kinds hW2C.2)
  refine ⟨_, _, rd1, rd2, tl1, tl1, room _ (Nat.le_trans (Nat.min_le_left _ _) (by omega)), _, rfl, ?_⟩
  rw [if_pos rfl, eqv_self _ tl1]
  refine iteF ⟨_, rfl, _, rfl, _, _, rd3, rd4, wl1, wl1, room _ (Nat.le_trans (Nat.min_le_left _ _) (by omega)), _, rfl, ?_⟩
  rw [if_pos rfl, eqv_self _ wl1]
  refine iteF ?_
  refine ⟨_, rfl, _, rfl, lo, _, 0, _, rfl, rfl, hW2C.1, hat2, k00.1, _, 0, _, rfl, rfl, (hW2C.2 k00 hk00m).1, rfl, _, rfl, lo, k00.2.1, sv, t0, k2, rfl, hW2C, hF2, ⟨k00, hk00m, rfl⟩, hsvC, hP, fun b HD gD hiff => ⟨_, rfl, ?_⟩⟩
  rcases hfv with ⟨hok, rfl⟩ | ⟨p, qa, v, qq, rfl, hp, hv, hqa, hwr⟩
  · obtain rfl : b = true := hiff.mpr hok
    exact iteT ⟨_, rfl, q _⟩
  have hb : b = false := by
    cases b with
    | false => rfl
    | true => exact absurd (hiff.mp rfl) hwr.bad
  rw [hb]
  refine iteF ?_
  have gBD := gC.trans gD
  have hpD := gBD.seqT hp
  have hvD := hv.mono fun _ _ => gBD.seqT
  refine ⟨_, rfl, p, _, "tuple", true, rfl, hpD, rfl, _, rfl, iteF ⟨_, rfl, p, _, rfl, .inr hpD, rfl, _, rfl, iteNS rfl ⟨_, rfl, _, rfl, _, rfl, p, _, 1, _, rfl, rfl, hpD, rfl, lo, qa, sv, t0, k2, k00, qq, 5, rfl, hW2C.same gD, hF2, hk00, hsvC.mono fun _ _ => gD.seqT, hP, gBD.seqT hqa, hwr, fun HE gE => ⟨_, rfl, iteF ?_⟩⟩⟩⟩
  have gBE := gBD.trans gE
  have hpE := gBE.seqT hp
  refine ⟨_, rfl, p, _, 0, _, rfl, rfl, hpE, rfl, ?_⟩
  obtain ⟨ta, tb, tvs, tn, tm, rfl, et, h1t, h2t, h3t, h4t⟩ := tr_open (hv.mono fun _ _ => gBE.seqT)
  unfold leafT at et
  have etn : tn = leafN k1 k01.2.1 := by injection et with e1 e2 e3; exact e1.symm
  have etb : tvs = [] := List.length_eq_zero_iff.mp (by rw [h3t.length]; rfl)
  rw [etb] at h2t
  rw [etn] at h1t
  refine ⟨_, rfl, ta, _, "tuple", true, rfl, h1t, rfl, _, rfl, iteF ⟨_, rfl, ta, _, rfl, .inr h1t, rfl, _, rfl, iteNS rfl ⟨_, rfl, ta, _, 0, _, rfl, rfl, h1t, rfl, _, "str", _, true, rfl, .str _, rfl, _, rfl, iteF ⟨_, rfl, ta, _, 1, _, rfl, rfl, h1t, rfl, tm, rfl, _, rfl, iteF ?_⟩⟩⟩⟩
  refine ⟨_, rfl, ta, _, 2, _, rfl, rfl, h1t, rfl, (by show 0 ≤ sizeLine; decide), fun p0 hp0 => ?_⟩
  have gF := same_new hp0 (.tup [])
  have lay0 : (PyData.tuple []).canLay0 = true := by simp [PyData.canLay0, PyData.canLayAll0]
  have room1 : (A.deeper (PyProof.Rows.envOfC "law" (defScope sLaw) s.heap.objs.size f cdv)).units + min (PyData.tuple []).depth (PyData.tuple []).depth < cLine := room _ (Nat.le_trans (Nat.min_le_left _ _) (by simp [PyData.depth, PyData.depthAll]))
  refine ⟨.tuple [], .tuple [], .tup (gF.seqT h2t) .nil, .tup (SqT.of upd_same) .nil, lay0, lay0, room1, _, rfl, ?_⟩
  rw [if_neg Bool.false_ne_true, eqv_self _ lay0]
  have gCF := gD.trans (gE.trans gF)
  have hW1F := hW1C.same gCF
  refine iteT ⟨_, rfl, _, rfl, lw, _, 0, _, rfl, rfl, hW1F.1, hat1, k01.1, _, 0, _, rfl, rfl, (hW1F.2 k01 hk01m).1, rfl, _, rfl, ta, _, 0, _, rfl, rfl, gF.seqT h1t, rfl, lw, k01.2.1, leafN k1 k01.2.1, k1, rfl, hW1F, hF1.ok, ⟨k01, hk01m, rfl⟩, fun rv HG gG hrv => ?_⟩
  rw [leaf_row hF1.ok hL1] at hrv
  obtain ⟨rb, rfl, hrb⟩ := hrv
  refine ⟨(by show 0 ≤ sizeLine; decide), fun p1 hp1 => ?_⟩
  have gH := same_new hp1 (.tup [])
  refine ⟨.tuple [], .tuple [], .tup (gH.seqT hrb) .nil, .tup (SqT.of upd_same) .nil, lay0, lay0, room1, ?_⟩
  rw [if_neg Bool.false_ne_true, eqv_self _ lay0]
  exact q _
end
end K60
namespace L2
theorem ln1 {α : Type} {us : List α} (h : us.length = 1) : ∃ a, us = [a] := List.length_eq_one_iff.mp h
theorem ln2 {α : Type} {us : List α} (h : us.length = 2) : ∃ a b, us = [a, b] := by
  match us, h with
  | [a, b], _ => exact ⟨a, b, rfl⟩
theorem ln3 {α : Type} {us : List α} (h : us.length = 3) : ∃ a b c, us = [a, b, c] := by
  match us, h with
  | [a, b, c], _ => exact ⟨a, b, c, rfl⟩
theorem ln4 {α : Type} {us : List α} (h : us.length = 4) : ∃ a b c d, us = [a, b, c, d] := by
  match us, h with
  | [a, b, c, d], _ => exact ⟨a, b, c, d, rfl⟩
theorem ln5 {α : Type} {us : List α} (h : us.length = 5) : ∃ a b c d e, us = [a, b, c, d, e] := by
  match us, h with
  | [a, b, c, d, e], _ => exact ⟨a, b, c, d, e, rfl⟩
end L2
namespace L2
open PySem
structure MethAt (K : PySem.W.Frag) (C : Addr) (m qual : Str) (st : Stmt) : Prop where
  ex : ∃ (f : Addr) (oc : Value) (od : Option Addr) (kV doc pm : Value) (an : Option Addr) (cdv ct : Value) (osl : Array (Option Value)),
    PySem.W.findIn K (.ref C) m = some (some (.ref f)) ∧ PySem.W.isFn K (.ref f) = true ∧ K.lookup f = some ⟨oc, od, .func (PySem.W.fnOf m qual (defArgs st) (defBody st) (defScope st) .none kV doc pm an cdv ct), osl⟩ ∧ PySem.W.codeIn K cdv qual = true ∧ PySem.W.keepIn K (.ref f) = true
theorem MethAt.mk' {K : PySem.W.Frag} {C : Addr} {m qual : Str} {st : Stmt} {f : Addr} {oc : Value} {od : Option Addr} {kV doc pm : Value} {an : Option Addr} {cdv ct : Value} {osl : Array (Option Value)}
    (a : PySem.W.findIn K (.ref C) m = some (some (.ref f))) (i : PySem.W.isFn K (.ref f) = true) (l : K.lookup f = some ⟨oc, od, .func (PySem.W.fnOf m qual (defArgs st) (defBody st) (defScope st) .none kV doc pm an cdv ct), osl⟩) (c : PySem.W.codeIn K cdv qual = true) (k : PySem.W.keepIn K (.ref f) = true) : MethAt K C m qual st :=
  ⟨f, oc, od, kV, doc, pm, an, cdv, ct, osl, a, i, l, c, k⟩
theorem ln7 {α : Type} {us : List α} (h : us.length = 7) : ∃ a b c d e f g, us = [a, b, c, d, e, f, g] := by
  match us, h with
  | [a, b, c, d, e, f, g], _ => exact ⟨a, b, c, d, e, f, g, rfl⟩
end L2
namespace K60
open PySem L2
structure DmK (K : PySem.W.Frag) : Prop where
  ex : ∃ C : Addr, PySem.W.nsIn K mainGlobals "Demands" = some (some (.ref C)) ∧ Cls K C ∧ NoAttr K C "turning" ∧ NoAttr K C "kinds_below" ∧ NoAttr K C "steps" ∧ NoAttr K C "waiting" ∧ NoAttr K C "fault" ∧ PySem.W.makesIn K C = true ∧ PySem.W.keepIn K (.ref C) = true ∧
    MethAt K C "__init__" "Demands.__init__" sInit ∧ MethAt K C "look" "Demands.look" sLook ∧ MethAt K C "meet_fault" "Demands.meet_fault" sMF ∧ MethAt K C "tree_and_place" "Demands.tree_and_place" sTP
theorem DmK.mk' {K : PySem.W.Frag} {C : Addr} (aC : PySem.W.nsIn K mainGlobals "Demands" = some (some (.ref C))) (pg : PySem.W.plainGet K C Str.empty = true) (hd : PySem.W.hasDictIn K C = true) (po : PySem.W.plainOver K C = true)
    (sa : PySem.W.findIn K (.ref C) "__setattr__" = some (some (.builtin "object.__setattr__"))) (n1 : PySem.W.findIn K (.ref C) "turning" = some none) (n2 : PySem.W.findIn K (.ref C) "kinds_below" = some none) (n3 : PySem.W.findIn K (.ref C) "steps" = some none) (n4 : PySem.W.findIn K (.ref C) "waiting" = some none) (n5 : PySem.W.findIn K (.ref C) "fault" = some none)
    (mk : PySem.W.makesIn K C = true) (kc : PySem.W.keepIn K (.ref C) = true) (m1 : MethAt K C "__init__" "Demands.__init__" sInit) (m2 : MethAt K C "look" "Demands.look" sLook) (m3 : MethAt K C "meet_fault" "Demands.meet_fault" sMF) (m4 : MethAt K C "tree_and_place" "Demands.tree_and_place" sTP) : DmK K :=
  ⟨C, aC, ⟨pg, hd, po, sa⟩, n1, n2, n3, n4, n5, mk, kc, m1, m2, m3, m4⟩
theorem DmK.m {P : Program} {w : World} {K : PySem.W.Frag} {mg : Str → Option Value} {base h : Heap} (S : DmK K) (X : K.In h) (N : h.Ns mainGlobals mg) (G : Gm mg) (RC : Fn P w K mg base 1 "is_call" ["term"] (spIsC K)) (RL : Fn P w K mg base 1 "levels_needed" ["fault"] (spLvN K)) (RA : Fn P w K mg base 1 "row_above" ["wood"] (spAbove K)) (RT : Fn P w K mg base 4 "tree_on" ["wood", "way", "row", "mark"] (spTreeOn K)) : ∃ C, DmM P w K mg base C 5 := by
  obtain ⟨C, aC, cl, n1, n2, n3, n4, n5, mk, kc, m1, m2, m3, m4⟩ := S.ex
  have T : DmT K mg C := ⟨cl, n1, n2, n3, n4, n5, PySem.W.mg_of X N aC⟩
  obtain ⟨f1, oc1, od1, kV1, doc1, pm1, an1, cdv1, ct1, osl1, a1, i1, l1, c1, k1⟩ := m1.ex
  obtain ⟨f2, oc2, od2, kV2, doc2, pm2, an2, cdv2, ct2, osl2, a2, i2, l2, c2, k2⟩ := m2.ex
  obtain ⟨f3, oc3, od3, kV3, doc3, pm3, an3, cdv3, ct3, osl3, a3, i3, l3, c3, k3⟩ := m3.ex
  obtain ⟨f4, oc4, od4, kV4, doc4, pm4, an4, cdv4, ct4, osl4, a4, i4, l4, c4, k4⟩ := m4.ex
  have F1 := fun_mk (st := sInit) l1 c1 k1
  have F2 := fun_mk (st := sLook) l2 c2 k2
  have F3 := fun_mk (st := sMF) l3 c3 k3
  have F4 := fun_mk (st := sTP) l4 c4 k4
  have b1 : Binds K _ ["self", "turning", "wood"] [] := F1.binds fun _ _ _ _ _ _ us hl => by obtain ⟨a1, a2, a3, rfl⟩ := ln3 hl; rfl
  have b2 : Binds K _ ["self", "spot", "place", "term", "kind"] [] := F2.binds fun _ _ _ _ _ _ us hl => by obtain ⟨a1, a2, a3, a4, a5, rfl⟩ := ln5 hl; rfl
  have b3 : Binds K _ ["self", "fault"] [] := F3.binds fun _ _ _ _ _ _ us hl => by obtain ⟨a1, a2, rfl⟩ := ln2 hl; rfl
  have b4 : Binds K _ ["self"] [] := F4.binds fun _ _ _ _ _ _ us hl => by obtain ⟨a1, rfl⟩ := ln1 hl; rfl
  have mL : Meth K C "look" f2 := ⟨a2, i2, k2⟩
  have FL := all_look F2 G T RC ⟨a3, i3, k3⟩ (ok_mf F3 T RL) b3 mL b2 5
  exact ⟨C, T, ⟨f1, _, ⟨mk, a1, i1, kc⟩, ok_init F1 G T RA mL FL b2, b1⟩, ⟨f4, _, ⟨a4, i4, k4⟩, ok_tp F4 G T RT, b4⟩⟩
end K60
namespace K60
open PySem L2
theorem all_mk {l : PySem.W.OpenLaw} {w : World} {K : PySem.W.Frag} {h : Heap} {mg : Str → Option Value} {fa : Addr} (X : K.In h) (N : h.Ns mainGlobals mg) (hfa : mg "law" = some (.ref fa))
    (d1 : DefAt K "is_call" sIsC) (d2 : DefAt K "rows_of" sRowsOf) (d3 : DefAt K "leaf_of" sLeaf) (d4 : DefAt K "leafy" sLeafy) (d5 : DefAt K "row_above" sAbove) (d6 : DefAt K "tree_on" sTreeOn) (d7 : DefAt K "strays" sStrays) (d8 : DefAt K "levels_needed" sLvN) (d9 : DefAt K "_law_cell_at" sCell) (d10 : DefAt K "_law_mixed" sMixed) (d11 : DefAt K "_law_names" sNames) (d12 : DefAt K "_law_great" sGreat) (d13 : DefAt K "_law_wood" sWood) (d14 : DefAt K "_law_typed" sTyped) (d15 : DefAt K "_law_row" sRow) (d16 : DefAt K "_law_fits" sFits) (d17 : DefAt K "_law_whole" sWhole) (d18 : DefAt K "_law_of_kind" sOfK) (d19 : DefAt K "_law_spoiled" sSpoil) (d20 : DefAt K "_law_wrong_at" sWrong) (d21 : DefAt K "law" sLaw)
    (z1 : PySem.W.nsIn K mainGlobals "len" = some none) (z2 : PySem.W.nsIn K mainGlobals "isinstance" = some none) (z3 : PySem.W.nsIn K mainGlobals "int" = some none) (z4 : PySem.W.nsIn K mainGlobals "bool" = some none) (z5 : PySem.W.nsIn K mainGlobals "str" = some none) (z6 : PySem.W.nsIn K mainGlobals "tuple" = some none) (z7 : PySem.W.nsIn K mainGlobals "list" = some none) (z8 : PySem.W.nsIn K mainGlobals "range" = some none) (z9 : PySem.W.nsIn K mainGlobals "zip" = some none) (z10 : PySem.W.nsIn K mainGlobals "dict" = some none) (z11 : PySem.W.nsIn K mainGlobals "sorted" = some none) (z12 : PySem.W.nsIn K mainGlobals "reversed" = some none) (z13 : PySem.W.nsIn K mainGlobals "enumerate" = some none)  {t40 : Tok} (s1 : DmK K) (g1 : PySem.W.nsIn K mainGlobals "MOST_LEVELS" = some (some (.int 40 t40))) :
    ∃ fd : FuncData, (∀ (s : Shared) (v : Value), BindsTo s fd ⟨[v], []⟩ [("_law_script", v)]) ∧ ∀ base : Heap, K.In base → base.Ns mainGlobals mg → FnOk l.prog w K mg base CX0 11 fa fd ["_law_script"] (spLaw K) := by
  have G : Gm mg := ⟨PySem.W.mg_none_of X N z1, PySem.W.mg_none_of X N z2, PySem.W.mg_none_of X N z3, PySem.W.mg_none_of X N z4, PySem.W.mg_none_of X N z5, PySem.W.mg_none_of X N z6, PySem.W.mg_none_of X N z7, PySem.W.mg_none_of X N z8, PySem.W.mg_none_of X N z9, PySem.W.mg_none_of X N z10, PySem.W.mg_none_of X N z11, PySem.W.mg_none_of X N z12, PySem.W.mg_none_of X N z13⟩
  obtain ⟨f, oc, od, kV, doc, pm, an, cdv, ct, osl, a, lk, c, kp⟩ := d21.ex
  have e := hfa.symm.trans (PySem.W.mg_of X N a)
  cases e
  have F := fun_mk (st := sLaw) lk c kp
  refine ⟨PySem.W.fnOf "law" "law" (defArgs sLaw) (defBody sLaw) (defScope sLaw) .none kV doc pm an cdv ct, fun s v => .of_eq rfl, fun base _ _ => ?_⟩
  have rIC : Fn l.prog w K mg base 1 "is_call" ["term"] (spIsC K) := d1.fn X N (fun f fd F => ok_isC F) fun _ _ _ _ _ _ us hl => by obtain ⟨a1, rfl⟩ := ln1 hl; rfl
  have rRO : Fn l.prog w K mg base 1 "rows_of" ["wood", "kind"] (spRowsOf K) := d2.fn X N (fun f fd F => ok_rowsOf F G) fun _ _ _ _ _ _ us hl => by obtain ⟨a1, a2, rfl⟩ := ln2 hl; rfl
  have rLf : Fn l.prog w K mg base 2 "leaf_of" ["wood", "kind"] (spLeaf K) := d3.fn X N (fun f fd F => ok_leaf F G rRO) fun _ _ _ _ _ _ us hl => by obtain ⟨a1, a2, rfl⟩ := ln2 hl; rfl
  have rLy : Fn l.prog w K mg base 3 "leafy" ["wood", "name", "mark", "kinds"] (spLeafy K) := d4.fn X N (fun f fd F => ok_leafy F G rLf) fun _ _ _ _ _ _ us hl => by obtain ⟨a1, a2, a3, a4, rfl⟩ := ln4 hl; rfl
  have rAb : Fn l.prog w K mg base 1 "row_above" ["wood"] (spAbove K) := d5.fn X N (fun f fd F => ok_above F) fun _ _ _ _ _ _ us hl => by obtain ⟨a1, rfl⟩ := ln1 hl; rfl
  have rTO : Fn l.prog w K mg base 4 "tree_on" ["wood", "way", "row", "mark"] (spTreeOn K) := d6.fn X N (fun f fd F => ok_treeOn F G rLy) fun _ _ _ _ _ _ us hl => by obtain ⟨a1, a2, a3, a4, rfl⟩ := ln4 hl; rfl
  have rLN : Fn l.prog w K mg base 1 "levels_needed" ["fault"] (spLvN K) := d8.fn X N (fun f fd F => ok_lvn F G) fun _ _ _ _ _ _ us hl => by obtain ⟨a1, rfl⟩ := ln1 hl; rfl
  have h40 : mg "MOST_LEVELS" = some (.int 40 t40) := PySem.W.mg_of X N g1
  obtain ⟨C, M⟩ := s1.m (P := l.prog) (w := w) (base := base) X N G rIC rLN rAb rTO
  have rST : Fn l.prog w K mg base 10 "strays" ["turning", "wood"] (spStr K 5) := d7.fn X N (fun f fd F => ok_str F M rLN h40) fun _ _ _ _ _ _ us hl => by obtain ⟨a1, a2, rfl⟩ := ln2 hl; rfl
  have rC : Fn l.prog w K mg base 1 "_law_cell_at" ["_law_script", "_law_k"] (spCell K) := d9.fn X N (fun f fd F => ok_cell F G) fun _ _ _ _ _ _ us hl => by obtain ⟨a1, a2, rfl⟩ := ln2 hl; rfl
  have rM : Fn l.prog w K mg base 1 "_law_mixed" ["_law_cell", "_law_k"] spMixed := d10.fn X N (fun f fd F => ok_mixed F) fun _ _ _ _ _ _ us hl => by obtain ⟨a1, a2, rfl⟩ := ln2 hl; rfl
  have rN : Fn l.prog w K mg base 2 "_law_names" ["_law_cell"] (spNames K) := d11.fn X N (fun f fd F => ok_names F G rM) fun _ _ _ _ _ _ us hl => by obtain ⟨a1, rfl⟩ := ln1 hl; rfl
  have rG : Fn l.prog w K mg base 1 "_law_great" ["_law_cell"] spGreat := d12.fn X N (fun f fd F => ok_great F) fun _ _ _ _ _ _ us hl => by obtain ⟨a1, rfl⟩ := ln1 hl; rfl
  have rW : Fn l.prog w K mg base 2 "_law_wood" ["_law_cell", "_law_names_here"] (spWood K) := d13.fn X N (fun f fd F => ok_wood F G rM) fun _ _ _ _ _ _ us hl => by obtain ⟨a1, a2, rfl⟩ := ln2 hl; rfl
  have rT : Fn l.prog w K mg base 5 "_law_typed" ["_law_cell", "_law_k", "_law_deep", "_law_kind", "_law_wood_here", "_law_calls", "_law_keep"] (spTyped K 4) := by
    obtain ⟨f, oc, od, kV, doc, pm, an, cdv, ct, osl, a, lk, c, kp⟩ := d14.ex
    have F := fun_mk (st := sTyped) lk c kp
    have hb : Binds K _ ["_law_cell", "_law_k", "_law_deep", "_law_kind", "_law_wood_here", "_law_calls", "_law_keep"] [] := F.binds fun _ _ _ _ _ _ us hl => by obtain ⟨a1, a2, a3, a4, a5, a6, a7, rfl⟩ := ln7 hl; rfl
    exact ⟨f, _, all_typed F G rM rG hb (PySem.W.mg_of X N a) 4, hb, kp, PySem.W.mg_of X N a⟩
  have rR : Fn l.prog w K mg base 1 "_law_row" ["_law_wood_here", "_law_kind", "_law_name"] (spRow K) := d15.fn X N (fun f fd F => ok_row F G) fun _ _ _ _ _ _ us hl => by obtain ⟨a1, a2, a3, rfl⟩ := ln3 hl; rfl
  have rF : Fn l.prog w K mg base 2 "_law_fits" ["_law_wood_here", "_law_kind", "_law_label"] (spFits K) := d16.fn X N (fun f fd F => ok_fits F G rR) fun _ _ _ _ _ _ us hl => by obtain ⟨a1, a2, a3, rfl⟩ := ln3 hl; rfl
  have rH : Fn l.prog w K mg base 1 "_law_whole" ["_law_found"] spWhole := d17.fn X N (fun f fd F => ok_whole F G) fun _ _ _ _ _ _ us hl => by obtain ⟨a1, rfl⟩ := ln1 hl; rfl
  have rO : Fn l.prog w K mg base 7 "_law_of_kind" ["_law_wood_here", "_law_kind", "_law_term"] (spOfK K 5) := by
    obtain ⟨f, oc, od, kV, doc, pm, an, cdv, ct, osl, a, lk, c, kp⟩ := d18.ex
    have F := fun_mk (st := sOfK) lk c kp
    have hb : Binds K _ ["_law_wood_here", "_law_kind", "_law_term"] [] := F.binds fun _ _ _ _ _ _ us hl => by obtain ⟨a1, a2, a3, rfl⟩ := ln3 hl; rfl
    exact ⟨f, _, all_ofK F G rR rF hb (PySem.W.mg_of X N a) 5, hb, kp, PySem.W.mg_of X N a⟩
  have rS : Fn l.prog w K mg base 5 "_law_spoiled" ["_law_names_here", "_law_term", "_law_number"] (spSpoil K 4) := by
    obtain ⟨f, oc, od, kV, doc, pm, an, cdv, ct, osl, a, lk, c, kp⟩ := d19.ex
    have F := fun_mk (st := sSpoil) lk c kp
    have hb : Binds K _ ["_law_names_here", "_law_term", "_law_number"] [] := F.binds fun _ _ _ _ _ _ us hl => by obtain ⟨a1, a2, a3, rfl⟩ := ln3 hl; rfl
    exact ⟨f, _, all_spoil F G hb (PySem.W.mg_of X N a) 4, hb, kp, PySem.W.mg_of X N a⟩
  have rA : Fn l.prog w K mg base 3 "_law_wrong_at" ["_law_wood_here", "_law_term", "_law_found"] (spWrong K) := d20.fn X N (fun f fd F => ok_wrong F G rH rR rF) fun _ _ _ _ _ _ us hl => by obtain ⟨a1, a2, a3, rfl⟩ := ln3 hl; rfl
  exact ok_law F G rC rM rN rW rT rS rST rO rA rH rR
theorem walk {l : PySem.W.OpenLaw} {q : Program} {loose : List Str} {XP : (Str → Option Value) → Heap → Prop} {YP : World → Heap → Prop} {d : DefRec} {K : Params → PySem.W.Frag} (hn : l.most = some 63) (hdf : d.params.defaults = [])
    (hY : ∀ (w : World) (h : Heap), YP w h → (K w.params).In h)
    (F : ∀ (w : World) (mg : Str → Option Value) (fa : Addr) (h : Heap), (K w.params).In h → h.Ns mainGlobals mg → mg d.name = some (.ref fa) →
      ∃ fd : FuncData, (∀ (s : Shared) (u : Value), BindsTo s fd ⟨[u], []⟩ [("_law_script", u)]) ∧ ∀ base : Heap, (K w.params).In base → base.Ns mainGlobals mg → FnOk l.prog w (K w.params) mg base CX0 11 fa fd ["_law_script"] (spLaw (K w.params))) :
    PySem.W.WalkO q loose XP YP l.row.toRowW d [] (fun f vs => PySem.call f vs) :=
  L2.walk_of (n := 63) (k := 11) (x := "_law_script") (CX := fun _ => CX0) (sp := fun w => spLaw (K w.params)) hn (by decide) hdf ⟨rfl, by decide, by decide⟩ hY F (fun _ _ a ns hl hO hS => ⟨a, ns, rfl, hS, hl, fun _ => rfl⟩) fun _ _ _ _ _ z => z
end K60
section
open PySem
noncomputable def K60.vS (x : String) (n : Nat) : Value := .str (Str.ofString x) n
noncomputable def K60.vR (a : Nat) : Value := .ref a
noncomputable def K60.vI (i : Int) (n : Nat) : Value := .int i n
noncomputable def K60.hE (P : Params) (x : String) (n : Nat) (v : Value) : DictEntry := ⟨PyData.keyHash P (Str.ofString x), .str (Str.ofString x) n, v⟩
noncomputable def K60.vN : Value := .none
noncomputable def K60.vF : Value := .type "function"
noncomputable def K60.vT : Value := .bool true
noncomputable def K60.i0 : Value := .int 0 0
noncomputable def K60.i3 : Value := .int 3 0
noncomputable def K60.i1 : Value := .int 181 0
noncomputable def K60.cP (k : Nat) : Value := .str (Str.ofString "/claim/cut.py") k
noncomputable def K60.oT (x : Array Value) : Obj := Obj.mk (Value.type "tuple") none (Data.seq x) #[]
noncomputable def K60.oC (x : Array Value) : Obj := Obj.mk (Value.type "code") none (Data.fields x) #[]
noncomputable def K60.oF (c : Value) (x y : String) (s : Stmt) (k : Nat) (pm cd : Value) : Obj := Obj.mk c none (Data.func (FuncData.mk (Str.ofString x) (Str.ofString y) (L2.defArgs s) (.stmts (L2.defBody s)) (L2.defScope s) k [] Value.none Value.none Value.none pm none cd Value.none 0)) #[]
open K60 in
noncomputable def K60.hp : Params → PySem.W.Frag := fun P => [ (2, Obj.mk vN none (Data.dict #[]) #[])
, (3, Obj.mk (Value.type "dict") none (Data.dict #[hE P "__name__" 165 (vS "law_turnery_k60_starts_that_stray" 429), hE P "__doc__" 166 vN, hE P "__package__" 167 vN, hE P "__loader__" 168 (Value.builtin "__main__.__loader__#opaque"), hE P "__spec__" 169 vN, hE P "__annotations__" 170 (vR 6), hE P "__builtins__" 171 (vR 4), hE P "__file__" 173 (cP 172), hE P "__cached__" 174 vN, hE P "TurnError" 206 (vR 24), hE P "TooGreat" 222 (vR 37), hE P "is_call" 231 (vR 46), hE P "at" 243 (vR 53), hE P "put_at" 252 (vR 60), hE P "has_number" 260 (vR 67), hE P "put_below" 272 (vR 74), hE P "rows_of" 282 (vR 81), hE P "leaf_of" 292 (vR 88), hE P "leafy" 300 (vR 93), hE P "row_above" 307 (vR 100), hE P "tree_on" 321 (vR 107), hE P "MOST_LEVELS" 325 (vI 40 324), hE P "strays" 334 (vR 114), hE P "levels_needed" 342 (vR 121), hE P "Demands" 428 (vR 171), hE P "_law_cell_at" 438 (vR 182), hE P "_law_mixed" 447 (vR 189), hE P "_law_names" 453 (vR 194), hE P "_law_great" 460 (vR 201), hE P "_law_wood" 466 (vR 206), hE P "_law_typed" 472 (vR 211), hE P "_law_row" 482 (vR 218), hE P "_law_fits" 492 (vR 225), hE P "_law_whole" 499 (vR 232), hE P "_law_of_kind" 510 (vR 239), hE P "_law_spoiled" 523 (vR 246), hE P "_law_wrong_at" 534 (vR 253), hE P "law" 540 (vR 258)] 38) #[])
, (15, oT #[Value.type "ValueError"])
, (22, oT #[])
, (23, Obj.mk (Value.type "dict") none (Data.dict #[hE P "__module__" 196 (vS "turnery.errors" 187), hE P "__firstlineno__" 200 (vI 2 199), hE P "__static_attributes__" 201 (vR 22), hE P "__weakref__" 203 (vR 25), hE P "__doc__" 204 vN] 3) #[])
, (24, Obj.mk (Value.type "type") none (Data.cls (ClassData.mk (Str.ofString "TurnError") [Value.type "ValueError"] [vR 24, Value.type "ValueError", Value.type "Exception", Value.type "BaseException", Value.type "object"] 23 (Str.ofString "TurnError") true [] [vR 37] false none false)) #[some (vR 15), none, some (vS "TurnError" 189), some (vS "TurnError" 197), some (Value.builtin "ValueError.__new__"), some (Value.bool true)])
, (25, Obj.mk (Value.type "getset_descriptor") none (Data.fields #[vS "__weakref__" 202, vR 24, Value.builtin "ExceptionGroup.__weakref__", vN]) #[])
, (28, oT #[vR 24])
, (35, oT #[])
, (36, Obj.mk (Value.type "dict") none (Data.dict #[hE P "__module__" 214 (vS "turnery.errors" 187), hE P "__firstlineno__" 218 (vI 4 217), hE P "__static_attributes__" 219 (vR 35), hE P "__doc__" 220 vN] 2) #[])
, (37, Obj.mk (Value.type "type") none (Data.cls (ClassData.mk (Str.ofString "TooGreat") [vR 24] [vR 37, vR 24, Value.type "ValueError", Value.type "Exception", Value.type "BaseException", Value.type "object"] 36 (Str.ofString "TooGreat") true [] [] false none false)) #[some (vR 28), none, some (vS "TooGreat" 207), some (vS "TooGreat" 215), some (Value.builtin "ValueError.__new__"), some (Value.bool true)])
, (40, oT #[])
, (42, oT #[vS "term" 228])
, (43, oT #[])
, (45, oC #[vS "is_call" 225, vS "is_call" 226, cP 227, vI 7 0, vI 1 0, i0, i0, i3, vR 40, vT, i1, vR 41, vN, vR 42, vR 43, vR 44, vI 229 0, vI 7 0, cP 230])
, (46, oF vF "is_call" "is_call" (top 4) 3 (vS "turnery.terms" 223) (vR 45))
, (47, oT #[])
, (49, oT #[vS "tree" 237, vS "place" 238, vS "here" 239, vS "number" 240])
, (50, oT #[])
, (52, oC #[vS "at" 234, vS "at" 235, cP 236, vI 10 0, vI 2 0, i0, i0, i3, vR 47, vT, i1, vR 48, vN, vR 49, vR 50, vR 51, vI 241 0, vI 10 0, cP 242])
, (53, oF vF "at" "at" (top 6) 3 (vS "turnery.trees" 232) (vR 52))
, (54, oT #[])
, (56, oT #[vS "tree" 247, vS "place" 248, vS "other" 249])
, (57, oT #[])
, (59, oC #[vS "put_at" 244, vS "put_at" 245, cP 246, vI 17 0, vI 3 0, i0, i0, i3, vR 54, vT, i1, vR 55, vN, vR 56, vR 57, vR 58, vI 250 0, vI 17 0, cP 251])
, (60, oF vF "put_at" "put_at" (top 7) 3 (vS "turnery.trees" 232) (vR 59))
, (61, oT #[])
, (63, oT #[vS "branches" 256, vS "number" 257])
, (64, oT #[])
, (66, oC #[vS "has_number" 253, vS "has_number" 254, cP 255, vI 21 0, vI 2 0, i0, i0, i3, vR 61, vT, i1, vR 62, vN, vR 63, vR 64, vR 65, vI 258 0, vI 21 0, cP 259])
, (67, oF vF "has_number" "has_number" (top 8) 3 (vS "turnery.trees" 232) (vR 66))
, (68, oT #[])
, (70, oT #[vS "tree" 264, vS "place" 265, vS "other" 266, vS "number" 267, vS "branches" 268, vS "changed" 269])
, (71, oT #[])
, (73, oC #[vS "put_below" 261, vS "put_below" 262, cP 263, vI 25 0, vI 3 0, i0, i0, i3, vR 68, vT, i1, vR 69, vN, vR 70, vR 71, vR 72, vI 270 0, vI 25 0, cP 271])
, (74, oF vF "put_below" "put_below" (top 9) 3 (vS "turnery.trees" 232) (vR 73))
, (75, oT #[])
, (77, oT #[vS "wood" 278, vS "kind" 279])
, (78, oT #[])
, (80, oC #[vS "rows_of" 275, vS "rows_of" 276, cP 277, vI 33 0, vI 2 0, i0, i0, i3, vR 75, vT, i1, vR 76, vN, vR 77, vR 78, vR 79, vI 280 0, vI 33 0, cP 281])
, (81, oF vF "rows_of" "rows_of" (top 11) 3 (vS "turnery.woods" 273) (vR 80))
, (82, oT #[])
, (84, oT #[vS "wood" 286, vS "kind" 287, vS "name" 288, vS "branches" 289])
, (85, oT #[])
, (87, oC #[vS "leaf_of" 283, vS "leaf_of" 284, cP 285, vI 35 0, vI 2 0, i0, i0, i3, vR 82, vT, i1, vR 83, vN, vR 84, vR 85, vR 86, vI 290 0, vI 35 0, cP 291])
, (88, oF vF "leaf_of" "leaf_of" (top 12) 3 (vS "turnery.woods" 273) (vR 87))
, (89, oT #[])
, (92, oC #[vS "leafy" 295, vS "leafy" 296, cP 297, vI 41 0, vI 4 0, i0, i0, i3, vR 89, vT, i1, vR 90, vN, vN, vN, vR 91, vI 298 0, vI 41 0, cP 299])
, (93, oF vF "leafy" "leafy" (top 14) 3 (vS "turnery.ways" 293) (vR 92))
, (94, oT #[])
, (96, oT #[vS "wood" 304])
, (97, oT #[])
, (99, oC #[vS "row_above" 301, vS "row_above" 302, cP 303, vI 43 0, vI 1 0, i0, i0, i3, vR 94, vT, i1, vR 95, vN, vR 96, vR 97, vR 98, vI 305 0, vI 43 0, cP 306])
, (100, oF vF "row_above" "row_above" (top 15) 3 (vS "turnery.ways" 293) (vR 99))
, (101, oT #[])
, (103, oT #[vS "wood" 311, vS "way" 312, vS "row" 313, vS "mark" 314, vS "tree" 315, vS "above" 316, vS "its_mark" 317, vS "branch" 318])
, (104, oT #[])
, (106, oC #[vS "tree_on" 308, vS "tree_on" 309, cP 310, vI 45 0, vI 4 0, i0, i0, i3, vR 101, vT, i1, vR 102, vN, vR 103, vR 104, vR 105, vI 319 0, vI 45 0, cP 320])
, (107, oF vF "tree_on" "tree_on" (top 16) 3 (vS "turnery.ways" 293) (vR 106))
, (108, oT #[])
, (110, oT #[vS "turning" 329, vS "wood" 330, vS "demands" 331])
, (111, oT #[])
, (113, oC #[vS "strays" 326, vS "strays" 327, cP 328, vI 52 0, vI 2 0, i0, i0, i3, vR 108, vT, i1, vR 109, vN, vR 110, vR 111, vR 112, vI 332 0, vI 52 0, cP 333])
, (114, oF vF "strays" "strays" (top 19) 3 (vS "turnery.straying" 322) (vR 113))
, (115, oT #[])
, (117, oT #[vS "fault" 338, vS "spot" 339])
, (118, oT #[])
, (120, oC #[vS "levels_needed" 335, vS "levels_needed" 336, cP 337, vI 59 0, vI 1 0, i0, i0, i3, vR 115, vT, i1, vR 116, vN, vR 117, vR 118, vR 119, vI 340 0, vI 59 0, cP 341])
, (121, oF vF "levels_needed" "levels_needed" (top 20) 3 (vS "turnery.straying" 322) (vR 120))
, (129, oT #[])
, (132, oC #[vS "__init__" 355, vS "Demands.__init__" 356, cP 357, vI 64 0, vI 3 0, i0, i0, i3, vR 129, vT, i1, vR 130, vN, vN, vN, vR 131, vI 358 0, vI 64 0, cP 359])
, (133, oF vF "__init__" "Demands.__init__" (L2.inClass (top 21) 0) 3 (vS "turnery.straying" 322) (vR 132))
, (134, oT #[])
, (136, oT #[vS "self" 364, vS "demand" 365, vS "names" 366, vS "mode" 367, vS "row" 368, vS "rule" 369])
, (137, oT #[])
, (139, oC #[vS "look_by" 361, vS "Demands.look_by" 362, cP 363, vI 76 0, vI 2 0, i0, i0, i3, vR 134, vT, i1, vR 135, vN, vR 136, vR 137, vR 138, vI 370 0, vI 76 0, cP 371])
, (140, oF vF "look_by" "Demands.look_by" (L2.inClass (top 21) 1) 3 (vS "turnery.straying" 322) (vR 139))
, (141, oT #[])
, (143, oT #[vS "self" 376, vS "spot" 377, vS "place" 378, vS "term" 379, vS "kind" 380, vS "kinds" 381, vS "number" 382, vS "part" 383])
, (144, oT #[])
, (146, oC #[vS "look" 373, vS "Demands.look" 374, cP 375, vI 82 0, vI 5 0, i0, i0, i3, vR 141, vT, i1, vR 142, vN, vR 143, vR 144, vR 145, vI 384 0, vI 82 0, cP 385])
, (147, oF vF "look" "Demands.look" (L2.inClass (top 21) 2) 3 (vS "turnery.straying" 322) (vR 146))
, (148, oT #[])
, (150, oT #[vS "self" 390, vS "demand" 391, vS "step" 392])
, (151, oT #[])
, (153, oC #[vS "meet_demand" 387, vS "Demands.meet_demand" 388, cP 389, vI 93 0, vI 3 0, i0, i0, i3, vR 148, vT, i1, vR 149, vN, vR 150, vR 151, vR 152, vI 393 0, vI 93 0, cP 394])
, (154, oF vF "meet_demand" "Demands.meet_demand" (L2.inClass (top 21) 3) 3 (vS "turnery.straying" 322) (vR 153))
, (155, oT #[])
, (157, oT #[vS "self" 399, vS "fault" 400])
, (158, oT #[])
, (160, oC #[vS "meet_fault" 396, vS "Demands.meet_fault" 397, cP 398, vI 98 0, vI 2 0, i0, i0, i3, vR 155, vT, i1, vR 156, vN, vR 157, vR 158, vR 159, vI 401 0, vI 98 0, cP 402])
, (161, oF vF "meet_fault" "Demands.meet_fault" (L2.inClass (top 21) 4) 3 (vS "turnery.straying" 322) (vR 160))
, (162, oT #[])
, (164, oT #[vS "self" 407, vS "spot" 408, vS "place" 409, vS "demand" 410, vS "way" 411, vS "step" 412])
, (165, oT #[])
, (167, oC #[vS "tree_and_place" 404, vS "Demands.tree_and_place" 405, cP 406, vI 102 0, vI 1 0, i0, i0, i3, vR 162, vT, i1, vR 163, vN, vR 164, vR 165, vR 166, vI 413 0, vI 102 0, cP 414])
, (168, oF vF "tree_and_place" "Demands.tree_and_place" (L2.inClass (top 21) 5) 3 (vS "turnery.straying" 322) (vR 167))
, (169, oT #[vS "fault" 416, vS "kinds_below" 417, vS "steps" 418, vS "turning" 419, vS "waiting" 420])
, (170, Obj.mk (Value.type "dict") none (Data.dict #[hE P "__module__" 350 (vS "turnery.straying" 322), hE P "__firstlineno__" 354 (vI 62 353), hE P "__init__" 360 (vR 133), hE P "look_by" 372 (vR 140), hE P "look" 386 (vR 147), hE P "meet_demand" 395 (vR 154), hE P "meet_fault" 403 (vR 161), hE P "tree_and_place" 415 (vR 168), hE P "__static_attributes__" 421 (vR 169), hE P "__dict__" 423 (vR 172), hE P "__weakref__" 425 (vR 173), hE P "__doc__" 426 vN] 4) #[])
, (171, Obj.mk (Value.type "type") none (Data.cls (ClassData.mk (Str.ofString "Demands") [Value.type "object"] [vR 171, Value.type "object"] 170 (Str.ofString "Demands") true [] [] false none false)) #[none, none, some (vS "Demands" 343), some (vS "Demands" 351), some (Value.builtin "object.__new__"), some (Value.bool true)])
, (172, Obj.mk (Value.type "getset_descriptor") none (Data.fields #[vS "__dict__" 422, vR 171, Value.builtin "function.__dict__", Value.builtin "function.__dict__#set"]) #[])
, (173, Obj.mk (Value.type "getset_descriptor") none (Data.fields #[vS "__weakref__" 424, vR 171, Value.builtin "ExceptionGroup.__weakref__", vN]) #[])
, (176, oT #[])
, (178, oT #[vS "_law_script" 434, vS "_law_k" 435])
, (179, oT #[])
, (181, oC #[vS "_law_cell_at" 431, vS "_law_cell_at" 432, cP 433, vI 114 0, vI 2 0, i0, i0, i3, vR 176, vT, i1, vR 177, vN, vR 178, vR 179, vR 180, vI 436 0, vI 114 0, cP 437])
, (182, oF vF "_law_cell_at" "_law_cell_at" (top 23) 3 (vS "law_turnery_k60_starts_that_stray" 429) (vR 181))
, (183, oT #[])
, (185, oT #[vS "_law_cell" 442, vS "_law_k" 443, vS "_law_number" 444])
, (186, oT #[])
, (188, oC #[vS "_law_mixed" 439, vS "_law_mixed" 440, cP 441, vI 118 0, vI 2 0, i0, i0, i3, vR 183, vT, i1, vR 184, vN, vR 185, vR 186, vR 187, vI 445 0, vI 118 0, cP 446])
, (189, oF vF "_law_mixed" "_law_mixed" (top 24) 3 (vS "law_turnery_k60_starts_that_stray" 429) (vR 188))
, (190, oT #[])
, (193, oC #[vS "_law_names" 448, vS "_law_names" 449, cP 450, vI 122 0, vI 1 0, i0, i0, i3, vR 190, vT, i1, vR 191, vN, vN, vN, vR 192, vI 451 0, vI 122 0, cP 452])
, (194, oF vF "_law_names" "_law_names" (top 25) 3 (vS "law_turnery_k60_starts_that_stray" 429) (vR 193))
, (195, oT #[])
, (197, oT #[vS "_law_cell" 457])
, (198, oT #[])
, (200, oC #[vS "_law_great" 454, vS "_law_great" 455, cP 456, vI 135 0, vI 1 0, i0, i0, i3, vR 195, vT, i1, vR 196, vN, vR 197, vR 198, vR 199, vI 458 0, vI 135 0, cP 459])
, (201, oF vF "_law_great" "_law_great" (top 26) 3 (vS "law_turnery_k60_starts_that_stray" 429) (vR 200))
, (202, oT #[])
, (205, oC #[vS "_law_wood" 461, vS "_law_wood" 462, cP 463, vI 137 0, vI 2 0, i0, i0, i3, vR 202, vT, i1, vR 203, vN, vN, vN, vR 204, vI 464 0, vI 137 0, cP 465])
, (206, oF vF "_law_wood" "_law_wood" (top 27) 3 (vS "law_turnery_k60_starts_that_stray" 429) (vR 205))
, (207, oT #[])
, (210, oC #[vS "_law_typed" 467, vS "_law_typed" 468, cP 469, vI 150 0, vI 7 0, i0, i0, i3, vR 207, vT, i1, vR 208, vN, vN, vN, vR 209, vI 470 0, vI 150 0, cP 471])
, (211, oF vF "_law_typed" "_law_typed" (top 28) 3 (vS "law_turnery_k60_starts_that_stray" 429) (vR 210))
, (212, oT #[])
, (214, oT #[vS "_law_wood_here" 476, vS "_law_kind" 477, vS "_law_name" 478, vS "_law_row_here" 479])
, (215, oT #[])
, (217, oC #[vS "_law_row" 473, vS "_law_row" 474, cP 475, vI 166 0, vI 3 0, i0, i0, i3, vR 212, vT, i1, vR 213, vN, vR 214, vR 215, vR 216, vI 480 0, vI 166 0, cP 481])
, (218, oF vF "_law_row" "_law_row" (top 29) 3 (vS "law_turnery_k60_starts_that_stray" 429) (vR 217))
, (219, oT #[])
, (221, oT #[vS "_law_wood_here" 486, vS "_law_kind" 487, vS "_law_label" 488, vS "_law_row_here" 489])
, (222, oT #[])
, (224, oC #[vS "_law_fits" 483, vS "_law_fits" 484, cP 485, vI 171 0, vI 3 0, i0, i0, i3, vR 219, vT, i1, vR 220, vN, vR 221, vR 222, vR 223, vI 490 0, vI 171 0, cP 491])
, (225, oF vF "_law_fits" "_law_fits" (top 30) 3 (vS "law_turnery_k60_starts_that_stray" 429) (vR 224))
, (226, oT #[])
, (228, oT #[vS "_law_found" 496])
, (229, oT #[])
, (231, oC #[vS "_law_whole" 493, vS "_law_whole" 494, cP 495, vI 174 0, vI 1 0, i0, i0, i3, vR 226, vT, i1, vR 227, vN, vR 228, vR 229, vR 230, vI 497 0, vI 174 0, cP 498])
, (232, oF vF "_law_whole" "_law_whole" (top 31) 3 (vS "law_turnery_k60_starts_that_stray" 429) (vR 231))
, (233, oT #[])
, (235, oT #[vS "_law_wood_here" 503, vS "_law_kind" 504, vS "_law_term" 505, vS "_law_branch" 506, vS "_law_part" 507])
, (236, oT #[])
, (238, oC #[vS "_law_of_kind" 500, vS "_law_of_kind" 501, cP 502, vI 176 0, vI 3 0, i0, i0, i3, vR 233, vT, i1, vR 234, vN, vR 235, vR 236, vR 237, vI 508 0, vI 176 0, cP 509])
, (239, oF vF "_law_of_kind" "_law_of_kind" (top 32) 3 (vS "law_turnery_k60_starts_that_stray" 429) (vR 238))
, (240, oT #[])
, (242, oT #[vS "_law_names_here" 514, vS "_law_term" 515, vS "_law_number" 516, vS "_law_parts" 517, vS "_law_k" 518, vS "_law_inner" 519, vS "_law_name" 520])
, (243, oT #[])
, (245, oC #[vS "_law_spoiled" 511, vS "_law_spoiled" 512, cP 513, vI 183 0, vI 3 0, i0, i0, i3, vR 240, vT, i1, vR 241, vN, vR 242, vR 243, vR 244, vI 521 0, vI 183 0, cP 522])
, (246, oF vF "_law_spoiled" "_law_spoiled" (top 33) 3 (vS "law_turnery_k60_starts_that_stray" 429) (vR 245))
, (247, oT #[])
, (249, oT #[vS "_law_wood_here" 527, vS "_law_term" 528, vS "_law_found" 529, vS "_law_kind" 530, vS "_law_k" 531])
, (250, oT #[])
, (252, oC #[vS "_law_wrong_at" 524, vS "_law_wrong_at" 525, cP 526, vI 197 0, vI 3 0, i0, i0, i3, vR 247, vT, i1, vR 248, vN, vR 249, vR 250, vR 251, vI 532 0, vI 197 0, cP 533])
, (253, oF vF "_law_wrong_at" "_law_wrong_at" (top 34) 3 (vS "law_turnery_k60_starts_that_stray" 429) (vR 252))
, (254, oT #[])
, (257, oC #[vS "law" 535, vS "law" 536, cP 537, vI 209 0, vI 1 0, i0, i0, i3, vR 254, vT, i1, vR 255, vN, vN, vN, vR 256, vI 538 0, vI 209 0, cP 539])
, (258, oF vF "law" "law" (top 35) 3 (vS "law_turnery_k60_starts_that_stray" 429) (vR 257)) ]
end
noncomputable def PySem.W.Fast.tw3996477014751944636 : PySem.Params → PySem.W.Frag := K60.hp
theorem PySem.W.Fast.te3996477014751944636 : K60.hp = PySem.W.Fast.tw3996477014751944636 := rfl
namespace PySem.W.Fast
open PySem K60
noncomputable def tw9555797725825109442 : Params → Obj := fun P => oF vN "is_call" "is_call" (top 4) 0 vN vN
theorem te9555797725825109442 : tw9555797725825109442 = tw9555797725825109442 := rfl
noncomputable def tw5465069146388123664 : Params → Obj := fun P => oF vF "tree_on" "tree_on" (top 16) 3 (vS "turnery.ways" 293) (vR 106)
theorem te5465069146388123664 : tw5465069146388123664 = tw5465069146388123664 := rfl
noncomputable def tw4330238185579179723 : Params → Obj := fun P => oF vF "row_above" "row_above" (top 15) 3 (vS "turnery.ways" 293) (vR 99)
theorem te4330238185579179723 : tw4330238185579179723 = tw4330238185579179723 := rfl
noncomputable def tw248496045682873464 : Params → Obj := fun P => oF vF "_law_of_kind" "_law_of_kind" (top 32) 3 (vS "law_turnery_k60_starts_that_stray" 429) (vR 238)
theorem te248496045682873464 : tw248496045682873464 = tw248496045682873464 := rfl
noncomputable def tw7492314807336803118 : Params → Obj := fun P => oF vN "has_number" "has_number" (top 8) 0 vN vN
theorem te7492314807336803118 : tw7492314807336803118 = tw7492314807336803118 := rfl
noncomputable def tw1709041796952298406 : Params → Obj := fun P => oF vF "_law_wrong_at" "_law_wrong_at" (top 34) 3 (vS "law_turnery_k60_starts_that_stray" 429) (vR 252)
theorem te1709041796952298406 : tw1709041796952298406 = tw1709041796952298406 := rfl
noncomputable def tw9846279369437209837 : Params → Obj := fun P => oF vF "look_by" "Demands.look_by" (L2.inClass (top 21) 1) 3 (vS "turnery.straying" 322) (vR 139)
theorem te9846279369437209837 : tw9846279369437209837 = tw9846279369437209837 := rfl
noncomputable def tw1614512416483925977 : Params → Obj := fun P => oF vF "rows_of" "rows_of" (top 11) 3 (vS "turnery.woods" 273) (vR 80)
theorem te1614512416483925977 : tw1614512416483925977 = tw1614512416483925977 := rfl
noncomputable def tw1678574717510180529 : Params → Obj := fun P => oF vF "_law_names" "_law_names" (top 25) 3 (vS "law_turnery_k60_starts_that_stray" 429) (vR 193)
theorem te1678574717510180529 : tw1678574717510180529 = tw1678574717510180529 := rfl
noncomputable def tw1619159291933361362 : Params → Obj := fun P => oF vF "leaf_of" "leaf_of" (top 12) 3 (vS "turnery.woods" 273) (vR 87)
theorem te1619159291933361362 : tw1619159291933361362 = tw1619159291933361362 := rfl
noncomputable def tw18056524161954125472 : Params → Obj := fun P => oF vF "_law_great" "_law_great" (top 26) 3 (vS "law_turnery_k60_starts_that_stray" 429) (vR 200)
theorem te18056524161954125472 : tw18056524161954125472 = tw18056524161954125472 := rfl
noncomputable def tw7349919677203766889 : Params → Obj := fun P => oF vN "leaf_of" "leaf_of" (top 12) 0 vN vN
theorem te7349919677203766889 : tw7349919677203766889 = tw7349919677203766889 := rfl
noncomputable def tw9341372614519993312 : Params → Obj := fun P => oF vN "_law_whole" "_law_whole" (top 31) 0 vN vN
theorem te9341372614519993312 : tw9341372614519993312 = tw9341372614519993312 := rfl
noncomputable def tw2898514444351801094 : Params → Obj := fun P => oF vN "_law_cell_at" "_law_cell_at" (top 23) 0 vN vN
theorem te2898514444351801094 : tw2898514444351801094 = tw2898514444351801094 := rfl
noncomputable def tw2505437795356518960 : Params → Obj := fun P => oF vF "_law_wood" "_law_wood" (top 27) 3 (vS "law_turnery_k60_starts_that_stray" 429) (vR 205)
theorem te2505437795356518960 : tw2505437795356518960 = tw2505437795356518960 := rfl
noncomputable def tw7863690495460201437 : Params → Obj := fun P => oF vN "meet_fault" "Demands.meet_fault" (L2.inClass (top 21) 4) 0 vN vN
theorem te7863690495460201437 : tw7863690495460201437 = tw7863690495460201437 := rfl
noncomputable def tw16200784989284673905 : Params → Obj := fun P => oF vN "_law_row" "_law_row" (top 29) 0 vN vN
theorem te16200784989284673905 : tw16200784989284673905 = tw16200784989284673905 := rfl
noncomputable def tw7862813440205115828 : Params → Obj := fun P => oF vN "tree_on" "tree_on" (top 16) 0 vN vN
theorem te7862813440205115828 : tw7862813440205115828 = tw7862813440205115828 := rfl
noncomputable def tw17664890557252279814 : Params → Obj := fun P => oF vF "_law_row" "_law_row" (top 29) 3 (vS "law_turnery_k60_starts_that_stray" 429) (vR 217)
theorem te17664890557252279814 : tw17664890557252279814 = tw17664890557252279814 := rfl
noncomputable def tw3421789255291822859 : Params → Obj := fun P => oF vF "_law_cell_at" "_law_cell_at" (top 23) 3 (vS "law_turnery_k60_starts_that_stray" 429) (vR 181)
theorem te3421789255291822859 : tw3421789255291822859 = tw3421789255291822859 := rfl
noncomputable def tw17373718813448335616 : Params → Obj := fun P => oF vN "rows_of" "rows_of" (top 11) 0 vN vN
theorem te17373718813448335616 : tw17373718813448335616 = tw17373718813448335616 := rfl
noncomputable def tw17770832452285975225 : Params → Obj := fun P => oF vN "put_at" "put_at" (top 7) 0 vN vN
theorem te17770832452285975225 : tw17770832452285975225 = tw17770832452285975225 := rfl
noncomputable def tw9483541999595973558 : Params → Obj := fun P => oF vN "_law_fits" "_law_fits" (top 30) 0 vN vN
theorem te9483541999595973558 : tw9483541999595973558 = tw9483541999595973558 := rfl
noncomputable def tw12955004814639614260 : Params → Obj := fun P => oF vN "levels_needed" "levels_needed" (top 20) 0 vN vN
theorem te12955004814639614260 : tw12955004814639614260 = tw12955004814639614260 := rfl
noncomputable def tw18398775064661071827 : Params → Obj := fun P => oF vF "meet_fault" "Demands.meet_fault" (L2.inClass (top 21) 4) 3 (vS "turnery.straying" 322) (vR 160)
theorem te18398775064661071827 : tw18398775064661071827 = tw18398775064661071827 := rfl
noncomputable def tw10650297106618801419 : Params → Obj := fun P => oF vN "__init__" "Demands.__init__" (L2.inClass (top 21) 0) 0 vN vN
theorem te10650297106618801419 : tw10650297106618801419 = tw10650297106618801419 := rfl
noncomputable def tw7450666401561212428 : Params → Obj := fun P => oF vN "leafy" "leafy" (top 14) 0 vN vN
theorem te7450666401561212428 : tw7450666401561212428 = tw7450666401561212428 := rfl
noncomputable def tw8878516734342815209 : Params → Obj := fun P => oF vN "strays" "strays" (top 19) 0 vN vN
theorem te8878516734342815209 : tw8878516734342815209 = tw8878516734342815209 := rfl
noncomputable def tw15834215205492941837 : Params → Obj := fun P => oF vF "__init__" "Demands.__init__" (L2.inClass (top 21) 0) 3 (vS "turnery.straying" 322) (vR 132)
theorem te15834215205492941837 : tw15834215205492941837 = tw15834215205492941837 := rfl
noncomputable def tw15022731932471684393 : Params → Obj := fun P => oF vF "leafy" "leafy" (top 14) 3 (vS "turnery.ways" 293) (vR 92)
theorem te15022731932471684393 : tw15022731932471684393 = tw15022731932471684393 := rfl
noncomputable def tw13740717809114890808 : Params → Obj := fun P => oF vN "tree_and_place" "Demands.tree_and_place" (L2.inClass (top 21) 5) 0 vN vN
theorem te13740717809114890808 : tw13740717809114890808 = tw13740717809114890808 := rfl
noncomputable def tw6243844981395410792 : Params → Obj := fun P => oF vF "put_below" "put_below" (top 9) 3 (vS "turnery.trees" 232) (vR 73)
theorem te6243844981395410792 : tw6243844981395410792 = tw6243844981395410792 := rfl
noncomputable def tw68515313578429836 : Params → Obj := fun P => oF vF "has_number" "has_number" (top 8) 3 (vS "turnery.trees" 232) (vR 66)
theorem te68515313578429836 : tw68515313578429836 = tw68515313578429836 := rfl
noncomputable def tw17073418316474209866 : Params → Obj := fun P => oF vF "_law_mixed" "_law_mixed" (top 24) 3 (vS "law_turnery_k60_starts_that_stray" 429) (vR 188)
theorem te17073418316474209866 : tw17073418316474209866 = tw17073418316474209866 := rfl
noncomputable def tw16808786296902829170 : Params → Obj := fun P => oF vF "at" "at" (top 6) 3 (vS "turnery.trees" 232) (vR 52)
theorem te16808786296902829170 : tw16808786296902829170 = tw16808786296902829170 := rfl
noncomputable def tw6275009050859019709 : Params → Obj := fun P => oF vF "law" "law" (top 35) 3 (vS "law_turnery_k60_starts_that_stray" 429) (vR 257)
theorem te6275009050859019709 : tw6275009050859019709 = tw6275009050859019709 := rfl
noncomputable def tw17962542009550334187 : Params → Obj := fun P => oF vN "meet_demand" "Demands.meet_demand" (L2.inClass (top 21) 3) 0 vN vN
theorem te17962542009550334187 : tw17962542009550334187 = tw17962542009550334187 := rfl
noncomputable def tw9134518209778838093 : Params → Obj := fun P => oF vN "_law_names" "_law_names" (top 25) 0 vN vN
theorem te9134518209778838093 : tw9134518209778838093 = tw9134518209778838093 := rfl
noncomputable def tw14745379382381262428 : Params → Obj := fun P => oF vF "tree_and_place" "Demands.tree_and_place" (L2.inClass (top 21) 5) 3 (vS "turnery.straying" 322) (vR 167)
theorem te14745379382381262428 : tw14745379382381262428 = tw14745379382381262428 := rfl
noncomputable def tw8957038844916049586 : Params → Obj := fun P => oF vN "put_below" "put_below" (top 9) 0 vN vN
theorem te8957038844916049586 : tw8957038844916049586 = tw8957038844916049586 := rfl
noncomputable def tw14281042373156077632 : Params → Obj := fun P => oF vN "at" "at" (top 6) 0 vN vN
theorem te14281042373156077632 : tw14281042373156077632 = tw14281042373156077632 := rfl
noncomputable def tw9792775472272419180 : Params → Obj := fun P => oF vF "put_at" "put_at" (top 7) 3 (vS "turnery.trees" 232) (vR 59)
theorem te9792775472272419180 : tw9792775472272419180 = tw9792775472272419180 := rfl
noncomputable def tw10897769609205613448 : Params → Obj := fun P => oF vF "_law_fits" "_law_fits" (top 30) 3 (vS "law_turnery_k60_starts_that_stray" 429) (vR 224)
theorem te10897769609205613448 : tw10897769609205613448 = tw10897769609205613448 := rfl
noncomputable def tw2008937823955331313 : Params → Obj := fun P => oF vF "_law_whole" "_law_whole" (top 31) 3 (vS "law_turnery_k60_starts_that_stray" 429) (vR 231)
theorem te2008937823955331313 : tw2008937823955331313 = tw2008937823955331313 := rfl
noncomputable def tw11763197641138786893 : Params → Obj := fun P => oF vF "is_call" "is_call" (top 4) 3 (vS "turnery.terms" 223) (vR 45)
theorem te11763197641138786893 : tw11763197641138786893 = tw11763197641138786893 := rfl
noncomputable def tw10700879778120751496 : Params → Obj := fun P => oF vN "_law_great" "_law_great" (top 26) 0 vN vN
theorem te10700879778120751496 : tw10700879778120751496 = tw10700879778120751496 := rfl
noncomputable def tw15564818186429175136 : Params → Obj := fun P => oF vN "look" "Demands.look" (L2.inClass (top 21) 2) 0 vN vN
theorem te15564818186429175136 : tw15564818186429175136 = tw15564818186429175136 := rfl
noncomputable def tw2217119843411255220 : Params → Obj := fun P => oF vN "_law_typed" "_law_typed" (top 28) 0 vN vN
theorem te2217119843411255220 : tw2217119843411255220 = tw2217119843411255220 := rfl
noncomputable def tw5306035507647532843 : Params → Obj := fun P => oF vN "law" "law" (top 35) 0 vN vN
theorem te5306035507647532843 : tw5306035507647532843 = tw5306035507647532843 := rfl
noncomputable def tw896228480603206717 : Params → Obj := fun P => oF vN "_law_of_kind" "_law_of_kind" (top 32) 0 vN vN
theorem te896228480603206717 : tw896228480603206717 = tw896228480603206717 := rfl
noncomputable def tw9922220611590714863 : Params → Obj := fun P => oF vN "_law_wrong_at" "_law_wrong_at" (top 34) 0 vN vN
theorem te9922220611590714863 : tw9922220611590714863 = tw9922220611590714863 := rfl
noncomputable def tw272209550956699414 : Params → Obj := fun P => oF vN "_law_wood" "_law_wood" (top 27) 0 vN vN
theorem te272209550956699414 : tw272209550956699414 = tw272209550956699414 := rfl
noncomputable def tw8811740416487401559 : Params → Obj := fun P => oF vF "_law_typed" "_law_typed" (top 28) 3 (vS "law_turnery_k60_starts_that_stray" 429) (vR 210)
theorem te8811740416487401559 : tw8811740416487401559 = tw8811740416487401559 := rfl
noncomputable def tw2117225296251835704 : Params → Obj := fun P => oF vN "_law_mixed" "_law_mixed" (top 24) 0 vN vN
theorem te2117225296251835704 : tw2117225296251835704 = tw2117225296251835704 := rfl
noncomputable def tw12630155940856888548 : Params → Obj := fun P => oF vF "meet_demand" "Demands.meet_demand" (L2.inClass (top 21) 3) 3 (vS "turnery.straying" 322) (vR 153)
theorem te12630155940856888548 : tw12630155940856888548 = tw12630155940856888548 := rfl
noncomputable def tw6596368085486597022 : Params → Obj := fun P => oF vN "row_above" "row_above" (top 15) 0 vN vN
theorem te6596368085486597022 : tw6596368085486597022 = tw6596368085486597022 := rfl
noncomputable def tw17254090807188693989 : Params → Obj := fun P => oF vF "_law_spoiled" "_law_spoiled" (top 33) 3 (vS "law_turnery_k60_starts_that_stray" 429) (vR 245)
theorem te17254090807188693989 : tw17254090807188693989 = tw17254090807188693989 := rfl
noncomputable def tw15912737108658074898 : Params → Obj := fun P => oF vF "strays" "strays" (top 19) 3 (vS "turnery.straying" 322) (vR 113)
theorem te15912737108658074898 : tw15912737108658074898 = tw15912737108658074898 := rfl
noncomputable def tw1431629362501823914 : Params → Obj := fun P => oF vN "look_by" "Demands.look_by" (L2.inClass (top 21) 1) 0 vN vN
theorem te1431629362501823914 : tw1431629362501823914 = tw1431629362501823914 := rfl
noncomputable def tw10382761026854395548 : Params → Obj := fun P => oF vN "_law_spoiled" "_law_spoiled" (top 33) 0 vN vN
theorem te10382761026854395548 : tw10382761026854395548 = tw10382761026854395548 := rfl
noncomputable def tw9151991569874297979 : Params → Obj := fun P => oF vF "look" "Demands.look" (L2.inClass (top 21) 2) 3 (vS "turnery.straying" 322) (vR 146)
theorem te9151991569874297979 : tw9151991569874297979 = tw9151991569874297979 := rfl
noncomputable def tw2500228504349485511 : Params → Obj := fun P => oF vF "levels_needed" "levels_needed" (top 20) 3 (vS "turnery.straying" 322) (vR 120)
theorem te2500228504349485511 : tw2500228504349485511 = tw2500228504349485511 := rfl
end PySem.W.Fast
noncomputable def PySem.W.Fast.tw13225493195660440027 : PySem.Program := PySem.Challenge.pw_turnery_k60_starts_that_stray
theorem PySem.W.Fast.te13225493195660440027 : (PySem.Challenge.pw_turnery_k60_starts_that_stray : PySem.Program) = PySem.W.Fast.tw13225493195660440027 := rfl
noncomputable def PySem.W.Fast.tw16533262585620225601 : PySem.Program := { PySem.Challenge.pw_turnery_k60_starts_that_stray with main := { PySem.Challenge.pw_turnery_k60_starts_that_stray.main with body := [K60.top 1, K60.top 2, K60.top 4, K60.top 6, K60.top 7, K60.top 8, K60.top 9, K60.top 11, K60.top 12, K60.top 14, K60.top 15, K60.top 16, K60.top 18, K60.top 19, K60.top 20, K60.top 21, K60.top 23, K60.top 24, K60.top 25, K60.top 26, K60.top 27, K60.top 28, K60.top 29, K60.top 30, K60.top 31, K60.top 32, K60.top 33, K60.top 34, K60.top 35] } }
theorem PySem.W.Fast.te16533262585620225601 : ({ PySem.Challenge.pw_turnery_k60_starts_that_stray with main := { PySem.Challenge.pw_turnery_k60_starts_that_stray.main with body := [K60.top 1, K60.top 2, K60.top 4, K60.top 6, K60.top 7, K60.top 8, K60.top 9, K60.top 11, K60.top 12, K60.top 14, K60.top 15, K60.top 16, K60.top 18, K60.top 19, K60.top 20, K60.top 21, K60.top 23, K60.top 24, K60.top 25, K60.top 26, K60.top 27, K60.top 28, K60.top 29, K60.top 30, K60.top 31, K60.top 32, K60.top 33, K60.top 34, K60.top 35] } } : PySem.Program) = PySem.W.Fast.tw16533262585620225601 := rfl
noncomputable def PySem.W.Fast.tw18316947488004422141 : List PySem.Stmt := (PySem.Challenge.pw_turnery_k60_starts_that_stray.main.body.drop 0).take 2
theorem PySem.W.Fast.te18316947488004422141 : ((PySem.Challenge.pw_turnery_k60_starts_that_stray.main.body.drop 0).take 2 : List PySem.Stmt) = PySem.W.Fast.tw18316947488004422141 := rfl
noncomputable def PySem.W.Fast.tw9899902115950097132 : List PySem.Stmt := (PySem.Challenge.pw_turnery_k60_starts_that_stray.main.body.drop 2).take 9
theorem PySem.W.Fast.te9899902115950097132 : ((PySem.Challenge.pw_turnery_k60_starts_that_stray.main.body.drop 2).take 9 : List PySem.Stmt) = PySem.W.Fast.tw9899902115950097132 := rfl
noncomputable def PySem.W.Fast.tw16379083883717385815 : List PySem.Stmt := (PySem.Challenge.pw_turnery_k60_starts_that_stray.main.body.drop 11).take 10
theorem PySem.W.Fast.te16379083883717385815 : ((PySem.Challenge.pw_turnery_k60_starts_that_stray.main.body.drop 11).take 10 : List PySem.Stmt) = PySem.W.Fast.tw16379083883717385815 := rfl
noncomputable def PySem.W.Fast.tw16367050947848647558 : List PySem.Stmt := (PySem.Challenge.pw_turnery_k60_starts_that_stray.main.body.drop 21).take 1
theorem PySem.W.Fast.te16367050947848647558 : ((PySem.Challenge.pw_turnery_k60_starts_that_stray.main.body.drop 21).take 1 : List PySem.Stmt) = PySem.W.Fast.tw16367050947848647558 := rfl
noncomputable def PySem.W.Fast.tw15425772439510405363 : List PySem.Stmt := (PySem.Challenge.pw_turnery_k60_starts_that_stray.main.body.drop 22).take 14
theorem PySem.W.Fast.te15425772439510405363 : ((PySem.Challenge.pw_turnery_k60_starts_that_stray.main.body.drop 22).take 14 : List PySem.Stmt) = PySem.W.Fast.tw15425772439510405363 := rfl
open PySem PySem.W PyProof.Rows
set_option maxRecDepth 100000 in
set_option maxHeartbeats 0 in
theorem PySem.Challenge.cw_turnery_k60_starts_that_stray_holds : PySem.Challenge.rw_turnery_k60_starts_that_stray.Holds := by
  w_on; o_law; k_head; (case hw => w_witness2)
  k_fill
  refine K60.walk (l := PySem.Challenge.rw_turnery_k60_starts_that_stray) rfl rfl (fun w h Y => PySem.W.kIn_of Y) ?F
  case F =>
    intro w mg fa h KX G hmg
    refine' K60.all_mk KX G hmg ?d1 ?d2 ?d3 ?d4 ?d5 ?d6 ?d7 ?d8 ?d9 ?d10 ?d11 ?d12 ?d13 ?d14 ?d15 ?d16 ?d17 ?d18 ?d19 ?d20 ?d21 ?z1 ?z2 ?z3 ?z4 ?z5 ?z6 ?z7 ?z8 ?z9 ?z10 ?z11 ?z12 ?z13 ?s1 ?g1
    (case d1 => refine' L2.DefAt.mk' ?a ?l ?c ?k; (case a => k_is); (case l => k_is); (case c => k_is); (case k => k_is))
    (case d2 => refine' L2.DefAt.mk' ?a ?l ?c ?k; (case a => k_is); (case l => k_is); (case c => k_is); (case k => k_is))
    (case d3 => refine' L2.DefAt.mk' ?a ?l ?c ?k; (case a => k_is); (case l => k_is); (case c => k_is); (case k => k_is))
    (case d4 => refine' L2.DefAt.mk' ?a ?l ?c ?k; (case a => k_is); (case l => k_is); (case c => k_is); (case k => k_is))
    (case d5 => refine' L2.DefAt.mk' ?a ?l ?c ?k; (case a => k_is); (case l => k_is); (case c => k_is); (case k => k_is))
    (case d6 => refine' L2.DefAt.mk' ?a ?l ?c ?k; (case a => k_is); (case l => k_is); (case c => k_is); (case k => k_is))
    (case d7 => refine' L2.DefAt.mk' ?a ?l ?c ?k; (case a => k_is); (case l => k_is); (case c => k_is); (case k => k_is))
    (case d8 => refine' L2.DefAt.mk' ?a ?l ?c ?k; (case a => k_is); (case l => k_is); (case c => k_is); (case k => k_is))
    (case d9 => refine' L2.DefAt.mk' ?a ?l ?c ?k; (case a => k_is); (case l => k_is); (case c => k_is); (case k => k_is))
    (case d10 => refine' L2.DefAt.mk' ?a ?l ?c ?k; (case a => k_is); (case l => k_is); (case c => k_is); (case k => k_is))
    (case d11 => refine' L2.DefAt.mk' ?a ?l ?c ?k; (case a => k_is); (case l => k_is); (case c => k_is); (case k => k_is))
    (case d12 => refine' L2.DefAt.mk' ?a ?l ?c ?k; (case a => k_is); (case l => k_is); (case c => k_is); (case k => k_is))
    (case d13 => refine' L2.DefAt.mk' ?a ?l ?c ?k; (case a => k_is); (case l => k_is); (case c => k_is); (case k => k_is))
    (case d14 => refine' L2.DefAt.mk' ?a ?l ?c ?k; (case a => k_is); (case l => k_is); (case c => k_is); (case k => k_is))
    (case d15 => refine' L2.DefAt.mk' ?a ?l ?c ?k; (case a => k_is); (case l => k_is); (case c => k_is); (case k => k_is))
    (case d16 => refine' L2.DefAt.mk' ?a ?l ?c ?k; (case a => k_is); (case l => k_is); (case c => k_is); (case k => k_is))
    (case d17 => refine' L2.DefAt.mk' ?a ?l ?c ?k; (case a => k_is); (case l => k_is); (case c => k_is); (case k => k_is))
    (case d18 => refine' L2.DefAt.mk' ?a ?l ?c ?k; (case a => k_is); (case l => k_is); (case c => k_is); (case k => k_is))
    (case d19 => refine' L2.DefAt.mk' ?a ?l ?c ?k; (case a => k_is); (case l => k_is); (case c => k_is); (case k => k_is))
    (case d20 => refine' L2.DefAt.mk' ?a ?l ?c ?k; (case a => k_is); (case l => k_is); (case c => k_is); (case k => k_is))
    (case d21 => refine' L2.DefAt.mk' ?a ?l ?c ?k; (case a => k_is); (case l => k_is); (case c => k_is); (case k => k_is))
    (case z1 => k_is); (case z2 => k_is); (case z3 => k_is); (case z4 => k_is); (case z5 => k_is); (case z6 => k_is); (case z7 => k_is); (case z8 => k_is); (case z9 => k_is); (case z10 => k_is); (case z11 => k_is); (case z12 => k_is); (case z13 => k_is)
    case s1 =>
      refine' K60.DmK.mk' ?aC ?pg ?hd ?po ?sa ?n1 ?n2 ?n3 ?n4 ?n5 ?mk ?kc ?m1 ?m2 ?m3 ?m4
      (case aC => k_is); (case pg => k_is); (case hd => k_is); (case po => k_is); (case sa => k_is); (case n1 => k_is); (case n2 => k_is); (case n3 => k_is); (case n4 => k_is); (case n5 => k_is); (case mk => k_is); (case kc => k_is)
      (case m1 => refine' L2.MethAt.mk' ?a ?i ?l ?c ?k; (case a => k_is); (case i => k_is); (case l => k_is); (case c => k_is); (case k => k_is))
      (case m2 => refine' L2.MethAt.mk' ?a ?i ?l ?c ?k; (case a => k_is); (case i => k_is); (case l => k_is); (case c => k_is); (case k => k_is))
      (case m3 => refine' L2.MethAt.mk' ?a ?i ?l ?c ?k; (case a => k_is); (case i => k_is); (case l => k_is); (case c => k_is); (case k => k_is))
      (case m4 => refine' L2.MethAt.mk' ?a ?i ?l ?c ?k; (case a => k_is); (case i => k_is); (case l => k_is); (case c => k_is); (case k => k_is))
    (case g1 => k_is)
