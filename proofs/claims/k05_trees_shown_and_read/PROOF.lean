import PyProof.Rows.All
import Wide.All
import OpenK.AllK
import Wide.FinOn
import Lean
import PyProof.EqAt
import PyProof.EqKinds
import PyProof.TupleCall
import KE.KLam
import KE.KNestM
import KE.KSortTup
import PySem.Challenge.RW_turnery_k05_trees_shown_and_read
noncomputable section
set_option Elab.async false
set_option linter.all false
set_option maxRecDepth 100000
namespace L2
open PySem PySem.Spec PyProof.Rows
abbrev Key := Sum Int Str
def keyIs : Key → Value → Bool
  | .inl k, v => Value.isInt k v
  | .inr x, v => Value.isStrOf x v
def keyH (w : World) : Key → Int
  | .inl k => hashInt k
  | .inr x => hashStr w x
theorem keyIs_shape : ∀ {k : Key} {v : Value}, keyIs k v = true → (∃ i t, k = Sum.inl i ∧ v = Value.int i t) ∨ (∃ x t, k = Sum.inr x ∧ v = Value.str x t)
  | .inl i, v, h => by
    obtain ⟨t, e⟩ := Value.isInt_shape (k := i) (v := v) h
    exact .inl ⟨i, t, rfl, e⟩
  | .inr x, v, h => by
    obtain ⟨t, e⟩ := Value.isStrOf_shape (x := x) (v := v) h
    exact .inr ⟨x, t, rfl, e⟩
theorem key_ll (a b : Int) : decide ((Sum.inl a : Key) = Sum.inl b) = (a == b) := by
  by_cases e : a = b
  · subst e; simp
  · have h : ¬ (Sum.inl a : Key) = Sum.inl b := fun q => e (Sum.inl.inj q)
    rw [decide_eq_false h]
    exact (beq_eq_false_iff_ne.mpr e).symm
theorem key_rr (a b : Str) : decide ((Sum.inr a : Key) = Sum.inr b) = decide (a = b) := by
  by_cases e : a = b
  · subst e; simp
  · have h : ¬ (Sum.inr a : Key) = Sum.inr b := fun q => e (Sum.inr.inj q)
    rw [decide_eq_false h, decide_eq_false e]
theorem key_lr (a : Int) (b : Str) : decide ((Sum.inl a : Key) = Sum.inr b) = false := decide_eq_false (fun q => nomatch q)
theorem key_rl (a : Str) (b : Int) : decide ((Sum.inr a : Key) = Sum.inl b) = false := decide_eq_false (fun q => nomatch q)
def mixKind (prog : Program) (w : World) : PySem.KeyKind prog w Key where
  is := keyIs
  hash := keyH w
  inj := fun v a b ha hb => by
    rcases keyIs_shape ha with ⟨i, t, rfl, rfl⟩ | ⟨x, t, rfl, rfl⟩
    · rcases keyIs_shape hb with ⟨j, u, rfl, e⟩ | ⟨y, u, rfl, e⟩
      · injection e with e1 _; rw [e1]
      · exact nomatch e
    · rcases keyIs_shape hb with ⟨j, u, rfl, e⟩ | ⟨y, u, rfl, e⟩
      · exact nomatch e
      · injection e with e1 _; rw [e1]
  byValue := fun k v h => by
    rcases keyIs_shape h with ⟨i, t, rfl, rfl⟩ | ⟨x, t, rfl, rfl⟩ <;> rfl
  pyHash := fun hv h => by
    rcases keyIs_shape hv with ⟨i, t, rfl, rfl⟩ | ⟨x, t, rfl, rfl⟩
    · exact wpAny_pyHash_int h
    · exact wpAny_pyHash_str h
  eqBool := fun hu hv h => by
    rcases keyIs_shape hu with ⟨i, t, rfl, rfl⟩ | ⟨x, t, rfl, rfl⟩
    · rcases keyIs_shape hv with ⟨j, u, rfl, rfl⟩ | ⟨y, u, rfl, rfl⟩
      · rw [key_ll] at h; exact wpAny_eqBool_int h
      · rw [key_lr] at h; exact SeqAt.EqAt.int_str i t y u _ _ _ _ h
    · rcases keyIs_shape hv with ⟨j, u, rfl, rfl⟩ | ⟨y, u, rfl, rfl⟩
      · rw [key_rl] at h; exact SeqAt.EqAt.str_int x t j u _ _ _ _ h
      · rw [key_rr] at h; exact wpAny_eqBool_str h
  «strs» := fun k x t v h => by
    rcases keyIs_shape h with ⟨i, u, rfl, e⟩ | ⟨y, u, rfl, e⟩
    · exact nomatch e
    · injection e with e1 _
      subst e1
      cases v <;> rfl
end L2
namespace L2
open PySem PySem.Spec PyProof.Rows
inductive V where
  | non | bl (b : Bool) | int (i : Int) | str (x : Str) | byt (b : Array UInt8) | flt (b : UInt64) | ref (a : Addr) | ty (n : String)
  deriving DecidableEq
def RelV : V → Value → Prop
  | .non, u => u = Value.none
  | .bl b, u => u = Value.bool b
  | .int i, u => ∃ t, u = Value.int i t
  | .str x, u => ∃ t, u = Value.str x t
  | .byt b, u => ∃ t, u = Value.bytes b t
  | .flt b, u => ∃ t, u = Value.float b t
  | .ref a, u => u = Value.ref a
  | .ty n, u => u = Value.type n
abbrev Vals : List V → List Value → Prop := Paired RelV
theorem Vals.length {xs : List V} {us : List Value} (r : Vals xs us) : xs.length = us.length := Paired.length r
theorem Vals.get : ∀ {xs : List V} {us : List Value} {i : Nat} {x : V}, Vals xs us → xs[i]? = some x → ∃ u, us[i]? = some u ∧ RelV x u
  | _, _, _, _, .nil, e => by simp at e
  | _, _, 0, _, .cons r _, e => by simp at e; subst e; exact ⟨_, rfl, r⟩
  | _, _, i + 1, x, .cons _ t, e => by
    obtain ⟨u, h1, h2⟩ := Vals.get (i := i) (x := x) t (by simpa using e)
    exact ⟨u, by simpa using h1, h2⟩
theorem Vals.append : ∀ {xs ys : List V} {us ws : List Value}, Vals xs us → Vals ys ws → Vals (xs ++ ys) (us ++ ws)
  | _, _, _, _, .nil, s => s
  | _, _, _, _, .cons r t, s => .cons r (Vals.append t s)
theorem Vals.take : ∀ {xs : List V} {us : List Value} (n : Nat), Vals xs us → Vals (xs.take n) (us.take n)
  | _, _, 0, _ => .nil
  | _, _, _ + 1, .nil => .nil
  | _, _, n + 1, .cons r t => .cons r (Vals.take n t)
theorem Vals.drop : ∀ {xs : List V} {us : List Value} (n : Nat), Vals xs us → Vals (xs.drop n) (us.drop n)
  | _, _, 0, r => r
  | _, _, _ + 1, .nil => .nil
  | _, _, n + 1, .cons _ t => Vals.drop n t
def RelO : Option V → Option Value → Prop
  | some v, some u => RelV v u
  | none, none => True
  | _, _ => False
def KV {κ : Type} : List (κ × V) → List (κ × Value) → Prop := Paired fun (p : κ × V) (q : κ × Value) => p.1 = q.1 ∧ RelV p.2 q.2
def kV : Key → V
  | .inl i => .int i
  | .inr x => .str x
inductive HO where
  /-- a list -/
  | lst (xs : List V)
  /-- a tuple (never changes) -/
  | tup (xs : List V)
  /-- a dict whose keys are ints and texts; one whose keys are tuples of ints and texts (the empty one is both) -/
  | dK (kvs : List (Key × V)) | dT (kvs : List (List Key × V))
  /-- a set of ints: its members, its size -/
  | set (S : Int → Bool) (n : Nat)
  /-- an instance of the class at C, its dict at dx, its attributes -/
  | ins (C dx : Addr) (fs : List (Str × V))
  /-- the dict of the instance at x -/
  | own (x : Addr)
  /-- the dict of an exception -/
  | xd (fs : List (Str × V))
  /-- a bound method, f of x -/
  | met (f x : Addr)
  /-- a range object lo, lo + 1, .. below hi -/
  | rng (lo hi : Int)
  /-- a thing that is known to the object (the script; a dict while a loop walks it): read, never written while it is so -/
  | frz (o : Obj) (u : HO)
  /-- a code object's table -/
  | tbl (ps : Array Value)
  /-- any other thing, by what is true of its one object (a def of one's own: SetO a S n := HO.ext fun h => ..) -/
  | ext (φ : Heap → Prop)
abbrev Hp := Addr → Option HO
def upd (H : Hp) (a : Addr) (o : HO) : Hp := fun b => if b = a then some o else H b
theorem upd_same {H : Hp} {a : Addr} {o : HO} : upd H a o a = some o := by unfold upd; rw [if_pos rfl]
theorem upd_ne {H : Hp} {a b : Addr} {o : HO} (h : b ≠ a) : upd H a o b = H b := by unfold upd; rw [if_neg h]
theorem ne_of {H : Hp} {a b : Addr} {o u : HO} (h : H a = some o) (h' : H b = some u) (d : o ≠ u) : a ≠ b := by
  intro e; subst e; rw [h] at h'; exact d (Option.some.inj h')
theorem ne_of_none {H : Hp} {a b : Addr} {o : HO} (h : H a = some o) (h' : H b = none) : a ≠ b := by
  intro e; subst e; rw [h] at h'; cases h'
section
variable (P : Program) (w : World)
def ObjOk (H : Hp) (h : Heap) (a : Addr) : HO → Prop
  | .lst xs => xs.length ≤ sizeLine ∧ ∃ (its : List Value) (n : Nat), Vals xs its ∧ h.get? a = some { cls := .type "list", data := .seq its.toArray n }
  | .tup xs => xs.length ≤ sizeLine ∧ ∃ its : List Value, Vals xs its ∧ IsTup h a its.toArray
  | .dK kvs => kvs.length ≤ sizeLine ∧ (a == sysModules) = false ∧ ∃ vs, KV kvs vs ∧ h.DictOf (mixKind P w) a vs
  | .dT kvs => kvs.length ≤ sizeLine ∧ (a == sysModules) = false ∧ ∃ xs : List (List Key × Addr × Value),
      Paired (fun (p : List Key × V) (q : List Key × Addr × Value) => p.1 = q.1 ∧ H q.2.1 = some (.tup (p.1.map kV)) ∧ RelV p.2 q.2.2) kvs xs ∧
      ∃ o es ep, h.get? a = some o ∧ o.ExactDict ∧ o.data = .dict es ep ∧ es.toList = xs.map (entryOfKey (tupleKind (mixKind P w))) ∧ (xs.map (·.1)).Nodup
  | .set S n => h.SetOf (intKind P w) a S n
  | .ins C dx fs => H dx = some (.own a) ∧ fs.length ≤ 1000 ∧ dx ≠ a ∧ h.get? a = some (PySem.W.instObj C dx) ∧
      ∃ mA, h.Ns1 dx mA ∧ (∀ f, RelO (fs.lookup f) (mA f)) ∧ PySem.Within mA (fs.map (·.1))
  | .own _ => ∃ o, h.get? a = some o
  | .xd fs => ∃ mA, h.Ns1 a mA ∧ ∀ f, RelO (fs.lookup f) (mA f)
  | .rng lo hi => ∃ t u v, h.get? a = some { cls := .type "range", data := .fields #[.int lo t, .int hi u, .int 1 v] }
  | .frz o u => h.get? a = some o ∧ ObjOk H h a u
  | .tbl ps => h.get? a = some { cls := .none, data := .fields ps }
  | .met f x => h.get? a = some (PySem.W.methodObj (.ref f) (.ref x))
  | .ext φ => φ h ∧ (∃ o, h.get? a = some o) ∧ ∀ h1 h2 : Heap, φ h1 → (∀ o, h1.get? a = some o → h2.get? a = some o) → φ h2
def HOk (H : Hp) (h : Heap) : Prop := ∀ a o, H a = some o → ObjOk P w H h a o
end
section
variable {P : Program} {w : World} {H H' : Hp} {h h' : Heap} {a : Addr} {o : HO}
theorem ObjOk.lt (x : ObjOk P w H h a o) : a < h.objs.size := by
  cases o with
  | lst xs => obtain ⟨_, _, _, _, e⟩ := x; exact Heap.lt_size e
  | tup xs => obtain ⟨_, _, _, p⟩ := x; exact p.lt
  | dK kvs => obtain ⟨_, _, _, _, o, _, _, e, _⟩ := x; exact Heap.lt_size e
  | dT kvs => obtain ⟨_, _, _, _, o, _, _, e, _⟩ := x; exact Heap.lt_size e
  | set S n => obtain ⟨o, _, _, _, e, _⟩ := x; exact Heap.lt_size e
  | ins C dx fs => obtain ⟨_, _, _, e, _⟩ := x; exact Heap.lt_size e
  | own y => obtain ⟨_, e⟩ := x; exact Heap.lt_size e
  | xd fs => obtain ⟨_, ⟨_, _, _, e, _⟩, _⟩ := x; exact Heap.lt_size e
  | rng lo hi => obtain ⟨_, _, _, e⟩ := x; exact Heap.lt_size e
  | frz ob u => obtain ⟨e, _⟩ := x; exact Heap.lt_size e
  | tbl ps => exact Heap.lt_size (show h.get? a = some _ from x)
  | met f y => exact Heap.lt_size (show h.get? a = some _ from x)
  | ext φ => obtain ⟨_, ⟨_, e⟩, _⟩ := x; exact Heap.lt_size e
theorem Paired.mapP {α β : Type} {F G : α → β → Prop} : ∀ {l₁ : List α} {l₂ : List β}, Paired F l₁ l₂ → (∀ a b, F a b → G a b) → Paired G l₁ l₂
  | _, _, .nil, _ => .nil
  | _, _, .cons r t, f => .cons (f _ _ r) (Paired.mapP t f)
theorem ObjOk.stay (x : ObjOk P w H h a o) (k : ∀ b u, (b = a ∨ H b = some (.own a)) → h.get? b = some u → h'.get? b = some u)
    (ho : ∀ b, H b = some (.own a) → H' b = some (.own a)) (ht : ∀ b xs, H b = some (.tup xs) → H' b = some (.tup xs)) : ObjOk P w H' h' a o := by
  induction o with
  | lst xs => obtain ⟨z, its, n, r, e⟩ := x; exact ⟨z, its, n, r, k _ _ (.inl rfl) e⟩
  | tup xs => obtain ⟨z, its, r, ob, e, c⟩ := x; exact ⟨z, its, r, ob, k _ _ (.inl rfl) e, c⟩
  | dK kvs => obtain ⟨z, y, vs, r, ob, es, ep, e, c⟩ := x; exact ⟨z, y, vs, r, ob, es, ep, k _ _ (.inl rfl) e, c⟩
  | dT kvs =>
    obtain ⟨z, y, xs, r, ob, es, ep, e, c⟩ := x
    exact ⟨z, y, xs, Paired.mapP r fun p q z => ⟨z.1, ht _ _ z.2.1, z.2.2⟩, ob, es, ep, k _ _ (.inl rfl) e, c⟩
  | set S n => obtain ⟨ob, es, ep, t, e, c⟩ := x; exact ⟨ob, es, ep, t, k _ _ (.inl rfl) e, c⟩
  | ins C dx fs =>
    obtain ⟨d, z, ne, e, mA, ⟨od, es, ep, e2, c⟩, r⟩ := x
    exact ⟨ho _ d, z, ne, k _ _ (.inl rfl) e, mA, ⟨od, es, ep, k _ _ (.inr d) e2, c⟩, r⟩
  | own y => obtain ⟨ob, e⟩ := x; exact ⟨ob, k _ _ (.inl rfl) e⟩
  | xd fs => obtain ⟨mA, ⟨od, es, ep, e, c⟩, r⟩ := x; exact ⟨mA, ⟨od, es, ep, k _ _ (.inl rfl) e, c⟩, r⟩
  | rng lo hi => obtain ⟨t, u, v, e⟩ := x; exact ⟨t, u, v, k _ _ (.inl rfl) e⟩
  | frz ob u ih => obtain ⟨e, q⟩ := x; exact ⟨k _ _ (.inl rfl) e, ih q⟩
  | tbl ps =>
    have e : h.get? a = some { cls := .none, data := .fields ps } := x
    show h'.get? a = some { cls := .none, data := .fields ps }
    exact k a _ (.inl rfl) e
  | met f y =>
    have e : h.get? a = some (PySem.W.methodObj (.ref f) (.ref y)) := x
    show h'.get? a = some (PySem.W.methodObj (.ref f) (.ref y))
    exact k a _ (.inl rfl) e
  | ext φ => obtain ⟨p, ⟨o, e⟩, st⟩ := x; exact ⟨st _ _ p fun o q => k _ _ (.inl rfl) q, ⟨o, k _ _ (.inl rfl) e⟩, st⟩
theorem HOk.lt (x : HOk P w H h) (e : H a = some o) : a < h.objs.size := (x a o e).lt
theorem HOk.fresh (x : HOk P w H h) (e : h.objs.size ≤ a) : H a = none := by
  cases q : H a with
  | none => rfl
  | some u => exact absurd (Nat.lt_of_lt_of_le (x.lt q) e) (Nat.lt_irrefl _)
theorem HOk.kept (x : HOk P w H h) (k : ∀ b u, h.get? b = some u → h'.get? b = some u) : HOk P w H h' := fun a o e =>
  (x a o e).stay (fun b u _ q => k b u q) (fun _ q => q) fun _ _ q => q
theorem HOk.laid (x : HOk P w H h) (k : ∀ b u, h.get? b = some u → h'.get? b = some u) (hp : h.objs.size ≤ a) (new : ObjOk P w (upd H a o) h' a o) : HOk P w (upd H a o) h' := fun b u e => by
  have hn := x.fresh hp
  by_cases hb : b = a
  · subst hb; rw [upd_same] at e; cases e; exact new
  · rw [upd_ne hb] at e
    exact (x b u e).stay (fun c v _ q => k c v q) (fun c q => by rw [upd_ne (ne_of_none q hn)]; exact q) fun c xs q => by rw [upd_ne (ne_of_none q hn)]; exact q
end
def Rd (H : Hp) (a : Addr) (u : HO) : Prop := H a = some u ∨ ∃ o, H a = some (.frz o u)
theorem Rd.ok {P : Program} {w : World} {H : Hp} {h : Heap} {a : Addr} {u : HO} (r : Rd H a u) (x : HOk P w H h) : ObjOk P w H h a u := by
  rcases r with r | ⟨o, r⟩
  · exact x a u r
  · obtain ⟨_, q⟩ := x a _ r
    exact q
def Mut : Option HO → Prop
  | some (.lst _) => True
  | some (.dK _) => True
  | some (.dT _) => True
  | some (.set _ _) => True
  | some (.ins _ _ _) => True
  | some (.ext _) => True
  | _ => False
section
variable {P : Program} {w : World} {H : Hp} {h h' : Heap} {x e : Addr} {o' : HO}
theorem HOk.write (ok : HOk P w H h) (mu : Mut (H x)) (he : e = x ∨ H e = some (.own x)) (k : ∀ b u, b ≠ e → h.get? b = some u → h'.get? b = some u) (heo : ∃ u, h'.get? e = some u)
    (new : ObjOk P w (upd H x o') h' x o') : HOk P w (upd H x o') h' := fun b u q => by
  have nown : ∀ c y, H c = some (.own y) → c ≠ x := fun c y r z => by subst z; rw [r] at mu; exact mu
  have ntup : ∀ c xs, H c = some (.tup xs) → c ≠ x := fun c xs r z => by subst z; rw [r] at mu; exact mu
  by_cases hb : b = x
  · subst hb; rw [upd_same] at q; cases q; exact new
  · rw [upd_ne hb] at q
    by_cases hbe : b = e
    · have q' : H b = some (.own x) := by
        rcases he with z | z
        · exact absurd (hbe.trans z) hb
        · rw [hbe]; exact z
      rw [q] at q'; cases q'
      obtain ⟨v, hv⟩ := heo
      exact ⟨v, by rw [hbe]; exact hv⟩
    · refine (ok b u q).stay (fun c v hc r => k c v ?_ r) (fun c r => by rw [upd_ne (nown c b r)]; exact r) fun c xs r => by rw [upd_ne (ntup c xs r)]; exact r
      rcases hc with rfl | hc
      · exact hbe
      · rintro rfl
        rcases he with z | z
        · exact nown c b hc z
        · rw [hc] at z; cases z; exact hb rfl
end
structure Un (fs ex : List Addr) (H H' : Hp) (h h' : Heap) : Prop where
  keep : ∀ b o, h.get? b = some o → H b = none → b ∉ fs → b ∉ ex → h'.get? b = some o
  slot : ∀ b o, h.get? b = some o → H b = none → b ∈ fs → b ∉ ex → ∃ sl, h'.get? b = some { o with slots := sl }
  free : ∀ b o, h.get? b = some o → H b = none → b ∉ ex → H' b = none
  there : ∀ b o, h.get? b = some o → b ∉ ex → ∃ o', h'.get? b = some o'
  tups : ∀ b xs, H b = some (.tup xs) → H' b = some (.tup xs)
  frzs : ∀ b o u, H b = some (.frz o u) → H' b = some (.frz o u)
  tbls : ∀ b ps, H b = some (.tbl ps) → ∃ more, H' b = some (.tbl (ps ++ more))
section
variable {fs fs' ex ex' : List Addr} {H H1 H2 : Hp} {h h1 h2 h' : Heap} {a x e : Addr} {o : HO}
theorem Un.any (u : Un fs ex H H1 h h1) {b : Addr} {ob : Obj} (q : h.get? b = some ob) (n : H b = none) (hx : b ∉ ex) : ∃ sl, h1.get? b = some { ob with slots := sl } := by
  by_cases hb : b ∈ fs
  · exact u.slot b ob q n hb hx
  · exact ⟨ob.slots, u.keep b ob q n hb hx⟩
theorem Un.kept (k : ∀ b u, h.get? b = some u → h'.get? b = some u) : Un fs ex H H h h' :=
  ⟨fun b ob q _ _ _ => k b ob q, fun b ob q _ _ _ => ⟨ob.slots, k b ob q⟩, fun _ _ _ n _ => n, fun b ob q _ => ⟨ob, k b ob q⟩, fun _ _ q => q, fun _ _ _ q => q, fun _ ps q => ⟨#[], by rw [q]; simp⟩⟩
theorem Un.refl : Un fs ex H H h h := Un.kept fun _ _ q => q
theorem Un.laid (k : ∀ b u, h.get? b = some u → h'.get? b = some u) (hp : h.objs.size ≤ a) (hn : H a = none) : Un fs ex H (upd H a o) h h' where
  keep := fun b u q _ _ _ => k b u q
  slot := fun b u q _ _ _ => ⟨u.slots, k b u q⟩
  free := fun b u q n _ => by rw [upd_ne (Nat.ne_of_lt (Nat.lt_of_lt_of_le (Heap.lt_size q) hp))]; exact n
  there := fun b u q _ => ⟨u, k b u q⟩
  tups := fun b xs q => by rw [upd_ne (ne_of_none q hn)]; exact q
  frzs := fun b u xs q => by rw [upd_ne (ne_of_none q hn)]; exact q
  tbls := fun b ps q => ⟨#[], by rw [upd_ne (ne_of_none q hn), q]; simp⟩
theorem Un.write (mu : Mut (H x)) (he : e = x ∨ H e = some (.own x)) (k : ∀ b u, b ≠ e → h.get? b = some u → h'.get? b = some u) (heo : ∃ u, h'.get? e = some u) : Un fs ex H (upd H x o) h h' := by
  have hx : ∀ b, H b = none → b ≠ x := fun b n z => by subst z; rw [n] at mu; exact mu
  have hb : ∀ b, H b = none → b ≠ e := fun b n z => by
    subst z
    rcases he with r | r
    · exact hx b n r
    · rw [n] at r; cases r
  have hm : ∀ b u, H b = some u → ¬ Mut (some u) → b ≠ x := fun b u q nm z => by subst z; rw [q] at mu; exact nm mu
  refine ⟨fun b u q n _ _ => k b u (hb b n) q, fun b u q n _ _ => ⟨u.slots, k b u (hb b n) q⟩, fun b u q n _ => by rw [upd_ne (hx b n)]; exact n, fun b u q _ => ?_,
    fun b xs q => by rw [upd_ne (hm b _ q fun z => z)]; exact q, fun b u xs q => by rw [upd_ne (hm b _ q fun z => z)]; exact q, fun b ps q => ⟨#[], by rw [upd_ne (hm b _ q fun z => z), q]; simp⟩⟩
  by_cases hbe : b = e
  · subst hbe; exact heo
  · exact ⟨u, k b u hbe q⟩
end
def trk (h : Heap) (H : Hp) : List Addr := (List.range h.objs.size).filter fun a => (H a).isSome
def hidT (h : Heap) (H : Hp) : Heap := PySem.W.hideAll h (trk h H)
theorem hidT_size (h : Heap) (H : Hp) : (hidT h H).objs.size = h.objs.size := PySem.W.hideAll_size _ _
theorem hidT_get {h : Heap} {H : Hp} {b : Addr} {o : Obj} (e : h.get? b = some o) (n : H b = none) : (hidT h H).get? b = some o :=
  PySem.W.hideAll_get _ e fun hm => by
    have q : (H b).isSome = true := (List.mem_filter.mp hm).2
    rw [n] at q; simp at q
theorem of_hidT {h : Heap} {H : Hp} {b : Addr} {o : Obj} (e : (hidT h H).get? b = some o) : h.get? b = some o ∧ H b = none := by
  have e' : h.get? b = some o := PySem.W.of_hideAll (trk h H) e
  refine ⟨e', ?_⟩
  cases q : H b with
  | none => rfl
  | some x =>
    have hm : b ∈ trk h H := List.mem_filter.mpr ⟨List.mem_range.mpr (Heap.lt_size e'), by simp [q]⟩
    have z : (hidT h H).get? b = none := PySem.W.hideAll_none (trk h H) hm
    rw [z] at e; cases e
def allNews (g h : Heap) (L : Addr) : List (Addr × Obj) := (List.range h.objs.size).filterMap fun a => if a = L ∨ (g.get? a).isSome = true then none else (h.get? a).map fun o => (a, o)
def rest (g h : Heap) (L d : Addr) : List (Addr × Obj) := (allNews g h L).filter fun p => decide (p.1 ≠ d)
end L2
namespace L2
open PySem PySem.Spec PyProof.Rows
structure Mod (K : PySem.W.Frag) (mg : Str → Option Value) (base : Heap) : Prop where
  kin : K.In base
  glob : base.Ns mainGlobals mg
  blt : ∃ mb, base.Ns builtinsNs mb ∧ ∀ x : Str, x ≠ "__name__" → mb x = bootBuiltins x
  nolimit : base.NoLimit
structure Cx where
  prog : Program
  w : World
  K : PySem.W.Frag
  mg : Str → Option Value
  base : Heap
  A : Around
  N : List Str
  s₀ : Shared
  H₀ : Hp
  env : Env
  outer : List Env
  stack : List Env
  ex : List Addr
  fn : Str → Bool
  calm : Bool
  pn : List (Addr × Obj)
  xe : Value → Shared → Prop
def frs (l : List Env) : List Addr := l.filterMap (·.frame)
abbrev Cx.fs (X : Cx) : List Addr := frs X.outer
def Vis (sc : Scope) (x : Str) : Prop := sc.names.lookup x = some .local ∨ sc.names.lookup x = some .cell ∨ sc.names.lookup x = some .free
def Loc (sc : Scope) (x : Str) : Prop := sc.names.lookup x = some .local ∨ sc.names.lookup x = some .cell
def Look (env : Env) (h : Heap) (m : Str → Option Value) (x : Str) (u : Value) : Prop :=
  (env.kindOf x = some .local ∧ m x = some u) ∨ ((env.kindOf x = some .cell ∨ env.kindOf x = some .free) ∧ ∃ c, env.cells.lookup x = some c ∧ h.IsCell c (some u))
structure Cx.Ok (X : Cx) : Prop where
  mod : Mod X.K X.mg X.base
  kind : X.env.scope.kind = .function
  glob : X.env.globals = mainGlobals
  blt : X.env.builtins = builtinsNs
  above : X.s₀.heap.objs.size ≤ X.env.locals
  inj : ∀ x y c, X.env.cells.lookup x = some c → X.env.cells.lookup y = some c → x = y
  has : ∀ x, (X.env.kindOf x = some .cell ∨ X.env.kindOf x = some .free) → ∃ c, X.env.cells.lookup x = some c
  cab : ∀ x c, X.fn x = true → X.env.cells.lookup x = some c → X.s₀.heap.objs.size ≤ c
  hd : X.calm = true → X.A.handled = none
  frames : X.A.frames = some X.stack
  stk : X.stack = X.outer ∨ (X.stack = X.env :: X.outer ∧ X.env.frame = some X.env.locals)
  exf : ∀ b ∈ X.ex, b ≠ X.env.locals ∧ ∀ x c, X.env.cells.lookup x = some c → c ≠ b
  bs : ∀ b o, X.base.get? b = some o → X.s₀.heap.get? b = some o ∧ X.H₀ b = none
  bsz : X.base.objs.size ≤ X.s₀.heap.objs.size
  noex : ∀ b o, X.base.get? b = some o → b ∉ X.ex
  exfs : ∀ b ∈ X.ex, b ∉ X.fs
  funs : X.s₀.heap.FunFrames X.base X.outer
  frf : ∀ b ∈ X.fs, X.H₀ b = none
structure Inv (X : Cx) (pins : List (Addr × Obj)) (σ : List (Option V)) (H : Hp) (s : Shared) : Prop where
  ok : X.Ok
  os : s.os = X.s₀.os
  bare : AllBare s.gens
  base : Un X.fs X.ex X.H₀ H X.s₀.heap s.heap
  loc : ∃ m, s.heap.Ns X.env.locals m ∧ ∀ (i : Nat) (x : Str) (v : V), X.N[i]? = some x → σ[i]? = some (some v) → Vis X.env.scope x → ∃ u, RelV v u ∧ Look X.env s.heap m x u
  cell : ∀ x c, X.env.cells.lookup x = some c → ∃ v, s.heap.IsCell c v
  free : H X.env.locals = none
  freeC : ∀ x c, X.env.cells.lookup x = some c → H c = none
  pin : ∀ p ∈ X.pn ++ pins, s.heap.get? p.1 = some p.2 ∧ H p.1 = none ∧ p.1 ≠ X.env.locals ∧ p.1 ∉ X.fs ∧ ∀ v, p.2.data ≠ .cell v
  hok : HOk X.prog X.w H s.heap
  len : σ.length = X.N.length
section
variable {X : Cx} {pins : List (Addr × Obj)} {σ : List (Option V)} {H H' : Hp} {s : Shared} {h' : Heap}
theorem Cx.Ok.nofr (ok : X.Ok) {b : Addr} {o : Obj} (e : X.base.get? b = some o) : b ∉ X.fs := fun hb => by
  have := (ok.funs.mem hb).1
  rw [e] at this; cases this
theorem Inv.bs (I : Inv X pins σ H s) : ∀ b o, X.base.get? b = some o → s.heap.get? b = some o ∧ H b = none := fun b o e =>
  ⟨I.base.keep b o (I.ok.bs b o e).1 (I.ok.bs b o e).2 (I.ok.nofr e) (I.ok.noex b o e), I.base.free b o (I.ok.bs b o e).1 (I.ok.bs b o e).2 (I.ok.noex b o e)⟩
theorem Inv.bk (I : Inv X pins σ H s) : ∀ b o, X.base.get? b = some o → s.heap.get? b = some o := fun b o e => (I.bs b o e).1
theorem Inv.mod (I : Inv X pins σ H s) : Mod X.K X.mg X.base := I.ok.mod
theorem Inv.kIn (I : Inv X pins σ H s) : X.K.In s.heap := I.ok.mod.kin.keeps I.bk
theorem Inv.lt (I : Inv X pins σ H s) : X.env.locals < s.heap.objs.size := let ⟨_, hn, _⟩ := I.loc; hn.lt
theorem Inv.sz (I : Inv X pins σ H s) : X.s₀.heap.objs.size ≤ s.heap.objs.size := Nat.le_trans I.ok.above (Nat.le_of_lt I.lt)
theorem Inv.nofs (I : Inv X pins σ H s) {a : Addr} (h : s.heap.objs.size ≤ a) : a ∉ X.fs := fun hb => by
  obtain ⟨_, o, ho, _⟩ := I.ok.funs.mem hb
  exact absurd (Nat.lt_of_lt_of_le (Heap.lt_size ho) (Nat.le_trans I.sz h)) (Nat.lt_irrefl _)
theorem Inv.cne (I : Inv X pins σ H s) : ∀ x c, X.env.cells.lookup x = some c → c ≠ X.env.locals := fun x c e z => by
  obtain ⟨v, o, ho, hd⟩ := I.cell x c e
  obtain ⟨m, ⟨o', es, ep, ho', hd', _⟩, _⟩ := I.loc
  rw [z, ho'] at ho; cases ho; rw [hd'] at hd; cases hd
theorem Inv.funs (I : Inv X pins σ H s) : s.heap.FunFrames X.base X.outer := by
  have all : ∀ (l : List Env), (∀ b ∈ frs l, b ∈ X.fs) → X.s₀.heap.FunFrames X.base l → s.heap.FunFrames X.base l := by
    intro l
    induction l with
    | nil => intro _ _; trivial
    | cons env r ih =>
      intro hs hl
      obtain ⟨hk, ⟨L, o, hf, hn, ho, hd⟩, hr⟩ := hl
      have hL : L ∈ X.fs := hs L (by unfold frs; rw [List.filterMap_cons, hf]; exact List.mem_cons_self)
      obtain ⟨sl, e⟩ := I.base.slot L o ho (I.ok.frf L hL) hL fun z => I.ok.exfs L z hL
      exact ⟨hk, ⟨L, _, hf, hn, e, hd⟩, ih (fun b hb => hs b (by unfold frs; rw [List.filterMap_cons, hf]; exact List.mem_cons_of_mem _ hb)) hr⟩
  exact all X.outer (fun _ hb => hb) I.ok.funs
theorem Inv.stack (I : Inv X pins σ H s) : s.heap.FunFrames X.base X.stack := by
  rcases I.ok.stk with e | ⟨e, hf⟩
  · rw [e]; exact I.funs
  · rw [e]
    obtain ⟨m, hn, _⟩ := I.loc
    refine .cons (by rw [I.ok.kind]; decide) hf hn ?_ I.funs
    exact Heap.get?_none_of_le (Nat.le_trans I.ok.bsz I.ok.above)
theorem Inv.stkSub (I : Inv X pins σ H s) : ∀ b ∈ frs X.stack, b ∈ X.env.locals :: X.fs := fun b hb => by
  rcases I.ok.stk with e | ⟨e, hf⟩
  · rw [e] at hb; exact List.mem_cons_of_mem _ hb
  · rw [e] at hb
    unfold frs at hb
    rw [List.filterMap_cons, hf] at hb
    exact hb
theorem Inv.stkFree (I : Inv X pins σ H s) : ∀ b ∈ frs X.stack, H b = none := fun b hb => by
  rcases List.mem_cons.mp (I.stkSub b hb) with e | hb
  · rw [e]; exact I.free
  · obtain ⟨_, o, ho, _⟩ := I.ok.funs.mem hb
    exact I.base.free b o ho (I.ok.frf b hb) fun z => I.ok.exfs b z hb
theorem Inv.step {g' : Array GenState} {t' : Nat} {d' : Drawn} {ch : List Addr} (I : Inv X pins σ H s)
    (hch : ∀ b ∈ ch, (b ∈ X.ex ∨ X.s₀.heap.objs.size ≤ b) ∧ b ≠ X.env.locals ∧ (∀ x c, X.env.cells.lookup x = some c → c ≠ b) ∧ ∀ p ∈ X.pn ++ pins, p.1 ≠ b)
    (keep : ∀ b o, b ≠ X.env.locals → b ∉ X.fs → b ∉ ch → s.heap.get? b = some o → H b = none → h'.get? b = some o)
    (slot : ∀ b o, b ≠ X.env.locals → b ∈ X.fs → b ∉ ch → s.heap.get? b = some o → H b = none → ∃ sl, h'.get? b = some { o with slots := sl }) (free : ∀ b o, b ∉ ch → s.heap.get? b = some o → H b = none → H' b = none)
    (there : ∀ b o, b ∉ ch → s.heap.get? b = some o → ∃ o', h'.get? b = some o')
    (tups : ∀ b xs, H b = some (.tup xs) → H' b = some (.tup xs)) (frzs : ∀ b o u, H b = some (.frz o u) → H' b = some (.frz o u)) (tbls : ∀ b ps, H b = some (.tbl ps) → ∃ more, H' b = some (.tbl (ps ++ more)))
    (ns : ∀ m, s.heap.Ns X.env.locals m → h'.Ns X.env.locals m) (hok : HOk X.prog X.w H' h') (hg : AllBare g') :
    Inv X pins σ H' { s with heap := h', gens := g', drawn := d', toks := t' } := by
  have neL : ∀ b o, X.s₀.heap.get? b = some o → b ≠ X.env.locals := fun b o e => Nat.ne_of_lt (Nat.lt_of_lt_of_le (Heap.lt_size e) I.ok.above)
  have neC : ∀ b o, X.s₀.heap.get? b = some o → b ∉ X.ex → b ∉ ch := fun b o e hx hb => by
    rcases (hch b hb).1 with z | z
    · exact hx z
    · exact absurd (Nat.lt_of_lt_of_le (Heap.lt_size e) z) (Nat.lt_irrefl _)
  have cellK : ∀ x c, X.env.cells.lookup x = some c → ∀ v, s.heap.IsCell c v → h'.IsCell c v := fun x c e v ⟨o, ho, hd⟩ => by
    have nch : c ∉ ch := fun z => (hch c z).2.2.1 x c e rfl
    by_cases hc : c ∈ X.fs
    · obtain ⟨sl, q⟩ := slot c o (I.cne x c e) hc nch ho (I.freeC x c e)
      exact ⟨_, q, hd⟩
    · exact ⟨o, keep c o (I.cne x c e) hc nch ho (I.freeC x c e), hd⟩
  refine ⟨I.ok, I.os, hg, ⟨fun b o e n hb hx => ?_, fun b o e n hb hx => ?_, fun b o e n hx => ?_, fun b o e hx => ?_, fun b xs e => tups b xs (I.base.tups b xs e), fun b o xs e => frzs b o xs (I.base.frzs b o xs e), fun b ps e => ?_⟩, ?_, fun x c e => ?_, ?_, fun x c e => ?_, fun p hp => ?_, hok, I.len⟩
  · exact keep b o (neL b o e) hb (neC b o e hx) (I.base.keep b o e n hb hx) (I.base.free b o e n hx)
  · obtain ⟨sl, e1⟩ := I.base.slot b o e n hb hx
    obtain ⟨sl', e2⟩ := slot b _ (neL b o e) hb (neC b o e hx) e1 (I.base.free b o e n hx)
    exact ⟨sl', e2⟩
  · obtain ⟨o', e1⟩ := I.base.there b o e hx
    exact free b o' (neC b o e hx) e1 (I.base.free b o e n hx)
  · obtain ⟨o', e1⟩ := I.base.there b o e hx
    exact there b o' (neC b o e hx) e1
  · obtain ⟨m1, e1⟩ := I.base.tbls b ps e
    obtain ⟨m2, e2⟩ := tbls b _ e1
    exact ⟨m1 ++ m2, by rw [e2, Array.append_assoc]⟩
  · obtain ⟨m, hn, hl⟩ := I.loc
    refine ⟨m, ns m hn, fun i x v e1 e2 e3 => ?_⟩
    obtain ⟨u, r, l⟩ := hl i x v e1 e2 e3
    refine ⟨u, r, ?_⟩
    rcases l with l | ⟨k, c, e, z⟩
    · exact .inl l
    · exact .inr ⟨k, c, e, cellK x c e _ z⟩
  · obtain ⟨v, z⟩ := I.cell x c e
    exact ⟨v, cellK x c e v z⟩
  · obtain ⟨m, ⟨o, _, _, ho, _⟩, _⟩ := I.loc
    exact free _ o (fun z => (hch _ z).2.1 rfl) ho I.free
  · obtain ⟨v, o, ho, hd⟩ := I.cell x c e
    exact free c o (fun z => (hch c z).2.2.1 x c e rfl) ho (I.freeC x c e)
  · obtain ⟨e, n, ne, nf, d⟩ := I.pin p hp
    have nch : p.1 ∉ ch := fun z => (hch p.1 z).2.2.2 p hp rfl
    exact ⟨keep p.1 p.2 ne nf nch e n, free p.1 p.2 nch e n, ne, nf, d⟩
theorem Inv.un {t' : Nat} (I : Inv X pins σ H s) (u : Un X.fs [] H H' s.heap h') (hok : HOk X.prog X.w H' h') : Inv X pins σ H' { s with heap := h', toks := t' } := by
  obtain ⟨m, ⟨o, es, ep, ho, r⟩, _⟩ := id I.loc
  obtain ⟨sl, hL⟩ := u.any ho I.free (by simp)
  exact I.step (g' := s.gens) (d' := s.drawn) (ch := []) (fun _ z => nomatch z) (fun b o _ hb _ e n => u.keep b o e n hb (by simp)) (fun b o _ hb _ e n => u.slot b o e n hb (by simp)) (fun b o _ e n => u.free b o e n (by simp)) (fun b o _ e => u.there b o e (by simp)) u.tups u.frzs u.tbls (fun m' hm => by
    obtain ⟨o', es', ep', ho', r'⟩ := hm
    rw [ho] at ho'; cases ho'
    exact ⟨_, es', ep', hL, r'⟩) hok I.bare
theorem Inv.call {g' : Array GenState} {t' : Nat} {d' : Drawn} {ch : List Addr} (I : Inv X pins σ H s) (u : Un (frs X.stack) ch H H' s.heap h') (hok : HOk X.prog X.w H' h') (hg : AllBare g')
    (hch : ∀ b ∈ ch, (b ∈ X.ex ∨ X.s₀.heap.objs.size ≤ b) ∧ b ≠ X.env.locals ∧ (∀ x c, X.env.cells.lookup x = some c → c ≠ b) ∧ ∀ p ∈ X.pn ++ pins, p.1 ≠ b) :
    Inv X pins σ H' { s with heap := h', gens := g', drawn := d', toks := t' } := by
  obtain ⟨m, ⟨o, es, ep, ho, r⟩, _⟩ := id I.loc
  obtain ⟨sl, hL⟩ := u.any ho I.free fun z => (hch _ z).2.1 rfl
  exact I.step (ch := ch) hch (fun b o hL hb hc e n => u.keep b o e n (fun z => (List.mem_cons.mp (I.stkSub b z)).elim hL hb) hc) (fun b o _ _ hc e n => u.any e n hc) (fun b o hc e n => u.free b o e n hc) (fun b o hc e => u.there b o e hc) u.tups u.frzs u.tbls (fun m' hm => by
    obtain ⟨o', es', ep', ho', r'⟩ := hm
    rw [ho] at ho'; cases ho'
    exact ⟨_, es', ep', hL, r'⟩) hok hg
theorem Inv.turned {t' : Nat} {it : Addr} (I : Inv X pins σ H s) (k : ∀ b o, b ≠ it → s.heap.get? b = some o → h'.get? b = some o) (hn : H it = none) (hL : it ≠ X.env.locals)
    (h1 : it ∈ X.ex ∨ X.s₀.heap.objs.size ≤ it) (h2 : ∀ x c, X.env.cells.lookup x = some c → c ≠ it) (h3 : ∀ p ∈ X.pn ++ pins, p.1 ≠ it) : Inv X pins σ H { s with heap := h', toks := t' } := by
  have nit : ∀ b u, H b = some u → b ≠ it := fun b u e z => by rw [z, hn] at e; cases e
  refine I.step (g' := s.gens) (d' := s.drawn) (ch := [it]) (fun b hb => ?_) (fun b o _ _ hc e _ => k b o (fun z => hc (by simp [z])) e) (fun b o _ _ hc e _ => ⟨o.slots, k b o (fun z => hc (by simp [z])) e⟩) (fun _ _ _ _ n => n)
    (fun b o hc e => ⟨o, k b o (fun z => hc (by simp [z])) e⟩) (fun _ _ e => e) (fun _ _ _ e => e) (fun b ps e => ⟨#[], by rw [e]; simp⟩) (fun m hm => ?_) (fun b u e => ?_) I.bare
  · have e : b = it := by simpa using hb
    subst e
    exact ⟨h1, hL, h2, h3⟩
  · obtain ⟨o, es, ep, ho, r⟩ := hm
    exact ⟨o, es, ep, k _ o (Ne.symm hL) ho, r⟩
  · refine (I.hok b u e).stay (fun c v hc q => k c v ?_ q) (fun _ q => q) fun _ _ q => q
    rcases hc with z | z
    · rw [z]; exact nit b u e
    · exact nit c _ z
theorem Inv.tok (I : Inv X pins σ H s) (t : Nat) : Inv X pins σ H { s with toks := t } := I.un (h' := s.heap) (t' := t) Un.refl I.hok
theorem Inv.kept {t' : Nat} (I : Inv X pins σ H s) (k : ∀ b u, s.heap.get? b = some u → h'.get? b = some u) : Inv X pins σ H { s with heap := h', toks := t' } := I.un (Un.kept k) (I.hok.kept k)
theorem Inv.laid {a : Addr} {o : HO} {t' : Nat} (I : Inv X pins σ H s) (k : ∀ b u, s.heap.get? b = some u → h'.get? b = some u) (hp : s.heap.objs.size ≤ a) (new : ObjOk X.prog X.w (upd H a o) h' a o) :
    Inv X pins σ (upd H a o) { s with heap := h', toks := t' } := I.un (Un.laid k hp (I.hok.fresh hp)) (I.hok.laid k hp new)
theorem Inv.write {x e : Addr} {o : HO} {t' : Nat} (I : Inv X pins σ H s) (mu : Mut (H x)) (he : e = x ∨ H e = some (.own x)) (k : ∀ b u, b ≠ e → s.heap.get? b = some u → h'.get? b = some u) (heo : ∃ u, h'.get? e = some u)
    (new : ObjOk X.prog X.w (upd H x o) h' x o) : Inv X pins σ (upd H x o) { s with heap := h', toks := t' } := I.un (Un.write mu he k heo) (I.hok.write mu he k heo new)
theorem Inv.pins_of {pins' : List (Addr × Obj)} (I : Inv X pins σ H s) (h : ∀ p ∈ pins', s.heap.get? p.1 = some p.2 ∧ H p.1 = none ∧ p.1 ≠ X.env.locals ∧ p.1 ∉ X.fs ∧ ∀ v, p.2.data ≠ .cell v) : Inv X pins' σ H s :=
  ⟨I.ok, I.os, I.bare, I.base, I.loc, I.cell, I.free, I.freeC, fun p hp => (List.mem_append.mp hp).elim (fun z => I.pin p (List.mem_append_left _ z)) (h p), I.hok, I.len⟩
theorem nodup_ix {N : List Str} (hN : N.Nodup) {i j : Nat} {x : Str} (a : N[i]? = some x) (b : N[j]? = some x) : i = j := by
  obtain ⟨h1, e1⟩ := List.getElem?_eq_some_iff.mp a
  obtain ⟨h2, e2⟩ := List.getElem?_eq_some_iff.mp b
  exact (List.getElem_inj hN).mp (e1.trans e2.symm)
theorem store_ok2 {M : Model} {A : Around} {E : Value → Shared → Prop} {i : Nat} {x : Str} {v : V} {u : Value} {Q : Unit → Shared → Prop} (I : Inv X pins σ H s) (hN : X.N.Nodup) (hi : X.N[i]? = some x) (hx : Loc X.env.scope x) (r : RelV v u)
    (h : ∀ s', Inv X pins (σ.set i (some v)) H s' → (∃ a, Heap.SameBut a s.heap s'.heap ∧ (a = X.env.locals ∨ X.env.cells.lookup x = some a)) → Q () s') (hf : X.fn x = true ∨ X.env.scope.names.lookup x = some .local := by first | exact .inl rfl | exact .inr rfl | assumption) : wpAny M A (storeName X.env x u) Q E s := by
  obtain ⟨m, hn, hl⟩ := id I.loc
  have hcls : (X.env.scope.kind == .class || (X.env.scope.kind == .module && X.env.locals != X.env.globals)) = false := by rw [I.ok.kind]; rfl
  have hiσ : i < σ.length := by rw [I.len]; exact (List.getElem?_eq_some_iff.mp hi).1
  have cne := I.cne
  have tracked : ∀ {a : Addr} {h' : Heap}, (∃ o, s.heap.get? a = some o ∧ H a = none) → Heap.SameBut a s.heap h' → HOk X.prog X.w H h' := fun {a h'} ha hs b ob e => by
    obtain ⟨_, _, hfree⟩ := ha
    refine (I.hok b ob e).stay (fun c w' hc q => (hs.2 c ?_).trans q) (fun _ q => q) fun _ _ q => q
    rintro rfl
    rcases hc with rfl | hc
    · rw [hfree] at e; cases e
    · rw [hfree] at hc; cases hc
  rcases hx with hk | hk
  · refine wpAny_storeName_local hk hn (fun h' hn' hs => ?_) hcls
    obtain ⟨oL, _, _, hoL, _⟩ := id hn
    refine h _ ⟨I.ok, I.os, I.bare, ⟨fun b o e n hb hx => ?_, fun b o e n hb hx => ?_, I.base.free, fun b o e hx => ?_, I.base.tups, I.base.frzs, I.base.tbls⟩, ⟨_, hn', fun j y v' e1 e2 e3 => ?_⟩, fun y c e => ?_, I.free, I.freeC, fun p hp => ?_, tracked ⟨oL, hoL, I.free⟩ hs, by simpa using I.len⟩ ⟨_, hs, .inl rfl⟩
    · exact (hs.2 b (Nat.ne_of_lt (Nat.lt_of_lt_of_le (Heap.lt_size e) I.ok.above))).trans (I.base.keep b o e n hb hx)
    · obtain ⟨sl, e1⟩ := I.base.slot b o e n hb hx
      exact ⟨sl, (hs.2 b (Nat.ne_of_lt (Nat.lt_of_lt_of_le (Heap.lt_size e) I.ok.above))).trans e1⟩
    · obtain ⟨o', e1⟩ := I.base.there b o e hx
      exact ⟨o', (hs.2 b (Nat.ne_of_lt (Nat.lt_of_lt_of_le (Heap.lt_size e) I.ok.above))).trans e1⟩
    · by_cases hj : j = i
      · subst hj
        rw [hi] at e1; cases e1
        rw [List.getElem?_set_self hiσ] at e2
        cases e2
        exact ⟨u, r, .inl ⟨hk, by simp⟩⟩
      · rw [List.getElem?_set_ne (Ne.symm hj)] at e2
        obtain ⟨u', r', q⟩ := hl j y v' e1 e2 e3
        refine ⟨u', r', ?_⟩
        rcases q with ⟨k, e⟩ | ⟨k, c, e, z⟩
        · refine .inl ⟨k, ?_⟩
          have : y ≠ x := fun e => hj (nodup_ix hN e1 (e ▸ hi))
          simp [this, e]
        · exact .inr ⟨k, c, e, z.sameBut hs (cne y c e)⟩
    · obtain ⟨w', z⟩ := I.cell y c e
      exact ⟨w', z.sameBut hs (cne y c e)⟩
    · obtain ⟨e, n, ne, nf, d⟩ := I.pin p hp
      exact ⟨(hs.2 p.1 ne).trans e, n, ne, nf, d⟩
  · have hfn : X.fn x = true := by
      rcases hf with z | z
      · exact z
      · rw [z] at hk; cases hk
    obtain ⟨c, hc⟩ := I.ok.has x (.inl hk)
    obtain ⟨w', z⟩ := I.cell x c hc
    refine wpAny_storeName_cell I.ok.kind hk hc z (fun h' hc' hs => ?_)
    obtain ⟨oc, hoc, hocd⟩ := id z
    refine h { s with heap := h' } ⟨I.ok, I.os, I.bare, ⟨fun b o e n hb hx => ?_, fun b o e n hb hx => ?_, I.base.free, fun b o e hx => ?_, I.base.tups, I.base.frzs, I.base.tbls⟩, ⟨m, hn.sameBut hs (Ne.symm (cne x c hc)), fun j y v' e1 e2 e3 => ?_⟩, fun y c' e => ?_, I.free, I.freeC, fun p hp => ?_, tracked ⟨oc, hoc, I.freeC x c hc⟩ hs, by simpa using I.len⟩ ⟨c, hs, .inr hc⟩
    · exact (hs.2 b (Nat.ne_of_lt (Nat.lt_of_lt_of_le (Heap.lt_size e) (I.ok.cab x c hfn hc)))).trans (I.base.keep b o e n hb hx)
    · obtain ⟨sl, e1⟩ := I.base.slot b o e n hb hx
      exact ⟨sl, (hs.2 b (Nat.ne_of_lt (Nat.lt_of_lt_of_le (Heap.lt_size e) (I.ok.cab x c hfn hc)))).trans e1⟩
    · obtain ⟨o', e1⟩ := I.base.there b o e hx
      exact ⟨o', (hs.2 b (Nat.ne_of_lt (Nat.lt_of_lt_of_le (Heap.lt_size e) (I.ok.cab x c hfn hc)))).trans e1⟩
    · by_cases hj : j = i
      · subst hj
        rw [hi] at e1; cases e1
        rw [List.getElem?_set_self hiσ] at e2
        cases e2
        exact ⟨u, r, .inr ⟨.inl hk, c, hc, hc'⟩⟩
      · rw [List.getElem?_set_ne (Ne.symm hj)] at e2
        obtain ⟨u', r', q⟩ := hl j y v' e1 e2 e3
        refine ⟨u', r', ?_⟩
        rcases q with q | ⟨k, c', e, z'⟩
        · exact .inl q
        · refine .inr ⟨k, c', e, z'.sameBut hs ?_⟩
          rintro rfl
          exact hj (nodup_ix hN e1 (I.ok.inj _ _ _ e hc ▸ hi))
    · by_cases hcc : c' = c
      · subst hcc; exact ⟨_, hc'⟩
      · obtain ⟨w2, z2⟩ := I.cell y c' e
        exact ⟨w2, z2.sameBut hs hcc⟩
    · obtain ⟨e, n, ne, nf, d⟩ := I.pin p hp
      refine ⟨(hs.2 p.1 ?_).trans e, n, ne, nf, d⟩
      intro q
      rw [q, hoc] at e
      have q' : oc = p.2 := Option.some.inj e
      exact d w' (by rw [← q']; exact hocd)
theorem store_ok {M : Model} {A : Around} {E : Value → Shared → Prop} {i : Nat} {x : Str} {v : V} {u : Value} {Q : Unit → Shared → Prop} (I : Inv X pins σ H s) (hN : X.N.Nodup) (hi : X.N[i]? = some x) (hx : Loc X.env.scope x) (r : RelV v u)
    (h : ∀ s', Inv X pins (σ.set i (some v)) H s' → Q () s') (hf : X.fn x = true ∨ X.env.scope.names.lookup x = some .local := by first | exact .inl rfl | exact .inr rfl | assumption) : wpAny M A (storeName X.env x u) Q E s :=
  store_ok2 I hN hi hx r (fun s' I' _ => h s' I') hf
theorem Inv.call' {s' : Shared} {ch : List Addr} (I : Inv X pins σ H s) (ho : s'.os = s.os) (u : Un (frs X.stack) ch H H' s.heap s'.heap) (hok : HOk X.prog X.w H' s'.heap) (hg : AllBare s'.gens)
    (hch : ∀ b ∈ ch, (b ∈ X.ex ∨ X.s₀.heap.objs.size ≤ b) ∧ b ≠ X.env.locals ∧ (∀ x c, X.env.cells.lookup x = some c → c ≠ b) ∧ ∀ p ∈ X.pn ++ pins, p.1 ≠ b) : Inv X pins σ H' s' := by
  obtain ⟨h', g', d', t', o'⟩ := s'
  have e : o' = s.os := ho
  subst e
  exact I.call (g' := g') (t' := t') (d' := d') u hok hg hch
end
abbrev XK := Value → Option Addr → Hp → Prop
abbrev St := List (Option V)
abbrev VK := V → Hp → Prop
abbrev TE := St → Hp → VK → Prop
abbrev TT := St → Hp → (Bool → Hp → Prop) → Prop
abbrev TA := St → Hp → (List V → Hp → Prop) → Prop
structure Ends where
  nx : St → Hp → Prop
  rt : VK
  bk : St → Hp → Prop := fun _ _ => False
  ct : St → Hp → Prop := fun _ _ => False
abbrev TS := Ends → St → Hp → Prop
def EP (X : Cx) (pins : List (Addr × Obj)) (σ : St) (Q : VK) (u : Value) (s' : Shared) : Prop := ∃ v H', Inv X pins σ H' s' ∧ RelV v u ∧ Q v H'
def TP (X : Cx) (pins : List (Addr × Obj)) (σ : St) (Q : Bool → Hp → Prop) (b : Bool) (s' : Shared) : Prop := ∃ H', Inv X pins σ H' s' ∧ Q b H'
def AP (X : Cx) (pins : List (Addr × Obj)) (σ : St) (Q : List V → Hp → Prop) (us : List Value) (s' : Shared) : Prop := ∃ vs H', Inv X pins σ H' s' ∧ Vals vs us ∧ Q vs H'
def SP (X : Cx) (pins : List (Addr × Obj)) (D : Ends) (f : Flow) (s' : Shared) : Prop :=
  match f with
  | .next => ∃ σ' H', Inv X pins σ' H' s' ∧ D.nx σ' H'
  | .brk => ∃ σ' H', Inv X pins σ' H' s' ∧ D.bk σ' H'
  | .cont => ∃ σ' H', Inv X pins σ' H' s' ∧ D.ct σ' H'
  | .ret u => ∃ v σ' H', Inv X pins σ' H' s' ∧ RelV v u ∧ D.rt v H'
def PE (X : Cx) (e : Expr) (t : TE) : Prop :=
  ∀ (pins : List (Addr × Obj)) (s : Shared) (σ : St) (H : Hp) (Q : VK), Inv X pins σ H s → t σ H Q → wpAny (model X.prog X.w) X.A (eval e X.env) (EP X pins σ Q) X.xe s
def PT (X : Cx) (e : Expr) (t : TT) : Prop :=
  ∀ (pins : List (Addr × Obj)) (s : Shared) (σ : St) (H : Hp) (Q : Bool → Hp → Prop), Inv X pins σ H s → t σ H Q → wpAny (model X.prog X.w) X.A (isTrue e X.env (eval e X.env)) (TP X pins σ Q) X.xe s
def PW (X : Cx) (e : Expr) (t : TT) : Prop :=
  ∀ (whole : Sem Value) (pins : List (Addr × Obj)) (s : Shared) (σ : St) (H : Hp) (Q : Bool → Hp → Prop), Inv X pins σ H s → t σ H Q → wpAny (model X.prog X.w) X.A (isTrue e X.env whole) (TP X pins σ Q) X.xe s
theorem PW.pt {X : Cx} {e : Expr} {t : TT} (h : PW X e t) : PT X e t := h _
def PA (X : Cx) (es : List Expr) (t : TA) : Prop :=
  ∀ (pos : Pos) (pins : List (Addr × Obj)) (s : Shared) (σ : St) (H : Hp) (Q : List V → Hp → Prop), Inv X pins σ H s → t σ H Q → wpAny (model X.prog X.w) X.A (spliced (backTo pos (starEach es X.env))) (AP X pins σ Q) X.xe s
def PS (X : Cx) (st : Stmt) (t : TS) : Prop :=
  ∀ (pins : List (Addr × Obj)) (s : Shared) (σ : St) (H : Hp) (D : Ends), Inv X pins σ H s → t D σ H → wpAny (model X.prog X.w) X.A (exec st X.env) (SP X pins D) X.xe s
def PSs (X : Cx) (st : List Stmt) (t : TS) : Prop :=
  ∀ (pins : List (Addr × Obj)) (s : Shared) (σ : St) (H : Hp) (D : Ends), Inv X pins σ H s → t D σ H → wpAny (model X.prog X.w) X.A (execs st X.env) (SP X pins D) X.xe s
theorem thn {α : Type} {t : Sem α} {Q Q' : α → Shared → Prop} {M : Model} {A : Around} {E : Value → Shared → Prop} {s : Shared} (h : wpAny M A t Q E s) (hQ : ∀ a s, Q a s → Q' a s) : wpAny M A t Q' E s := wpAny_mono h hQ fun _ _ x => x
end L2
namespace L2
open PySem PySem.Spec PyProof.Rows
section
variable {X : Cx}
def tVar (i : Nat) : TE := fun σ H Q => ∃ v, σ[i]? = some (some v) ∧ Q v H
def tC (v : V) : TE := fun _ H Q => Q v H
theorem pe_var {i : Nat} {x : Str} {pos : Pos} (hN : X.N[i]? = some x) (hv : Vis X.env.scope x) (hd : (x == ("__debug__" : Str)) = false := by decide) (hcd : (x == ("__classdict__" : Str)) = false := by decide) : PE X (.Name x pos) (tVar i) := by
  intro pins s σ H Q I h
  obtain ⟨v, e, h⟩ := h
  obtain ⟨m, hn, hl⟩ := I.loc
  obtain ⟨u, r, l⟩ := hl i x v hN e hv
  have fin : EP X pins σ Q u s := ⟨v, H, I, r, h⟩
  rcases l with ⟨hk, hm⟩ | ⟨hk, c, hc, hcell⟩
  · exact wpAny_Name (wpAny_loadName_local I.ok.kind hk hn hm fin) hd
  · rcases hk with hk | hk
    · exact wpAny_Name (wpAny_loadName_cell I.ok.kind hk hc hcell fin) hd
    · exact wpAny_Name (wpAny_loadName_free I.ok.kind hk hc hcell fin hcd) hd
theorem pe_int {i j pos} : PE X (.Constant (.int i) j pos) (tC (.int i)) := fun _ _ _ H _ I h => wpAny_Constant_int ⟨.int i, H, I.tok _, ⟨_, rfl⟩, h⟩
theorem pe_bl {b j pos} : PE X (.Constant (.bool b) j pos) (tC (.bl b)) := fun _ _ _ H _ I h => Constant_bool ⟨.bl b, H, I, rfl, h⟩
theorem pe_str {x j pos} : PE X (.Constant (.str x) j pos) (tC (.str x)) := fun _ _ _ H _ I h => Calls.Constant_str ⟨.str x, H, I.tok _, ⟨_, rfl⟩, h⟩
def Gl (X : Cx) (x : Str) : Prop := X.env.kindOf x = some .globalImplicit
theorem ld_glob {E : Value → Shared → Prop} {pins : List (Addr × Obj)} {s : Shared} {σ : St} {H : Hp} {x : Str} {u : Value} {pos : Pos} {Q : Value → Shared → Prop} (I : Inv X pins σ H s) (hg : Gl X x) (hm : X.mg x = some u) (h : Q u s)
    (hd : (x == ("__debug__" : Str)) = false := by decide) : wpAny (model X.prog X.w) X.A (eval (.Name x pos) X.env) Q E s :=
  Calls.Name_function_global I.ok.kind hg (Calls.loadGlobal_global (by rw [I.ok.glob]; exact I.mod.glob.keeps I.bk) hm h) hd
theorem ld_blt {E : Value → Shared → Prop} {pins : List (Addr × Obj)} {s : Shared} {σ : St} {H : Hp} {x : Str} {u : Value} {pos : Pos} {Q : Value → Shared → Prop} (I : Inv X pins σ H s) (hg : Gl X x) (hm : X.mg x = none) (hv : bootBuiltins x = some u) (h : Q u s)
    (hn : x ≠ "__name__" := by decide) (hd : (x == ("__debug__" : Str)) = false := by decide) : wpAny (model X.prog X.w) X.A (eval (.Name x pos) X.env) Q E s := by
  obtain ⟨mb, h1, h2⟩ := I.mod.blt
  exact Calls.Name_function_global I.ok.kind hg (Calls.loadGlobal_builtin (by rw [I.ok.glob]; exact I.mod.glob.keeps I.bk) hm (by rw [I.ok.blt]; exact h1.keeps I.bk) ((h2 x hn).trans hv) h) hd
theorem pe_glob {x : Str} {v : V} {u : Value} {pos : Pos} (hg : Gl X x) (hm : X.mg x = some u) (r : RelV v u) (hd : (x == ("__debug__" : Str)) = false := by decide) : PE X (.Name x pos) (tC v) :=
  fun _ _ _ H _ I h => ld_glob I hg hm ⟨v, H, I, r, h⟩ hd
theorem pe_bltn {x : Str} {v : V} {u : Value} {pos : Pos} (hg : Gl X x) (hm : X.mg x = none) (hv : bootBuiltins x = some u) (r : RelV v u) (hn : x ≠ "__name__" := by decide) (hd : (x == ("__debug__" : Str)) = false := by decide) : PE X (.Name x pos) (tC v) :=
  fun _ _ _ H _ I h => ld_blt I hg hm hv ⟨v, H, I, r, h⟩ hn hd
variable {a b : Expr} {ta tb : TE} {pos : Pos}
def tB (t : TE) : TT := fun σ H Q => t σ H fun x H1 => ∃ c, x = .bl c ∧ Q c H1
theorem pt_val {e : Expr} {t : TE} (h : PE X e t) (he : ∀ whole, isTrue e X.env whole = (do let v ← whole; standAt e.pos; holding [v] (truthy v)) := by intro _; rfl) : PT X e (tB t) := by
  intro pins s σ H Q I hw
  refine isTrue_plain (thn (h pins s σ H _ I hw) fun v s1 ⟨x, H1, I1, r1, q1⟩ => ?_) (he _)
  obtain ⟨d, rfl, q⟩ := q1
  cases r1
  exact wpAny_truthy_bool ⟨H1, I1, q⟩
variable {tA tB' : TT} {rest : List Expr}
def tAnd (t u : TT) : TT := fun σ H Q => t σ H fun c H1 => if c = true then u σ H1 Q else Q false H1
def tOr (t u : TT) : TT := fun σ H Q => t σ H fun c H1 => if c = true then Q true H1 else u σ H1 Q
def tNot (t : TT) : TT := fun σ H Q => t σ H fun c H1 => Q (!c) H1
theorem pw_and1 (ha : PT X a tA) : PW X (.BoolOp .And [a] pos) tA := by
  intro wh pins s σ H Q I h
  refine isTrue_and (thn (ha pins s σ H Q I h) fun c s1 e => ?_)
  cases c with
  | true => exact isTrue_and_nil e
  | false => exact e
theorem pw_or1 (ha : PT X a tA) : PW X (.BoolOp .Or [a] pos) tA := by
  intro wh pins s σ H Q I h
  refine isTrue_or (thn (ha pins s σ H Q I h) fun c s1 e => ?_)
  cases c with
  | false => exact isTrue_or_nil e
  | true => exact e
theorem pw_and (ha : PT X a tA) (hb : PW X (.BoolOp .And (b :: rest) pos) tB') : PW X (.BoolOp .And (a :: b :: rest) pos) (tAnd tA tB') := by
  intro wh pins s σ H Q I h
  refine isTrue_and (thn (ha pins s σ H _ I h) fun c s1 ⟨H1, I1, q1⟩ => ?_)
  cases c with
  | true => exact hb wh pins s1 σ H1 Q I1 q1
  | false => exact ⟨H1, I1, q1⟩
theorem pw_or (ha : PT X a tA) (hb : PW X (.BoolOp .Or (b :: rest) pos) tB') : PW X (.BoolOp .Or (a :: b :: rest) pos) (tOr tA tB') := by
  intro wh pins s σ H Q I h
  refine isTrue_or (thn (ha pins s σ H _ I h) fun c s1 ⟨H1, I1, q1⟩ => ?_)
  cases c with
  | true => exact ⟨H1, I1, q1⟩
  | false => exact hb wh pins s1 σ H1 Q I1 q1
theorem pt_not (ha : PT X a tA) : PT X (.UnaryOp .Not a pos) (tNot tA) := by
  intro pins s σ H Q I h
  exact isTrue_not (ha pins s σ H (fun c H1 => Q (!c) H1) I h)
def tAndV (ta tb : TE) : TE := fun σ H Q => ta σ H fun x H1 => ∃ c, x = .bl c ∧ if c = true then tb σ H1 Q else Q (.bl false) H1
theorem pe_one {op} {t : TE} (h : PE X a t) : PE X (.BoolOp op [a] pos) t := fun pins s σ H Q I hw => BoolOp_one (h pins s σ H Q I hw)
theorem pe_and (ha : PE X a ta) (hb : PE X (.BoolOp .And (b :: rest) pos) tb) : PE X (.BoolOp .And (a :: b :: rest) pos) (tAndV ta tb) := by
  intro pins s σ H Q I h
  refine BoolOp_and (thn (ha pins s σ H _ I h) fun v s1 ⟨x, H1, I1, r1, q1⟩ => ?_)
  obtain ⟨c, rfl, q1⟩ := q1
  cases r1
  refine wpAny_truthy_bool ?_
  cases c with
  | true => exact hb pins s1 σ H1 Q I1 q1
  | false => exact ⟨.bl false, H1, I1, rfl, q1⟩
def tIf (t : TT) (ta tb : TE) : TE := fun σ H Q => t σ H fun c H1 => if c = true then ta σ H1 Q else tb σ H1 Q
theorem pe_ifExp {c : Expr} (hc : PT X c tA) (ha : PE X a ta) (hb : PE X b tb) : PE X (.IfExp c a b pos) (tIf tA ta tb) := by
  intro pins s σ H Q I h
  refine wpAny_IfExp (thn (hc pins s σ H _ I h) fun d s1 ⟨H1, I1, q1⟩ => ?_)
  cases d with
  | true => exact ha pins s1 σ H1 Q I1 q1
  | false => exact hb pins s1 σ H1 Q I1 q1
end
end L2
namespace L2
open PySem PySem.Spec PyProof.Rows
def SqL (K : PySem.W.Frag) (H : Hp) (a : Addr) (xs : List V) : Prop :=
  Rd H a (.lst xs) ∨
    ∃ (o : Obj) (its : Array Value) (n : Nat), K.lookup a = some o ∧ o.cls = .type "list" ∧ o.dict = none ∧ o.data = .seq its n ∧ its.size ≤ sizeLine ∧ Vals xs its.toList
def SqT (K : PySem.W.Frag) (H : Hp) (a : Addr) (xs : List V) : Prop :=
  Rd H a (.tup xs) ∨
    ∃ (o : Obj) (its : Array Value) (n : Nat), K.lookup a = some o ∧ o.cls = .type "tuple" ∧ o.data = .seq its n ∧ its.size ≤ sizeLine ∧ Vals xs its.toList
def absV : Value → Option V
  | .none => some .non
  | .bool b => some (.bl b)
  | .int i _ => some (.int i)
  | .str x _ => some (.str x)
  | .bytes b _ => some (.byt b)
  | .float b _ => some (.flt b)
  | .ref a => some (.ref a)
  | .type n => some (.ty n)
  | _ => none
theorem RelV.abs {x : V} {u : Value} (r : RelV x u) : absV u = some x := by
  cases x with
  | non => cases r; rfl
  | bl _ => cases r; rfl
  | int _ => obtain ⟨t, rfl⟩ := r; rfl
  | str _ => obtain ⟨t, rfl⟩ := r; rfl
  | byt _ => obtain ⟨t, rfl⟩ := r; rfl
  | flt _ => obtain ⟨t, rfl⟩ := r; rfl
  | ref _ => cases r; rfl
  | ty _ => cases r; rfl
theorem RelV.inj {x y : V} {u : Value} (r : RelV x u) (q : RelV y u) : x = y := Option.some.inj (r.abs.symm.trans q.abs)
theorem Vals.inj : ∀ {xs ys : List V} {us : List Value}, Vals xs us → Vals ys us → xs = ys
  | _, _, _, .nil, .nil => rfl
  | _, _, _, .cons r t, .cons r' t' => by rw [r.inj r', Vals.inj t t']
section
variable {X : Cx} {pins : List (Addr × Obj)} {σ : St} {H : Hp} {s : Shared} {a : Addr} {xs ys : List V}
theorem SqL.of {K : PySem.W.Frag} (h : H a = some (.lst xs)) : SqL K H a xs := .inl (.inl h)
theorem SqT.of {K : PySem.W.Frag} (h : H a = some (.tup xs)) : SqT K H a xs := .inl (.inl h)
theorem Inv.list (I : Inv X pins σ H s) (h : SqL X.K H a xs) : ∃ its : List Value, Vals xs its ∧ PlainL s.heap a its.toArray ∧ xs.length ≤ sizeLine := by
  rcases h with h | ⟨o, its, n, hk, hc, hd, hs, hz, r⟩
  · obtain ⟨z, its, n, r, e⟩ := h.ok I.hok
    exact ⟨its, r, ⟨_, n, e, rfl, rfl, rfl⟩, z⟩
  · refine ⟨its.toList, r, ⟨o, n, I.kIn a o hk, hc, hd, by simpa using hs⟩, ?_⟩
    have e := r.length
    simp only [Array.length_toList] at e
    omega
theorem Inv.tuple (I : Inv X pins σ H s) (h : SqT X.K H a xs) : ∃ its : List Value, Vals xs its ∧ IsTup s.heap a its.toArray ∧ xs.length ≤ sizeLine := by
  rcases h with h | ⟨o, its, n, hk, hc, hs, hz, r⟩
  · obtain ⟨z, its, r, p⟩ := h.ok I.hok
    exact ⟨its, r, p, z⟩
  · refine ⟨its.toList, r, ⟨o, I.kIn a o hk, hc, n, by simpa using hs⟩, ?_⟩
    have e := r.length
    simp only [Array.length_toList] at e
    omega
theorem Inv.list_inj (I : Inv X pins σ H s) (h : SqL X.K H a xs) (h' : SqL X.K H a ys) : xs = ys := by
  obtain ⟨its, r, ⟨o, n, e, _, _, d⟩, _⟩ := I.list h
  obtain ⟨its', r', ⟨o', n', e', _, _, d'⟩, _⟩ := I.list h'
  rw [e] at e'; cases e'
  rw [d] at d'
  injection d' with d1 _
  have : its = its' := by simpa using congrArg Array.toList d1
  subst this
  exact r.inj r'
theorem Inv.tuple_inj (I : Inv X pins σ H s) (h : SqT X.K H a xs) (h' : SqT X.K H a ys) : xs = ys := by
  obtain ⟨its, r, ⟨o, e, _, n, d⟩, _⟩ := I.tuple h
  obtain ⟨its', r', ⟨o', e', _, n', d'⟩, _⟩ := I.tuple h'
  rw [e] at e'; cases e'
  rw [d] at d'
  injection d' with d1 _
  have : its = its' := by simpa using congrArg Array.toList d1
  subst this
  exact r.inj r'
end
abbrev Cx.wish (X : Cx) (E : Value → Shared → Prop) : Cx := { X with xe := E }
abbrev Cx.nox (X : Cx) : Cx := X.wish fun _ _ => False
theorem Cx.Ok.wish {X : Cx} (ok : X.Ok) (E : Value → Shared → Prop) : (X.wish E).Ok :=
  ⟨ok.mod, ok.kind, ok.glob, ok.blt, ok.above, ok.inj, ok.has, ok.cab, ok.hd, ok.frames, ok.stk, ok.exf, ok.bs, ok.bsz, ok.noex, ok.exfs, ok.funs, ok.frf⟩
theorem Cx.Ok.unwish {X : Cx} {E : Value → Shared → Prop} (ok : (X.wish E).Ok) : X.Ok :=
  ⟨ok.mod, ok.kind, ok.glob, ok.blt, ok.above, ok.inj, ok.has, ok.cab, ok.hd, ok.frames, ok.stk, ok.exf, ok.bs, ok.bsz, ok.noex, ok.exfs, ok.funs, ok.frf⟩
section
variable {X : Cx} {pins : List (Addr × Obj)} {σ : St} {H : Hp} {s : Shared} {E : Value → Shared → Prop}
theorem Inv.wish (I : Inv X pins σ H s) (E : Value → Shared → Prop) : Inv (X.wish E) pins σ H s := ⟨I.ok.wish E, I.os, I.bare, I.base, I.loc, I.cell, I.free, I.freeC, I.pin, I.hok, I.len⟩
theorem Inv.unwish (I : Inv (X.wish E) pins σ H s) : Inv X pins σ H s := ⟨I.ok.unwish, I.os, I.bare, I.base, I.loc, I.cell, I.free, I.freeC, I.pin, I.hok, I.len⟩
theorem SP.unwish {D : Ends} {f : Flow} {s' : Shared} (h : SP (X.wish E) pins D f s') : SP X pins D f s' := by
  cases f with
  | next => obtain ⟨σ', H', I, q⟩ := h; exact ⟨σ', H', I.unwish, q⟩
  | brk => obtain ⟨σ', H', I, q⟩ := h; exact ⟨σ', H', I.unwish, q⟩
  | cont => obtain ⟨σ', H', I, q⟩ := h; exact ⟨σ', H', I.unwish, q⟩
  | ret u => obtain ⟨v, σ', H', I, r, q⟩ := h; exact ⟨v, σ', H', I.unwish, r, q⟩
theorem PE.nox {e : Expr} {t : TE} (h : PE X.nox e t) : PE X e t := fun pins s σ H Q I hw =>
  wpAny_mono (h pins s σ H Q (I.wish _) hw) (fun _ _ ⟨v, H', I', r, q⟩ => ⟨v, H', I'.unwish, r, q⟩) fun _ _ z => False.elim z
theorem PSs.nox {st : List Stmt} {t : TS} (h : PSs X.nox st t) : PSs X st t := fun pins s σ H D I hw =>
  wpAny_mono (h pins s σ H D (I.wish _) hw) (fun _ _ q => q.unwish) fun _ _ z => False.elim z
end
section
variable {X : Cx} {st : Stmt} {rest : List Stmt} {t u : TS} {e : Expr} {te : TE} {pos : Pos}
def tNext : TS := fun D σ H => D.nx σ H
def tSeq (t u : TS) : TS := fun D σ H => t { D with nx := u D } σ H
theorem pss_nil : PSs X [] tNext := fun _ _ σ H _ I h => wpAny_execs_nil ⟨σ, H, I, h⟩
theorem pss_cons (h1 : PS X st t) (h2 : PSs X rest u) : PSs X (st :: rest) (tSeq t u) := by
  intro pins s σ H D I h
  refine wpAny_execs_cons (thn (h1 pins s σ H { D with nx := u D } I h) fun f s1 q => ?_)
  cases f with
  | next =>
    obtain ⟨σ', H', I', q⟩ := q
    exact h2 pins s1 σ' H' D I' q
  | ret v => exact q
  | brk => exact q
  | cont => exact q
theorem pss_one (h1 : PS X st t) : PSs X [st] t := by
  intro pins s σ H D I h
  refine wpAny_execs_cons (thn (h1 pins s σ H D I h) fun f s1 q => ?_)
  cases f with
  | next => exact wpAny_execs_nil q
  | ret v => exact q
  | brk => exact q
  | cont => exact q
theorem Inv.quiet {pins : List (Addr × Obj)} {σ : St} {H : Hp} {s : Shared} (I : Inv X pins σ H s) : interactive X.env = false := by simp [interactive, I.ok.kind]
def tDrop (te : TE) : TS := fun D σ H => te σ H fun _ H1 => D.nx σ H1
theorem ps_expr (he : PE X e te) (hs : swapsWith e none pos.line X.env = pure false := by rfl) : PS X (.Expr e pos) (tDrop te) := by
  intro pins s σ H D I h
  exact wpAny_Expr_any (thn (he pins s σ H _ I h) fun v s1 ⟨x, H1, I1, r1, q1⟩ => ⟨σ, H1, I1, q1⟩) I.quiet hs
def tRet (te : TE) : TS := fun D σ H => te σ H D.rt
theorem ps_ret (he : PE X e te) : PS X (.Return (some e) pos) (tRet te) := by
  intro pins s σ H D I h
  exact wpAny_Return_some (thn (he pins s σ H _ I h) fun v s1 ⟨x, H1, I1, r1, q1⟩ => ⟨x, σ, H1, I1, r1, q1⟩)
def tIfS (c : TT) (t u : TS) : TS := fun D σ H => c σ H fun b H1 => if b = true then t D σ H1 else u D σ H1
theorem ps_if {c : Expr} {a b : List Stmt} {tc : TT} (hc : PT X c tc) (ha : PSs X a t) (hb : PSs X b u) : PS X (.If c a b pos) (tIfS tc t u) := by
  intro pins s σ H D I h
  refine wpAny_If (thn (hc pins s σ H _ I h) fun d s1 ⟨H1, I1, q1⟩ => ?_)
  cases d with
  | true => exact ha pins s1 σ H1 D I1 q1
  | false => exact hb pins s1 σ H1 D I1 q1
def tNever : TS := fun _ _ _ => False
theorem pss_never {sts : List Stmt} : PSs X sts tNever := fun _ _ _ _ _ _ h => h.elim
end
abbrev TG := V → St → Hp → (St → Hp → Prop) → Prop
abbrev TGs := List V → St → Hp → (St → Hp → Prop) → Prop
def PG (X : Cx) (target : Expr) (t : TG) : Prop :=
  ∀ (pins : List (Addr × Obj)) (s : Shared) (σ : St) (H : Hp) (v : V) (u : Value) (Q : St → Hp → Prop), Inv X pins σ H s → RelV v u → t v σ H Q →
    wpAny (model X.prog X.w) X.A (assign target X.env u) (fun _ s' => ∃ σ' H', Inv X pins σ' H' s' ∧ Q σ' H') X.xe s
def PGs (X : Cx) (ts : List Expr) (t : TGs) : Prop :=
  ∀ (pins : List (Addr × Obj)) (s : Shared) (σ : St) (H : Hp) (vs : List V) (us : List Value) (Q : St → Hp → Prop), Inv X pins σ H s → Vals vs us → t vs σ H Q →
    wpAny (model X.prog X.w) X.A (assignInOrder ((assignEach ts X.env).map (·.2)) us) (fun _ s' => ∃ σ' H', Inv X pins σ' H' s' ∧ Q σ' H') X.xe s
abbrev TIp := V → V → Hp → VK → Prop
def PIp (X : Cx) (op : Operator) (t : TIp) : Prop :=
  ∀ (pins : List (Addr × Obj)) (s : Shared) (σ : St) (H : Hp) (x y : V) (v u : Value) (Q : VK), Inv X pins σ H s → RelV x v → RelV y u → t x y H Q →
    wpAny (model X.prog X.w) X.A (inplaceOp op v u) (EP X pins σ Q) X.xe s
section
variable {X : Cx} {pos : Pos}
def gName (i : Nat) : TG := fun v σ H Q => Q (σ.set i (some v)) H
theorem pg_name {i : Nat} {x : Str} (hN : X.N.Nodup) (hi : X.N[i]? = some x) (hx : Loc X.env.scope x) (hf : X.fn x = true ∨ X.env.scope.names.lookup x = some .local := by first | exact .inl rfl | exact .inr rfl | assumption) : PG X (.Name x pos) (gName i) := by
  intro pins s σ H v u Q I r h
  exact wpAny_assign_Name (store_ok I hN hi hx r (fun s' I' => ⟨_, H, I', h⟩) hf)
def gNil : TGs := fun vs σ H Q => vs = [] ∧ Q σ H
def gCons (t : TG) (u : TGs) : TGs := fun vs σ H Q => ∃ v r, vs = v :: r ∧ t v σ H fun σ' H' => u r σ' H' Q
theorem pgs_nil : PGs X [] gNil := by
  intro pins s σ H vs us Q I r h
  obtain ⟨e, h⟩ := h
  subst e
  cases r
  exact assignInOrder_nil ⟨σ, H, I, h⟩
theorem pgs_cons {e : Expr} {es : List Expr} {t : TG} {u : TGs} (h1 : PG X e t) (h2 : PGs X es u)
    (hs : (assignEach (e :: es) X.env).map (·.2) = assign e X.env :: (assignEach es X.env).map (·.2) := by rfl) : PGs X (e :: es) (gCons t u) := by
  intro pins s σ H vs us Q I r h
  obtain ⟨v, vr, e1, h⟩ := h
  subst e1
  cases r with
  | cons r rr =>
    rw [hs]
    refine assignInOrder_cons (thn (h1 pins s σ H _ _ _ I r h) fun _ s1 ⟨σ1, H1, I1, q1⟩ => ?_)
    exact h2 pins s1 σ1 H1 _ _ Q I1 rr q1
def gTup (K : PySem.W.Frag) (n : Nat) (t : TGs) : TG := fun v σ H Q => ∃ a xs, v = .ref a ∧ SqT K H a xs ∧ xs.length = n ∧ t xs σ H Q
theorem pg_tup {es : List Expr} {k : Nat} {t : TGs} {n : Nat} (hc : X.calm = true) (h : PGs X es t)
    (hn : (assignEach es X.env).length = n := by rfl) (hst : (assignEach es X.env).findIdx? (·.1) = none := by rfl) : PG X (.Tuple es k pos) (gTup X.K n t) := by
  intro pins s σ H v u Q I r hw
  obtain ⟨a, xs, e1, hq, hl, hw⟩ := hw
  subst e1
  cases r
  obtain ⟨its, rv, ht, hz⟩ := I.tuple hq
  refine assign_Tuple_tuple (I.ok.hd hc) ht (by simp [hn, ← hl, rv.length]) hst fun h' hx => ?_
  have I1 : Inv X pins σ H { s with heap := h' } := I.kept (t' := s.toks) fun b o e => hx b o (Nat.ne_of_lt (Heap.lt_size e)) e
  exact h pins _ σ H xs _ Q I1 (by simpa using rv) hw
def tAsg (te : TE) (g : TG) : TS := fun D σ H => te σ H fun x H1 => g x σ H1 D.nx
theorem ps_asg {tg e : Expr} {te : TE} {g : TG} (he : PE X e te) (hg : PG X tg g) (hs : swapsWithSole [tg] e pos.line X.env = pure false := by rfl) (hw : swappedStores [tg] e X.env = pure none := by rfl)
    (h1 : (assignEach [tg] X.env).map (·.2) = [assign tg X.env] := by rfl) : PS X (.Assign [tg] e pos) (tAsg te g) := by
  intro pins s σ H D I h
  refine wpAny_Assign_stores (thn (he pins s σ H _ I h) fun v s1 ⟨x, H1, I1, r1, q1⟩ => ?_) hs hw
  rw [h1]
  exact thn (hg pins s1 σ H1 x v _ I1 r1 q1) fun _ s2 q => q
theorem ps_set {i : Nat} {x : Str} {e : Expr} {te : TE} {pos' : Pos} (hN : X.N.Nodup) (hi : X.N[i]? = some x) (hx : Loc X.env.scope x) (he : PE X e te) (hs : swapsWith e (some (.Name x pos')) pos.line X.env = pure false := by rfl) (hf : X.fn x = true ∨ X.env.scope.names.lookup x = some .local := by first | exact .inl rfl | exact .inr rfl | assumption) :
    PS X (.Assign [.Name x pos'] e pos) (tAsg te (gName i)) := by
  intro pins s σ H D I h
  refine wpAny_Assign_Name (thn (he pins s σ H _ I h) fun v s1 ⟨y, H1, I1, r1, q1⟩ => ?_) hs
  exact store_ok I1 hN hi hx r1 (fun s2 I2 => ⟨_, H1, I2, q1⟩) hf
def tAug (i : Nat) (te : TE) (ti : TIp) : TS := fun D σ H => ∃ x, σ[i]? = some (some x) ∧ te σ H fun y H1 => ti x y H1 fun z H2 => D.nx (σ.set i (some z)) H2
theorem ps_aug {i : Nat} {x : Str} {e : Expr} {te : TE} {op : Operator} {ti : TIp} {pos' : Pos} (hN : X.N.Nodup) (hi : X.N[i]? = some x) (hx : Loc X.env.scope x) (he : PE X e te) (ho : PIp X op ti) (hf : X.fn x = true ∨ X.env.scope.names.lookup x = some .local := by first | exact .inl rfl | exact .inr rfl | assumption) :
    PS X (.AugAssign (.Name x pos') op e pos) (tAug i te ti) := by
  intro pins s σ H D I h
  obtain ⟨v, e1, h⟩ := h
  obtain ⟨m, hn, hl⟩ := I.loc
  have vis : Vis X.env.scope x := by rcases hx with k | k; exact .inl k; exact .inr (.inl k)
  obtain ⟨u, r, l⟩ := hl i x v hi e1 vis
  refine wpAny_AugAssign_Name ?_
  have go : wpAny (model X.prog X.w) X.A (eval e X.env) (fun w s₂ => wpAny (model X.prog X.w) X.A (inplaceOp op u w) (fun r s₃ => wpAny (model X.prog X.w) X.A (storeName X.env x r) (fun _ => SP X pins D .next) X.xe s₃) X.xe s₂) X.xe s := by
    refine thn (he pins s σ H _ I h) fun w s1 ⟨y, H1, I1, r1, q1⟩ => ?_
    refine thn (ho pins s1 σ H1 v y u w _ I1 r r1 q1) fun z s2 ⟨zv, H2, I2, r2, q2⟩ => ?_
    exact store_ok I2 hN hi hx r2 (fun s3 I3 => ⟨_, H2, I3, q2⟩) hf
  rcases l with ⟨hk, hm⟩ | ⟨hk, c, hc, hcell⟩
  · exact wpAny_loadName_local I.ok.kind hk hn hm go
  · rcases hk with hk | hk
    · exact wpAny_loadName_cell I.ok.kind hk hc hcell go
    · rcases hx with k | k
      · have : X.env.scope.names.lookup x = some .free := hk
        rw [k] at this; cases this
      · have : X.env.scope.names.lookup x = some .free := hk
        rw [k] at this; cases this
def ipI (f : Int → Int → Int) : TIp := fun x y H Q => ∃ i j, x = .int i ∧ y = .int j ∧ Q (.int (f i j)) H
theorem ip_add : PIp X .Add (ipI fun i j => i + j) := by
  intro pins s σ H x y v u Q I r1 r2 h
  obtain ⟨i, j, e1, e2, q⟩ := h
  subst e1; subst e2
  obtain ⟨t, rfl⟩ := r1
  obtain ⟨t', rfl⟩ := r2
  exact iadd_int ⟨.int _, H, I.tok _, ⟨_, rfl⟩, q⟩
end
section
variable {X : Cx} {pos : Pos}
def tWhile (c : TT) (tb : TS) : TS := fun D σ H => ∃ W : Nat → St → Hp → Prop, (∃ m, W m σ H) ∧ ∀ m σ H, W m σ H →
  c σ H fun b H1 => if b = true then ∃ N : St → Hp → Prop, (∀ σ' H', N σ' H' → ∃ m', m' < m ∧ W m' σ' H') ∧ tb { D with nx := N, ct := N, bk := D.nx } σ H1 else D.nx σ H1
theorem ps_while {c : Expr} {body : List Stmt} {tc : TT} {tb : TS} (hp : PassesOwn (model X.prog X.w) X.A X.env X.xe) (hc : PT X c tc) (hb : PSs X body tb) : PS X (.While c body [] pos) (tWhile tc tb) := by
  intro pins s σ H D I h
  obtain ⟨W, ⟨m0, w0⟩, turn⟩ := h
  refine wpAny_While (codeAny_whileLoop (fun n s' => ∃ σ' H', Inv X pins σ' H' s' ∧ W n σ' H') ?_ m0 ⟨σ, H, I, w0⟩)
  rintro n s1 ⟨σ1, H1, I1, w1⟩
  refine wpAny_passesOwn hp (thn (hc pins s1 σ1 H1 _ I1 (turn n σ1 H1 w1)) fun b s2 ⟨H2, I2, q2⟩ => ?_)
  cases b with
  | true =>
    obtain ⟨N, hN, q2⟩ := q2
    rw [if_pos rfl]
    refine wpAny_passesOwn hp (thn (hb pins s2 σ1 H2 _ I2 q2) fun f s3 q3 => ?_)
    cases f with
    | next =>
      obtain ⟨σ3, H3, I3, n3⟩ := q3
      obtain ⟨m', hm, w3⟩ := hN σ3 H3 n3
      exact ⟨m', hm, σ3, H3, I3, w3⟩
    | cont =>
      obtain ⟨σ3, H3, I3, n3⟩ := q3
      obtain ⟨m', hm, w3⟩ := hN σ3 H3 n3
      exact ⟨m', hm, σ3, H3, I3, w3⟩
    | brk => exact q3
    | ret v => exact q3
  | false =>
    rw [if_neg Bool.false_ne_true]
    exact wpAny_execs_nil ⟨σ1, H2, I2, q2⟩
end
structure It where
  go : Nat → Hp → Prop
  yld : Nat → Hp → V → Hp → Prop
  stop : Nat → Hp → Prop
def FpOk (X : Cx) (pins : List (Addr × Obj)) (H : Hp) (b : Addr) : Prop :=
  H b = none ∧ b ≠ X.env.locals ∧ b ∉ X.fs ∧ (b ∈ X.ex ∨ X.s₀.heap.objs.size ≤ b) ∧ (∀ x c, X.env.cells.lookup x = some c → c ≠ b) ∧ ∀ p ∈ X.pn ++ pins, p.1 ≠ b
theorem Inv.fpOk {X : Cx} {pins : List (Addr × Obj)} {σ : St} {H H' : Hp} {s : Shared} {b : Addr} (I : Inv X pins σ H s) (hb : s.heap.objs.size ≤ b) (hn : H' b = none) : FpOk X pins H' b := by
  refine ⟨hn, Nat.ne_of_gt (Nat.lt_of_lt_of_le I.lt hb), I.nofs hb, .inr (Nat.le_trans I.sz hb), fun x c e z => ?_, fun p hp z => ?_⟩
  · obtain ⟨v, q⟩ := I.cell x c e
    exact absurd (Nat.lt_of_lt_of_le q.lt (by rw [z]; exact hb)) (Nat.lt_irrefl _)
  · exact absurd (Nat.lt_of_lt_of_le (Heap.lt_size (I.pin p hp).1) (by rw [z]; exact hb)) (Nat.lt_irrefl _)
structure Turn (P : Program) (w : World) (K : PySem.W.Frag) (tg : Expr) (J : It) (fp : List Addr) (it : Addr) (tn : Nat → Heap → Prop) : Prop where
  mem : it ∈ fp
  obj : ∀ i h, tn i h → ∀ b ∈ fp, ∃ o, h.get? b = some o ∧ ∀ v, o.data ≠ .cell v
  keep : ∀ i h h', tn i h → (∀ b ∈ fp, ∀ o, h.get? b = some o → h'.get? b = some o) → tn i h'
  item : ∀ (X : Cx), X.prog = P → X.w = w → X.K = K → X.calm = true → ∀ (i : Nat) (pins : List (Addr × Obj)) (s : Shared) (σ : St) (H : Hp) (E : Value → Shared → Prop), Inv X pins σ H s → (∀ b ∈ fp, FpOk X pins H b) → tn i s.heap → J.go i H →
    wpAny (model P w) X.A (pyNext (.ref it)) (fun r s1 => ∃ u, r = some u ∧
      wpAny (model P w) X.A (letOwnedTupleGo tg (.ref it) u) (fun _ s2 => ∃ x H', Inv X pins σ H' s2 ∧ RelV x u ∧ J.yld i H x H' ∧ tn (i + 1) s2.heap ∧ ∀ b ∈ fp, H' b = none) E s1) E s
  done : ∀ (X : Cx), X.prog = P → X.w = w → X.K = K → X.calm = true → ∀ (i : Nat) (pins : List (Addr × Obj)) (s : Shared) (σ : St) (H : Hp) (E : Value → Shared → Prop), Inv X pins σ H s → (∀ b ∈ fp, FpOk X pins H b) → tn i s.heap → J.stop i H →
    wpAny (model P w) X.A (pyNext (.ref it)) (fun r s1 => r = none ∧ Inv X pins σ H s1) E s
  self : ∀ (A : Around) (i : Nat) (s : Shared) (Q : Value → Shared → Prop) (E : Value → Shared → Prop), tn i s.heap → Q (.ref it) s → wpAny (model P w) A (pyIter (.ref it)) Q E s
abbrev TI := St → Hp → (It → Hp → Prop) → Prop
def PIE (X : Cx) (pins : List (Addr × Obj)) (σ : St) (tg : Expr) (R : It → Hp → Prop) (itv : Value) (s2 : Shared) : Prop :=
  ∃ (it : Addr) (fp : List Addr) (tn : Nat → Heap → Prop) (J : It) (H' : Hp), itv = .ref it ∧ Inv X pins σ H' s2 ∧ Turn X.prog X.w X.K tg J fp it tn ∧ tn 0 s2.heap ∧ (∀ b ∈ fp, FpOk X pins H' b) ∧ R J H'
def PI (X : Cx) (tg iter : Expr) (wi : TI) : Prop :=
  ∀ (pins : List (Addr × Obj)) (s : Shared) (σ : St) (H : Hp) (R : It → Hp → Prop), Inv X pins σ H s → wi σ H R →
    wpAny (model X.prog X.w) X.A (eval iter X.env) (fun v s1 => wpAny (model X.prog X.w) X.A (pyIter v) (PIE X pins σ tg R) X.xe s1) X.xe s
theorem go_of {M : Model} {A : Around} {E : Value → Shared → Prop} {s : Shared} {tg : Expr} {it : Addr} {u : Value} {o : Obj} {n : String} {vs : Array Value} {Q : Unit → Shared → Prop} (ho : s.heap.get? it = some o) (hc : o.cls = .type n) (hd : o.data = .fields vs)
    (hn : ["enumerate", "zip", "dict_itemiterator", "dict_reverseitemiterator", "odict_iterator", "itertools.zip_longest", "itertools.pairwise"].contains n = false) (hQ : Q () s) : wpAny M A (letOwnedTupleGo tg (.ref it) u) Q E s := by
  unfold letOwnedTupleGo
  cases tg <;> first
    | exact wpAny_pure hQ
    | (cases u <;> first
        | exact wpAny_pure hQ
        | (refine wpAny_bind (wpAny_load ho ?_)
           rw [hc, hd]
           show wpAny M A (if (["enumerate", "zip", "dict_itemiterator", "dict_reverseitemiterator", "odict_iterator", "itertools.zip_longest", "itertools.pairwise"].contains n && vs[0]? == some (rawInt _)) = true then _ else _) Q E s
           rw [if_neg (by intro h; rw [hn, Bool.false_and] at h; cases h)]
           exact wpAny_pure hQ))
def Itl (K : PySem.W.Frag) (a : Addr) : It :=
  ⟨fun i H => ∃ xs x, SqL K H a xs ∧ xs[i]? = some x, fun i H x H' => H' = H ∧ ∀ xs, SqL K H a xs → xs[i]? = some x, fun i H => ∃ xs, SqL K H a xs ∧ xs.length ≤ i⟩
def Itt (K : PySem.W.Frag) (a : Addr) : It :=
  ⟨fun i H => ∃ xs x, SqT K H a xs ∧ xs[i]? = some x, fun i H x H' => H' = H ∧ ∀ xs, SqT K H a xs → xs[i]? = some x, fun i H => ∃ xs, SqT K H a xs ∧ xs.length ≤ i⟩
def Itr (lo : Int) (n : Nat) : It := ⟨fun i _ => i < n, fun i H x H' => H' = H ∧ x = .int (lo + i), fun i _ => n ≤ i⟩
theorem turn_list {P : Program} {w : World} {K : PySem.W.Frag} {tg : Expr} (a it : Addr) : Turn P w K tg (Itl K a) [it] it (fun i h => h.IsListIter it a i) where
  mem := by simp
  obj := fun i h st b hb => by
    have e : b = it := by simpa using hb
    subst e
    obtain ⟨o, e, c, d⟩ := st
    exact ⟨o, e, fun v z => by rw [d] at z; cases z⟩
  keep := fun i h h' st k => st.at fun o e => k it (by simp) o e
  item := by
    intro X hP hw hK hc i pins s σ H E I hf st hg
    subst hP hw hK
    obtain ⟨xs, x, hq, hx⟩ := hg
    obtain ⟨its, rv, p, hz⟩ := I.list hq
    obtain ⟨u, hu, ru⟩ := rv.get hx
    obtain ⟨f0, f1, f2, f3, f4, f5⟩ := hf it (by simp)
    refine wpAny_pyNext_list_item st p.isList (x := u) (by simpa using hu) fun h' st' sb => ?_
    have I1 : Inv X pins σ H { s with heap := h' } := I.turned (t' := s.toks) (fun b o hb e => (sb.2 b hb).trans e) f0 f1 f3 f4 f5
    obtain ⟨o, e, c, d⟩ := id st'
    exact ⟨u, rfl, go_of (s := { s with heap := h' }) e c d (by decide) ⟨x, H, I1, ru, ⟨rfl, fun ys hy => by rw [I.list_inj hy hq]; exact hx⟩, st', fun b hb => (hf b hb).1⟩⟩
  done := by
    intro X hP hw hK hc i pins s σ H E I hf st hg
    subst hP hw hK
    obtain ⟨xs, hq, hx⟩ := hg
    obtain ⟨its, rv, p, hz⟩ := I.list hq
    obtain ⟨f0, f1, f2, f3, f4, f5⟩ := hf it (by simp)
    have hl := rv.length
    exact wpAny_pyNext_list_end (I.ok.hd hc) st p.isList (by simp; omega) fun h' eb => ⟨rfl, I.turned (t' := s.toks) (fun b o hb e => eb b o hb e) f0 f1 f3 f4 f5⟩
  self := fun _ _ _ _ _ st h => wpAny_pyIter_listiter st h
theorem turn_tuple {P : Program} {w : World} {K : PySem.W.Frag} {tg : Expr} (a it : Addr) : Turn P w K tg (Itt K a) [it] it (fun i h => h.IsTupleIter it a i) where
  mem := by simp
  obj := fun i h st b hb => by
    have e : b = it := by simpa using hb
    subst e
    obtain ⟨o, e, c, d⟩ := st
    exact ⟨o, e, fun v z => by rw [d] at z; cases z⟩
  keep := fun i h h' st k => st.at fun o e => k it (by simp) o e
  item := by
    intro X hP hw hK hc i pins s σ H E I hf st hg
    subst hP hw hK
    obtain ⟨xs, x, hq, hx⟩ := hg
    obtain ⟨its, rv, p, hz⟩ := I.tuple hq
    obtain ⟨u, hu, ru⟩ := rv.get hx
    obtain ⟨f0, f1, f2, f3, f4, f5⟩ := hf it (by simp)
    refine wpAny_pyNext_tuple_item st (show s.heap.IsTuple a its.toArray from p) (x := u) (by simpa using hu) fun h' st' sb => ?_
    have I1 : Inv X pins σ H { s with heap := h' } := I.turned (t' := s.toks) (fun b o hb e => (sb.2 b hb).trans e) f0 f1 f3 f4 f5
    obtain ⟨o, e, c, d⟩ := id st'
    exact ⟨u, rfl, go_of (s := { s with heap := h' }) e c d (by decide) ⟨x, H, I1, ru, ⟨rfl, fun ys hy => by rw [I.tuple_inj hy hq]; exact hx⟩, st', fun b hb => (hf b hb).1⟩⟩
  done := by
    intro X hP hw hK hc i pins s σ H E I hf st hg
    subst hP hw hK
    obtain ⟨xs, hq, hx⟩ := hg
    obtain ⟨its, rv, p, hz⟩ := I.tuple hq
    obtain ⟨f0, f1, f2, f3, f4, f5⟩ := hf it (by simp)
    have hl := rv.length
    exact wpAny_pyNext_tuple_end (I.ok.hd hc) st (show s.heap.IsTuple a its.toArray from p) (by simp; omega) fun h' eb => ⟨rfl, I.turned (t' := s.toks) (fun b o hb e => eb b o hb e) f0 f1 f3 f4 f5⟩
  self := fun _ _ _ _ _ st h => wpAny_pyIter_tupleiter st h
theorem turn_range {P : Program} {w : World} {K : PySem.W.Frag} {tg : Expr} (it : Addr) (lo : Int) (n : Nat) : Turn P w K tg (Itr lo n) [it] it (fun i h => IsRangeIter h it (lo + (i : Nat) * 1) ((n : Int) - (i : Nat)) 1) where
  mem := by simp
  obj := fun i h st b hb => by
    have e : b = it := by simpa using hb
    subst e
    exact ⟨_, st, fun v z => by
      have z' : Data.fields _ = Data.cell v := z
      cases z'⟩
  keep := fun i h h' st k => k it (by simp) _ st
  item := by
    intro X hP hw hK hc i pins s σ H E I hf st hg
    subst hP hw hK
    obtain ⟨f0, f1, f2, f3, f4, f5⟩ := hf it (by simp)
    have W := Walks.range (prog := X.prog) (w := X.w) (I.ok.hd hc) it lo 1 n
    refine W.item i s _ _ hg st fun v h' tk hv st' kk => ?_
    obtain ⟨t, rfl⟩ := hv
    have I1 : Inv X pins σ H { s with heap := h', toks := tk } := I.turned (fun b o hb e => kk b o (by simpa using hb) e) f0 f1 f3 f4 f5
    refine ⟨_, rfl, go_of (s := { s with heap := h', toks := tk }) (n := "range_iterator") st' rfl rfl (by decide) ⟨.int (lo + i), H, I1, ⟨t, ?_⟩, ⟨rfl, rfl⟩, st', fun b hb => (hf b hb).1⟩⟩
    rw [Int.mul_one]
  done := by
    intro X hP hw hK hc i pins s σ H E I hf st hg
    subst hP hw hK
    obtain ⟨f0, f1, f2, f3, f4, f5⟩ := hf it (by simp)
    exact wpAny_pyNext_range_end (I.ok.hd hc) st (by have : n ≤ i := hg; omega) fun h' eb => ⟨rfl, I.turned (t' := s.toks) (fun b o hb e => eb b o hb e) f0 f1 f3 f4 f5⟩
  self := fun _ _ _ _ _ st h => wpAny_pyIter_rangeiter st h
end L2
namespace L2
open PySem PySem.Spec PyProof.Rows
section
variable {X : Cx} {tg : Expr}
def iList (K : PySem.W.Frag) (tl : TE) : TI := fun σ H R => tl σ H fun x H1 => ∃ a, x = .ref a ∧ (∃ xs, SqL K H1 a xs) ∧ R (Itl K a) H1
def iTup (K : PySem.W.Frag) (tl : TE) : TI := fun σ H R => tl σ H fun x H1 => ∃ a, x = .ref a ∧ (∃ xs, SqT K H1 a xs) ∧ R (Itt K a) H1
theorem pi_list {l : Expr} {tl : TE} (hl : PE X l tl) : PI X tg l (iList X.K tl) := by
  intro pins s σ H R I h
  refine thn (hl pins s σ H _ I h) fun v s1 ⟨x, H1, I1, r1, q1⟩ => ?_
  obtain ⟨a, e, ⟨xs, hq⟩, q⟩ := q1
  subst e
  cases r1
  obtain ⟨its, rv, p, hz⟩ := I1.list hq
  refine wpAny_pyIter_list p.isList ?_
  refine ⟨s1.heap.objs.size, [s1.heap.objs.size], _, _, H1, rfl, I1.kept (t' := s1.toks) fun b o e => Heap.get?_push_of_some _ e, turn_list a _, ⟨_, Heap.get?_push_size _ rfl, rfl, rfl⟩, fun b hb => ?_, q⟩
  have e : b = s1.heap.objs.size := by simpa using hb
  subst e
  exact I1.fpOk (Nat.le_refl _) (I1.hok.fresh (Nat.le_refl _))
theorem pi_tup {l : Expr} {tl : TE} (hl : PE X l tl) : PI X tg l (iTup X.K tl) := by
  intro pins s σ H R I h
  refine thn (hl pins s σ H _ I h) fun v s1 ⟨x, H1, I1, r1, q1⟩ => ?_
  obtain ⟨a, e, ⟨xs, hq⟩, q⟩ := q1
  subst e
  cases r1
  obtain ⟨its, rv, p, hz⟩ := I1.tuple hq
  refine wpAny_pyIter_tuple (show s1.heap.IsTuple a its.toArray from p) ?_
  refine ⟨s1.heap.objs.size, [s1.heap.objs.size], _, _, H1, rfl, I1.kept (t' := s1.toks) fun b o e => Heap.get?_push_of_some _ e, turn_tuple a _, ⟨_, Heap.get?_push_size _ rfl, rfl, rfl⟩, fun b hb => ?_, q⟩
  have e : b = s1.heap.objs.size := by simpa using hb
  subst e
  exact I1.fpOk (Nat.le_refl _) (I1.hok.fresh (Nat.le_refl _))
theorem range_it {pins : List (Addr × Obj)} {σ : St} {H : Hp} {s : Shared} {R : It → Hp → Prop} {E : Value → Shared → Prop} {lo hi : Int} {t u v : Tok} {tk : Nat} (I : Inv X pins σ H s) (h1 : -(2 ^ 62) ≤ lo) (h2 : lo < 2 ^ 62) (h3 : -(2 ^ 62) ≤ hi) (h4 : hi < 2 ^ 62)
    (q : R (Itr lo (hi - lo).toNat) H) : wpAny (model X.prog X.w) X.A (pyIter (.ref s.heap.objs.size)) (PIE X pins σ tg R) E { s with heap := s.heap.push { cls := .type "range", data := .fields #[.int lo t, .int hi u, .int 1 v] }, toks := tk } := by
  refine wpAny_pyIter_range (IsRange.new ..) (small_one h1 h2 h3 h4) ?_
  have I1 : Inv X pins σ H { s with heap := s.heap.push { cls := .type "range", data := .fields #[.int lo t, .int hi u, .int 1 v] }, toks := tk } := I.kept fun b o e => Heap.get?_push_of_some _ e
  refine ⟨(s.heap.push { cls := .type "range", data := .fields #[.int lo t, .int hi u, .int 1 v] }).objs.size, [(s.heap.push { cls := .type "range", data := .fields #[.int lo t, .int hi u, .int 1 v] }).objs.size], _, _, H, rfl,
    I1.kept (t' := tk) fun b o e => Heap.get?_push_of_some _ e, turn_range _ lo (hi - lo).toNat, ?_, fun b hb => ?_, q⟩
  · have e1 : lo + ((0 : Nat) : Int) * 1 = lo := by simp
    have e2 : (((hi - lo).toNat : Nat) : Int) - ((0 : Nat) : Int) = Builtin.Range.rangeSize lo hi 1 := by rw [rangeSize_one]; split <;> omega
    show IsRangeIter _ _ (lo + ((0 : Nat) : Int) * 1) ((((hi - lo).toNat : Nat) : Int) - ((0 : Nat) : Int)) 1
    rw [e1, e2]
    exact Heap.get?_push_size _ rfl
  · have e : b = (s.heap.push { cls := .type "range", data := .fields #[.int lo t, .int hi u, .int 1 v] }).objs.size := by simpa using hb
    subst e
    exact I1.fpOk (Nat.le_refl _) (I1.hok.fresh (Nat.le_refl _))
def iRng1 (ta : TA) : TI := fun σ H R => ta σ H fun vs H1 => ∃ j : Int, vs = [.int j] ∧ -(2 ^ 62) ≤ j ∧ j < 2 ^ 62 ∧ R (Itr 0 j.toNat) H1
theorem pi_range1 {a : Expr} {ta : TA} {p pos : Pos} (hg : Gl X "range") (hm : X.mg "range" = none) (ha : PA X [a] ta) (hs : starEach [a] X.env = [(false, eval a X.env)] := by rfl) : PI X tg (.Call (.Name "range" p) [a] [] pos) (iRng1 ta) := by
  intro pins s σ H R I h
  refine Call_ (ld_blt I hg hm boot_range (PyProof.Rows.callWith_type1 (thn (ha pos pins s σ H _ I h) fun us s1 ⟨vs, H1, I1, r1, q1⟩ => ?_) hs rfl))
  obtain ⟨j, e, q1, q2, q⟩ := q1
  subst e
  cases r1 with
  | cons r rr =>
    cases rr
    obtain ⟨t, rfl⟩ := r
    exact call_range_1 (range_it I1 (by omega) (by omega) q1 q2 (by simpa using q))
def tFor (wi : TI) (g : TG) (tb : TS) : TS := fun D σ H => wi σ H fun J H1 => ∃ W : Nat → Nat → St → Hp → Prop, (∃ m, W 0 m σ H1) ∧ ∀ i m σ H, W i m σ H →
  (J.stop i H ∧ D.nx σ H) ∨ (J.go i H ∧ ∃ N : St → Hp → Prop, (∀ σ' H', N σ' H' → ∃ m', m' < m ∧ W (i + 1) m' σ' H') ∧ ∀ x H', J.yld i H x H' → g x σ H' fun σ2 H2 => tb { D with nx := N, ct := N, bk := D.nx } σ2 H2)
def pinsAt (fp : List Addr) (h : Heap) : List (Addr × Obj) := fp.filterMap fun b => (h.get? b).map fun o => (b, o)
theorem mem_pinsAt {fp : List Addr} {h : Heap} {b : Addr} {o : Obj} (hb : b ∈ fp) (e : h.get? b = some o) : (b, o) ∈ pinsAt fp h := List.mem_filterMap.mpr ⟨b, hb, by rw [e]; rfl⟩
theorem of_pinsAt {fp : List Addr} {h : Heap} {p : Addr × Obj} (hp : p ∈ pinsAt fp h) : p.1 ∈ fp ∧ h.get? p.1 = some p.2 := by
  obtain ⟨b, hb, e⟩ := List.mem_filterMap.mp hp
  cases q : h.get? b with
  | none => rw [q] at e; cases e
  | some o =>
    rw [q] at e
    have e' : (b, o) = p := Option.some.inj e
    subst e'
    exact ⟨hb, q⟩
theorem Inv.pinned {pins : List (Addr × Obj)} {σ : St} {H : Hp} {s : Shared} {fp : List Addr} (I : Inv X pins σ H s) (hf : ∀ b ∈ fp, FpOk X pins H b) (ho : ∀ b ∈ fp, ∃ o, s.heap.get? b = some o ∧ ∀ v, o.data ≠ .cell v) : Inv X (pins ++ pinsAt fp s.heap) σ H s :=
  I.pins_of fun p hp => (List.mem_append.mp hp).elim (fun z => I.pin p (List.mem_append_right _ z)) fun z => by
    obtain ⟨hb, e⟩ := of_pinsAt z
    obtain ⟨f0, f1, f2, _⟩ := hf p.1 hb
    obtain ⟨o, e', d⟩ := ho p.1 hb
    rw [e] at e'; cases e'
    exact ⟨e, f0, f1, f2, d⟩
theorem Inv.unpinned {pins pl : List (Addr × Obj)} {σ : St} {H : Hp} {s : Shared} (I : Inv X (pins ++ pl) σ H s) : Inv X pins σ H s := I.pins_of fun p hp => I.pin p (List.mem_append_right _ (List.mem_append_left _ hp))
theorem ps_for {iter : Expr} {body : List Stmt} {wi : TI} {g : TG} {tb : TS} {pos : Pos} (hp : PassesOwn (model X.prog X.w) X.A X.env X.xe) (hc : X.calm = true) (hi : PI X tg iter wi) (hg : PG X tg g) (hb : PSs X body tb)
    (hs : ∀ x, foldedSetIterable iter X.env x = pure x := by intro _; rfl) : PS X (.For tg iter body [] pos) (tFor wi g tb) := by
  intro pins s σ H D I h
  refine wpAny_For (thn (hi pins s σ H _ I h) fun v s1 h1 => thn h1 fun itv s2 h2 => ?_) hs
  obtain ⟨it, fp, tn, J, H2, e, I2, T, st2, f2, W, ⟨m0, w0⟩, turn⟩ := h2
  subst e
  have stat : ∀ {H' : Hp}, (∀ b ∈ fp, H' b = none) → ∀ b ∈ fp, FpOk X pins H' b := fun hn b hb => ⟨hn b hb, (f2 b hb).2⟩
  refine codeAny_forLoop_any (fun n s' => ∃ i σ' H', Inv X pins σ' H' s' ∧ tn i s'.heap ∧ (∀ b ∈ fp, H' b = none) ∧ W i n σ' H') ?_ m0 ⟨0, σ, H2, I2, st2, fun b hb => (f2 b hb).1, w0⟩
  rintro n s3 ⟨i, σ3, H3, I3, st3, fr3, w3⟩
  rcases turn i n σ3 H3 w3 with ⟨stop, qn⟩ | ⟨go, N, hN, step⟩
  · refine wpAny_passesOwn hp (thn (T.done X rfl rfl rfl hc i pins s3 σ3 H3 X.xe I3 (stat fr3) st3 stop) fun r s4 ⟨hr, I4⟩ => ?_)
    subst hr
    exact wpAny_execs_nil ⟨σ3, H3, I4, qn⟩
  · refine wpAny_passesOwn hp (thn (T.item X rfl rfl rfl hc i pins s3 σ3 H3 X.xe I3 (stat fr3) st3 go) fun r s4 ⟨u, hr, h4⟩ => ?_)
    subst hr
    refine wpAny_passesOwn hp (thn h4 fun _ s5 ⟨x, H5, I5, r5, y5, st5, fr5⟩ => ?_)
    have I5' := I5.pinned (stat fr5) (T.obj _ _ st5)
    refine wpAny_passesOwn hp (thn (hg _ s5 σ3 H5 x u _ I5' r5 (step x H5 y5)) fun _ s6 ⟨σ6, H6, I6, q6⟩ => ?_)
    refine wpAny_passesOwn hp (thn (hb _ s6 σ6 H6 _ I6 q6) fun f s7 q7 => ?_)
    have again : ∀ {σ7 : St} {H7 : Hp}, Inv X (pins ++ pinsAt fp s5.heap) σ7 H7 s7 → N σ7 H7 → ∃ m, m < n ∧ ∃ i σ' H', Inv X pins σ' H' s7 ∧ tn i s7.heap ∧ (∀ b ∈ fp, H' b = none) ∧ W i m σ' H' := fun {σ7 H7} I7 n7 => by
      obtain ⟨m', hm, w7⟩ := hN σ7 H7 n7
      refine ⟨m', hm, i + 1, σ7, H7, I7.unpinned, T.keep _ _ _ st5 fun b hb o e => (I7.pin (b, o) (List.mem_append_right _ (List.mem_append_right _ (mem_pinsAt hb e)))).1, fun b hb => ?_, w7⟩
      obtain ⟨o, e, d⟩ := T.obj _ _ st5 b hb
      exact (I7.pin (b, o) (List.mem_append_right _ (List.mem_append_right _ (mem_pinsAt hb e)))).2.1
    cases f with
    | next => obtain ⟨σ7, H7, I7, n7⟩ := q7; exact again I7 n7
    | cont => obtain ⟨σ7, H7, I7, n7⟩ := q7; exact again I7 n7
    | brk => obtain ⟨σ7, H7, I7, q7⟩ := q7; exact ⟨σ7, H7, I7.unpinned, q7⟩
    | ret v => obtain ⟨x7, σ7, H7, I7, r7, q7⟩ := q7; exact ⟨x7, σ7, H7, I7.unpinned, r7, q7⟩
end
theorem for_list {K : PySem.W.Frag} {a : Addr} {xs : List V} {g : TG} {tb : TS} {D : Ends} {σ : St} {H : Hp} (Pv : Nat → St → Hp → Prop) (h0 : Pv 0 σ H) (hl : ∀ i σ H, i ≤ xs.length → Pv i σ H → SqL K H a xs)
    (hs : ∀ i x σ H, xs[i]? = some x → Pv i σ H → g x σ H fun σ2 H2 => tb { D with nx := Pv (i + 1), ct := Pv (i + 1), bk := D.nx } σ2 H2) (hd : ∀ σ H, Pv xs.length σ H → D.nx σ H) :
    ∃ W : Nat → Nat → St → Hp → Prop, (∃ m, W 0 m σ H) ∧ ∀ i m σ H, W i m σ H →
      ((Itl K a).stop i H ∧ D.nx σ H) ∨ ((Itl K a).go i H ∧ ∃ N : St → Hp → Prop, (∀ σ' H', N σ' H' → ∃ m', m' < m ∧ W (i + 1) m' σ' H') ∧ ∀ x H', (Itl K a).yld i H x H' → g x σ H' fun σ2 H2 => tb { D with nx := N, ct := N, bk := D.nx } σ2 H2) := by
  refine ⟨fun i m σ H => m = xs.length - i ∧ i ≤ xs.length ∧ Pv i σ H, ⟨xs.length, by simp, Nat.zero_le _, h0⟩, ?_⟩
  rintro i m σ H ⟨rfl, hi, p⟩
  have q := hl i σ H hi p
  by_cases hlt : i < xs.length
  · refine .inr ⟨⟨xs, xs[i], q, by simp [hlt]⟩, Pv (i + 1), fun σ' H' p' => ⟨xs.length - (i + 1), by omega, rfl, hlt, p'⟩, fun x H' y => ?_⟩
    obtain ⟨e, y⟩ := y
    subst e
    exact hs i x σ _ (y xs q) p
  · have e : i = xs.length := by omega
    subst e
    exact .inl ⟨⟨xs, q, Nat.le_refl _⟩, hd σ H p⟩
theorem for_range {lo : Int} {n : Nat} {g : TG} {tb : TS} {D : Ends} {σ : St} {H : Hp} (Pv : Nat → St → Hp → Prop) (h0 : Pv 0 σ H)
    (hs : ∀ i σ H, i < n → Pv i σ H → g (.int (lo + i)) σ H fun σ2 H2 => tb { D with nx := Pv (i + 1), ct := Pv (i + 1), bk := D.nx } σ2 H2) (hd : ∀ σ H, Pv n σ H → D.nx σ H) :
    ∃ W : Nat → Nat → St → Hp → Prop, (∃ m, W 0 m σ H) ∧ ∀ i m σ H, W i m σ H →
      ((Itr lo n).stop i H ∧ D.nx σ H) ∨ ((Itr lo n).go i H ∧ ∃ N : St → Hp → Prop, (∀ σ' H', N σ' H' → ∃ m', m' < m ∧ W (i + 1) m' σ' H') ∧ ∀ x H', (Itr lo n).yld i H x H' → g x σ H' fun σ2 H2 => tb { D with nx := N, ct := N, bk := D.nx } σ2 H2) := by
  refine ⟨fun i m σ H => m = n - i ∧ i ≤ n ∧ Pv i σ H, ⟨n, by simp, Nat.zero_le _, h0⟩, ?_⟩
  rintro i m σ H ⟨rfl, hi, p⟩
  by_cases hlt : i < n
  · refine .inr ⟨hlt, Pv (i + 1), fun σ' H' p' => ⟨n - (i + 1), by omega, rfl, hlt, p'⟩, fun x H' y => ?_⟩
    obtain ⟨e, y⟩ := y
    subst e y
    exact hs i σ _ hlt p
  · have e : i = n := by omega
    subst e
    exact .inl ⟨Nat.le_refl _, hd σ H p⟩
end L2
namespace L2
open PySem PySem.Spec PyProof.Rows
abbrev R2 := V → V → Hp → VK → Prop
def OpR (X : Cx) (f : Value → Value → Sem Value) (r : R2) : Prop :=
  ∀ (pins : List (Addr × Obj)) (s : Shared) (σ : St) (H : Hp) (x y : V) (v u : Value) (Q : VK), Inv X pins σ H s → RelV x v → RelV y u → r x y H Q →
    wpAny (model X.prog X.w) X.A (f v u) (EP X pins σ Q) X.xe s
def UnR (X : Cx) (f : Value → Sem Value) (r : V → Hp → VK → Prop) : Prop :=
  ∀ (pins : List (Addr × Obj)) (s : Shared) (σ : St) (H : Hp) (x : V) (v : Value) (Q : VK), Inv X pins σ H s → RelV x v → r x H Q →
    wpAny (model X.prog X.w) X.A (f v) (EP X pins σ Q) X.xe s
def CallR (X : Cx) (f : Value) (r : List V → Hp → VK → Prop) : Prop :=
  ∀ (pins : List (Addr × Obj)) (s : Shared) (σ : St) (H : Hp) (xs : List V) (us : List Value) (Q : VK), Inv X pins σ H s → Vals xs us → r xs H Q →
    wpAny (model X.prog X.w) X.A (call f us) (EP X pins σ Q) X.xe s
def tOp (r : R2) (ta tb : TE) : TE := fun σ H Q => ta σ H fun x H1 => tb σ H1 fun y H2 => r x y H2 Q
def tUn (r : V → Hp → VK → Prop) (ta : TE) : TE := fun σ H Q => ta σ H fun x H1 => r x H1 Q
def rI (C : Int → Int → Prop) (g : Int → Int → V) : R2 := fun x y H Q => ∃ i j, x = .int i ∧ y = .int j ∧ C i j ∧ Q (g i j) H
def rI0 (g : Int → Int → V) : R2 := fun x y H Q => ∃ i j, x = .int i ∧ y = .int j ∧ Q (g i j) H
def rU (g : Int → V) : V → Hp → VK → Prop := fun x H Q => ∃ i, x = .int i ∧ Q (g i) H
section
variable {X : Cx} {a b c : Expr} {ta tb tc : TE} {pos : Pos}
theorem binT (ha : PE X a ta) (hb : PE X b tb) {pins : List (Addr × Obj)} {s : Shared} {σ : St} {H : Hp} {R : V → V → Hp → Prop} (I : Inv X pins σ H s)
    (h : ta σ H fun x H1 => tb σ H1 fun y H2 => R x y H2) {Q : Value → Shared → Prop} {f : Value → Value → Sem Value}
    (hf : ∀ v u s2 x y H2, Inv X pins σ H2 s2 → RelV x v → RelV y u → R x y H2 → wpAny (model X.prog X.w) X.A (f v u) Q X.xe s2) :
    wpAny (model X.prog X.w) X.A (eval a X.env) (fun v s₁ => wpAny (model X.prog X.w) X.A (eval b X.env) (fun u s₂ => wpAny (model X.prog X.w) X.A (f v u) Q X.xe s₂) X.xe s₁) X.xe s := by
  refine thn (ha pins s σ H _ I h) fun v s1 ⟨x, H1, I1, r1, q1⟩ => ?_
  refine thn (hb pins s1 σ H1 _ I1 q1) fun u s2 ⟨y, H2, I2, r2, q2⟩ => ?_
  exact hf v u s2 x y H2 I2 r1 r2 q2
theorem pe_op {op : Operator} {r : R2} (ho : OpR X (binaryOp op) r) (ha : PE X a ta) (hb : PE X b tb) : PE X (.BinOp a op b pos) (tOp r ta tb) := by
  intro pins s σ H Q I h
  exact wpAny_BinOp (binT ha hb I h fun v u s2 x y H2 I2 rx ry q => ho pins s2 σ H2 x y v u Q I2 rx ry q)
theorem pe_un {op : UnaryOp} {r : V → Hp → VK → Prop} (ho : UnR X (unaryOp op) r) (ha : PE X a ta) : PE X (.UnaryOp op a pos) (tUn r ta) := by
  intro pins s σ H Q I h
  exact UnaryOp_ (thn (ha pins s σ H _ I h) fun v s1 ⟨x, H1, I1, r1, q1⟩ => ho pins s1 σ H1 x v Q I1 r1 q1)
theorem opI {f : Value → Value → Sem Value} {C : Int → Int → Prop} {g : Int → Int → Int}
    (rule : ∀ (i j : Int) (t u : Tok) (s : Shared) (Q : Value → Shared → Prop) (E : Value → Shared → Prop), C i j → Q (.int (g i j) s.toks) { s with toks := s.toks + 1 } → wpAny (model X.prog X.w) X.A (f (.int i t) (.int j u)) Q E s) :
    OpR X f (rI C fun i j => .int (g i j)) := by
  intro pins s σ H x y v u Q I rx ry h
  obtain ⟨i, j, rfl, rfl, hc, q⟩ := h
  obtain ⟨t, rfl⟩ := rx
  obtain ⟨t', rfl⟩ := ry
  exact rule i j t t' s _ _ hc ⟨.int (g i j), H, I.tok _, ⟨_, rfl⟩, q⟩
theorem opI0 {f : Value → Value → Sem Value} {g : Int → Int → Int}
    (rule : ∀ (i j : Int) (t u : Tok) (s : Shared) (Q : Value → Shared → Prop) (E : Value → Shared → Prop), Q (.int (g i j) s.toks) { s with toks := s.toks + 1 } → wpAny (model X.prog X.w) X.A (f (.int i t) (.int j u)) Q E s) :
    OpR X f (rI0 fun i j => .int (g i j)) := by
  intro pins s σ H x y v u Q I rx ry h
  obtain ⟨i, j, rfl, rfl, q⟩ := h
  obtain ⟨t, rfl⟩ := rx
  obtain ⟨t', rfl⟩ := ry
  exact rule i j t t' s _ _ ⟨.int (g i j), H, I.tok _, ⟨_, rfl⟩, q⟩
theorem opB0 {f : Value → Value → Sem Value} {g : Int → Int → Bool}
    (rule : ∀ (i j : Int) (t u : Tok) (s : Shared) (Q : Value → Shared → Prop) (E : Value → Shared → Prop), Q (.bool (g i j)) s → wpAny (model X.prog X.w) X.A (f (.int i t) (.int j u)) Q E s) :
    OpR X f (rI0 fun i j => .bl (g i j)) := by
  intro pins s σ H x y v u Q I rx ry h
  obtain ⟨i, j, rfl, rfl, q⟩ := h
  obtain ⟨t, rfl⟩ := rx
  obtain ⟨t', rfl⟩ := ry
  exact rule i j t t' s _ _ ⟨.bl (g i j), H, I, rfl, q⟩
def CDiv (i j : Int) : Prop := 0 < j ∧ j < 1073741824
def CPow (i j : Int) : Prop := 0 ≤ j ∧ j ≤ 1000000 ∧ i.natAbs < 2 ^ 64
def CMul (i j : Int) : Prop := (-(2 ^ 64) < i ∧ i < 2 ^ 64) ∨ (-(2 ^ 64) < j ∧ j < 2 ^ 64)
theorem CMul.ok {i j : Int} (h : CMul i j) : IntMulOk i j := by
  rcases h with ⟨h1, h2⟩ | ⟨h1, h2⟩
  · exact .of_left (intBits_le_64 h1 h2)
  · exact .of_right (intBits_le_64 h1 h2)
theorem op_add : OpR X (binaryOp .Add) (rI0 fun i j => .int (i + j)) := opI0 fun _ _ _ _ _ _ _ q => add_int q
theorem op_sub : OpR X (binaryOp .Sub) (rI0 fun i j => .int (i - j)) := opI0 fun _ _ _ _ _ _ _ q => sub_int q
theorem op_mul : OpR X (binaryOp .Mult) (rI CMul fun i j => .int (i * j)) := opI fun _ _ _ _ _ _ _ hc q => mul_int q hc.ok
theorem op_fdiv : OpR X (binaryOp .FloorDiv) (rI CDiv fun i j => .int (i / j)) := opI fun i j _ _ _ _ _ hc q => by
  have h1 : (0 : Int) < j := hc.1
  have h2 : j < 1073741824 := hc.2
  exact floordiv_int (by omega) (by rw [Int.fdiv_eq_ediv_of_nonneg i (by omega)]; exact q) (.inl (PyProof.noPylong_small (by omega)))
theorem op_mod : OpR X (binaryOp .Mod) (rI (fun _ j => 0 < j) fun i j => .int (i % j)) := opI fun i j _ _ _ _ _ hc q => by
  have h1 : (0 : Int) < j := hc
  exact mod_int' (by omega) (by rw [Int.fmod_eq_emod_of_nonneg i (by omega)]; exact q)
theorem op_pow : OpR X (binaryOp .Pow) (rI CPow fun i j => .int (i ^ j.toNat)) := opI fun _ _ _ _ _ _ _ hc q => pow_int_small hc.1 hc.2.1 hc.2.2 q
theorem unI {f : Value → Sem Value} {g : Int → Int}
    (rule : ∀ (i : Int) (t : Tok) (s : Shared) (Q : Value → Shared → Prop) (E : Value → Shared → Prop), Q (.int (g i) s.toks) { s with toks := s.toks + 1 } → wpAny (model X.prog X.w) X.A (f (.int i t)) Q E s) :
    UnR X f (rU fun i => .int (g i)) := by
  intro pins s σ H x v Q I rx h
  obtain ⟨i, rfl, q⟩ := h
  obtain ⟨t, rfl⟩ := rx
  exact rule i t s _ _ ⟨.int (g i), H, I.tok _, ⟨_, rfl⟩, q⟩
theorem un_neg : UnR X (unaryOp .USub) (rU fun i => .int (-i)) := unI fun _ _ _ _ _ q => neg_int q
end
def scal : V → V → Bool
  | .non, .non => true | .non, .int _ => true | .int _, .non => true | .non, .bl _ => true | .bl _, .non => true | .non, .str _ => true | .str _, .non => true
  | .int _, .int _ => true | .bl _, .bl _ => true | .str _, .str _ => true | .byt _, .byt _ => true
  | .int _, .str _ => true | .str _, .int _ => true | .bl _, .str _ => true | .str _, .bl _ => true
  | _, _ => false
def rEq : R2 := fun x y H Q => scal x y = true ∧ Q (.bl (decide (x = y))) H
def rNe : R2 := fun x y H Q => scal x y = true ∧ Q (.bl (!decide (x = y))) H
theorem dec_int {i j : Int} : decide (V.int i = V.int j) = (i == j) := by
  rw [Bool.eq_iff_iff]
  simp
theorem dec_bl {i j : Bool} : decide (V.bl i = V.bl j) = (i == j) := by
  rw [Bool.eq_iff_iff]
  simp
theorem dec_str {i j : Str} : decide (V.str i = V.str j) = (i == j) := by
  rw [Bool.eq_iff_iff]
  simp
theorem dec_byt {i j : Array UInt8} : decide (V.byt i = V.byt j) = (i.toList == j.toList) := by
  rw [Bool.eq_iff_iff]
  cases i
  cases j
  simp
section
variable {X : Cx} {a b c : Expr} {ta tb tc : TE} {pos : Pos}
theorem fin_bl {pins : List (Addr × Obj)} {σ : St} {H : Hp} {s : Shared} {Q : VK} {k k' : Bool} (I : Inv X pins σ H s) (q : Q (.bl k) H) (e : k = k') : EP X pins σ Q (.bool k') s := by
  subst e
  exact ⟨.bl k, H, I, rfl, q⟩
theorem op_eq : OpR X (compareOp .Eq) rEq := by
  intro pins s σ H x y v u Q I rx ry h
  obtain ⟨hs, q⟩ := h
  cases x with
  | non =>
    cases rx
    cases y with
    | non => cases ry; exact PySem.EqNone.eq_none_none (fin_bl I q (by simp))
    | bl j => cases ry; exact PySem.EqNone.eq_none_bool (fin_bl I q (by simp))
    | int j => obtain ⟨t', rfl⟩ := ry; exact PySem.EqNone.eq_none_int (fin_bl I q (by simp))
    | str j => obtain ⟨t', rfl⟩ := ry; exact PySem.EqNone.eq_none_str (fin_bl I q (by simp))
    | _ => exact absurd (show false = true from hs) Bool.false_ne_true
  | bl i =>
    cases rx
    cases y with
    | non => cases ry; exact PySem.EqNone.eq_bool_none (fin_bl I q (by simp))
    | bl j => cases ry; exact eq_bool (fin_bl I q dec_bl)
    | str j => obtain ⟨t', rfl⟩ := ry; exact PySem.EqMixed.eq_bool_str (fin_bl I q (by simp))
    | _ => exact absurd (show false = true from hs) Bool.false_ne_true
  | int i =>
    obtain ⟨t, rfl⟩ := rx
    cases y with
    | non => cases ry; exact PySem.EqNone.eq_int_none (fin_bl I q (by simp))
    | int j => obtain ⟨t', rfl⟩ := ry; exact eq_int (fin_bl I q dec_int)
    | str j => obtain ⟨t', rfl⟩ := ry; exact PySem.EqMixed.eq_int_str (fin_bl I q (by simp))
    | _ => exact absurd (show false = true from hs) Bool.false_ne_true
  | str i =>
    obtain ⟨t, rfl⟩ := rx
    cases y with
    | non => cases ry; exact PySem.EqNone.eq_str_none (fin_bl I q (by simp))
    | bl j => cases ry; exact PySem.EqMixed.eq_str_bool (fin_bl I q (by simp))
    | int j => obtain ⟨t', rfl⟩ := ry; exact PySem.EqMixed.eq_str_int (fin_bl I q (by simp))
    | str j => obtain ⟨t', rfl⟩ := ry; exact eq_str (fin_bl I q dec_str)
    | _ => exact absurd (show false = true from hs) Bool.false_ne_true
  | byt i =>
    obtain ⟨t, rfl⟩ := rx
    cases y with
    | byt j => obtain ⟨t', rfl⟩ := ry; exact PySem.W.eq_bytes (fin_bl I q dec_byt)
    | _ => exact absurd (show false = true from hs) Bool.false_ne_true
  | _ => cases y <;> exact absurd (show false = true from hs) Bool.false_ne_true
theorem op_ne : OpR X (compareOp .NotEq) rNe := by
  intro pins s σ H x y v u Q I rx ry h
  obtain ⟨hs, q⟩ := h
  cases x with
  | non =>
    cases rx
    cases y with
    | non => cases ry; exact PySem.EqNone.ne_none_none (fin_bl I q (by simp))
    | bl j => cases ry; exact PySem.EqNone.ne_none_bool (fin_bl I q (by simp))
    | int j => obtain ⟨t', rfl⟩ := ry; exact PySem.EqNone.ne_none_int (fin_bl I q (by simp))
    | str j => obtain ⟨t', rfl⟩ := ry; exact PySem.EqNone.ne_none_str (fin_bl I q (by simp))
    | _ => exact absurd (show false = true from hs) Bool.false_ne_true
  | bl i =>
    cases rx
    cases y with
    | non => cases ry; exact PySem.EqNone.ne_bool_none (fin_bl I q (by simp))
    | bl j => cases ry; exact ne_bool (fin_bl I q (congrArg not dec_bl))
    | str j => obtain ⟨t', rfl⟩ := ry; exact PySem.EqMixed.ne_bool_str (fin_bl I q (by simp))
    | _ => exact absurd (show false = true from hs) Bool.false_ne_true
  | int i =>
    obtain ⟨t, rfl⟩ := rx
    cases y with
    | non => cases ry; exact PySem.EqNone.ne_int_none (fin_bl I q (by simp))
    | int j => obtain ⟨t', rfl⟩ := ry; exact ne_int (fin_bl I q (congrArg not dec_int))
    | str j => obtain ⟨t', rfl⟩ := ry; exact PySem.EqMixed.ne_int_str (fin_bl I q (by simp))
    | _ => exact absurd (show false = true from hs) Bool.false_ne_true
  | str i =>
    obtain ⟨t, rfl⟩ := rx
    cases y with
    | non => cases ry; exact PySem.EqNone.ne_str_none (fin_bl I q (by simp))
    | bl j => cases ry; exact PySem.EqMixed.ne_str_bool (fin_bl I q (by simp))
    | int j => obtain ⟨t', rfl⟩ := ry; exact PySem.EqMixed.ne_str_int (fin_bl I q (by simp))
    | str j => obtain ⟨t', rfl⟩ := ry; exact ne_str (fin_bl I q (congrArg not dec_str))
    | _ => exact absurd (show false = true from hs) Bool.false_ne_true
  | byt i =>
    obtain ⟨t, rfl⟩ := rx
    cases y with
    | byt j => obtain ⟨t', rfl⟩ := ry; exact PySem.W.ne_bytes (fin_bl I q (congrArg not dec_byt))
    | _ => exact absurd (show false = true from hs) Bool.false_ne_true
  | _ => cases y <;> exact absurd (show false = true from hs) Bool.false_ne_true
theorem op_lt : OpR X (compareOp .Lt) (rI0 fun i j => .bl (decide (i < j))) := opB0 fun _ _ _ _ _ _ _ q => lt_int q
theorem op_gt : OpR X (compareOp .Gt) (rI0 fun i j => .bl (decide (j < i))) := opB0 fun _ _ _ _ _ _ _ q => gt_int q
theorem op_in_str : OpR X (compareOp .In) (fun x y H Q => ∃ i j, x = .str i ∧ y = .str j ∧ Q (.bl (!(Builtin.Str.occurrences j i 0 j.length 1).isEmpty)) H) := by
  intro pins s σ H x y v u Q I rx ry h
  obtain ⟨i, j, rfl, rfl, q⟩ := h
  obtain ⟨t, rfl⟩ := rx
  obtain ⟨t', rfl⟩ := ry
  exact in_str (fin_bl I q rfl)
theorem nomark (b : Expr) {op : CmpOp} (h : op ≠ .In := by decide) (h2 : op ≠ .NotIn := by decide) : behindInMarks op b = false := by
  have e1 : (op == CmpOp.In) = false := by cases op <;> first | rfl | exact absurd rfl h
  have e2 : (op == CmpOp.NotIn) = false := by cases op <;> first | rfl | exact absurd rfl h2
  cases b <;> simp [behindInMarks, e1, e2]
theorem pe_cmpR {op : CmpOp} {r : R2} (ho : OpR X (compareOp op) r) (ha : PE X a ta) (hb : PE X b tb) (hm : behindInMarks op b = false) : PE X (.Compare a [op] [b] pos) (tOp r ta tb) := by
  intro pins s σ H Q I h
  exact wpAny_Compare1 (binT ha hb I h fun v u s2 x y H2 I2 rx ry q => ho pins s2 σ H2 x y v u Q I2 rx ry q) hm
def tTest (t : TE) : TT := fun σ H Q => t σ H fun x H' => ∃ k, x = .bl k ∧ Q k H'
theorem pt_cmpR {op : CmpOp} {r : R2} (ho : OpR X (compareOp op) r) (ha : PE X a ta) (hb : PE X b tb) (hm : behindInMarks op b = false) : PT X (.Compare a [op] [b] pos) (tTest (tOp r ta tb)) := by
  intro pins s σ H Q I h
  refine wpAny_isTrue_Compare1 (thn (ha pins s σ H _ I h) fun v s1 ⟨x, H1, I1, r1, q1⟩ => thn (hb pins s1 σ H1 _ I1 q1) fun u s2 ⟨y, H2, I2, r2, q2⟩ =>
    thn (ho pins s2 σ H2 x y v u _ I2 r1 r2 q2) fun c s3 ⟨z, H3, I3, r3, k, e, q3⟩ => ?_) hm
  subst e
  cases r3
  exact wpAny_truthy_bool ⟨H3, I3, q3⟩
theorem line63 : (sizeLine : Nat) < 2 ^ 63 := by rw [sizeLine_eq]; decide
theorem op_add_str : OpR X (binaryOp .Add) (fun x y H Q => ∃ i j, x = .str i ∧ y = .str j ∧ i.length + j.length ≤ sizeLine ∧ Q (.str (i ++ j)) H) := by
  intro pins s σ H x y v u Q I rx ry h
  obtain ⟨i, j, rfl, rfl, hz, q⟩ := h
  obtain ⟨t, rfl⟩ := rx
  obtain ⟨t', rfl⟩ := ry
  exact add_str (fun t' tk => ⟨.str (i ++ j), H, I.tok _, ⟨_, rfl⟩, q⟩) hz
theorem vals1 {x : V} {us : List Value} (r : Vals [x] us) : ∃ u, us = [u] ∧ RelV x u := by
  cases r with
  | cons r1 r2 => cases r2; exact ⟨_, rfl, r1⟩
theorem vals2 {x y : V} {us : List Value} (r : Vals [x, y] us) : ∃ u w', us = [u, w'] ∧ RelV x u ∧ RelV y w' := by
  cases r with
  | cons r1 r2 =>
    cases r2 with
    | cons r3 r4 => cases r4; exact ⟨_, _, rfl, r1, r3⟩
theorem call_str_int : CallR X (.type "str") (fun xs H Q => ∃ i, xs = [.int i] ∧ i.natAbs.log2 < 1920 ∧ Q (.str (toString i)) H) := by
  intro pins s σ H xs us Q I r h
  obtain ⟨i, rfl, hz, q⟩ := h
  obtain ⟨u, rfl, t, rfl⟩ := vals1 r
  exact PySem.P.str_of_int hz ⟨.str _, H, I.tok _, ⟨_, rfl⟩, q⟩
end
end L2
namespace L2
open PySem PySem.Spec PyProof.Rows
structure ObjM (h : Heap) (x dx C : Addr) (mA : Str → Option Value) : Prop where
  obj : h.get? x = some (PySem.W.instObj C dx)
  ns : h.Ns1 dx mA
  ne : dx ≠ x
theorem lookIn_ns {h : Heap} {dx : Addr} {mA : Str → Option Value} (n : h.Ns1 dx mA) : ∃ od, h.get? dx = some od ∧ ∀ name, PySem.W.lookIn name od = some (mA name) := by
  obtain ⟨o, es, ep, ho, hd, hk, _, hm⟩ := n
  refine ⟨o, ho, fun name => ?_⟩
  have e := hm name
  unfold nsFind findBy at e
  rw [← Array.find?_toList] at e
  unfold PySem.W.lookIn
  rw [hd]
  dsimp only
  split
  · rename_i y q
    rw [q] at e
    exact congrArg some e
  · rename_i q
    rw [q] at e
    have a : es.toList.any (·.refKey) = false := by
      rw [List.any_eq_false]
      intro y hy
      obtain ⟨z, t, hkey⟩ := hk y (Array.mem_toList_iff.mp hy)
      simp [DictEntry.refKey, hkey]
    have a' : ¬ es.toList.any (·.refKey) = true := by rw [a]; exact Bool.false_ne_true
    rw [if_neg a']
    exact congrArg some e
theorem ObjM.look {h : Heap} {x dx C : Addr} {mA : Str → Option Value} (I : ObjM h x dx C mA) : ∃ od, PySem.W.InstAt h x (PySem.W.instObj C dx) C (some od) ∧ ∀ name, PySem.W.lookIn name od = some (mA name) :=
  let ⟨od, ho, hl⟩ := lookIn_ns I.ns
  ⟨od, ⟨I.obj, rfl, rfl, ho⟩, hl⟩
section
variable {prog : Program} {w : World} {A : Around} {E : Value → Shared → Prop} {s : Shared} {K : PySem.W.Frag} {x dx C f : Addr} {mA : Str → Option Value} {name : Str} {v : Value}
theorem get_map {expr : Bool} {Q : Value → Shared → Prop} (X : K.In s.heap) (I : ObjM s.heap x dx C mA) (hg : PySem.W.plainGet K C name = true) (hh : PySem.W.hasDictIn K C = true)
    (ha : PySem.W.findIn K (.ref C) name = some none) (hv : mA name = some v) (hv' : PySem.W.handedIn v = true) (h : Q v { s with toks := s.toks + 1 }) :
    wpAny (model prog w) A (getAttr (.ref x) name expr) Q E s := by
  obtain ⟨od, J, hl⟩ := I.look
  exact PySem.W.get_value X J (PySem.W.plainGet_of hg).1 (PySem.W.findObj_own hh ha rfl (by rw [hl, hv])) hv' h
theorem get_meth {pl : Sem Bool} {Q : Value × List Value → Shared → Prop} (X : K.In s.heap) (I : ObjM s.heap x dx C mA) (hg : PySem.W.plainGet K C name = true)
    (hf : PySem.W.findIn K (.ref C) name = some (some (.ref f))) (ht : PySem.W.isFn K (.ref f) = true) (hv : mA name = none) (h : Q (.ref f, [.ref x]) s) :
    wpAny (model prog w) A (getMethod (.ref x) name pl) Q E s := by
  obtain ⟨od, J, hl⟩ := I.look
  exact PySem.W.method_fn X J (PySem.W.plainGet_of hg).1 (PySem.W.plainGet_of hg).2 hf (beq_iff_eq.mp ht) (by show (PySem.W.lookIn name od).map (·.isSome) = some false; rw [hl, hv]; rfl) h
theorem set_map {ns : List Str} {Q : Unit → Shared → Prop} (X : K.In s.heap) (I : ObjM s.heap x dx C mA)
    (hs : PySem.W.findIn K (.ref C) "__setattr__" = some (some (.builtin "object.__setattr__"))) (hp : PySem.W.plainOver K C = true) (ht : PySem.W.takerIn K C name = some none) (hh : PySem.W.hasDictIn K C = true)
    (hw : PySem.Within mA ns) (hsz : ns.length ≤ sizeLine)
    (h : ∀ h', ObjM h' x dx C (fun y => if y = name then some v else mA y) → Heap.SameBut dx s.heap h' → Q () { s with heap := h', toks := s.toks + 2 }) :
    wpAny (model prog w) A (setAttr (.ref x) name v) Q E s := by
  obtain ⟨od, J, hl⟩ := I.look
  refine PySem.W.set_plain X J hs (PySem.W.osa_open (s := { s with toks := s.toks + 1 }) (r := none) X J hp ht fun b => ?_)
  obtain ⟨cd, hc, hd'⟩ := PySem.W.any_some hh
  have hx : s.heap.get? x = some ⟨.ref C, some dx, .plain, #[]⟩ := I.obj
  refine wpAny_bind (wpAny_pure (wpAny_bind (wpAny_bind (wpAny_loadPart hx (wpAny_bind (PySem.W.Looks.here (s := { s with toks := s.toks + 1 }) (PySem.W.looks_clsIn X hc) ?_))))))
  rw [hd']
  refine wpAny_pure (a := some dx) (wpAny_bind (wpAny_pure (wpAny_bind ?_)))
  refine wpAny_nsSet1 (s := { s with toks := s.toks + 1 }) I.ns fun h' hn2 hs2 => ?_
  obtain ⟨oD, esD, epD, hoD, hdD, hcD⟩ := hn2.count (PySem.Within.cons name v hw)
  refine wpAny_bind (wpAny_lookBehind hoD (by rw [hdD]; exact pastItsLine_dict (Nat.le_trans hcD (by rw [List.length_cons]; omega))) ?_)
  exact wpAny_pure (h _ ⟨(hs2.2 _ (Ne.symm I.ne)).trans I.obj, hn2, I.ne⟩ hs2)
theorem make_map {R : Result → Shared → Prop} {vs : List Value} {kw : List (Str × Value)} (X : K.In s.heap) (hm : PySem.W.makesIn K C = true)
    (hi : PySem.W.findIn K (.ref C) "__init__" = some (some (.ref f))) (hf : PySem.W.typeIn K (.ref f) = some (.type "function"))
    (h : codeAny (model prog w) (A.under (.builtin "type.__call__" ⟨.ref C :: vs, kw⟩)) (.call (.ref f) ⟨.ref (s.heap.objs.size + 1) :: vs, kw⟩) (PySem.W.InitBack (s.heap.objs.size + 1) R)
      { s with heap := (s.heap.push PySem.W.emptyDict).push (PySem.W.instObj C s.heap.objs.size) }) :
    codeAny (model prog w) A (.call (.ref C) ⟨vs, kw⟩) R s := by
  obtain ⟨hh, g, d, t, os⟩ := s
  exact PySem.W.make_core (PySem.W.makes_of X hm) (PySem.W.looks_findIn X hi) (fun self => PySem.W.bind_fn X self hf) (.inl rfl) h
end
def putF (f : Str) (v : V) : List (Str × V) → List (Str × V)
  | [] => [(f, v)]
  | (g, x) :: r => if g = f then (g, v) :: r else (g, x) :: putF f v r
theorem lookup_putF (f g : Str) (v : V) : ∀ fs : List (Str × V), (putF f v fs).lookup g = if g = f then some v else fs.lookup g
  | [] => by
    show List.lookup g [(f, v)] = _
    by_cases h : g = f
    · have hb : (g == f) = true := beq_iff_eq.mpr h
      simp only [List.lookup, hb, if_pos h]
    · have hb : (g == f) = false := beq_eq_false_iff_ne.mpr h
      simp only [List.lookup, hb, if_neg h]
  | (k, x) :: r => by
    have ih := lookup_putF f g v r
    rw [show putF f v ((k, x) :: r) = (if k = f then (k, v) :: r else (k, x) :: putF f v r) from rfl]
    by_cases hk : k = f
    · rw [if_pos hk]
      by_cases h : g = k
      · have hb : (g == k) = true := beq_iff_eq.mpr h
        simp only [List.lookup, hb, if_pos (h.trans hk)]
      · have hb : (g == k) = false := beq_eq_false_iff_ne.mpr h
        simp only [List.lookup, hb, if_neg (fun e : g = f => h (e.trans hk.symm))]
    · rw [if_neg hk]
      by_cases h : g = k
      · have hb : (g == k) = true := beq_iff_eq.mpr h
        simp only [List.lookup, hb, if_neg (fun e : g = f => hk (h.symm.trans e))]
      · have hb : (g == k) = false := beq_eq_false_iff_ne.mpr h
        simp only [List.lookup, hb]
        exact ih
theorem keys_putF (f : Str) (v : V) : ∀ fs : List (Str × V), f ∈ (putF f v fs).map (·.1) ∧ ∀ g, g ∈ fs.map (·.1) → g ∈ (putF f v fs).map (·.1)
  | [] => ⟨by simp [putF], fun g h => by simp at h⟩
  | (k, x) :: r => by
    obtain ⟨i1, i2⟩ := keys_putF f v r
    rw [show putF f v ((k, x) :: r) = (if k = f then (k, v) :: r else (k, x) :: putF f v r) from rfl]
    by_cases hk : k = f
    · rw [if_pos hk]
      subst hk
      exact ⟨by simp, fun g h => by simpa using h⟩
    · rw [if_neg hk]
      refine ⟨?_, fun g h => ?_⟩
      · rw [List.map_cons]
        exact List.mem_cons_of_mem _ i1
      · rw [List.map_cons] at h ⊢
        rcases List.mem_cons.mp h with e | e
        · exact List.mem_cons.mpr (.inl e)
        · exact List.mem_cons_of_mem _ (i2 g e)
theorem length_putF (f : Str) (v : V) : ∀ fs : List (Str × V), (putF f v fs).length ≤ fs.length + 1
  | [] => by simp [putF]
  | (k, x) :: r => by
    have ih := length_putF f v r
    rw [show putF f v ((k, x) :: r) = (if k = f then (k, v) :: r else (k, x) :: putF f v r) from rfl]
    by_cases hk : k = f
    · rw [if_pos hk, List.length_cons, List.length_cons]; omega
    · rw [if_neg hk, List.length_cons, List.length_cons]; omega
theorem RelO.some_of {v : V} {o : Option Value} (r : RelO (some v) o) : ∃ u, o = some u ∧ RelV v u := by
  cases o with
  | none => exact (show False from r).elim
  | some u => exact ⟨u, rfl, r⟩
theorem RelO.none_of {o : Option Value} (r : RelO none o) : o = none := by
  cases o with
  | none => rfl
  | some u => exact (show False from r).elim
theorem handed_of {v : V} {u : Value} (r : RelV v u) : PySem.W.handedIn u = true := by
  cases v with
  | non => cases (show u = Value.none from r); rfl
  | bl b => cases (show u = Value.bool b from r); rfl
  | int i => obtain ⟨t, e⟩ := (show ∃ t, u = Value.int i t from r); cases e; rfl
  | str x => obtain ⟨t, e⟩ := (show ∃ t, u = Value.str x t from r); cases e; rfl
  | byt b => obtain ⟨t, e⟩ := (show ∃ t, u = Value.bytes b t from r); cases e; rfl
  | flt b => obtain ⟨t, e⟩ := (show ∃ t, u = Value.float b t from r); cases e; rfl
  | ref a => cases (show u = Value.ref a from r); rfl
  | ty n => cases (show u = Value.type n from r); rfl
section
variable {P : Program} {w : World} {H H' : Hp} {h h' : Heap} {a C dx : Addr} {fs fs' : List (Str × V)}
theorem ins_get (hok : HOk P w H h) (e : H a = some (.ins C dx fs)) : ∃ mA, ObjM h a dx C mA ∧ (∀ f, RelO (fs.lookup f) (mA f)) ∧ PySem.Within mA (fs.map (·.1)) ∧ fs.length ≤ 1000 ∧ H dx = some (.own a) := by
  obtain ⟨d, z, ne, ob, mA, n, r, q⟩ := (show ObjOk P w H h a (.ins C dx fs) from hok a _ e)
  exact ⟨mA, ⟨ob, n, ne⟩, r, q, z, d⟩
end
structure Cls (K : PySem.W.Frag) (C : Addr) : Prop where
  pg : PySem.W.plainGet K C Str.empty = true
  hd : PySem.W.hasDictIn K C = true
  po : PySem.W.plainOver K C = true
  sa : PySem.W.findIn K (.ref C) "__setattr__" = some (some (.builtin "object.__setattr__"))
theorem Cls.get {K : PySem.W.Frag} {C : Addr} (c : Cls K C) (f : Str) : PySem.W.plainGet K C f = true := c.pg
def NoAttr (K : PySem.W.Frag) (C : Addr) (f : Str) : Prop := PySem.W.findIn K (.ref C) f = some none
theorem NoAttr.taker {K : PySem.W.Frag} {C : Addr} {f : Str} (n : NoAttr K C f) : PySem.W.takerIn K C f = some none := by
  unfold PySem.W.takerIn
  rw [show PySem.W.findIn K (.ref C) f = some none from n]
  rfl
structure Con (K : PySem.W.Frag) (C : Addr) (f : Str) (v : V) (u : Value) : Prop where
  at_ : PySem.W.findIn K (.ref C) f = some (some u)
  rel : RelV v u
  get : PySem.W.specialIn K u "__get__" = some none
  cp : PySem.W.copiedNames.contains f = false
structure Meth (K : PySem.W.Frag) (C : Addr) (m : Str) (f : Addr) : Prop where
  at_ : PySem.W.findIn K (.ref C) m = some (some (.ref f))
  fn : PySem.W.isFn K (.ref f) = true
  kp : PySem.W.keepIn K (.ref f) = true
section
variable {X : Cx} {pins : List (Addr × Obj)} {σ : St} {H : Hp} {s : Shared} {a C dx : Addr} {fs : List (Str × V)} {f : Str} {v : V} {A : Around} {E : Value → Shared → Prop}
theorem getattr_ok {b : Bool} {Q : Value → Shared → Prop} (I : Inv X pins σ H s) (e : H a = some (.ins C dx fs)) (c : Cls X.K C) (n : NoAttr X.K C f) (l : fs.lookup f = some v)
    (h : ∀ u s', Inv X pins σ H s' → RelV v u → Q u s') : wpAny (model X.prog X.w) A (getAttr (.ref a) f b) Q E s := by
  obtain ⟨mA, O, r, _, _, _⟩ := ins_get I.hok e
  obtain ⟨u, hu, ru⟩ := RelO.some_of (v := v) (o := mA f) (by rw [← l]; exact r f)
  exact get_map I.kIn O (c.get f) c.hd n hu (handed_of ru) (h u _ (I.tok _) ru)
theorem getmeth_ok {m : Str} {g : Addr} {pl : Sem Bool} {Q : Value × List Value → Shared → Prop} (I : Inv X pins σ H s) (e : H a = some (.ins C dx fs)) (c : Cls X.K C) (k : Meth X.K C m g) (l : fs.lookup m = none)
    (h : Q (.ref g, [.ref a]) s) : wpAny (model X.prog X.w) A (getMethod (.ref a) m pl) Q E s := by
  obtain ⟨mA, O, r, _, _, _⟩ := ins_get I.hok e
  have hn : mA m = none := RelO.none_of (by rw [← l]; exact r m)
  exact get_meth I.kIn O (c.get m) k.at_ k.fn hn h
theorem setattr_ok {y : V} {u : Value} {Q : Unit → Shared → Prop} (I : Inv X pins σ H s) (e : H a = some (.ins C dx fs)) (c : Cls X.K C) (n : NoAttr X.K C f) (hl : fs.length < 1000) (ry : RelV y u)
    (h : ∀ s', Inv X pins σ (upd H a (.ins C dx (putF f y fs))) s' → Q () s') : wpAny (model X.prog X.w) A (setAttr (.ref a) f u) Q E s := by
  obtain ⟨mA, O, r, wi, _, ho⟩ := ins_get I.hok e
  have hz : (fs.map (·.1)).length ≤ sizeLine := by rw [List.length_map, sizeLine_eq]; omega
  refine set_map I.kIn O c.sa c.po n.taker c.hd wi hz fun h' O' sb => h _ ?_
  have hd : ∃ o, h'.get? dx = some o := let ⟨o, _, _, e', _⟩ := O'.ns; ⟨o, e'⟩
  refine I.write (x := a) (e := dx) (by rw [e]; exact True.intro) (.inr ho) (fun b q hb z => (sb.2 b hb).trans z) hd ?_
  refine ⟨by rw [upd_ne O.ne]; exact ho, ?_, O.ne, O'.obj, _, O'.ns, fun g => ?_, fun g hg => ?_⟩
  · have := length_putF f y fs; omega
  · show RelO ((putF f y fs).lookup g) (if g = f then some u else mA g)
    rw [lookup_putF]
    by_cases q : g = f
    · rw [if_pos q, if_pos q]; exact ry
    · rw [if_neg q, if_neg q]; exact r g
  · by_cases q : g = f
    · rw [q]; exact (keys_putF f y fs).1
    · refine (keys_putF f y fs).2 g (wi g fun z => hg ?_)
      show (if g = f then some u else mA g) = none
      rw [if_neg q]; exact z
theorem Inv.made (I : Inv X pins σ H s) : Inv X pins σ (upd (upd H s.heap.objs.size (.own (s.heap.objs.size + 1))) (s.heap.objs.size + 1) (.ins C s.heap.objs.size []))
    { s with heap := (s.heap.push PySem.W.emptyDict).push (PySem.W.instObj C s.heap.objs.size) } := by
  have e1 : (s.heap.push PySem.W.emptyDict).get? s.heap.objs.size = some PySem.W.emptyDict := Heap.get?_push_size s.heap rfl
  have e2 : ((s.heap.push PySem.W.emptyDict).push (PySem.W.instObj C s.heap.objs.size)).get? (s.heap.objs.size + 1) = some (PySem.W.instObj C s.heap.objs.size) := by
    have := Heap.get?_push_size (s.heap.push PySem.W.emptyDict) (o := PySem.W.instObj C s.heap.objs.size) rfl
    rwa [Heap.size_push] at this
  have e3 : (s.heap.push PySem.W.emptyDict).Ns s.heap.objs.size (fun _ => none) := ⟨PySem.W.emptyDict, #[], _, e1, rfl, (fun e he => absurd he (by simp)), fun _ => rfl⟩
  have I1 := I.laid (a := s.heap.objs.size) (o := .own (s.heap.objs.size + 1)) (h' := s.heap.push PySem.W.emptyDict) (t' := s.toks) (fun b u q => Heap.get?_push_of_some _ q) (Nat.le_refl _) ⟨_, e1⟩
  refine I1.laid (a := s.heap.objs.size + 1) (o := .ins C s.heap.objs.size []) (t' := s.toks) (fun b u q => Heap.get?_push_of_some _ q) (Nat.le_of_eq (Heap.size_push _ _)) ?_
  have ne : s.heap.objs.size ≠ s.heap.objs.size + 1 := Nat.ne_of_lt (Nat.lt_succ_self _)
  refine ⟨by rw [upd_ne ne, upd_same], Nat.zero_le _, ne, e2, fun _ => none, (Heap.Ns1.of_empty e3).at fun o q => Heap.get?_push_of_some _ q, fun _ => True.intro, fun y hy => absurd rfl hy⟩
theorem attr_of {prog : Program} {w : World} {env : Env} {e : Expr} {f : Str} {pos : Pos} {s : Shared} {Q : Value → Shared → Prop} (hb : attributeBase e f env (eval e env) = eval e env)
    (h : wpAny (model prog w) A (eval e env) (fun o s₁ => wpAny (model prog w) A (getAttr o f true) Q E s₁) E s) : wpAny (model prog w) A (eval (.Attribute e f pos) env) Q E s :=
  Attribute_any_ h (by rw [arm_eval_Attribute, hb])
end
def tFld (K : PySem.W.Frag) (ta : TE) (f : Str) : TE := fun σ H Q => ta σ H fun x H1 => ∃ a C dx fs v, x = .ref a ∧ H1 a = some (.ins C dx fs) ∧ Cls K C ∧ NoAttr K C f ∧ fs.lookup f = some v ∧ Q v H1
def sFld (K : PySem.W.Frag) (ta tv : TE) (f : Str) : TS := fun D σ H => tv σ H fun y H1 => ta σ H1 fun x H2 => ∃ a C dx fs, x = .ref a ∧ H2 a = some (.ins C dx fs) ∧ Cls K C ∧ NoAttr K C f ∧ fs.length < 1000 ∧
  D.nx σ (upd H2 a (.ins C dx (putF f y fs)))
def InOp (X : Cx) (op : Operator) (rd : V → V → Hp → VK → Prop) : Prop :=
  ∀ (pins : List (Addr × Obj)) (s : Shared) (σ : St) (H : Hp) (x y : V) (u v : Value) (Q : VK), Inv X pins σ H s → RelV x u → RelV y v → rd x y H Q → wpAny (model X.prog X.w) X.A (inplaceOp op u v) (EP X pins σ Q) X.xe s
def sFldAug (K : PySem.W.Frag) (ta tv : TE) (rd : V → V → Hp → VK → Prop) (f : Str) : TS := fun D σ H => ta σ H fun x H1 => ∃ a C dx fs v, x = .ref a ∧ H1 a = some (.ins C dx fs) ∧ Cls K C ∧ NoAttr K C f ∧ fs.lookup f = some v ∧
  tv σ H1 fun y H2 => rd v y H2 fun z H3 => ∃ dx' fs', H3 a = some (.ins C dx' fs') ∧ fs'.length < 1000 ∧ D.nx σ (upd H3 a (.ins C dx' (putF f z fs')))
section
variable {X : Cx} {o e value : Expr} {f : Str} {pos pos' tpos : Pos} {ta tv : TE}
theorem pe_fld (he : PE X e ta) (hb : attributeBase e f X.env (eval e X.env) = eval e X.env) : PE X (.Attribute e f pos) (tFld X.K ta f) := by
  intro pins s σ H Q I h
  refine attr_of hb (thn (he pins s σ H _ I h) fun u s1 ⟨x, H1, I1, rx, a, C, dx, fs, v, ex, ea, c, n, l, q⟩ => ?_)
  subst ex
  obtain rfl : u = Value.ref a := rx
  exact getattr_ok I1 ea c n l fun u' s2 I2 ru => ⟨v, H1, I2, ru, q⟩
theorem ps_fld (ha : PE X o ta) (hv : PE X value tv) (hs : swapsWith value (some (.Attribute o f pos')) pos.line X.env = pure false) : PS X (.Assign [.Attribute o f pos'] value pos) (sFld X.K ta tv f) := by
  intro pins s σ H D I h
  refine plainObj_wpAny_Assign_Attribute (thn (hv pins s σ H _ I h) fun u s1 ⟨y, H1, I1, ry, q⟩ => thn (ha pins s1 σ H1 _ I1 q) fun ov s2 ⟨x, H2, I2, rx, a, C, dx, fs, ex, ea, c, n, l, q2⟩ => ?_) hs
  subst ex
  obtain rfl : ov = Value.ref a := rx
  exact setattr_ok I2 ea c n l ry fun s3 I3 => ⟨σ, _, I3, q2⟩
theorem ps_fldaug {op : Operator} {rd : V → V → Hp → VK → Prop} (ha : PE X o ta) (hv : PE X value tv) (hop : InOp X op rd) : PS X (.AugAssign (.Attribute o f tpos) op value pos) (sFldAug X.K ta tv rd f) := by
  intro pins s σ H D I h
  refine wpAny_AugAssign_AttributeAny (thn (ha pins s σ H _ I h) fun ov s1 ⟨x, H1, I1, rx, a, C, dx, fs, v, ex, ea, c, n, l, q⟩ => ?_)
  subst ex
  obtain rfl : ov = Value.ref a := rx
  refine getattr_ok I1 ea c n l fun u s2 I2 ru => thn (hv pins s2 σ H1 _ I2 q) fun w3 s3 ⟨y, H2, I3, ry, q3⟩ => thn (hop pins s3 σ H2 v y u w3 _ I3 ru ry q3) fun w4 s4 ⟨z, H3, I4, rz, dx', fs', ea', l', q4⟩ => ?_
  exact setattr_ok I4 ea' c n l' rz fun s5 I5 => ⟨σ, _, I5, q4⟩
def rAdd : V → V → Hp → VK → Prop := fun x y H Q => ∃ i j, x = .int i ∧ y = .int j ∧ Q (.int (i + j)) H
theorem in_add : InOp X .Add rAdd := by
  rintro pins s σ H x y u v Q I rx ry ⟨i, j, rfl, rfl, q⟩
  obtain ⟨t, rfl⟩ := (show ∃ t, u = Value.int i t from rx)
  obtain ⟨t', rfl⟩ := (show ∃ t', v = Value.int j t' from ry)
  exact PyProof.Rows.iadd_int ⟨.int (i + j), H, I.tok _, ⟨_, rfl⟩, q⟩
end
section
variable {X : Cx} {pins : List (Addr × Obj)} {σ : St} {H : Hp} {s : Shared} {A : Around} {E : Value → Shared → Prop} {Q : Value → Shared → Prop} {c : Value} {b : Bool}
inductive TyOf (K : PySem.W.Frag) (H : Hp) : V → Value → Prop where
  | non : TyOf K H .non (.type "NoneType")
  | bl (x : Bool) : TyOf K H (.bl x) (.type "bool")
  | int (i : Int) : TyOf K H (.int i) (.type "int")
  | str (x : Str) : TyOf K H (.str x) (.type "str")
  | flt (x : UInt64) : TyOf K H (.flt x) (.type "float")
  | lst {a : Addr} {xs : List V} (e : H a = some (.lst xs)) : TyOf K H (.ref a) (.type "list")
  | frz {a : Addr} {o : Obj} {xs : List V} (e : H a = some (.frz o (.lst xs))) : TyOf K H (.ref a) (.type "list")
  | tup {a : Addr} {xs : List V} (e : H a = some (.tup xs)) : TyOf K H (.ref a) (.type "tuple")
  | dK {a : Addr} {kvs : List (Key × V)} (e : H a = some (.dK kvs)) : TyOf K H (.ref a) (.type "dict")
  | dT {a : Addr} {kvs : List (List Key × V)} (e : H a = some (.dT kvs)) : TyOf K H (.ref a) (.type "dict")
  | ins {a C dx : Addr} {fs : List (Str × V)} (e : H a = some (.ins C dx fs)) (cl : Cls K C) (ha : PySem.W.findIn K (.ref C) "__class__" = some (some (.builtin "object.__class__")))
      (hn : PySem.W.specialIn K (.builtin "object.__class__") "__get__" = some (some (.builtin "getset_descriptor.__get__"))) (htk : PySem.W.takesIn K (.builtin "object.__class__") = some true)
      (hm : PySem.W.mroIn K C (.type "object") = some true) : TyOf K H (.ref a) (.ref C)
theorem isinst_ok {x : V} {u t : Value} (I : Inv X pins σ H s) (rx : RelV x u) (ty : TyOf X.K H x t) (e : PySem.W.kitOne X.K t c = some b) (h : ∀ tk, Q (.bool b) { s with toks := tk }) :
    wpAny (model X.prog X.w) A (call (.builtin "isinstance") [u, c]) Q E s := by
  cases ty with
  | non => cases (show u = Value.none from rx); exact PySem.W.kia_one PySem.W.kitx_none I.kIn True.intro e (fun z => nomatch z) h
  | bl y => cases (show u = Value.bool y from rx); exact PySem.W.kia_one PySem.W.kitx_bool I.kIn True.intro e (fun z => nomatch z) h
  | int i => obtain ⟨t, q⟩ := (show ∃ t, u = Value.int i t from rx); cases q; exact PySem.W.kia_one PySem.W.kitx_int I.kIn True.intro e (fun z => nomatch z) h
  | str y => obtain ⟨t, q⟩ := (show ∃ t, u = Value.str y t from rx); cases q; exact PySem.W.kia_one PySem.W.kitx_str I.kIn True.intro e (fun z => nomatch z) h
  | flt y => obtain ⟨t, q⟩ := (show ∃ t, u = Value.float y t from rx); cases q; exact PySem.W.kia_one PySem.W.kitx_float I.kIn True.intro e (fun z => nomatch z) h
  | @lst a xs ea =>
    cases (show u = Value.ref a from rx)
    obtain ⟨_, _, n, _, h1⟩ := (show ObjOk X.prog X.w H s.heap a (.lst xs) from I.hok a _ ea)
    exact PySem.W.kia_one PySem.W.kitx_list I.kIn ⟨_, h1, rfl⟩ e (fun z => nomatch z) h
  | @frz a ob xs ea =>
    cases (show u = Value.ref a from rx)
    obtain ⟨_, _, _, n, _, h1⟩ := (show ObjOk X.prog X.w H s.heap a (.frz ob (.lst xs)) from I.hok a _ ea)
    exact PySem.W.kia_one PySem.W.kitx_list I.kIn ⟨_, h1, rfl⟩ e (fun z => nomatch z) h
  | @tup a xs ea =>
    cases (show u = Value.ref a from rx)
    obtain ⟨_, _, _, p⟩ := (show ObjOk X.prog X.w H s.heap a (.tup xs) from I.hok a _ ea)
    obtain ⟨o, h1, h2, _⟩ := p
    exact PySem.W.kia_one PySem.W.kitx_tuple I.kIn ⟨o, h1, h2⟩ e (fun z => nomatch z) h
  | @dK a kvs ea =>
    cases (show u = Value.ref a from rx)
    obtain ⟨_, _, vs, _, p⟩ := (show ObjOk X.prog X.w H s.heap a (.dK kvs) from I.hok a _ ea)
    obtain ⟨o, es, ep, h1, h2, _⟩ := p
    exact PySem.W.kia_one PySem.W.kitx_dict I.kIn ⟨o, h1, h2.1⟩ e (fun z => nomatch z) h
  | @dT a kvs ea =>
    cases (show u = Value.ref a from rx)
    obtain ⟨_, _, xs, _, o, es, ep, h1, h2, _⟩ := (show ObjOk X.prog X.w H s.heap a (.dT kvs) from I.hok a _ ea)
    exact PySem.W.kia_one PySem.W.kitx_dict I.kIn ⟨o, h1, h2.1⟩ e (fun z => nomatch z) h
  | @ins a C dx fs ea cl ha hn htk hm =>
    cases (show u = Value.ref a from rx)
    obtain ⟨mA, O, _⟩ := ins_get I.hok ea
    obtain ⟨od, J, _⟩ := O.look
    exact PySem.W.kia_one (PySem.W.kitx_own (cl.get _) cl.hd ha hn htk hm) I.kIn J e (fun z => nomatch z) h
end
end L2
namespace L2
open PySem PySem.Spec PyProof.Rows
structure Room (k : Nat) (A : Around) : Prop where
  hd : A.handled = none
  dp : A.depth + 3 * k + 5 < recursionLimit
  un : A.units + 16 * k + 200 < cLine
theorem Room.mono {j k : Nat} {A : Around} (r : Room k A) (h : j ≤ k) : Room j A := ⟨r.hd, by have := r.dp; omega, by have := r.un; omega⟩
theorem Room.deeper {k : Nat} {A : Around} (r : Room (k + 1) A) (env : Env) : Room k (A.deeper env) :=
  ⟨r.hd, by have := r.dp; show A.depth + 1 + 3 * k + 5 < _; omega, by have := r.un; show A.units + 3 + 16 * k + 200 < _; omega⟩
theorem make_depth {A : Around} {C : Addr} {us : List Value} {kw : List (Str × Value)} : (A.under (.builtin "type.__call__" ⟨.ref C :: us, kw⟩)).depth = A.depth + 1 := by
  first | rfl | simp [Around.under, Code.weight, Code.isCreation, Code.isGuard, Code.isCaller, Code.frames, Code.isFrame, guardIds]
theorem make_units {A : Around} {C : Addr} {us : List Value} {kw : List (Str × Value)} : (A.under (.builtin "type.__call__" ⟨.ref C :: us, kw⟩)).units = A.units + 1 := by
  first | rfl | simp [Around.under, Code.cUnits, Code.frames, Code.isFrame]
theorem Room.make {k : Nat} {A : Around} (r : Room (k + 1) A) (C : Addr) (us : List Value) (kw : List (Str × Value)) : Room k (A.under (.builtin "type.__call__" ⟨.ref C :: us, kw⟩)) :=
  ⟨r.hd, by have := r.dp; rw [make_depth]; omega, by have := r.un; rw [make_units]; omega⟩
theorem Room.depth {k : Nat} {A : Around} (r : Room k A) : A.depth < recursionLimit := by have := r.dp; omega
theorem Room.units {k : Nat} {A : Around} (r : Room k A) : A.units + 64 < cLine := by have := r.un; omega
def tNil : TA := fun _ H Q => Q [] H
def tCons (ta : TE) (tr : TA) : TA := fun σ H Q => ta σ H fun x H1 => tr σ H1 fun xs H2 => Q (x :: xs) H2
section
variable {X : Cx} {e : Expr} {es : List Expr} {te : TE} {t : TA} {pos : Pos}
theorem pa_nil : PA X [] tNil := fun _ _ _ _ H Q I h => Calls.spliced_nil ⟨[], H, I, .nil, h⟩
theorem pa_cons (ha : PE X e te) (hr : PA X es t) (hs : starEach (e :: es) X.env = (false, eval e X.env) :: starEach es X.env := by rfl) : PA X (e :: es) (tCons te t) := by
  intro pos pins s σ H Q I h
  rw [hs]
  show wpAny _ _ (spliced ((false, eval e X.env) :: backTo pos (starEach es X.env))) _ _ s
  refine Calls.spliced_cons (thn (ha pins s σ H _ I h) fun u s1 ⟨x, H1, I1, r1, q1⟩ => ?_)
  exact thn (hr pos pins s1 σ H1 _ I1 q1) fun us s2 ⟨xs, H2, I2, r2, q2⟩ => ⟨x :: xs, H2, I2, .cons r1 r2, q2⟩
def tTup (t : TA) : TE := fun σ H Q => t σ H fun xs H1 => xs.length ≤ sizeLine ∧ ∀ p, H1 p = none → Q (.ref p) (upd H1 p (.tup xs))
def tLst (t : TA) : TE := fun σ H Q => t σ H fun xs H1 => xs.length ≤ sizeLine ∧ ∀ p, H1 p = none → Q (.ref p) (upd H1 p (.lst xs))
theorem pe_tup {x1} (h : PA X es t) : PE X (.Tuple es x1 pos) (tTup t) := by
  intro pins s σ H Q I hq
  refine wpAny_Tuple_spliced (thn (h pos pins s σ H _ I hq) fun us s1 ⟨xs, H1, I1, r, z, q⟩ => ⟨by rw [← r.length]; exact z, ?_⟩)
  have hf : H1 s1.heap.objs.size = none := I1.hok.fresh (Nat.le_refl _)
  refine ⟨.ref s1.heap.objs.size, upd H1 s1.heap.objs.size (.tup xs), I1.laid (t' := s1.toks) (fun b u e => Heap.get?_push_of_some _ e) (Nat.le_refl _) ?_, rfl, q _ hf⟩
  exact ⟨z, us, r, ⟨_, Heap.get?_push_size _ rfl, rfl, _, rfl⟩⟩
theorem pe_lst (h : PA X es t) : PE X (.List es pos) (tLst t) := by
  intro pins s σ H Q I hq
  refine wpAny_List_spliced (thn (h pos pins s σ H _ I hq) fun us s1 ⟨xs, H1, I1, r, z, q⟩ => ⟨by rw [← r.length]; exact z, ?_⟩)
  have hf : H1 s1.heap.objs.size = none := I1.hok.fresh (Nat.le_refl _)
  refine ⟨.ref s1.heap.objs.size, upd H1 s1.heap.objs.size (.lst xs), I1.laid (t' := s1.toks) (fun b u e => Heap.get?_push_of_some _ e) (Nat.le_refl _) ?_, rfl, q _ hf⟩
  exact ⟨z, us, 0, r, Heap.get?_push_size _ rfl⟩
end
abbrev Sp := List V → Hp → VK → XK → Prop
abbrev CXT := List Env → Hp → Shared → XK → Value → Shared → Prop
structure Env0 (P : Program) (w : World) (K : PySem.W.Frag) (mg : Str → Option Value) (base : Heap) (A : Around) (outer : List Env) (s : Shared) (H : Hp) : Prop where
  frames : A.frames = some outer
  mod : Mod K mg base
  bs : ∀ b o, base.get? b = some o → s.heap.get? b = some o ∧ H b = none
  bsz : base.objs.size ≤ s.heap.objs.size
  funs : s.heap.FunFrames base outer
  frf : ∀ b ∈ frs outer, H b = none
  hok : HOk P w H s.heap
  bare : AllBare s.gens
def CE (outer : List Env) (P : Program) (w : World) (H : Hp) (s : Shared) (Q : VK) (u : Value) (s' : Shared) : Prop :=
  ∃ v H', s'.os = s.os ∧ AllBare s'.gens ∧ Un (frs outer) [] H H' s.heap s'.heap ∧ HOk P w H' s'.heap ∧ RelV v u ∧ Q v H'
def CR (CX : CXT) (outer : List Env) (P : Program) (w : World) (H : Hp) (s : Shared) (Q : VK) (E : XK) (r : Result) (s' : Shared) : Prop :=
  match r with
  | .ok (.ret u) => CE outer P w H s Q u s'
  | .ok _ => False
  | .error e => CX outer H s E e s'
structure FnOk (P : Program) (w : World) (K : PySem.W.Frag) (mg : Str → Option Value) (base : Heap) (CX : CXT) (k : Nat) (f : Addr) (fd : FuncData) (ps : List Str) (sp : Sp) : Prop where
  len : ∀ vs H Q E, sp vs H Q E → vs.length = ps.length
  run : ∀ (A : Around) (outer : List Env) (s : Shared) (H : Hp) (args : Args) (us : List Value) (vs : List V) (Q : VK) (E : XK), Room k A → Env0 P w K mg base A outer s H → BindsTo s fd args (ps.zip us) → Vals vs us → sp vs H Q E →
    codeAny (model P w) A (.call (.ref f) args) (CR CX outer P w H s Q E) s
theorem Env0.make {P : Program} {w : World} {K : PySem.W.Frag} {mg : Str → Option Value} {base : Heap} {A : Around} {outer : List Env} {s : Shared} {H : Hp} (e : Env0 P w K mg base A outer s H) (C : Addr) (us : List Value) (kw : List (Str × Value)) :
    Env0 P w K mg base (A.under (.builtin "type.__call__" ⟨.ref C :: us, kw⟩)) outer s H := ⟨by first | exact e.frames | (simpa [Around.under, Code.envs, Code.isFrame, pushEnvs] using e.frames), e.mod, e.bs, e.bsz, e.funs, e.frf, e.hok, e.bare⟩
section
variable {X : Cx} {pins : List (Addr × Obj)} {σ : St} {H : Hp} {s s' : Shared}
theorem Inv.env0 (I : Inv X pins σ H s) : Env0 X.prog X.w X.K X.mg X.base X.A X.stack s H :=
  ⟨I.ok.frames, I.ok.mod, I.bs, Nat.le_trans I.ok.bsz I.sz, I.stack, I.stkFree, I.hok, I.bare⟩
theorem Inv.after {Q : VK} {u : Value} (I : Inv X pins σ H s) (h : CE X.stack X.prog X.w H s Q u s') : EP X pins σ Q u s' := by
  obtain ⟨v, H', os, bare, un, hok, r, q⟩ := h
  obtain ⟨hh, g, d, t, os'⟩ := s'
  obtain rfl : os' = s.os := os
  exact ⟨v, H', I.call (h' := hh) (g' := g) (d' := d) (t' := t) (ch := []) un hok bare (fun b z => absurd z (by simp)), r, q⟩
end
def tCall (sp : Sp) (dvs : List V) (E : XK) (t : TA) : TE := fun σ H Q => t σ H fun vs H1 => sp (vs ++ dvs) H1 Q E
def tMeth (C : Addr) (m : Str) (sp : Sp) (dvs : List V) (E : XK) (ta : TE) (t : TA) : TE := fun σ H Q => ta σ H fun x H1 => ∃ a dx fs, x = .ref a ∧ H1 a = some (.ins C dx fs) ∧ fs.lookup m = none ∧
  t σ H1 fun vs H2 => sp (x :: (vs ++ dvs)) H2 Q E
def tMake (C : Addr) (sp : Sp) (dvs : List V) (E : XK) (t : TA) : TE := fun σ H Q => t σ H fun vs H1 => ∀ x dx, H1 x = none → H1 dx = none → dx ≠ x →
  sp (.ref x :: (vs ++ dvs)) (upd (upd H1 dx (.own x)) x (.ins C dx [])) (fun v H2 => v = .non ∧ Q (.ref x) H2) E
def Binds (K : PySem.W.Frag) (fd : FuncData) (ps : List Str) (ds : List Value) : Prop :=
  ∀ (s : Shared) (us : List Value), K.In s.heap → (us ++ ds).length = ps.length → BindsTo s fd ⟨us, []⟩ (ps.zip (us ++ ds))
theorem Binds.all {K : PySem.W.Frag} {fd : FuncData} {ps : List Str} (h : ∀ us : List Value, us.length = ps.length → bindArgs fd ⟨us, []⟩ = pure (ps.zip us)) : Binds K fd ps [] := fun s us _ hl => by
  rw [List.append_nil] at hl ⊢
  exact .of_eq (h us hl)
def Passes (CX : CXT) (X : Cx) (E : XK) : Prop := ∀ (pins : List (Addr × Obj)) (σ : St) (H : Hp) (s : Shared) (e : Value) (s' : Shared), Inv X pins σ H s → CX X.stack H s E e s' → X.xe e s'
section
variable {X : Cx} {CX : CXT} {k : Nat} {f C : Addr} {fd : FuncData} {ps : List Str} {sp : Sp} {dvs : List V} {ds : List Value} {E : XK} {x m : Str} {p pos apos : Pos} {e o : Expr} {es : List Expr} {ta : TE} {t : TA}
theorem run_fn {pins : List (Addr × Obj)} {σ : St} {H : Hp} {s : Shared} {Q : VK} {us : List Value} {vs : List V} (F : FnOk X.prog X.w X.K X.mg X.base CX k f fd ps sp) (hr : Room k X.A) (hb : Binds X.K fd ps ds) (hd : Vals dvs ds) (hx : Passes CX X E)
    (I : Inv X pins σ H s) (r : Vals vs us) (h : sp (vs ++ dvs) H Q E) : wpAny (model X.prog X.w) X.A (call (.ref f) us) (EP X pins σ Q) X.xe s := by
  have r2 : Vals (vs ++ dvs) (us ++ ds) := r.append hd
  have hl : (us ++ ds).length = ps.length := by rw [← r2.length]; exact F.len _ _ _ _ h
  refine wpAny_call (codeAny_mono (F.run X.A X.stack s H ⟨us, []⟩ (us ++ ds) (vs ++ dvs) Q E hr I.env0 (hb s us I.kIn hl) r2 h) fun r s' hq => ?_)
  cases r with
  | error e => exact hx pins σ H s e s' I hq
  | ok fl =>
    cases fl with
    | ret u => exact I.after hq
    | next => exact False.elim hq
    | brk => exact False.elim hq
    | cont => exact False.elim hq
theorem pe_call (F : FnOk X.prog X.w X.K X.mg X.base CX k f fd ps sp) (hr : Room k X.A) (hg : Gl X x) (hm : X.mg x = some (.ref f)) (hk : PySem.W.keepIn X.K (.ref f) = true) (hb : Binds X.K fd ps ds) (hd : Vals dvs ds) (hx : Passes CX X E)
    (ha : PA X (e :: es) t) (hdb : (x == ("__debug__" : Str)) = false := by decide) (he : starEach (e :: es) X.env = (false, eval e X.env) :: starEach es X.env := by rfl) (hpl : (backTo pos (starEach es X.env)).any (·.1) = false := by rfl) :
    PE X (.Call (.Name x p) (e :: es) [] pos) (tCall sp dvs E t) := by
  intro pins s σ H Q I h
  refine wpAny_Call_Name_kw (ld_glob I hg hm ?_ hdb)
  refine PySem.W.callWith_K (h₀ := X.base) I.ok.mod.kin hk (thn (ha pos pins s σ H _ I h) fun us s1 ⟨vs, H1, I1, r, q⟩ => ⟨I1.kIn, ?_⟩) he hpl
  exact run_fn F hr hb hd hx I1 r q
theorem pe_meth {pl : Sem Bool} (he : PE X o ta) (c : Cls X.K C) (hm : Meth X.K C m f) (F : FnOk X.prog X.w X.K X.mg X.base CX k f fd ps sp) (hr : Room k X.A) (hb : Binds X.K fd ps ds) (hd : Vals dvs ds) (hx : Passes CX X E) (ha : PA X (e :: es) t)
    (hst : starEach (e :: es) X.env = (false, eval e X.env) :: starEach es X.env := by rfl) (hpl : (backTo pos (starEach es X.env)).any (·.1) = false := by rfl)
    (ht : eval (.Call (.Attribute o m apos) (e :: es) [] pos) X.env = (do
      let ov ← eval o X.env
      standAt apos.atName
      let (f, first) ← holding [ov] (getMethod ov m pl)
      callWith pos f first (backTo pos (starEach (e :: es) X.env)) (backToKw pos (keywordEach [] X.env))) := by rfl) :
    PE X (.Call (.Attribute o m apos) (e :: es) [] pos) (tMeth C m sp dvs E ta t) := by
  intro pins s σ H Q I h
  refine PySem.W.methodCall_KW (pl := pl) (thn (he pins s σ H _ I h) fun u s1 ⟨x, H1, I1, rx, a, dx, fs, ex, ea, l, q⟩ => ?_) ht
  subst ex
  obtain rfl : u = Value.ref a := rx
  refine getmeth_ok I1 ea c hm l ?_
  refine PySem.W.callWith_K (first := [.ref a]) (h₀ := X.base) I.ok.mod.kin hm.kp (thn (ha pos pins s1 σ H1 _ I1 q) fun us s2 ⟨vs, H2, I2, r, q2⟩ => ⟨I2.kIn, ?_⟩) hst hpl
  exact run_fn (us := .ref a :: us) (vs := .ref a :: vs) F hr hb hd hx I2 (.cons rfl r) q2
theorem pe_meth0 {pl : Sem Bool} (he : PE X o ta) (c : Cls X.K C) (hm : Meth X.K C m f) (F : FnOk X.prog X.w X.K X.mg X.base CX k f fd ps sp) (hr : Room k X.A) (hb : Binds X.K fd ps ds) (hd : Vals dvs ds) (hx : Passes CX X E)
    (ht : eval (.Call (.Attribute o m apos) [] [] pos) X.env = (do
      let ov ← eval o X.env
      standAt apos.atName
      let (f, first) ← holding [ov] (getMethod ov m pl)
      callWith pos f first (backTo pos (starEach [] X.env)) (backToKw pos (keywordEach [] X.env))) := by rfl) :
    PE X (.Call (.Attribute o m apos) [] [] pos) (tMeth C m sp dvs E ta tNil) := by
  intro pins s σ H Q I h
  refine PySem.W.methodCall_KW (pl := pl) (thn (he pins s σ H _ I h) fun u s1 ⟨x, H1, I1, rx, a, dx, fs, ex, ea, l, q⟩ => ?_) ht
  subst ex
  obtain rfl : u = Value.ref a := rx
  refine getmeth_ok I1 ea c hm l ?_
  exact PySem.W.callWith_K0 (first := [.ref a]) I1.kIn hm.kp (run_fn (us := [.ref a]) (vs := [.ref a]) F hr hb hd hx I1 (.cons rfl .nil) q)
structure Mk (K : PySem.W.Frag) (C f : Addr) : Prop where
  makes : PySem.W.makesIn K C = true
  init : PySem.W.findIn K (.ref C) "__init__" = some (some (.ref f))
  fn : PySem.W.isFn K (.ref f) = true
  kp : PySem.W.keepIn K (.ref C) = true
theorem run_make {pins : List (Addr × Obj)} {σ : St} {H : Hp} {s : Shared} {Q : VK} {us : List Value} {vs : List V} (M : Mk X.K C f) (F : FnOk X.prog X.w X.K X.mg X.base CX k f fd ps sp) (hr : Room (k + 1) X.A) (hb : Binds X.K fd ps ds) (hd : Vals dvs ds)
    (hx : Passes CX X E) (I : Inv X pins σ H s) (r : Vals vs us)
    (h : ∀ x dx, H x = none → H dx = none → dx ≠ x → sp (.ref x :: (vs ++ dvs)) (upd (upd H dx (.own x)) x (.ins C dx [])) (fun v H2 => v = .non ∧ Q (.ref x) H2) E) :
    wpAny (model X.prog X.w) X.A (call (.ref C) us) (EP X pins σ Q) X.xe s := by
  have hq := h (s.heap.objs.size + 1) s.heap.objs.size (I.hok.fresh (Nat.le_succ _)) (I.hok.fresh (Nat.le_refl _)) (Nat.ne_of_lt (Nat.lt_succ_self _))
  have I2 := Inv.made (C := C) I
  have r2 : Vals (V.ref (s.heap.objs.size + 1) :: (vs ++ dvs)) (Value.ref (s.heap.objs.size + 1) :: (us ++ ds)) := .cons rfl (r.append hd)
  have hl : (Value.ref (s.heap.objs.size + 1) :: us ++ ds).length = ps.length := by
    have e := r2.length
    rw [F.len _ _ _ _ hq] at e
    exact e.symm
  refine wpAny_call (make_map (f := f) I.kIn M.makes M.init (beq_iff_eq.mp M.fn) (codeAny_mono (F.run _ X.stack _ _ ⟨Value.ref (s.heap.objs.size + 1) :: us, []⟩ (Value.ref (s.heap.objs.size + 1) :: (us ++ ds)) _ _ E (hr.make C us [])
    (I2.env0.make C us []) (hb _ (Value.ref (s.heap.objs.size + 1) :: us) I2.kIn hl) r2 hq) fun r s' hq' => ?_))
  cases r with
  | error e => exact hx pins σ _ _ e s' I2 hq'
  | ok fl =>
    cases fl with
    | ret u =>
      obtain ⟨v, H', I3, rv, ev, q3⟩ := I2.after hq'
      subst ev
      exact ⟨rv, ⟨V.ref (s.heap.objs.size + 1), H', I3, rfl, q3⟩⟩
    | next => exact False.elim hq'
    | brk => exact False.elim hq'
    | cont => exact False.elim hq'
theorem pe_make (M : Mk X.K C f) (F : FnOk X.prog X.w X.K X.mg X.base CX k f fd ps sp) (hr : Room (k + 1) X.A) (hg : Gl X x) (hm : X.mg x = some (.ref C)) (hb : Binds X.K fd ps ds) (hd : Vals dvs ds) (hx : Passes CX X E)
    (ha : PA X (e :: es) t) (hdb : (x == ("__debug__" : Str)) = false := by decide) (he : starEach (e :: es) X.env = (false, eval e X.env) :: starEach es X.env := by rfl) (hpl : (backTo pos (starEach es X.env)).any (·.1) = false := by rfl) :
    PE X (.Call (.Name x p) (e :: es) [] pos) (tMake C sp dvs E t) := by
  intro pins s σ H Q I h
  refine wpAny_Call_Name_kw (ld_glob I hg hm ?_ hdb)
  refine PySem.W.callWith_K (h₀ := X.base) I.ok.mod.kin M.kp (thn (ha pos pins s σ H _ I h) fun us s1 ⟨vs, H1, I1, r, q⟩ => ⟨I1.kIn, ?_⟩) he hpl
  exact run_make M F hr hb hd hx I1 r q
end
section
variable {X : Cx} {CX : CXT} {k : Nat} {f C : Addr} {fd : FuncData} {ps ks : List Str} {sp : Sp} {E : XK} {x m : Str} {p pos apos kpos : Pos} {e o : Expr} {es : List Expr} {kws : List Keyword} {te ta : TE} {t tk : TA} {nm : Option Str}
structure KBinds (K : PySem.W.Frag) (fd : FuncData) (ps ks : List Str) (g : List Value → List Value → List Value) (gV : List V → List V → List V) : Prop where
  to : ∀ (s : Shared) (us ws : List Value), K.In s.heap → (g us ws).length = ps.length → BindsTo s fd ⟨us, ks.zip ws⟩ (ps.zip (g us ws))
  rel : ∀ {vs : List V} {us : List Value} {zs : List V} {ws : List Value}, Vals vs us → Vals zs ws → Vals (gV vs zs) (g us ws)
variable {g : List Value → List Value → List Value} {gV : List V → List V → List V}
end
structure FnScope (N P : List Str) (sc : Scope) : Prop where
  kind : sc.kind = .function
  co : sc.isCoroutine = false
  gen : sc.isGenerator = false
  nd : N.Nodup
  pre : N.take P.length = P
  par : ∀ x ∈ P, sc.names.lookup x = some .local ∨ sc.names.lookup x = some .cell
  nofree : ∀ y ∈ sc.names, y.2 ≠ .free
theorem bindL_out {kindOf : Str → Option NameKind} {x : Str} : ∀ {binds : List (Str × Value)} {m : Str → Option Value}, (∀ v, (x, v) ∉ binds) → bindL kindOf binds m x = m x
  | [], _, _ => rfl
  | (n, v) :: r, m, h => by
    unfold bindL
    rw [bindL_out fun w hw => h w (List.mem_cons_of_mem _ hw)]
    split
    · have : x ≠ n := by rintro rfl; exact h v List.mem_cons_self
      simp [this]
    · rfl
theorem bindC_out {kindOf : Str → Option NameKind} {x : Str} : ∀ {binds : List (Str × Value)} {m : Str → Option Value}, (∀ v, (x, v) ∉ binds) → bindC kindOf binds m x = m x
  | [], _, _ => rfl
  | (n, v) :: r, m, h => by
    unfold bindC
    rw [bindC_out fun w hw => h w (List.mem_cons_of_mem _ hw)]
    split
    · rfl
    · have : x ≠ n := by rintro rfl; exact h v List.mem_cons_self
      simp [this]
theorem bindL_get {kindOf : Str → Option NameKind} {x : Str} {v : Value} : ∀ {P : List Str} {vs : List Value} {i : Nat} {m : Str → Option Value}, P.Nodup → P[i]? = some x → vs[i]? = some v → kindOf x = some .local →
    bindL kindOf (P.zip vs) m x = some v
  | [], _, _, _, _, h, _, _ => by simp at h
  | _ :: _, [], _, _, _, _, h, _ => by simp at h
  | p :: P, w :: vs, 0, m, nd, h1, h2, hk => by
    simp at h1 h2; subst h1; subst h2
    show bindL kindOf ((p, w) :: P.zip vs) m p = _
    unfold bindL
    rw [bindL_out fun v hv => (List.nodup_cons.mp nd).1 (List.of_mem_zip hv).1, if_pos hk]
    simp
  | p :: P, w :: vs, i + 1, m, nd, h1, h2, hk => by
    show bindL kindOf ((p, w) :: P.zip vs) m x = _
    unfold bindL
    exact bindL_get (i := i) (List.nodup_cons.mp nd).2 (by simpa using h1) (by simpa using h2) hk
theorem bindC_get {kindOf : Str → Option NameKind} {x : Str} {v : Value} : ∀ {P : List Str} {vs : List Value} {i : Nat} {m : Str → Option Value}, P.Nodup → P[i]? = some x → vs[i]? = some v → kindOf x ≠ some .local →
    bindC kindOf (P.zip vs) m x = some v
  | [], _, _, _, _, h, _, _ => by simp at h
  | _ :: _, [], _, _, _, _, h, _ => by simp at h
  | p :: P, w :: vs, 0, m, nd, h1, h2, hk => by
    simp at h1 h2; subst h1; subst h2
    show bindC kindOf ((p, w) :: P.zip vs) m p = _
    unfold bindC
    rw [bindC_out fun v hv => (List.nodup_cons.mp nd).1 (List.of_mem_zip hv).1, if_neg hk]
    simp
  | p :: P, w :: vs, i + 1, m, nd, h1, h2, hk => by
    show bindC kindOf ((p, w) :: P.zip vs) m x = _
    unfold bindC
    exact bindC_get (i := i) (List.nodup_cons.mp nd).2 (by simpa using h1) (by simpa using h2) hk
def start (N : List Str) (vs : List V) : St := vs.map some ++ List.replicate (N.length - vs.length) none
def cxOf (CX : CXT) (P : Program) (w : World) (K : PySem.W.Frag) (mg : Str → Option Value) (base : Heap) (N : List Str) (qual : Str) (scope : Scope) (f : Addr) (cd : Value) (A : Around) (outer : List Env) (s : Shared) (H : Hp) (E : XK) : Cx where
  prog := P
  w := w
  K := K
  mg := mg
  base := base
  A := A.deeper (envOfC qual scope s.heap.objs.size f cd)
  N := N
  s₀ := s
  H₀ := H
  env := envOfC qual scope s.heap.objs.size f cd
  outer := outer
  stack := envOfC qual scope s.heap.objs.size f cd :: outer
  ex := []
  calm := true
  fn := fun _ => true
  pn := []
  xe := fun e s' => wpAny (model P w) (A.deeper (envOfC qual scope s.heap.objs.size f cd)) (leaving (envOfC qual scope s.heap.objs.size f cd) e) (fun _ s'' => CX outer H s E e s'') (fun e' s'' => CX outer H s E e' s'') s'
theorem cell_has {sc : Scope} {n : Nat} {x : Str} (h : sc.names.lookup x = some .cell) : ∃ c, (cellsFrom n sc.names []).lookup x = some c := by
  have q := PySem.W.cellsFrom_some sc.names n [] (.inl h)
  exact Option.isSome_iff_exists.mp q
theorem inv_start {CX : CXT} {P : Program} {w : World} {K : PySem.W.Frag} {mg : Str → Option Value} {base : Heap} {N ps : List Str} {qual : Str} {scope : Scope} {f : Addr} {cd : Value} {A : Around} {outer : List Env} {s s1 : Shared} {H : Hp} {E : XK} {us : List Value} {vs : List V}
    (S : FnScope N ps scope) (hd : A.handled = none) (e0 : Env0 P w K mg base A outer s H) (hl : vs.length = ps.length) (r : Vals vs us)
    (x : InCallC s s.heap.objs.size (bindL (envOfC qual scope s.heap.objs.size f cd).kindOf (ps.zip us) fun _ => none) (cellsFrom (s.heap.objs.size + 1) scope.names []) (bindC (envOfC qual scope s.heap.objs.size f cd).kindOf (ps.zip us) fun _ => none) s1) :
    Inv (cxOf CX P w K mg base N qual scope f cd A outer s H E) [] (start N vs) H s1 := by
  have hpl : ps.length ≤ N.length := by have := congrArg List.length S.pre; rw [List.length_take] at this; omega
  obtain ⟨h1, tk, rfl, hk⟩ := x.done
  have noA : ∀ b : Addr, b ∉ (cxOf CX P w K mg base N qual scope f cd A outer s H E).ex := fun b z => absurd (show b ∈ ([] : List Addr) from z) (by simp)
  refine ⟨⟨e0.mod, S.kind, rfl, rfl, Nat.le_refl _, fun y z c h1 h2 => ?_, fun y hy => ?_, fun y c _ h => ?_, fun _ => hd, Around.frames_deeper e0.frames, .inr ⟨rfl, rfl⟩, fun b z => absurd z (noA b), e0.bs, e0.bsz, fun b _ _ => noA b, fun b z => absurd z (noA b), e0.funs, e0.frf⟩,
    rfl, e0.bare, Un.kept hk, ⟨_, x.toInCall.ns, fun i y v h1 h2 h3 => ?_⟩, fun y c h => ⟨_, x.cell y c h⟩, e0.hok.fresh (Nat.le_refl _), fun y c h => ?_, fun p hp => absurd (show p ∈ ([] : List (Addr × Obj)) from hp) (by simp), e0.hok.kept hk, ?_⟩
  · exact name_of_addr x.apart (PySem.mem_of_lookup h1) (PySem.mem_of_lookup h2)
  · have hy : scope.names.lookup y = some .cell ∨ scope.names.lookup y = some .free := hy
    rcases hy with hy | hy
    · exact cell_has hy
    · exact absurd rfl (S.nofree _ (PySem.mem_of_lookup hy))
  · exact Nat.le_of_lt (x.above y c (PySem.mem_of_lookup h))
  · have hi : i < vs.length := by
      unfold start at h2
      by_cases hi : i < vs.length
      · exact hi
      · rw [List.getElem?_append_right (by simpa using hi)] at h2
        rw [List.getElem?_replicate] at h2
        split at h2 <;> cases h2
    have ha : vs[i]? = some v := by
      unfold start at h2
      rw [List.getElem?_append_left (by simpa using hi), List.getElem?_map] at h2
      cases e : vs[i]? with
      | none => rw [e] at h2; cases h2
      | some a => rw [e] at h2; cases h2; rfl
    obtain ⟨u, hu, rv⟩ := r.get ha
    have hp : ps[i]? = some y := by
      rw [← S.pre, List.getElem?_take_of_lt (by omega)]; exact h1
    have ndP : ps.Nodup := by rw [← S.pre]; exact S.nd.sublist (List.take_sublist _ _)
    refine ⟨u, rv, ?_⟩
    rcases S.par y (List.mem_of_getElem? hp) with k | k
    · exact .inl ⟨k, bindL_get ndP hp hu k⟩
    · obtain ⟨c, e⟩ := cell_has (n := s.heap.objs.size + 1) k
      refine .inr ⟨.inl k, c, e, ?_⟩
      have q := x.cell y c e
      rw [bindC_get ndP hp hu (by show scope.names.lookup y ≠ _; rw [k]; decide)] at q
      exact q
  · exact e0.hok.fresh (Nat.le_of_lt (x.above y c (PySem.mem_of_lookup h)))
  · unfold start
    show _ = N.length
    rw [List.length_append, List.length_map, List.length_replicate]
    omega
theorem fn_of {CX : CXT} {P : Program} {w : World} {K : PySem.W.Frag} {mg : Str → Option Value} {base : Heap} {k : Nat} {f : Addr} {name qual : Str} {params : Arguments} {body : List Stmt} {scope : Scope} {dV kV doc pm cdv ct oc : Value} {an od : Option Addr}
    {osl : Array (Option Value)} {N ps : List Str} {sp : Sp} (lk : K.lookup f = some ⟨oc, od, .func (PySem.W.fnOf name qual params body scope dV kV doc pm an cdv ct), osl⟩) (hcd : PySem.W.codeIn K cdv qual = true) (S : FnScope N ps scope)
    (len : ∀ vs H Q E, sp vs H Q E → vs.length = ps.length)
    (hbody : ∀ (A : Around) (outer : List Env) (s : Shared) (H : Hp) (vs : List V) (Q : VK) (E : XK), Room k (A.deeper (envOfC qual scope s.heap.objs.size f cdv)) → sp vs H Q E →
      ∃ t, PSs (cxOf CX P w K mg base N qual scope f cdv A outer s H E) body t ∧ t { nx := fun _ H' => Q .non H', rt := Q } (start N vs) H) :
    FnOk P w K mg base CX (k + 1) f (PySem.W.fnOf name qual params body scope dV kV doc pm an cdv ct) ps sp := by
  refine ⟨len, fun A outer s H args us vs Q E hr e0 hb r hsp => ?_⟩
  have hl := len _ _ _ _ hsp
  have KX : K.In s.heap := e0.mod.kin.keeps fun b o e => (e0.bs b o e).1
  have lim : s.heap.NoLimit := e0.mod.nolimit.keeps fun b o e => (e0.bs b o e).1
  have hkind : ∀ y ∈ ps.zip us, scope.names.lookup y.1 = some .local ∨ (scope.names.lookup y.1 = some .cell ∧ ((cellsFrom (s.heap.objs.size + 1) scope.names []).lookup y.1).isSome = true) := fun ⟨n, v⟩ hy => by
    rcases S.par n (List.of_mem_zip hy).1 with q | q
    · exact .inl q
    · exact .inr ⟨q, PySem.W.cellsFrom_some _ _ _ (.inl q)⟩
  refine codeAny_call_function hr.depth (KX _ _ lk) rfl S.co S.gen rfl (PySem.W.codeRec_of KX hcd) (hb _ _ _ _ ?_)
  refine wpAny_newFunctionEnv_cells S.kind hkind fun env he s1 x => ?_
  subst he
  refine ⟨lim.keeps x.toInCall.keep, codeAny_func ?_⟩
  obtain ⟨t, ht, hq⟩ := hbody A outer s H vs Q E (hr.deeper _) hsp
  have I : Inv (cxOf CX P w K mg base N qual scope f cdv A outer s H E) [] (start N vs) H s1 := inv_start S hr.hd e0 hl r x
  refine wpAny_mono (ht [] s1 (start N vs) H _ I hq) (fun fl s' hs => ?_) fun e s' hs => hs
  have fin : ∀ {σ' : St} {H' : Hp} {v : V} {u : Value}, Inv (cxOf CX P w K mg base N qual scope f cdv A outer s H E) [] σ' H' s' → RelV v u → Q v H' → CE outer P w H s Q u s' :=
    fun {σ' H' v u} J rv q => ⟨v, H', J.os, J.bare, J.base, J.hok, rv, q⟩
  cases fl with
  | ret u =>
    obtain ⟨v, σ', H', J, rv, q⟩ := hs
    exact fin J rv q
  | next =>
    obtain ⟨σ', H', J, q⟩ := hs
    exact fin (v := V.non) (u := Value.none) J rfl q
  | brk =>
    obtain ⟨_, _, _, q⟩ := hs
    exact False.elim q
  | cont =>
    obtain ⟨_, _, _, q⟩ := hs
    exact False.elim q
end L2
namespace L2
open PySem PySem.Spec PyProof.Rows
section
variable {X : Cx} {x : Str} {p pos : Pos} {e : Expr} {es : List Expr} {t : TA} {id T : String} {r : List V → Hp → VK → Prop}
def tCB (r : List V → Hp → VK → Prop) (t : TA) : TE := fun σ H Q => t σ H fun vs H1 => r vs H1 Q
theorem pe_callB (hc : CallR X (.builtin id) r) (hg : Gl X x) (hm : X.mg x = none) (hv : bootBuiltins x = some (.builtin id)) (ha : PA X (e :: es) t) (hn : x ≠ "__name__" := by decide) (hdb : (x == ("__debug__" : Str)) = false := by decide)
    (he : starEach (e :: es) X.env = (false, eval e X.env) :: starEach es X.env := by rfl) (hpl : (backTo pos (starEach es X.env)).any (·.1) = false := by rfl) : PE X (.Call (.Name x p) (e :: es) [] pos) (tCB r t) := by
  intro pins s σ H Q I h
  refine wpAny_Call_Name_kw (ld_blt I hg hm hv ?_ hn hdb)
  exact PyProof.Rows.callWith_builtin1 (thn (ha pos pins s σ H _ I h) fun us s1 ⟨vs, H1, I1, r1, q1⟩ => hc pins s1 σ H1 vs us Q I1 r1 q1) he hpl
theorem pe_callTy (hc : CallR X (.type T) r) (hg : Gl X x) (hm : X.mg x = none) (hv : bootBuiltins x = some (.type T)) (ha : PA X (e :: es) t) (hn : x ≠ "__name__" := by decide) (hdb : (x == ("__debug__" : Str)) = false := by decide)
    (he : starEach (e :: es) X.env = (false, eval e X.env) :: starEach es X.env := by rfl) (hpl : (backTo pos (starEach es X.env)).any (·.1) = false := by rfl) : PE X (.Call (.Name x p) (e :: es) [] pos) (tCB r t) := by
  intro pins s σ H Q I h
  refine wpAny_Call_Name_kw (ld_blt I hg hm hv ?_ hn hdb)
  exact PyProof.Rows.callWith_type1 (thn (ha pos pins s σ H _ I h) fun us s1 ⟨vs, H1, I1, r1, q1⟩ => hc pins s1 σ H1 vs us Q I1 r1 q1) he hpl
end
end L2
namespace HT
open PySem PyProof.Rows
def lexLt : List Int → List Int → Bool
  | [], [] => false
  | [], _ :: _ => true
  | _ :: _, [] => false
  | x :: xs, y :: ys => if x = y then lexLt xs ys else decide (x < y)
theorem lexLt_cons (x y : Int) (xs ys : List Int) : lexLt (x :: xs) (y :: ys) = if x = y then lexLt xs ys else decide (x < y) := rfl
section
open PySem.SeqAt
open PySem.AutoSeq1 (wpAny_loadPart')
open PySem.MeetsSeq PySem.MeetsSeq2 PySem.MeetsSeq3
end
section
variable {prog : Program} {w : World} {A : Around} {E : Value → Shared → Prop} {s : Shared}
def sIx (n d : Nat) : Option Int → Nat
  | none => d
  | some v => if v < 0 then (v + (n : Int)).toNat else min v.toNat n
theorem sIx_none (n d : Nat) : sIx n d none = d := rfl
theorem sIx_nat (n d k : Nat) : sIx n d (some (k : Int)) = min k n := by
  show (if (k : Int) < 0 then ((k : Int) + (n : Int)).toNat else min (k : Int).toNat n) = min k n
  rw [if_neg (by omega), Int.toNat_natCast]
theorem sIx_le (n d : Nat) (hd : d ≤ n) (o : Option Int) : sIx n d o ≤ n := by
  cases o with
  | none => exact hd
  | some v =>
    show (if v < 0 then (v + (n : Int)).toNat else min v.toNat n) ≤ n
    by_cases hv : v < 0
    · rw [if_pos hv]; omega
    · rw [if_neg hv]; exact Nat.min_le_right _ _
end
end HT
namespace L2
open PySem PySem.Spec PyProof.Rows
abbrev TO := St → Hp → (Option Int → Hp → Prop) → Prop
def PO (X : Cx) (e : Option Expr) (t : TO) : Prop :=
  ∀ (pins : List (Addr × Obj)) (s : Shared) (σ : St) (H : Hp) (Q : Option Int → Hp → Prop), Inv X pins σ H s → t σ H Q →
    wpAny (model X.prog X.w) X.A (evalPart e X.env) (fun u s' => ∃ o H', Inv X pins σ H' s' ∧ IsPart u o ∧ Q o H') X.xe s
def tNoPart : TO := fun _ H Q => Q none H
def tPart (t : TE) : TO := fun σ H Q => t σ H fun x H1 => ∃ i, x = .int i ∧ Q (some i) H1
section
variable {X : Cx} {e : Expr} {te : TE} {lo hi : Option Expr} {tl th : TO} {pos p2 : Pos}
theorem po_none : PO X none tNoPart := by
  intro pins s σ H Q I h
  rw [evalPart_none]
  exact wpAny_pure ⟨none, H, I, .none, h⟩
theorem po_some (h : PE X e te) : PO X (some e) (tPart te) := by
  intro pins s σ H Q I hw
  rw [evalPart_some]
  refine thn (h pins s σ H _ I hw) fun u s1 ⟨x, H1, I1, r1, q1⟩ => ?_
  obtain ⟨i, rfl, q⟩ := q1
  obtain ⟨t, rfl⟩ := r1
  exact ⟨some i, H1, I1, .int i t, q⟩
def SlR (X : Cx) (r : V → Option Int → Option Int → Hp → VK → Prop) : Prop :=
  ∀ (pins : List (Addr × Obj)) (s : Shared) (σ : St) (H : Hp) (x : V) (v vl vu : Value) (lo hi : Option Int) (sl : Addr) (Q : VK), Inv X pins σ H s → RelV x v → s.heap.IsSliceOf sl vl vu .none → IsPart vl lo → IsPart vu hi → r x lo hi H Q →
    ∃ T id, typeLookup (.type T) "__getitem__" = pure (some (.builtin id)) ∧ s.TypeIs v T ∧ wpAny (model X.prog X.w) X.A (getItem v (.ref sl)) (EP X pins σ Q) X.xe s
def tSl (r : V → Option Int → Option Int → Hp → VK → Prop) (te : TE) (tl th : TO) : TE := fun σ H Q => te σ H fun x H1 => tl σ H1 fun l H2 => th σ H2 fun u H3 => r x l u H3 Q
theorem pe_slice {r : V → Option Int → Option Int → Hp → VK → Prop} (hr : SlR X r) (he : PE X e te) (hl : PO X lo tl) (hu : PO X hi th) : PE X (.Subscript e (.Slice lo hi none p2) pos) (tSl r te tl th) := by
  intro pins s σ H Q I h
  refine Subscript_ (thn (he pins s σ H _ I h) fun v s1 ⟨x, H1, I1, r1, q1⟩ => ?_)
  refine wpAny_Slice (thn (hl pins s1 σ H1 _ I1 q1) fun vl s2 ⟨l, H2, I2, pl, q2⟩ => thn (hu pins s2 σ H2 _ I2 q2) fun vu s3 ⟨u, H3, I3, pu, q3⟩ => ?_)
  rw [evalPart_none]
  refine wpAny_pure ?_
  have I4 : Inv X pins σ H3 { s3 with heap := s3.heap.push { cls := .type "slice", data := .fields #[vl, vu, .none] } } := I3.kept (t' := s3.toks) fun b ob q => Heap.get?_push_of_some _ q
  obtain ⟨T, id, hT, ht, hg⟩ := hr pins { s3 with heap := s3.heap.push { cls := .type "slice", data := .fields #[vl, vu, .none] } } σ H3 x v vl vu l u s3.heap.objs.size Q I4 r1 (Heap.IsSliceOf.new ..) pl pu q3
  show wpAny (model X.prog X.w) X.A (subscriptTail e (.Slice lo hi none p2) v (.ref s3.heap.objs.size)) (EP X pins σ Q) X.xe { s3 with heap := s3.heap.push { cls := .type "slice", data := .fields #[vl, vu, .none] } }
  exact tail_any (ops := [.ref s3.heap.objs.size, v]) ht hT hg (by with_unfolding_all rfl)
def cutV (xs : List V) (lo hi : Option Int) : List V := (xs.drop (HT.sIx xs.length 0 lo)).take (HT.sIx xs.length xs.length hi - HT.sIx xs.length 0 lo)
theorem cutV_length (xs : List V) (lo hi : Option Int) : (cutV xs lo hi).length ≤ xs.length := by
  unfold cutV
  rw [List.length_take, List.length_drop]
  omega
end
end L2
namespace L2
open PySem PySem.Spec PyProof.Rows
def ixN (n : Nat) (i : Int) : Option Nat := if 0 ≤ i then (if i < n then some i.toNat else none) else if -(n : Int) ≤ i then some (i + n).toNat else none
def atI {α : Type} (xs : List α) (i : Int) : Option α := (ixN xs.length i).bind fun j => xs[j]?
theorem ixN_seq {n : Nat} {i : Int} {j : Nat} (h : ixN n i = some j) : seqIndex? i n = some j ∧ j < n ∧ -(n : Int) ≤ i ∧ i < n := by
  unfold ixN at h
  by_cases h0 : 0 ≤ i
  · rw [if_pos h0] at h
    by_cases h1 : i < n
    · rw [if_pos h1] at h
      have e : i.toNat = j := Option.some.inj h
      exact ⟨by rw [seqIndex_of h0 h1, e], by omega, by omega, h1⟩
    · rw [if_neg h1] at h; cases h
  · rw [if_neg h0] at h
    by_cases h1 : -(n : Int) ≤ i
    · rw [if_pos h1] at h
      have e : (i + n).toNat = j := Option.some.inj h
      exact ⟨by rw [seqIndex_neg (by omega) h1, e], by omega, h1, by omega⟩
    · rw [if_neg h1] at h; cases h
theorem atI_get {α : Type} {xs : List α} {i : Int} {v : α} (h : atI xs i = some v) : ∃ j, seqIndex? i xs.length = some j ∧ xs[j]? = some v ∧ j < xs.length ∧ -(xs.length : Int) ≤ i ∧ i < xs.length := by
  unfold atI at h
  cases e : ixN xs.length i with
  | none => rw [e] at h; cases h
  | some j =>
    rw [e] at h
    obtain ⟨h1, h2, h3, h4⟩ := ixN_seq e
    exact ⟨j, h1, h, h2, h3, h4⟩
theorem atI_nat {α : Type} {xs : List α} {j : Nat} {v : α} (h : xs[j]? = some v) : atI xs (j : Int) = some v := by
  have hj : j < xs.length := (List.getElem?_eq_some_iff.mp h).1
  have e : ixN xs.length (j : Int) = some j := by
    unfold ixN
    rw [if_pos (by omega), if_pos (by omega)]; simp
  unfold atI; rw [e]; exact h
def PlainIx (b : Expr) : Prop := ∀ o i, subscripted b false o i = operate [o, i] (getItem o i)
def IxR (X : Cx) (r : R2) : Prop :=
  ∀ (value slice : Expr) (pins : List (Addr × Obj)) (s : Shared) (σ : St) (H : Hp) (x y : V) (v u : Value) (Q : VK), Inv X pins σ H s → RelV x v → RelV y u → r x y H Q →
    subscripted slice false v u = operate [v, u] (getItem v u) → wpAny (model X.prog X.w) X.A (subscriptTail value slice v u) (EP X pins σ Q) X.xe s
def MtR (X : Cx) (id : String) (r : V → List V → Hp → VK → Prop) : Prop :=
  ∀ (pins : List (Addr × Obj)) (s : Shared) (σ : St) (H : Hp) (x : V) (xs : List V) (v : Value) (us : List Value) (Q : VK), Inv X pins σ H s → RelV x v → Vals xs us → r x xs H Q →
    wpAny (model X.prog X.w) X.A (call (.builtin id) (v :: us)) (EP X pins σ Q) X.xe s
section
variable {X : Cx} {a b : Expr} {ta tb : TE} {pos : Pos}
theorem pe_ix {r : R2} (hr : IxR X r) (ha : PE X a ta) (hb : PE X b tb) (hs : PlainIx b) : PE X (.Subscript a b pos) (tOp r ta tb) := by
  intro pins s σ H Q I h
  exact Subscript_ (binT ha hb I h fun v u s2 x y H2 I2 rx ry q => hr a b pins s2 σ H2 x y v u Q I2 rx ry q (hs _ _))
def rIxL (K : PySem.W.Frag) : R2 := fun x y H Q => ∃ p xs i v, x = .ref p ∧ y = .int i ∧ SqL K H p xs ∧ atI xs i = some v ∧ Q v H
def rIxT (K : PySem.W.Frag) : R2 := fun x y H Q => ∃ p xs i v, x = .ref p ∧ y = .int i ∧ SqT K H p xs ∧ atI xs i = some v ∧ Q v H
def rIxS : R2 := fun x y H Q => ∃ z i c, x = .str z ∧ y = .int i ∧ z.length ≤ sizeLine ∧ atI z.cps.toList i = some c ∧ Q (.str ⟨#[c]⟩) H
theorem ix_list : IxR X (rIxL X.K) := by
  intro value slice pins s σ H x y v u Q I rx ry h hs
  obtain ⟨p, xs, i, z, rfl, rfl, hq, he, q⟩ := h
  cases rx
  obtain ⟨t, rfl⟩ := ry
  obtain ⟨its, r, pl, hz⟩ := I.list hq
  obtain ⟨j, h1, h2, h3, h4, h5⟩ := atI_get he
  obtain ⟨w, ew, rw'⟩ := r.get h2
  have hl := r.length
  have hn := line63
  have fin : EP X pins σ Q w s := ⟨z, H, I, rw', q⟩
  by_cases h0 : 0 ≤ i
  · have hj : i.toNat = j := by
      rw [seqIndex_of h0 h5] at h1
      exact Option.some.inj h1
    exact item_listR pl.isList h0 (by omega) (by rw [hj]; simpa using ew) fin hs
  · have hj : (i + (its.toArray.size : Int)).toNat = j := by
      rw [seqIndex_neg (by omega) h4] at h1
      rw [List.size_toArray, ← hl]
      exact Option.some.inj h1
    exact subscriptTail_builtinR (x := w) pl.isList.typeIs slot_list_getitem.lookup
      (wpAny_getItem_list_neg (Q := fun r s' => r = w ∧ EP X pins σ Q r s') pl.isList (by omega) (by rw [List.size_toArray] <;> omega) (by omega) (by rw [hj]; simpa using ew) ⟨rfl, fin⟩) hs
theorem ix_tup : IxR X (rIxT X.K) := by
  intro value slice pins s σ H x y v u Q I rx ry h hs
  obtain ⟨p, xs, i, z, rfl, rfl, hq, he, q⟩ := h
  cases rx
  obtain ⟨t, rfl⟩ := ry
  obtain ⟨its, r, pl, hz⟩ := I.tuple hq
  obtain ⟨j, h1, h2, h3, h4, h5⟩ := atI_get he
  obtain ⟨w, ew, rw'⟩ := r.get h2
  have hl := r.length
  have hn := line63
  have fin : EP X pins σ Q w s := ⟨z, H, I, rw', q⟩
  exact subscriptTail_builtinR (x := w) pl.typeIs slot_tuple_getitem.lookup
    (getItem_tuple (j := j) (Q := fun r s' => r = w ∧ EP X pins σ Q r s') pl (by omega) (by omega) (by rw [List.size_toArray, ← hl]; exact h1) (by simpa using ew) ⟨rfl, fin⟩) hs
theorem ix_str : IxR X rIxS := by
  intro value slice pins s σ H x y v u Q I rx ry h hs
  obtain ⟨z, i, c, rfl, rfl, hz, he, q⟩ := h
  obtain ⟨t, rfl⟩ := rx
  obtain ⟨t', rfl⟩ := ry
  obtain ⟨j, h1, h2, h3, h4, h5⟩ := atI_get he
  have hl : z.cps.toList.length = z.length := by simp [Str.length]
  rw [hl] at h1 h4 h5
  have hn := line63
  exact tail_any (typeIs_str s z t) slot_str_getitem.lookup (getItem_str (c := c) (by
    have e1 : decide (i < -(2 ^ 63 : Int)) = false := decide_eq_false (by omega)
    have e2 : decide (i ≥ 2 ^ 63) = false := decide_eq_false (by omega)
    rw [e1, e2, Bool.or_false]) (by rw [h1]; simpa using h2) ⟨.str ⟨#[c]⟩, H, I.tok _, ⟨_, rfl⟩, q⟩) hs
theorem slice_bounds (lo hi : Option Int) (n : Nat) : (sliceBounds lo hi none n).1 = ((HT.sIx n 0 lo : Nat) : Int) ∧ (sliceBounds lo hi none n).2.1 = ((HT.sIx n n hi : Nat) : Int) ∧ (sliceBounds lo hi none n).2.2 = 1 := by
  refine ⟨?_, ?_, rfl⟩
  · cases lo with
    | none => simp [sliceBounds, HT.sIx]
    | some i =>
      simp only [sliceBounds, HT.sIx, Option.getD_none, show (1 : Int) > 0 by decide, if_true]
      by_cases h : i < 0
      · simp only [h, if_true] <;> omega
      · simp only [h, if_false] <;> omega
  · cases hi with
    | none => simp [sliceBounds, HT.sIx]
    | some i =>
      simp only [sliceBounds, HT.sIx, Option.getD_none, show (1 : Int) > 0 by decide, if_true]
      by_cases h : i < 0
      · simp only [h, if_true] <;> omega
      · simp only [h, if_false] <;> omega
theorem slicePick_cut (its : List Value) (lo hi : Option Int) : slicePick its.toArray lo hi none = ((its.drop (HT.sIx its.length 0 lo)).take (HT.sIx its.length its.length hi - HT.sIx its.length 0 lo)).toArray := by
  obtain ⟨h1, h2, h3⟩ := slice_bounds lo hi its.toArray.size
  unfold slicePick
  rw [h1, h2, h3]
  simp only [sliceRange_one, pick_run, List.size_toArray] <;> rfl
def rSlL (K : PySem.W.Frag) : V → Option Int → Option Int → Hp → VK → Prop := fun x lo hi H Q => ∃ a xs, x = .ref a ∧ SqL K H a xs ∧ ∀ p, H p = none → Q (.ref p) (upd H p (.lst (cutV xs lo hi)))
theorem sl_list : SlR X (rSlL X.K) := by
  intro pins s σ H x v vl vu lo hi sl Q I rx hs pl pu h
  obtain ⟨a, xs, rfl, hx, q⟩ := h
  cases rx
  obtain ⟨its, r, ht, hz⟩ := I.list hx
  have hlen := r.length
  refine ⟨"list", _, slot_list_getitem.lookup, ht.isList.typeIs, ?_⟩
  refine wpAny_getItem_list_slice ht.isList hs pl pu .none (by simp) ?_ (by rw [List.size_toArray] <;> omega)
  rw [slicePick_cut, ← hlen]
  refine ⟨.ref s.heap.objs.size, _, I.laid (t' := s.toks) (o := .lst (cutV xs lo hi)) (fun b ob q => Heap.get?_push_of_some _ q) (Nat.le_refl _) ?_, rfl, q _ (I.hok.fresh (Nat.le_refl _))⟩
  exact ⟨Nat.le_trans (cutV_length xs lo hi) hz, _, 0, (r.drop (HT.sIx xs.length 0 lo)).take (HT.sIx xs.length xs.length hi - HT.sIx xs.length 0 lo), Heap.get?_push_size _ rfl⟩
theorem call_len_seq : CallR X (.builtin "len") (fun xs H Q => ∃ p ys, xs = [.ref p] ∧ (SqL X.K H p ys ∨ SqT X.K H p ys) ∧ Q (.int ys.length) H) := by
  intro pins s σ H xs us Q I r h
  obtain ⟨p, ys, rfl, hq, q⟩ := h
  obtain ⟨u, rfl, rx⟩ := vals1 r
  cases rx
  have hn := line63
  rcases hq with hq | hq
  · obtain ⟨its, r', pl, hz⟩ := I.list hq
    have hlen := r'.length
    exact Calls.call_len_list pl.isList (by simp only [List.size_toArray] <;> omega) ⟨.int ys.length, H, I.tok _, ⟨s.toks + 1, by rw [List.size_toArray, hlen]⟩, q⟩
  · obtain ⟨its, r', pl, hz⟩ := I.tuple hq
    have hlen := r'.length
    exact len_tuple pl (by simp only [List.size_toArray] <;> omega) ⟨.int ys.length, H, I.tok _, ⟨s.toks + 1, by rw [List.size_toArray, hlen]⟩, q⟩
theorem call_len_str : CallR X (.builtin "len") (fun xs H Q => ∃ z, xs = [.str z] ∧ z.length ≤ sizeLine ∧ Q (.int z.length) H) := by
  intro pins s σ H xs us Q I r h
  obtain ⟨z, rfl, hz, q⟩ := h
  obtain ⟨u, rfl, t, rfl⟩ := vals1 r
  have hn := line63
  exact len_str (by omega) ⟨.int z.length, H, I.tok _, ⟨_, rfl⟩, q⟩
theorem call_tuple_of : CallR X (.type "tuple") (fun xs H Q => ∃ p ys, xs = [.ref p] ∧ ((SqL X.K H p ys ∧ ∀ l, H l = none → Q (.ref l) (upd H l (.tup ys))) ∨ (SqT X.K H p ys ∧ Q (.ref p) H))) := by
  intro pins s σ H xs us Q I r h
  obtain ⟨p, ys, rfl, h⟩ := h
  obtain ⟨u, rfl, rx⟩ := vals1 r
  cases rx
  rcases h with ⟨hq, q⟩ | ⟨hq, q⟩
  · obtain ⟨its, r', pl, hz⟩ := I.list hq
    have hlen := r'.length
    refine call_tuple_list pl.isList (fun h' kp => ?_) (by simp only [List.size_toArray] <;> omega)
    have I1 : Inv X pins σ H { s with heap := h' } := I.kept (t' := s.toks) kp
    have I2 : Inv X pins σ (upd H h'.objs.size (.tup ys)) { s with heap := h'.push { cls := .type "tuple", data := .seq its.toArray } } :=
      I1.laid (t' := s.toks) (fun b o e => Heap.get?_push_of_some _ e) (Nat.le_refl _) (show ObjOk X.prog X.w _ _ _ (.tup ys) from ⟨hz, its, r', IsTup.new _ _⟩)
    exact ⟨.ref h'.objs.size, _, I2, rfl, q _ (I1.hok.fresh (Nat.le_refl _))⟩
  · obtain ⟨its, r', pl, hz⟩ := I.tuple hq
    exact call_tuple_same pl ⟨.ref p, H, I, rfl, q⟩
def tyV (K : PySem.W.Frag) (T : String) (x : V) (H : Hp) : Prop := match x with
  | .str _ => T = "str"
  | .int _ => T = "int"
  | .ref p => (T = "list" ∧ ∃ xs, SqL K H p xs) ∨ (T = "tuple" ∧ ∃ o, K.lookup p = some o ∧ o.cls = .type "tuple" ∧ o.dict = none) ∨
      (T = "dict" ∧ ((∃ kvs, H p = some (.dK kvs)) ∨ ∃ kvs, H p = some (.dT kvs))) ∨ (T = "set" ∧ ∃ S n, H p = some (.set S n))
  | _ => False
theorem tyV_is {pins : List (Addr × Obj)} {σ : St} {H : Hp} {s : Shared} {T : String} {x : V} {v : Value} (I : Inv X pins σ H s) (r : RelV x v) (ty : tyV X.K T x H) :
    s.TypeIs v T ∧ ∀ a, v = .ref a → ∃ ob, s.heap.get? a = some ob ∧ ob.dict = none := by
  cases x with
  | str z =>
    obtain ⟨t, rfl⟩ := r
    cases (show T = "str" from ty)
    exact ⟨typeIs_str s z t, fun _ e => nomatch e⟩
  | int i =>
    obtain ⟨t, rfl⟩ := r
    cases (show T = "int" from ty)
    exact ⟨typeIs_int s i t, fun _ e => nomatch e⟩
  | ref p =>
    cases r
    rcases ty with ⟨rfl, xs, hq⟩ | ⟨rfl, o, hk, hc, hd⟩ | ⟨rfl, hk⟩ | ⟨rfl, S, n, hk⟩
    · obtain ⟨its, _, pl, _⟩ := I.list hq
      refine ⟨pl.isList.typeIs, fun a e => ?_⟩
      cases e
      obtain ⟨o, n, e, c, hd, _⟩ := pl
      exact ⟨o, e, hd⟩
    · refine ⟨⟨o, I.kIn p o hk, hc⟩, fun a e => ?_⟩
      cases e
      exact ⟨o, I.kIn _ o hk, hd⟩
    · have z : ∃ o, s.heap.get? p = some o ∧ o.ExactDict := by
        rcases hk with ⟨kvs, hk⟩ | ⟨kvs, hk⟩
        · obtain ⟨_, _, _, _, o, _, _, e, ex, _⟩ := I.hok p _ hk
          exact ⟨o, e, ex⟩
        · obtain ⟨_, _, _, _, o, _, _, e, ex, _⟩ := I.hok p _ hk
          exact ⟨o, e, ex⟩
      obtain ⟨o, e, ex⟩ := z
      refine ⟨⟨o, e, ex.1⟩, fun a e2 => ?_⟩
      cases e2
      exact ⟨o, e, ex.2.1⟩
    · obtain ⟨o, _, _, _, e, ex, _⟩ := I.hok p _ hk
      refine ⟨⟨o, e, ex.1⟩, fun a e2 => ?_⟩
      cases e2
      exact ⟨o, e, ex.2.1⟩
  | _ => exact False.elim ty
def tBM (K : PySem.W.Frag) (T : String) (r : V → List V → Hp → VK → Prop) (to : TE) (t : TA) : TE := fun σ H Q => to σ H fun x H1 => tyV K T x H1 ∧ t σ H1 fun xs H2 => r x xs H2 Q
variable {o e : Expr} {es : List Expr} {to : TE} {t : TA} {name : Str} {apos cpos : Pos} {T id : String} {r : V → List V → Hp → VK → Prop}
theorem pe_bm (pa : PlainAttrs T) (slot : Slot T name id) (hty : typeOf (.builtin id) = pure (.type "method_descriptor")) (hm : MtR X id r) (ho : PE X o to) (ha : PA X (e :: es) t)
    (hbase : attributeBase o name X.env (eval o X.env) = eval o X.env := by rfl)
    (hfew : ((backTo cpos (starEach (e :: es) X.env)).all (fun x => !x.1) && (backToKw cpos (keywordEach [] X.env)).all (fun x => x.1.isSome)
      && decide ((e :: es).length + ([] : List Keyword).length + (if ([] : List Keyword).isEmpty then 0 else 1) < 30)) = true := by rfl)
    (hline : (apos.endLine == cpos.line) = true := by rfl) (hs : starEach (e :: es) X.env = (false, eval e X.env) :: starEach es X.env := by rfl) (hplain : (backTo cpos (starEach es X.env)).any (·.1) = false := by rfl) :
    PE X (.Call (.Attribute o name apos) (e :: es) [] cpos) (tBM X.K T r to t) := by
  intro pins s σ H Q I h
  refine wpAny_Call_method_late hbase hfew hline rfl (thn (ho pins s σ H _ I h) fun v s1 ⟨x, H1, I1, r1, ty, q1⟩ => ?_)
  obtain ⟨h1, h2⟩ := tyV_is I1 r1 ty
  refine ⟨T, id, pa, slot, hty, h1, h2, ?_⟩
  have hA := ha cpos pins s1 σ H1 _ I1 q1
  rw [hs] at hA ⊢
  refine Calls.callWith_builtin (by show (false || (backTo cpos (starEach es X.env)).any (·.1)) = false; rw [hplain] <;> rfl) (Calls.evalArgs_plain ?_)
  exact thn hA fun us s2 ⟨vs, H2, I2, r2, q2⟩ => hm pins s2 σ H2 x vs v us Q I2 r1 r2 q2
/- xs.append(e), list.index on a module's tuple .. are MtR facts of 06m -/
end
end L2
namespace L2
open PySem PySem.Spec PyProof.Rows
def MtM (X : Cx) (id : String) (r : V → List V → Hp → VK → Prop) : Prop :=
  ∀ (pins : List (Addr × Obj)) (s : Shared) (σ : St) (H : Hp) (x : V) (xs : List V) (v : Value) (us : List Value) (Q : VK), Inv X pins σ H s → RelV x v → Vals xs us → r x xs H Q →
    wpAny (model X.prog X.w) X.A (call (.builtin id) (v :: us)) (EP X pins σ Q) X.xe s
theorem Vals.one : ∀ {x : V} {us : List Value}, Vals [x] us → ∃ u, us = [u] ∧ RelV x u
  | _, _, .cons r .nil => ⟨_, rfl, r⟩
theorem Vals.two : ∀ {x y : V} {us : List Value}, Vals [x, y] us → ∃ u v, us = [u, v] ∧ RelV x u ∧ RelV y v
  | _, _, _, .cons r (.cons q .nil) => ⟨_, _, rfl, r, q⟩
section
variable {X : Cx} {pins : List (Addr × Obj)} {σ : St} {H : Hp} {s : Shared} {l b : Addr} {xs ys zs : List V}
theorem Inv.lset {its its' : List Value} {n : Nat} {f : Array Value → Array Value} {t' : Nat} (I : Inv X pins σ H s) (hH : H l = some (.lst xs))
    (e : s.heap.get? l = some { cls := .type "list", data := .seq its.toArray n }) (hf : f its.toArray = its'.toArray) (hv : Vals ys its') (hz : ys.length ≤ sizeLine) :
    Inv X pins σ (upd H l (.lst ys)) { s with heap := s.heap.update l (Obj.mapSeq f), toks := t' } := by
  have q := PySem.IsL.update e f
  rw [hf] at q
  refine I.write (x := l) (e := l) (by rw [hH]; exact trivial) (.inl rfl) (fun b' u hb hu => (Heap.get?_update_other s.heap (Obj.mapSeq f) (Ne.symm hb)).trans hu) ⟨_, q⟩ ?_
  exact ⟨hz, its', _, hv, q⟩
theorem Inv.lnew {its : List Value} {t' : Nat} (I : Inv X pins σ H s) (hv : Vals ys its) (hz : ys.length ≤ sizeLine) :
    Inv X pins σ (upd H s.heap.objs.size (.lst ys)) { s with heap := s.heap.push { cls := .type "list", data := .seq its.toArray }, toks := t' } :=
  I.laid (fun _ _ q => Heap.get?_push_of_some _ q) (Nat.le_refl _) ⟨hz, its, 0, hv, Heap.get?_push_size _ rfl⟩
theorem Inv.fresh (I : Inv X pins σ H s) : H s.heap.objs.size = none := I.hok.fresh (Nat.le_refl _)
theorem Inv.lstM (I : Inv X pins σ H s) (hH : H l = some (.lst xs)) : xs.length ≤ sizeLine ∧ ∃ (its : List Value) (n : Nat), Vals xs its ∧ xs.length = its.length ∧ s.heap.get? l = some { cls := .type "list", data := .seq its.toArray n } := by
  obtain ⟨z, its, n, r, e⟩ := I.hok l _ hH
  exact ⟨z, its, n, r, r.length, e⟩
end
section
variable {X : Cx}
def rAppend : V → List V → Hp → VK → Prop := fun x vs H Q => ∃ l xs y, x = .ref l ∧ vs = [y] ∧ H l = some (.lst xs) ∧ xs.length < sizeLine ∧ Q .non (upd H l (.lst (xs ++ [y])))
theorem mt_append : MtM X "list.append" rAppend := by
  intro pins s σ H x vs v us Q I rx rv h
  obtain ⟨l, xs, y, rfl, rfl, hH, hz, q⟩ := h
  cases rx
  obtain ⟨u, rfl, ru⟩ := rv.one
  obtain ⟨z, its, n, r, hl, e⟩ := I.lstM hH
  refine call_meets F.slot_list_append ⟨_, e, rfl⟩ F.entry_list_append (F.args_list_append_2 _ _) (PySem.list_append l its.toArray n u (by rw [List.size_toArray]; omega)) ⟨e, ?_⟩
  refine ⟨.non, _, I.lset (its' := its ++ [u]) hH e (by simp) (r.append (.cons ru .nil)) ?_, rfl, q⟩
  rw [List.length_append, List.length_singleton]
  omega
end
section
variable {prog : Program} {w : World} {A : Around} {E : Value → Shared → Prop} {s : Shared}
set_option maxRecDepth 100000 in
end
section
variable {X : Cx}
end
end L2
namespace Att
open PySem PySem.W PySem.Calls PyProof.Rows
theorem ints_of_wellAll {P : Params} {h : Heap} : ∀ (ns : List Int) (vs : List Value), WellAll P h vs (ns.map WData.int) → IntsAre vs ns := by
  intro ns
  induction ns with
  | nil =>
    intro vs w
    rw [List.map_nil] at w
    cases w
    exact .nil
  | cons n ns ih =>
    intro vs w
    rw [List.map_cons] at w
    cases w with
    | cons a b =>
      cases a
      exact .cons _ _ (ih _ b)
theorem script_of {l : OpenLaw} {n : Nat} (hn : l.most = some n) {P : Params} {h : Heap} {args : List WData} {vals : List Value}
    (hpre : l.row.toRowW.claim.pre args = true) (hwl : WellAll P h vals args) :
    ∃ a vs ns, vals = [Value.ref a] ∧ args = [WData.list (ns.map WData.int)] ∧ h.get? a = some { cls := .type "list", data := .seq vs.toArray } ∧ IntsAre vs ns ∧ ns.length ≤ n := by
  have hsh : WShape.hasAll [] args [.list .int] = true := (pre_splitW hpre).1
  have hc : l.pre.holds [] { args := args } = true := (pre_splitW hpre).2
  obtain ⟨d, r, rfl, h1, h2⟩ := hasAllW_cons hsh
  obtain rfl := hasAllW_nil h2
  obtain ⟨xs, rfl, h3⟩ := hasW_list h1
  obtain ⟨ns, rfl⟩ := items_int h3
  have hlen : ns.length ≤ n := by
    unfold OpenLaw.pre at hc
    have h4 : (WTm.not (.lt (.lit (.int (n : Int))) (.len (.arg 0)))).holds [] { args := [.list (ns.map .int)] } = true := by
      have h4 := (holds_andW hc).1
      rw [hn] at h4
      exact h4
    have h5 := condW_of h4 (w_not (w_lt w_lit (w_len_list (w_arg rfl))))
    rw [List.length_map] at h5
    refine Nat.le_of_not_lt fun q => ?_
    have q' : (n : Int) < ((ns.length : Nat) : Int) := by omega
    first
      | (rw [decide_eq_true q'] at h5; exact absurd h5 (by decide))
      | (simp at h5; omega)
  cases hwl with
  | cons w1 w2 =>
    cases w2
    cases w1 with
    | list ho hall => exact ⟨_, _, ns, rfl, rfl, ho, ints_of_wellAll ns _ hall, hlen⟩
theorem post_true (l : OpenLaw) (args : List WData) : l.row.toRowW.claim.post args (.bool true) args = true :=
  postW_of (r := l.row.toRowW) (X := (true == true))
    (show WShape.has [] (.bool true) .bool = true by first | rfl | decide | simp [WShape.has, WShape.arms, WShape.armsAll])
    (show (WTm.eq .res (.lit (.bool true))).value [] { args := args, res := some (.bool true), after := args } = some (.bool (true == true)) from w_eq_bool (w_res rfl) w_lit) rfl
theorem attach_call {l : OpenLaw} {n : Nat} {q : Program} {loose : List Str} {XP : (Str → Option Value) → Heap → Prop} {YP : World → Heap → Prop} {d : DefRec}
    (hn : l.most = some n) (hdf : d.params.defaults = [])
    (call : ∀ (w : World) (s₀ s₁ : Shared) (mg mb : Str → Option Value) (fa : Addr) (o : Obj) (pm cd doc : Value) (a : Addr) (vs : List Value) (ns : List Int),
      Ground q loose [] XP w s₀ mg mb s₁.heap → YP w s₁.heap →
      s₁.heap.get? fa = some o → o.data = .func (docDef d.name d.params d.body d.scope pm cd doc) → s₁.heap.CodeRec cd d.name → mg d.name = some (.ref fa) →
      s₁.heap.get? a = some { cls := .type "list", data := .seq vs.toArray } → IntsAre vs ns → ns.length ≤ n → s₁.gens = #[] →
      codeAny (model l.prog w) callerA (.call (.ref fa) ⟨[.ref a], []⟩) (fun r s' => r = .ok (.ret (.bool true)) ∧ OldK s₁.heap s'.heap ∧ s'.os = s₁.os ∧ AllBare s'.gens) s₁) :
    WalkO q loose XP YP l.row.toRowW d [] (fun f vs => PySem.call f vs) := by
  intro w s₀ s₁ mg mb G Y fa o pm cd doc dV kV ho hd hcd hD hmg hg args vals as hpre hlay hrd hwl hlo
  obtain rfl : dV = .none := Dflts.none hD hdf
  obtain rfl : kV = .none := Dflts.noKw hD
  obtain ⟨a, vs, ns, rfl, rfl, hobj, hints, hlen⟩ := script_of hn hpre hwl
  refine enter_call (codeAny_mono (call w s₀ s₁ mg mb fa o pm cd doc a vs ns G Y ho (fd_plain hd) hcd hmg hobj hints hlen hg) fun r s' hq => ?_)
  obtain ⟨rfl, h2, h3, h4⟩ := hq
  exact ⟨.inl ⟨.bool true, .bool true, [], rfl, fun _ => rfl, .bool true, post_true l _, fun _ => ⟨List.Pairwise.nil, fun _ hm => (nomatch hm)⟩⟩, h2, h3, h4⟩
section
variable {prog : Program} {w : World} {A : Around} {E : Value → Shared → Prop} {s : Shared} {K : Frag}
def ledger (h : Heap) (L d : Addr) : List (Addr × Obj) := (List.range h.objs.size).filterMap fun a => if a = L ∨ a = d then none else (h.get? a).map fun o => (a, o)
end
end Att
namespace L2
open PySem PySem.Spec PyProof.Rows
theorem vals_ints : ∀ {vs : List Value} {ns : List Int}, IntsAre vs ns → Vals (ns.map V.int) vs
  | _, _, .nil => .nil
  | _, _, .cons n t h => .cons ⟨t, rfl⟩ (vals_ints h)
def Only (H : Hp) : Prop := ∀ b, H b = none ∨ ∃ o xs, H b = some (.frz o (.lst xs))
theorem law_call {P : Program} {w : World} {K : PySem.W.Frag} {mg mb : Str → Option Value} {CX : CXT} {k : Nat} {fa a : Addr} {fd : FuncData} {x : Str} {sp : Sp} {s₁ : Shared} {vs : List Value} {ns : List Int}
    (KX : K.In s₁.heap) (hns : s₁.heap.Ns mainGlobals mg) (hb : s₁.heap.Ns builtinsNs mb) (hbb : ∀ x : Str, x ≠ "__name__" → mb x = bootBuiltins x) (hlim : s₁.heap.NoLimit) (hg : s₁.gens = #[])
    (ha : s₁.heap.get? a = some { cls := .type "list", data := .seq vs.toArray }) (hi : IntsAre vs ns) (hl : ns.length ≤ sizeLine) (hr : Room k callerA)
    (F : ∀ base : Heap, K.In base → base.Ns mainGlobals mg → FnOk P w K mg base CX k fa fd [x] sp) (hbind : ∀ (s : Shared) (u : Value), BindsTo s fd ⟨[u], []⟩ [(x, u)])
    (hsp : ∀ H : Hp, Only H → SqL K H a (ns.map V.int) → sp [.ref a] H (fun v _ => v = .bl true) fun _ _ _ => False)
    (hCX : ∀ H e s', CX [] H s₁ (fun _ _ _ => False) e s' → False) :
    codeAny (model P w) callerA (.call (.ref fa) ⟨[.ref a], []⟩) (fun r s' => r = .ok (.ret (.bool true)) ∧ OldK s₁.heap s'.heap ∧ s'.os = s₁.os ∧ AllBare s'.gens) s₁ := by
  have rv := vals_ints hi
  have lenV := hi.length
  have core : ∀ H : Hp, Only H → SqL K H a (ns.map V.int) → HOk P w H s₁.heap → (∀ b, H b ≠ none → b = a) → (H a ≠ none → K.lookup a = none) →
      codeAny (model P w) callerA (.call (.ref fa) ⟨[.ref a], []⟩) (fun r s' => r = .ok (.ret (.bool true)) ∧ OldK s₁.heap s'.heap ∧ s'.os = s₁.os ∧ AllBare s'.gens) s₁ := by
    intro H hO hS hok hA hK
    have base_of : ∀ {b : Addr} {o : Obj}, s₁.heap.get? b = some o → H b = none → (hidT s₁.heap H).get? b = some o := fun e n => hidT_get e n
    have noA : ∀ {b : Addr} {o : Obj} {es : Array DictEntry} {ep : Nat}, s₁.heap.get? b = some o → o.data = .dict es ep → H b = none := fun {b o es ep} e d => by
      cases q : H b with
      | none => rfl
      | some u =>
        have e' : b = a := hA b (by rw [q]; simp)
        subst e'
        rw [ha] at e; cases e
        have d' : Data.seq vs.toArray _ = Data.dict es ep := d
        cases d'
    have nsK : ∀ {b : Addr} {m : Str → Option Value}, s₁.heap.Ns b m → (hidT s₁.heap H).Ns b m := fun {b m} ⟨o, es, ep, e, d, r⟩ => ⟨o, es, ep, base_of e (noA e d), d, r⟩
    have hKb : K.In (hidT s₁.heap H) := fun b o e => base_of (KX b o e) (by
      cases q : H b with
      | none => rfl
      | some u =>
        have e' : b = a := hA b (by rw [q]; simp)
        subst e'
        rw [hK (by rw [q]; simp)] at e; cases e)
    have hM : Mod K mg (hidT s₁.heap H) := ⟨hKb, nsK hns, ⟨mb, nsK hb, hbb⟩, let ⟨mc, h1, h2⟩ := hlim; ⟨mc, nsK h1, h2⟩⟩
    have e0 : Env0 P w K mg (hidT s₁.heap H) callerA [] s₁ H := ⟨rfl, hM, fun b o e => of_hidT e, Nat.le_of_eq (hidT_size _ _), trivial, fun b hb => absurd (show b ∈ ([] : List Addr) from hb) (by simp), hok, .of_eq hg⟩
    refine codeAny_mono ((F _ hKb (nsK hns)).run callerA [] s₁ H ⟨[.ref a], []⟩ [.ref a] [.ref a] _ _ hr e0 (hbind s₁ (.ref a)) (.cons rfl .nil) (hsp H hO hS)) fun r s' h => ?_
    cases r with
    | error e => exact (hCX H e s' h).elim
    | ok fl =>
      cases fl with
      | next => exact False.elim h
      | brk => exact False.elim h
      | cont => exact False.elim h
      | ret u =>
        obtain ⟨v, H', os, bare, un, hok', r', q⟩ := h
        have q' : v = .bl true := q
        subst q'
        obtain rfl : u = Value.bool true := r'
        refine ⟨rfl, OldK.of_keep fun b o e => ?_, os, bare⟩
        cases q : H b with
        | none => exact un.keep b o e q (by intro z; exact absurd (show b ∈ ([] : List Addr) from z) (by simp)) (by simp)
        | some u =>
          rcases hO b with z | ⟨ob, xs, z⟩
          · rw [q] at z; cases z
          · have z2 := un.frzs b ob _ z
            obtain ⟨e1, _⟩ := hok b _ z
            obtain ⟨e2, _⟩ := hok' b _ z2
            rw [e] at e1; cases e1
            exact e2
  cases hk : K.lookup a with
  | some o =>
    have e := KX a o hk
    rw [ha] at e
    cases e
    refine core (fun _ => none) (fun _ => .inl rfl) (.inr ⟨_, vs.toArray, _, hk, rfl, rfl, rfl, by rw [List.size_toArray, lenV]; exact hl, by simpa using rv⟩) (fun b u z => by have z' : (none : Option HO) = some u := z; cases z') (fun b z => absurd rfl z) fun z => absurd rfl z
  | none =>
    refine core (fun b => if b = a then some (.frz { cls := .type "list", data := .seq vs.toArray } (.lst (ns.map V.int))) else none) (fun b => ?_) (.inl (.inr ⟨{ cls := .type "list", data := .seq vs.toArray }, if_pos rfl⟩)) (fun b u z => ?_) (fun b z => ?_) fun _ => hk
    · by_cases hb : b = a
      · exact .inr ⟨_, _, if_pos hb⟩
      · exact .inl (if_neg hb)
    · by_cases hb : b = a
      · have z' := (if_pos hb).symm.trans z
        cases z'
        subst hb
        exact ⟨ha, by rw [List.length_map]; exact hl, vs, _, rv, ha⟩
      · have z' := (if_neg hb).symm.trans z
        cases z'
    · by_cases hb : b = a
      · exact hb
      · exact absurd (if_neg hb) z
end L2
namespace L2
open PySem PySem.Spec PyProof.Rows
abbrev KOf {K : PySem.W.Frag} {h : Heap} (_ : K.In h) : PySem.W.Frag := K
theorem walk_of {l : PySem.W.OpenLaw} {n k : Nat} {q : Program} {loose : List Str} {XP : (Str → Option Value) → Heap → Prop} {YP : World → Heap → Prop} {d : DefRec} {K : Params → PySem.W.Frag} {CX : World → CXT} {sp : World → Sp} {x : Str}
    (hn : l.most = some n) (hn2 : n ≤ sizeLine) (hdf : d.params.defaults = []) (hr : Room k callerA)
    (hY : ∀ (w : World) (h : Heap), YP w h → (K w.params).In h)
    (F : ∀ (w : World) (mg : Str → Option Value) (fa : Addr) (h : Heap), (K w.params).In h → h.Ns mainGlobals mg → mg d.name = some (.ref fa) →
      ∃ fd : FuncData, (∀ (s : Shared) (u : Value), BindsTo s fd ⟨[u], []⟩ [(x, u)]) ∧
        ∀ base : Heap, (K w.params).In base → base.Ns mainGlobals mg → FnOk l.prog w (K w.params) mg base (CX w) k fa fd [x] (sp w))
    (hsp : ∀ (w : World) (H : Hp) (a : Addr) (ns : List Int), ns.length ≤ n → Only H → SqL (K w.params) H a (ns.map V.int) → sp w [.ref a] H (fun v _ => v = .bl true) fun _ _ _ => False)
    (hCX : ∀ (w : World) (H : Hp) (s : Shared) (e : Value) (s' : Shared), CX w [] H s (fun _ _ _ => False) e s' → False) :
    PySem.W.WalkO q loose XP YP l.row.toRowW d [] (fun f vs => PySem.call f vs) := by
  refine Att.attach_call hn hdf fun w s₀ s₁ mg mb fa o pm cd doc a vs ns G Y ho hd hcd hmg hobj hints hlen hg => ?_
  have KX := hY w _ Y
  obtain ⟨fd, hb, hF⟩ := F w mg fa _ KX G.T.g hmg
  exact law_call KX G.T.g G.T.b G.T.builtins G.T.nolimit hg hobj hints (Nat.le_trans hlen hn2) hr hF hb (fun H hO hS => hsp w H a ns hlen hO hS) fun H e s' => hCX w H s₁ e s'
end L2
/- THE LAST THEOREM (shape; LID, My.* are yours):
   My.Adr: a structure of the addresses that your layer names (classes, functions); My.Txt K t: a structure (Prop) of the equations over K;
   My.txt_mk : {K} {implicit addresses ..} (e1 : nsIn K mainGlobals "law" = some (some (.ref f))) (e2 : K.lookup f = some ⟨oc, od, .func (fnOf "law" "law" params body scope dV kV doc pm an cdv ct), sl⟩) (e3 : codeIn K cdv "law" = true) .. : ∃ t, My.Txt K t
set_option maxRecDepth 100000 in
set_option maxHeartbeats 0 in
theorem PySem.Challenge.cw_LID_holds : PySem.Challenge.rw_LID.Holds := by
  w_on; o_law; k_head; (case hw => w_witness2)
  k_fill
  refine L2.walk_of (l := PySem.Challenge.rw_LID) (n := 63) (k := 40) (x := "script") (CX := fun w => ..) (sp := fun _ => My.sp_law) rfl (by decide) rfl ⟨rfl, by decide, by decide⟩ (fun w h Y => PySem.W.kIn_of Y) ?F ?S ?C
  case F =>
    intro w mg fa h KX G hmg
    have T : ∃ t, My.Txt (L2.KOf KX) t := by
      dsimp only [L2.KOf]                          -- K must stand as «<heap const> w.params» for k_is
      refine' My.txt_mk ?e1 ?e2 ?e3 ..
      (case e1 => PySem.W.k_is)                    -- in the order: a name -> its address -> its object -> its parts
      (case e2 => PySem.W.k_is)
      ..
    obtain ⟨t, T⟩ := T
    have e0 := hmg.symm.trans (PySem.W.mg_of KX G T.law)
    cases e0                                       -- fa is the law's own address
    exact ⟨_, fun s u => .of_eq rfl, fun base kb nb => My.law_fn T kb nb⟩     -- if «.of_eq rfl» comes too early: refine' ⟨_, ?b, fun base kb nb => My.law_fn T kb nb⟩; exact fun s u => .of_eq rfl
  case S => exact fun w H a ns hl hO hS => ..
  case C => exact ..
(the tactic k_is has no namespace: write k_is) -/
namespace L2
open PySem PySem.Spec PyProof.Rows
def inClass (s : Stmt) (j : Nat) : Stmt := match s with
  | .ClassDef _ _ _ body _ _ _ _ _ _ _ => body.getD j (.Pass ⟨0, 0, 0, 0⟩)
  | _ => .Pass ⟨0, 0, 0, 0⟩
def defArgs (s : Stmt) : Arguments := match s with
  | .FunctionDef _ a _ _ _ _ _ _ _ _ => a
  | _ => { posonlyargs := [], args := [], vararg := none, kwonlyargs := [], kw_defaults := [], kwarg := none, defaults := [] }
def defBody (s : Stmt) : List Stmt := match s with
  | .FunctionDef _ _ b _ _ _ _ _ _ _ => b
  | _ => []
def defScope (s : Stmt) : Scope := match s with
  | .FunctionDef _ _ _ _ _ _ sc _ _ _ => sc
  | _ => { kind := .function, names := [], isGenerator := false, isCoroutine := false }
abbrev CX0 : CXT := fun _ _ _ _ _ _ => False
abbrev E0 : XK := fun _ _ _ => False
theorem pass0 {X : Cx} : Passes CX0 X E0 := fun _ _ _ _ _ _ _ h => h.elim
structure Fun (K : PySem.W.Frag) (x qual : Str) (st : Stmt) (f : Addr) (fd : FuncData) : Prop where
  ex : ∃ (oc : Value) (od : Option Addr) (kV doc pm : Value) (an : Option Addr) (cdv ct : Value) (osl : Array (Option Value)),
    fd = PySem.W.fnOf x qual (defArgs st) (defBody st) (defScope st) .none kV doc pm an cdv ct ∧ K.lookup f = some ⟨oc, od, .func fd, osl⟩ ∧ PySem.W.codeIn K cdv qual = true
  kp : PySem.W.keepIn K (.ref f) = true
section
variable {P : Program} {w : World} {K : PySem.W.Frag} {mg : Str → Option Value} {base : Heap}
theorem Fun.ok {x qual : Str} {st : Stmt} {f : Addr} {fd : FuncData} {N ps : List Str} {k : Nat} {sp : Sp} (F : Fun K x qual st f fd) (S : FnScope N ps (defScope st)) (len : ∀ vs H Q E, sp vs H Q E → vs.length = ps.length)
    (hbody : ∀ (cdv : Value) (A : Around) (outer : List Env) (s : Shared) (H : Hp) (vs : List V) (Q : VK) (E : XK), Room k (A.deeper (envOfC qual (defScope st) s.heap.objs.size f cdv)) → sp vs H Q E →
      ∃ t, PSs (cxOf CX0 P w K mg base N qual (defScope st) f cdv A outer s H E).nox (defBody st) t ∧ t { nx := fun _ H' => Q .non H', rt := Q } (start N vs) H) : FnOk P w K mg base CX0 (k + 1) f fd ps sp := by
  obtain ⟨oc, od, kV, doc, pm, an, cdv, ct, osl, rfl, lk, hcd⟩ := F.ex
  refine fn_of lk hcd S len fun A outer s H vs Q E hr hsp => ?_
  obtain ⟨t, h, q⟩ := hbody cdv A outer s H vs Q E hr hsp
  exact ⟨t, h.nox, q⟩
theorem Fun.binds {x qual : Str} {st : Stmt} {f : Addr} {fd : FuncData} {ps : List Str} (F : Fun K x qual st f fd)
    (h : ∀ (kV doc pm : Value) (an : Option Addr) (cdv ct : Value) (us : List Value), us.length = ps.length → bindArgs (PySem.W.fnOf x qual (defArgs st) (defBody st) (defScope st) .none kV doc pm an cdv ct) ⟨us, []⟩ = pure (ps.zip us)) : Binds K fd ps [] := by
  obtain ⟨oc, od, kV, doc, pm, an, cdv, ct, osl, rfl, lk, hcd⟩ := F.ex
  exact .all (h kV doc pm an cdv ct)
theorem fun_mk {x qual : Str} {st : Stmt} {f : Addr} {oc : Value} {od an : Option Addr} {osl : Array (Option Value)} {kV doc pm cdv ct : Value} (l : K.lookup f = some ⟨oc, od, .func (PySem.W.fnOf x qual (defArgs st) (defBody st) (defScope st) .none kV doc pm an cdv ct), osl⟩)
    (c : PySem.W.codeIn K cdv qual = true) (k : PySem.W.keepIn K (.ref f) = true) : Fun K x qual st f (PySem.W.fnOf x qual (defArgs st) (defBody st) (defScope st) .none kV doc pm an cdv ct) := ⟨⟨oc, od, kV, doc, pm, an, cdv, ct, osl, rfl, l, c⟩, k⟩
end
section
variable {X : Cx}
theorem pv (i : Nat) {x : Str} {pos : Pos} (hN : X.N[i]? = some x := by rfl) (hv : Vis X.env.scope x := by first | exact Or.inl rfl | exact Or.inr (Or.inl rfl) | exact Or.inr (Or.inr rfl)) (hd : (x == ("__debug__" : Str)) = false := by decide)
    (hcd : (x == ("__classdict__" : Str)) = false := by decide) : PE X (.Name x pos) (tVar i) := pe_var hN hv hd hcd
end
theorem iteF {A B : Prop} (h : B) : if false = true then A else B := by
  rw [if_neg Bool.false_ne_true]
  exact h
theorem iteT {A B : Prop} (h : A) : if true = true then A else B := by
  rw [if_pos rfl]
  exact h
theorem ite2 {c A B : Prop} [Decidable c] (h1 : c → A) (h2 : ¬ c → B) : if c then A else B := by
  by_cases h : c
  · rw [if_pos h]
    exact h1 h
  · rw [if_neg h]
    exact h2 h
theorem iteNS {c A B : Prop} [Decidable c] (hc : c) (h : B) : if (!decide c) = true then A else B := by
  rw [decide_eq_true hc]
  exact iteF h
def Same (H H' : Hp) : Prop := ∀ b o, H b = some o → H' b = some o
theorem Same.trans {H H1 H2 : Hp} (a : Same H H1) (b : Same H1 H2) : Same H H2 := fun c o h => b c o (a c o h)
theorem Same.free {H H' : Hp} (e : Same H H') {l : Addr} (h : H' l = Option.none) : H l = Option.none := by
  cases q : H l with
  | none => rfl
  | some o =>
    rw [e l o q] at h
    cases h
theorem Same.seq {K : PySem.W.Frag} {H H' : Hp} {a : Addr} {xs : List V} (e : Same H H') (h : SqL K H a xs) : SqL K H' a xs := by
  rcases h with (h | ⟨o, h⟩) | h
  · exact .inl (.inl (e _ _ h))
  · exact .inl (.inr ⟨o, e _ _ h⟩)
  · exact .inr h
end L2
set_option maxHeartbeats 4000000
namespace L2
open PySem PySem.Spec PyProof.Rows
section
variable {X : Cx}
theorem call_isinst : CallR X (.builtin "isinstance") (fun xs H Q => ∃ x T t b, xs = [x, .ty T] ∧ TyOf X.K H x t ∧ PySem.W.kitOne X.K t (.type T) = some b ∧ Q (.bl b) H) := by
  intro pins s σ H xs us Q I r h
  obtain ⟨x, T, t, b, rfl, ty, e, q⟩ := h
  obtain ⟨u, c, rfl, rx, rc⟩ := vals2 r
  cases (show c = Value.type T from rc)
  exact isinst_ok I rx ty e fun tk => ⟨.bl b, H, I.tok tk, rfl, q⟩
end
section
variable {X : Cx}
def cutS (z : Str) (lo hi : Option Int) : Str := ⟨((z.cps.toList.drop (HT.sIx z.length 0 lo)).take (HT.sIx z.length z.length hi - HT.sIx z.length 0 lo)).toArray⟩
theorem sIx_clip (n d : Nat) (v : Int) : max (0 : Int) (min (if v < 0 then v + (n : Int) else v) (n : Int)) = ((HT.sIx n d (some v) : Nat) : Int) := by
  show _ = (((if v < 0 then (v + (n : Int)).toNat else min v.toNat n) : Nat) : Int)
  by_cases hv : v < 0
  · simp only [if_pos hv]; omega
  · simp only [if_neg hv]; omega
theorem strIx_eq (lo hi : Option Int) (n : Nat) : Builtin.Str.strSliceIndices lo hi 1 n = (List.range (HT.sIx n n hi - HT.sIx n 0 lo)).map (fun k => HT.sIx n 0 lo + k) := by
  have h1 : (1 : Int) > 0 := by decide
  have hb : HT.sIx n n hi ≤ n := HT.sIx_le _ _ (Nat.le_refl _) hi
  have ha : HT.sIx n 0 lo ≤ n := HT.sIx_le _ _ (Nat.zero_le _) lo
  have key : ∀ a b : Nat, sliceRange (a : Int) (b : Int) 1 = (List.range (b - a)).map (fun k => a + k) := fun a b => sliceRange_one a b
  unfold Builtin.Str.strSliceIndices
  simp only [h1, if_true]
  cases lo with
  | none =>
    cases hi with
    | none => exact key 0 n
    | some v =>
      dsimp only
      rw [sIx_clip n n v]
      exact key 0 _
  | some u =>
    cases hi with
    | none =>
      dsimp only
      rw [sIx_clip n 0 u]
      exact key _ n
    | some v =>
      dsimp only
      rw [sIx_clip n n v, sIx_clip n 0 u]
      exact key _ _
theorem strPick_eq (z : Str) (lo hi : Option Int) : (Builtin.Str.strSliceIndices lo hi 1 z.length).filterMap (z.cps[·]?) = (z.cps.toList.drop (HT.sIx z.length 0 lo)).take (HT.sIx z.length z.length hi - HT.sIx z.length 0 lo) := by
  rw [strIx_eq]
  exact pick_run z.cps _ _
theorem strSlice_eq (z : Str) (lo hi : Option Int) : (if ((1 : Int) == 1 && (Builtin.Str.strSliceIndices lo hi 1 z.length).length == z.length) = true then z else ⟨((Builtin.Str.strSliceIndices lo hi 1 z.length).filterMap (z.cps[·]?)).toArray⟩) = cutS z lo hi := by
  rw [strPick_eq]
  split
  · rename_i h
    have hl : HT.sIx z.length z.length hi - HT.sIx z.length 0 lo = z.length := by
      rw [strIx_eq] at h
      simpa using h
    have hb : HT.sIx z.length z.length hi ≤ z.length := HT.sIx_le _ _ (Nat.le_refl _) hi
    have h0 : HT.sIx z.length 0 lo = 0 := by
      by_cases q : z.length = 0
      · have ha : HT.sIx z.length 0 lo ≤ z.length := HT.sIx_le _ _ (Nat.zero_le _) lo
        omega
      · omega
    unfold cutS
    rw [hl, h0, List.drop_zero, List.take_of_length_le (by simp [Str.length])]
  · rfl
def rSlS : V → Option Int → Option Int → Hp → VK → Prop := fun x lo hi H Q => ∃ z, x = .str z ∧ z.length ≤ sizeLine ∧ Q (.str (cutS z lo hi)) H
theorem cutS_len (z : Str) (lo hi : Option Int) : (cutS z lo hi).length ≤ z.length := by
  show (List.take _ (List.drop _ z.cps.toList)).toArray.size ≤ z.cps.size
  rw [List.size_toArray, List.length_take, List.length_drop, Array.length_toList]
  omega
theorem sl_str : SlR X rSlS := by
  intro pins s σ H x v vl vu lo hi sl Q I rx hs pl pu h
  obtain ⟨z, rfl, hz, q⟩ := h
  obtain ⟨t, rfl⟩ := rx
  refine ⟨"str", _, F.slot_str_getitem.lookup, typeIs_str _ _ _, ?_⟩
  have fin : ∀ (l u : Option (Int × Tok)), l.map (·.1) = lo → u.map (·.1) = hi → (sliceMade z t l u none).post (EP X pins σ Q) s := fun l u el eu => by
    subst el; subst eu
    refine post_val_or_str ?_
    have e := strSlice_eq z (l.map (·.1)) (u.map (·.1))
    have e' : (if (((none : Option (Int × Tok)).map (·.1)).getD 1 == 1 && (slicePicked z l u none).length == z.length) = true then z else ⟨((slicePicked z l u none).filterMap (z.cps[·]?)).toArray⟩) = cutS z (l.map (·.1)) (u.map (·.1)) := e
    rw [e']
    exact ⟨Nat.le_trans (cutS_len _ _ _) hz, fun t' k => ⟨.str _, H, I.tok k, ⟨t', rfl⟩, q⟩⟩
  cases pl with
  | none =>
    cases pu with
    | none => exact wpAny_getItem_str_slice (l := none) (u := none) (st := none) hs rfl (fin none none rfl rfl)
    | int j tj => exact wpAny_getItem_str_slice (l := none) (u := some (j, tj)) (st := none) hs rfl (fin none (some (j, tj)) rfl rfl)
  | int i ti =>
    cases pu with
    | none => exact wpAny_getItem_str_slice (l := some (i, ti)) (u := none) (st := none) hs rfl (fin (some (i, ti)) none rfl rfl)
    | int j tj => exact wpAny_getItem_str_slice (l := some (i, ti)) (u := some (j, tj)) (st := none) hs rfl (fin (some (i, ti)) (some (j, tj)) rfl rfl)
end
mutual
inductive RdV (K : PySem.W.Frag) (H : Hp) : V → PyData → Prop where
  | non : RdV K H .non .none
  | bl (b : Bool) : RdV K H (.bl b) (.bool b)
  | int (i : Int) : RdV K H (.int i) (.int i)
  | str (x : Str) : RdV K H (.str x) (.str x)
  | lst {a : Addr} {xs : List V} {ds : List PyData} : SqL K H a xs → RdAll K H xs ds → RdV K H (.ref a) (.list ds)
  | tup {a : Addr} {xs : List V} {ds : List PyData} : SqT K H a xs → RdAll K H xs ds → RdV K H (.ref a) (.tuple ds)
inductive RdAll (K : PySem.W.Frag) (H : Hp) : List V → List PyData → Prop where
  | nil : RdAll K H [] []
  | cons {v : V} {vs : List V} {d : PyData} {ds : List PyData} : RdV K H v d → RdAll K H vs ds → RdAll K H (v :: vs) (d :: ds)
end
section
variable {X : Cx} {pins : List (Addr × Obj)} {σ : St} {H : Hp} {s : Shared}
mutual
theorem RdV.reads (I : Inv X pins σ H s) : ∀ {v : V} {d : PyData} {u : Value}, RdV X.K H v d → RelV v u → ∃ as, Reads s.heap u d as
  | _, _, u, .non, r => by cases (show u = Value.none from r); exact ⟨_, .none⟩
  | _, _, u, .bl b, r => by cases (show u = Value.bool b from r); exact ⟨_, .bool b⟩
  | _, _, u, .int i, r => by obtain ⟨t, e⟩ := (show ∃ t, u = Value.int i t from r); cases e; exact ⟨_, .int i t⟩
  | _, _, u, .str x, r => by obtain ⟨t, e⟩ := (show ∃ t, u = Value.str x t from r); cases e; exact ⟨_, .str x t⟩
  | _, _, u, @RdV.lst _ _ a xs ds hq hr, r => by
    cases (show u = Value.ref a from r)
    obtain ⟨its, rv, ⟨o, n, e, c, _, dt⟩, _⟩ := I.list hq
    obtain ⟨as, q⟩ := RdAll.reads I hr rv
    exact ⟨_, .list e c dt (by simpa using q)⟩
  | _, _, u, @RdV.tup _ _ a xs ds hq hr, r => by
    cases (show u = Value.ref a from r)
    obtain ⟨its, rv, ⟨o, e, c, n, dt⟩, _⟩ := I.tuple hq
    obtain ⟨as, q⟩ := RdAll.reads I hr rv
    exact ⟨_, .tuple e c dt (by simpa using q)⟩
theorem RdAll.reads (I : Inv X pins σ H s) : ∀ {vs : List V} {ds : List PyData} {us : List Value}, RdAll X.K H vs ds → Vals vs us → ∃ as, ReadsAll s.heap us ds as
  | _, _, _, .nil, r => by cases r; exact ⟨_, .nil⟩
  | _, _, _, .cons h t, r => by
    cases r with
    | cons r1 r2 =>
      obtain ⟨as, q⟩ := RdV.reads I h r1
      obtain ⟨bs, q2⟩ := RdAll.reads I t r2
      exact ⟨_, .cons q q2⟩
end
end
section
variable {X : Cx}
def rEqD (K : PySem.W.Frag) (A : Around) (neg : Bool) : R2 := fun x y H Q => ∃ d e : PyData, RdV K H x d ∧ RdV K H y e ∧ d.canLay0 = true ∧ e.canLay0 = true ∧ A.units + min d.depth e.depth < cLine ∧ Q (.bl (if neg then !PyData.eqv d e else PyData.eqv d e)) H
theorem op_neD : OpR X (compareOp .NotEq) (rEqD X.K X.A true) := by
  intro pins s σ H x y v u Q I rx ry h
  obtain ⟨d, e, hd, he, cd, ce, hu, q⟩ := h
  obtain ⟨as, q1⟩ := hd.reads I rx
  obtain ⟨bs, q2⟩ := he.reads I ry
  exact SeqAt.compareNe_reads q1 q2 cd ce hu ⟨.bl _, H, I, rfl, q⟩
end
mutual
theorem eqv_self : ∀ d : PyData, d.canLay0 = true → PyData.eqv d d = true
  | .none, _ => by simp [PyData.eqv]
  | .bool _, _ => by simp [PyData.eqv]
  | .int _, _ => by simp [PyData.eqv]
  | .str _, _ => by simp [PyData.eqv]
  | .list xs, h => by
    simp only [PyData.eqv]
    exact eqvAll_self xs (by simpa [PyData.canLay0] using h)
  | .tuple xs, h => by
    simp only [PyData.eqv]
    exact eqvAll_self xs (by simpa [PyData.canLay0] using h)
  | .dict _, h => by simp [PyData.canLay0] at h
theorem eqvAll_self : ∀ ds : List PyData, PyData.canLayAll0 ds = true → PyData.eqvAll ds ds = true
  | [], _ => by simp [PyData.eqvAll]
  | d :: ds, h => by
    simp only [PyData.canLayAll0, Bool.and_eq_true] at h
    simp only [PyData.eqvAll, Bool.and_eq_true]
    exact ⟨eqv_self d h.1, eqvAll_self ds h.2⟩
end
theorem in_one (z : Str) (c : Nat) : (!(Builtin.Str.occurrences z ⟨#[c]⟩ 0 z.length 1).isEmpty) = decide (c ∈ z.cps.toList) := PySem.StrLaws.found_one z c
theorem op_in_one {X : Cx} : OpR X (compareOp .In) (fun x y H Q => ∃ c z, x = .str ⟨#[c]⟩ ∧ y = .str z ∧ Q (.bl (decide (c ∈ z.cps.toList))) H) := by
  intro pins s σ H x y v u Q I rx ry h
  obtain ⟨c, z, e1, e2, q⟩ := h
  exact op_in_str pins s σ H x y v u Q I rx ry ⟨_, _, e1, e2, by rw [in_one]; exact q⟩
end L2
namespace L2
open PySem PySem.Spec PyProof.Rows
structure Fn (P : Program) (w : World) (K : PySem.W.Frag) (mg : Str → Option Value) (base : Heap) (k : Nat) (x : Str) (ps : List Str) (sp : Sp) : Prop where
  ex : ∃ (f : Addr) (fd : FuncData), FnOk P w K mg base CX0 k f fd ps sp ∧ Binds K fd ps [] ∧ PySem.W.keepIn K (.ref f) = true ∧ mg x = some (.ref f)
theorem pe_fn {X : Cx} {k k' : Nat} {x : Str} {ps : List Str} {sp : Sp} {p pos : Pos} {e : Expr} {es : List Expr} {t : TA} (F : Fn X.prog X.w X.K X.mg X.base k x ps sp) (hr : Room k' X.A) (ha : PA X (e :: es) t) (hk : k ≤ k' := by decide) (hg : Gl X x := by rfl)
    (hdb : (x == ("__debug__" : Str)) = false := by decide) (he : starEach (e :: es) X.env = (false, eval e X.env) :: starEach es X.env := by rfl) (hpl : (backTo pos (starEach es X.env)).any (·.1) = false := by rfl) :
    PE X (.Call (.Name x p) (e :: es) [] pos) (tCall sp [] E0 t) := by
  obtain ⟨f, fd, h1, h2, h3, h4⟩ := F.ex
  exact pe_call h1 (hr.mono hk) hg h4 h3 h2 .nil pass0 ha hdb he hpl
theorem iteP {c A B : Prop} [Decidable c] (hc : c) (h : A) : if decide c = true then A else B := by
  rw [decide_eq_true hc]
  exact iteT h
theorem iteN {c A B : Prop} [Decidable c] (hc : ¬ c) (h : B) : if decide c = true then A else B := by
  rw [decide_eq_false hc]
  exact iteF h
theorem same_new {H : Hp} {p : Addr} (h : H p = Option.none) (o : HO) : Same H (upd H p o) := fun b u q => by rw [upd_ne (ne_of_none q h)]; exact q
def S (l : List Nat) : Str := ⟨l.toArray⟩
theorem S_list (l : List Nat) : (S l).cps.toList = l := by simp [S]
theorem S_len (l : List Nat) : (S l).length = l.length := by simp [S, Str.length]
theorem S_self (z : Str) : S z.cps.toList = z := by cases z; simp [S]
theorem S_inj {a b : List Nat} (h : S a = S b) : a = b := by
  have := congrArg (fun z : Str => z.cps.toList) h
  simpa [S_list] using this
theorem S_app (a b : List Nat) : S a ++ S b = S (a ++ b) := by
  show Str.append (S a) (S b) = S (a ++ b)
  simp [Str.append, S]
end L2
namespace L2
open PySem PySem.Spec PyProof.Rows
def tCut (t : TS) : TS := fun D σ H => ∃ R : St → Hp → Prop, t { D with nx := R } σ H ∧ ∀ σ' H', R σ' H' → D.nx σ' H'
theorem ps_cut {X : Cx} {st : Stmt} {t : TS} (h : PS X st t) : PS X st (tCut t) := by
  intro pins s σ H D I hw
  obtain ⟨R, h1, h2⟩ := hw
  refine thn (h pins s σ H { D with nx := R } I h1) fun f s1 q => ?_
  cases f with
  | next =>
    obtain ⟨σ', H', I', q⟩ := q
    exact ⟨σ', H', I', h2 _ _ q⟩
  | brk => exact q
  | cont => exact q
  | ret v => exact q
end L2
namespace L2
open PySem PySem.Spec PyProof.Rows
structure DefAt (K : PySem.W.Frag) (x : Str) (st : Stmt) : Prop where
  ex : ∃ (f : Addr) (oc : Value) (od : Option Addr) (kV doc pm : Value) (an : Option Addr) (cdv ct : Value) (osl : Array (Option Value)),
    PySem.W.nsIn K mainGlobals x = some (some (.ref f)) ∧ K.lookup f = some ⟨oc, od, .func (PySem.W.fnOf x x (defArgs st) (defBody st) (defScope st) .none kV doc pm an cdv ct), osl⟩ ∧ PySem.W.codeIn K cdv x = true ∧ PySem.W.keepIn K (.ref f) = true
theorem DefAt.mk' {K : PySem.W.Frag} {x : Str} {st : Stmt} {f : Addr} {oc : Value} {od : Option Addr} {kV doc pm : Value} {an : Option Addr} {cdv ct : Value} {osl : Array (Option Value)}
    (a : PySem.W.nsIn K mainGlobals x = some (some (.ref f))) (l : K.lookup f = some ⟨oc, od, .func (PySem.W.fnOf x x (defArgs st) (defBody st) (defScope st) .none kV doc pm an cdv ct), osl⟩) (c : PySem.W.codeIn K cdv x = true) (k : PySem.W.keepIn K (.ref f) = true) : DefAt K x st :=
  ⟨f, oc, od, kV, doc, pm, an, cdv, ct, osl, a, l, c, k⟩
theorem DefAt.fn {P : Program} {w : World} {K : PySem.W.Frag} {mg : Str → Option Value} {base h : Heap} {k : Nat} {x : Str} {st : Stmt} {ps : List Str} {sp : Sp} (D : DefAt K x st) (X : K.In h) (G : h.Ns mainGlobals mg)
    (ok : ∀ (f : Addr) (fd : FuncData), Fun K x x st f fd → FnOk P w K mg base CX0 k f fd ps sp)
    (hb : ∀ (kV doc pm : Value) (an : Option Addr) (cdv ct : Value) (us : List Value), us.length = ps.length → bindArgs (PySem.W.fnOf x x (defArgs st) (defBody st) (defScope st) .none kV doc pm an cdv ct) ⟨us, []⟩ = pure (ps.zip us)) : Fn P w K mg base k x ps sp := by
  obtain ⟨f, oc, od, kV, doc, pm, an, cdv, ct, osl, a, l, c, kp⟩ := D.ex
  have F := fun_mk (st := st) l c kp
  exact ⟨f, _, ok f _ F, F.binds hb, kp, PySem.W.mg_of X G a⟩
end L2
namespace K3
def letL : List Nat := [97, 98, 99, 100, 101, 102, 103, 104, 105, 106, 107, 108, 109, 110, 111, 112, 113, 114, 115, 116, 117, 118, 119, 120, 121, 122]
def figL : List Nat := [48, 49, 50, 51, 52, 53, 54, 55, 56, 57]
def sgnL : List Nat := [40, 41, 59, 58, 61, 124, 42]
theorem let_sgn : ∀ c ∈ letL, c ∉ sgnL := by decide
theorem let_fig : ∀ c ∈ letL, c ∉ figL := by decide
theorem fig_sgn : ∀ c ∈ figL, c ∉ sgnL := by decide
theorem fig_let : ∀ c ∈ figL, c ∉ letL := by decide
theorem sgn_32 : ∀ c ∈ sgnL, c ≠ 32 ∧ c ≠ 45 := by decide
theorem let_32 : ∀ c ∈ letL, c ≠ 32 ∧ c ≠ 45 := by decide
theorem fig_32 : ∀ c ∈ figL, c ≠ 32 ∧ c ≠ 45 := by decide
theorem n45 : 45 ∉ sgnL ∧ 45 ∉ letL ∧ (45 : Nat) ≠ 32 := by decide
theorem n32 : 32 ∉ letL ∧ 32 ∉ figL := by decide
structure Num (w : List Nat) : Prop where
  ne : w ≠ []
  len : w.length ≤ 60
  all : ∀ c ∈ w, c ∈ figL
  lead : w[0]? = some 48 → w.length = 1
inductive Word : List Nat → Prop where
  | sign {c : Nat} : c ∈ sgnL → Word [c]
  | name {w : List Nat} : w ≠ [] → w.length ≤ 8 → (∀ c ∈ w, c ∈ letL) → Word w
  | num {w : List Nat} : Num w → Word w
  | neg {w : List Nat} : Num w → w ≠ [48] → Word (45 :: w)
def Sep (w rest : List Nat) : Prop := ∀ a b, w.getLast? = some a → rest[0]? = some b → ¬ (a ∈ letL ∧ b ∈ letL) ∧ ¬ (a ∈ figL ∧ b ∈ figL)
theorem Word.ne {w : List Nat} (h : Word w) : w ≠ [] := by
  cases h with
  | sign _ => simp
  | name h _ _ => exact h
  | num h => exact h.ne
  | neg _ _ => simp
theorem Word.len {w : List Nat} (h : Word w) : w.length ≤ 61 := by
  cases h with
  | sign _ => simp
  | name _ h _ => omega
  | num h => have := h.len; omega
  | neg h _ => have := h.len; simp only [List.length_cons]; omega
theorem Word.head {w : List Nat} (h : Word w) : ∃ c r, w = c :: r ∧ c ≠ 32 := by
  cases h with
  | @sign c h => exact ⟨c, [], rfl, (sgn_32 c h).1⟩
  | name h _ a =>
    cases w with
    | nil => exact absurd rfl h
    | cons c r => exact ⟨c, r, rfl, (let_32 c (a c (by simp))).1⟩
  | num h =>
    cases w with
    | nil => exact absurd rfl h.ne
    | cons c r => exact ⟨c, r, rfl, (fig_32 c (h.all c (by simp))).1⟩
  | @neg w h _ => exact ⟨45, w, rfl, n45.2.2⟩
def run (L : List Nat) (t : List Nat) : List Nat := t.takeWhile fun c => decide (c ∈ L)
theorem run_eq {L w rest : List Nat} (h : ∀ c ∈ w, c ∈ L) (hr : ∀ b, rest[0]? = some b → b ∉ L) : run L (w ++ rest) = w := by
  unfold run
  induction w with
  | nil =>
    cases rest with
    | nil => rfl
    | cons b r =>
      have := hr b (by simp)
      simp [this]
  | cons c w ih =>
    have hc : c ∈ L := h c (by simp)
    rw [List.cons_append, List.takeWhile_cons, if_pos (by simpa using hc), ih (fun d hd => h d (by simp [hd]))]
theorem last_of {w : List Nat} (h : w ≠ []) : ∃ a, w.getLast? = some a ∧ a ∈ w := by
  refine ⟨w.getLast h, List.getLast?_eq_some_getLast h, List.getLast_mem h⟩
theorem Sep.let_of {w rest : List Nat} (s : Sep w rest) (h : w ≠ []) (a : ∀ c ∈ w, c ∈ letL) : ∀ b, rest[0]? = some b → b ∉ letL := fun b hb q => by
  obtain ⟨x, hx, hm⟩ := last_of h
  exact (s x b hx hb).1 ⟨a x hm, q⟩
theorem Sep.fig_of {w rest : List Nat} (s : Sep w rest) (h : w ≠ []) (a : ∀ c ∈ w, c ∈ figL) : ∀ b, rest[0]? = some b → b ∉ figL := fun b hb q => by
  obtain ⟨x, hx, hm⟩ := last_of h
  exact (s x b hx hb).2 ⟨a x hm, q⟩
theorem Sep.tail {c : Nat} {w rest : List Nat} (s : Sep (c :: w) rest) (h : w ≠ []) : Sep w rest := fun a b ha hb => s a b (by
  cases w with
  | nil => exact absurd rfl h
  | cons d w => rw [List.getLast?_cons_cons]; exact ha) hb
inductive Writ : List Nat → List (List Nat) → Prop where
  | nil : Writ [] []
  | blank {t ws} : Writ t ws → Writ (32 :: t) ws
  | word {w t ws} : Word w → Sep w t → Writ t ws → Writ (w ++ t) (w :: ws)
theorem Writ.blanks {t : List Nat} {ws : List (List Nat)} (h : Writ t ws) : ∀ k : Nat, Writ (List.replicate k 32 ++ t) ws
  | 0 => h
  | k + 1 => by rw [List.replicate_succ]; exact .blank (Writ.blanks h k)
structure Built (written : List Nat) (due : List (List Nat)) : Prop where
  go : ∀ rest ws, Writ rest ws → (∀ w, due.getLast? = some w → Sep w rest) → Writ (written ++ rest) (due ++ ws)
def D (n : Nat) : List Nat := (Nat.toDigits 10 n).map Char.toNat
theorem dig (d : Nat) (h : d < 10) : (Nat.digitChar d).toNat = 48 + d := by
  have : ∀ d : Nat, d < 10 → (Nat.digitChar d).toNat = 48 + d := by decide
  exact this d h
theorem fig_of (d : Nat) (h : d < 10) : 48 + d ∈ figL := by
  have : ∀ d : Nat, d < 10 → 48 + d ∈ figL := by decide
  exact this d h
theorem D_small {n : Nat} (h : n < 10) : D n = [48 + n] := by
  unfold D
  rw [Nat.toDigits_of_lt_base h]
  simp [dig n h]
theorem D_step {n : Nat} (h : ¬ n < 10) : D n = D (n / 10) ++ [48 + n % 10] := by
  have hm : n % 10 < 10 := Nat.mod_lt n (by decide)
  have t : Nat.toDigits 10 (n / 10) ++ Nat.toDigits 10 (n % 10) = Nat.toDigits 10 (10 * (n / 10) + n % 10) := Nat.toDigits_append_toDigits (by decide) (by omega) hm
  rw [Nat.div_add_mod] at t
  unfold D
  rw [← t, List.map_append, Nat.toDigits_of_lt_base hm]
  simp [dig _ hm]
theorem D_facts : ∀ (k n : Nat), n < 10 ^ (k + 1) → D n ≠ [] ∧ (D n).length ≤ k + 1 ∧ (∀ c ∈ D n, c ∈ figL) ∧ (n ≠ 0 → (D n)[0]? ≠ some 48)
  | 0, n, h => by
    have h' : n < 10 := by simpa using h
    rw [D_small h']
    refine ⟨by simp, by simp, fun c hc => ?_, fun hn => ?_⟩
    · have : c = 48 + n := by simpa using hc
      rw [this]; exact fig_of n h'
    · simp; exact hn
  | k + 1, n, h => by
    by_cases h10 : n < 10
    · rw [D_small h10]
      refine ⟨by simp, by simp, fun c hc => ?_, fun hn => ?_⟩
      · have : c = 48 + n := by simpa using hc
        rw [this]; exact fig_of n h10
      · simp; exact hn
    · have hd : n / 10 < 10 ^ (k + 1) := by
        have : n < 10 * 10 ^ (k + 1) := by rw [Nat.pow_succ] at h; omega
        omega
      obtain ⟨a, b, c, d⟩ := D_facts k (n / 10) hd
      rw [D_step h10]
      refine ⟨by simp, by simp; omega, fun x hx => ?_, fun _ => ?_⟩
      · rcases List.mem_append.mp hx with q | q
        · exact c x q
        · have : x = 48 + n % 10 := by simpa using q
          rw [this]; exact fig_of _ (Nat.mod_lt n (by decide))
      · have e : (D (n / 10) ++ [48 + n % 10])[0]? = (D (n / 10))[0]? := by
          cases q : D (n / 10) with
          | nil => exact absurd q a
          | cons x r => simp
        rw [e]
        exact d (by omega)
theorem D_num {n : Nat} (h : n < 10 ^ 60) : Num (D n) := by
  obtain ⟨a, b, c, d⟩ := D_facts 59 n h
  refine ⟨a, b, c, fun q => ?_⟩
  by_cases hn : n = 0
  · subst hn; rw [D_small (by decide)]; rfl
  · exact absurd q (d hn)
theorem D_ne {n : Nat} (h : n < 10 ^ 60) (hn : n ≠ 0) : D n ≠ [48] := fun q => by
  obtain ⟨a, b, c, d⟩ := D_facts 59 n h
  exact d hn (by rw [q]; rfl)
end K3
namespace K3
theorem seg_step {L : List Nat} {k e c : Nat} (hk : k ≤ e) (he : L[e]? = some c) : (L.drop k).take (e + 1 - k) = (L.drop k).take (e - k) ++ [c] := by
  have h1 : e + 1 - k = (e - k) + 1 := by omega
  rw [h1, List.take_add_one, List.getElem?_drop, show k + (e - k) = e by omega, he]
  rfl
theorem seg_stop {L sg : List Nat} {k e : Nat} (hk : k ≤ e) (hall : ∀ c ∈ (L.drop k).take (e - k), c ∈ sg) (hstop : ∀ c, L[e]? = some c → c ∉ sg) : run sg (L.drop k) = (L.drop k).take (e - k) := by
  have h := run_eq (L := sg) (w := (L.drop k).take (e - k)) (rest := (L.drop k).drop (e - k)) hall (fun b hb => by
    rw [List.drop_drop, show k + (e - k) = e by omega] at hb
    exact hstop b (by simpa [List.getElem?_drop] using hb))
  rw [List.take_append_drop] at h
  exact h
theorem Writ.len {t : List Nat} {ws : List (List Nat)} (h : Writ t ws) : ws.length ≤ t.length := by
  induction h with
  | nil => simp
  | blank _ ih => simp only [List.length_cons]; omega
  | word hw _ _ ih =>
    have : 0 < (_ : List Nat).length := List.length_pos_iff.mpr hw.ne
    simp only [List.length_cons, List.length_append]; omega
theorem Word.low {w : List Nat} (h : Word w) : ∀ c ∈ w, c < 128 := by
  have h1 : ∀ c ∈ sgnL, c < 128 := by decide
  have h2 : ∀ c ∈ letL, c < 128 := by decide
  have h3 : ∀ c ∈ figL, c < 128 := by decide
  cases h with
  | @sign c h => intro d hd; have : d = c := by simpa using hd
                 rw [this]; exact h1 c h
  | name _ _ a => exact fun c hc => h2 c (a c hc)
  | num h => exact fun c hc => h3 c (h.all c hc)
  | neg h _ => intro c hc
               rcases List.mem_cons.mp hc with q | q
               · omega
               · exact h3 c (h.all c q)
theorem Writ.words {t : List Nat} {ws : List (List Nat)} (h : Writ t ws) : ∀ w ∈ ws, Word w := by
  induction h with
  | nil => intro w hw; cases hw
  | blank _ ih => exact ih
  | word hw _ _ ih =>
    intro w h
    rcases List.mem_cons.mp h with q | q
    · rw [q]; exact hw
    · exact ih w q
theorem Writ.step {t : List Nat} {ws : List (List Nat)} (h : Writ t ws) (ht : t ≠ []) :
    (∃ r, t = 32 :: r ∧ Writ r ws) ∨ ∃ w r vs, t = w ++ r ∧ ws = w :: vs ∧ Word w ∧ Sep w r ∧ Writ r vs := by
  cases h with
  | nil => exact absurd rfl ht
  | blank h => exact .inl ⟨_, rfl, h⟩
  | word a b c => exact .inr ⟨_, _, _, rfl, rfl, a, b, c⟩
theorem letL_at (k : Nat) (h : k < 26) : ∃ c, letL[k]? = some c ∧ c ∈ letL := by
  have : k < letL.length := h
  exact ⟨letL[k], List.getElem?_eq_getElem this, List.getElem_mem this⟩
theorem log_small {n : Nat} (h : n < 10 ^ 61) : n.log2 < 1920 := by
  by_cases h0 : n = 0
  · subst h0; decide
  · have h1 : 10 ^ 61 ≤ 2 ^ 203 := by decide
    have h2 : 2 ^ 203 ≤ 2 ^ 1920 := Nat.pow_le_pow_right (by decide) (by decide)
    exact (Nat.log2_lt h0).mpr (Nat.lt_of_lt_of_le h (Nat.le_trans h1 h2))
end K3
namespace K5
open PySem L2 K3
def top (i : Nat) : Stmt := PySem.Challenge.pw_turnery_k05_trees_shown_and_read.main.body.getD i (.Pass ⟨0, 0, 0, 0⟩)
abbrev sWords : Stmt := top 10
abbrev sWordAt : Stmt := top 11
abbrev sNameAt : Stmt := top 12
abbrev sBelow : Stmt := top 13
abbrev sFigures : Stmt := top 14
abbrev sRun : Stmt := top 15
abbrev sReader : Stmt := top 17
abbrev sBegins : Stmt := top 18
abbrev sSize : Stmt := top 20
abbrev sRead : Stmt := top 24
abbrev sTreeF : Stmt := top 25
abbrev sShow : Stmt := top 26
abbrev sShowM : Stmt := top 27
abbrev sShowB : Stmt := top 28
abbrev sNameBy : Stmt := top 30
abbrev sRows : Stmt := top 31
abbrev sTexts : Stmt := top 32
abbrev sLaw : Stmt := top 33
abbrev LETS : Str := Str.ofString "abcdefghijklmnopqrstuvwxyz"
abbrev FIGS : Str := Str.ofString "0123456789"
abbrev SGNS : Str := Str.ofString "();:=|*"
theorem let_eq : LETS = S letL := by decide +kernel
theorem fig_eq : FIGS = S figL := by decide +kernel
theorem sgn_eq : SGNS = S sgnL := by decide +kernel
theorem let_cps : LETS.cps.toList = letL := by rw [let_eq, S_list]
theorem fig_cps : FIGS.cps.toList = figL := by rw [fig_eq, S_list]
theorem sgn_cps : SGNS.cps.toList = sgnL := by rw [sgn_eq, S_list]
theorem minus_eq : Str.ofString "-" = S [45] := by decide +kernel
theorem blank_eq : Str.ofString " " = S [32] := by decide +kernel
theorem zero_eq : Str.ofString "0" = S [48] := by decide +kernel
theorem none_eq : Str.ofString "" = S [] := by decide +kernel
theorem size_line : sizeLine = 16777216 := by decide
structure Gm (mg : Str → Option Value) : Prop where
  len : mg "len" = none
  isi : mg "isinstance" = none
  str : mg "str" = none
  lst : mg "list" = none
  rng : mg "range" = none
  tup : mg "tuple" = none
  int : mg "int" = none
  sum : mg "sum" = none
  lets : ∃ t, mg "LETTERS" = some (.str LETS t)
  figs : ∃ t, mg "FIGURES" = some (.str FIGS t)
  sgns : ∃ t, mg "SIGNS" = some (.str SGNS t)
  ml : ∃ t, mg "MOST_LETTERS" = some (.int 8 t)
  mf : ∃ t, mg "MOST_FIGURES" = some (.int 60 t)
def spRun : Sp := fun vs H Q _ => ∃ (z : List Nat) (k : Nat) (sg : List Nat), vs = [.str (S z), .int k, .str (S sg)] ∧ z.length ≤ 5000 ∧ k ≤ z.length ∧ Q (.str (S (run sg (z.drop k)))) H
def spFig : Sp := fun vs H Q _ => ∃ (z : List Nat) (k : Nat), vs = [.str (S z), .int k] ∧ z.length ≤ 5000 ∧ k ≤ z.length ∧ Num (run figL (z.drop k)) ∧ Q (.str (S (run figL (z.drop k)))) H
def spBelow : Sp := fun vs H Q _ => ∃ (z : List Nat) (k : Nat), vs = [.str (S z), .int k] ∧ z.length ≤ 5000 ∧ k ≤ z.length ∧ Num (run figL (z.drop k)) ∧ run figL (z.drop k) ≠ [48] ∧ Q (.str (S (run figL (z.drop k)))) H
def spNameAt : Sp := fun vs H Q _ => ∃ (z : List Nat) (k : Nat), vs = [.str (S z), .int k] ∧ z.length ≤ 5000 ∧ k ≤ z.length ∧ (run letL (z.drop k)).length ≤ 8 ∧ Q (.str (S (run letL (z.drop k)))) H
def spWordAt : Sp := fun vs H Q _ => ∃ (z : List Nat) (k : Nat) (w r : List Nat), vs = [.str (S z), .int k] ∧ z.length ≤ 5000 ∧ z.drop k = w ++ r ∧ Word w ∧ Sep w r ∧ Q (.str (S w)) H
def W (ws : List (List Nat)) : List V := ws.map fun w => V.str (S w)
def spWords : Sp := fun vs H Q _ => ∃ (z : List Nat) (ws : List (List Nat)), vs = [.str (S z)] ∧ z.length ≤ 5000 ∧ Writ z ws ∧ ∀ (l : Addr) (H' : Hp), Same H H' → H' l = some (.lst (W ws)) → H l = none → Q (.ref l) H'
def spNameBy : Sp := fun vs H Q _ => ∃ c : Int, vs = [.int c] ∧ ∀ w : List Nat, w ≠ [] → w.length ≤ 8 → (∀ x ∈ w, x ∈ letL) → Q (.str (S w)) H
theorem line_of {n : Nat} (h : n ≤ 5000) : n ≤ sizeLine := by rw [size_line]; omega
theorem atS {z : List Nat} {k : Nat} {c : Nat} (h : z[k]? = some c) : atI (S z).cps.toList (k : Int) = some c := by
  rw [S_list]; exact atI_nat h
theorem one_S (c : Nat) : (⟨#[c]⟩ : Str) = S [c] := rfl
theorem str_ne {a b : List Nat} (h : a ≠ b) : ¬ V.str (S a) = V.str (S b) := fun q => h (S_inj (by injection q))
section
variable {P : Program} {w : World} {K : PySem.W.Frag} {mg : Str → Option Value} {base : Heap} {f : Addr} {fd : FuncData}
theorem scRun : FnScope ["text", "start", "signs", "end"] ["text", "start", "signs"] (defScope sRun) := ⟨rfl, rfl, rfl, by decide +kernel, rfl, by decide +kernel, by decide +kernel⟩
theorem cut_seg (z : List Nat) {k e : Nat} (hk : k ≤ e) (he : e ≤ z.length) : cutS (S z) (some (k : Int)) (some (e : Int)) = S ((z.drop k).take (e - k)) := by
  unfold cutS
  rw [HT.sIx_nat, HT.sIx_nat, S_list, S_len, Nat.min_eq_left he, Nat.min_eq_left (Nat.le_trans hk he)]
  rfl
theorem ok_run (F : Fun K "run_at" "run_at" sRun f fd) (G : Gm mg) : FnOk P w K mg base CX0 1 f fd ["text", "start", "signs"] spRun := by
  refine F.ok scRun (fun vs H Q E h => ?_) (fun cdv A outer s H vs Q E hr h => ?_)
  · obtain ⟨z, k, sg, rfl, _⟩ := h
    rfl
  obtain ⟨z, k, sg, rfl, hz, hk, q⟩ := h
  have hzl : (S z).length ≤ sizeLine := by rw [S_len]; exact line_of hz
  refine ⟨_, pss_cons (ps_set (i := 3) scRun.nd rfl (Or.inl rfl) (pv 1))
    (pss_cons (ps_while PassesOwn.never (PW.pt (pw_and (pt_cmpR op_lt (pv 3) (pe_callB call_len_str rfl G.len PySem.boot_len (pa_cons (pv 0) pa_nil)) (nomark _))
        (pw_and1 (pt_cmpR op_in_one (pe_ix ix_str (pv 0) (pv 3) (fun _ _ => rfl)) (pv 2) (by with_unfolding_all rfl)))))
      (pss_one (ps_aug (i := 3) scRun.nd rfl (Or.inl rfl) pe_int ip_add)))
    (pss_one (ps_ret (pe_slice sl_str (pv 0) (po_some (pv 1)) (po_some (pv 3)))))), ?_⟩
  refine ⟨_, rfl, ?_⟩
  have fin : ∀ e : Nat, k ≤ e → e ≤ z.length → (∀ c ∈ (z.drop k).take (e - k), c ∈ sg) → (∀ c, z[e]? = some c → c ∉ sg) → Q (.str (cutS (S z) (some (k : Int)) (some (e : Int)))) H := fun e h1 h2 h3 h4 => by
    rw [cut_seg z h1 h2, ← seg_stop h1 h3 h4]
    exact q
  refine ⟨fun m σ H' => ∃ e : Nat, σ = [some (.str (S z)), some (.int (k : Int)), some (.str (S sg)), some (.int (e : Int))] ∧ H' = H ∧ k ≤ e ∧ e ≤ z.length ∧ (∀ c ∈ (z.drop k).take (e - k), c ∈ sg) ∧ m = z.length - e,
    ⟨_, k, rfl, rfl, Nat.le_refl _, hk, (by intro c hc; simp at hc), rfl⟩, ?_⟩
  rintro m σ H' ⟨e, rfl, rfl, h1, h2, h3, rfl⟩
  refine ⟨_, rfl, _, rfl, _, rfl, hzl, _, _, rfl, rfl, _, rfl, ?_⟩
  refine ite2 (fun c => ?_) (fun c => ?_)
  · have c' : (e : Int) < (((S z).length : Nat) : Int) := of_decide_eq_true c
    rw [S_len] at c'
    have he : e < z.length := by omega
    have hat : z[e]? = some z[e] := List.getElem?_eq_getElem he
    refine ⟨_, rfl, _, rfl, _, _, _, rfl, rfl, hzl, atS hat, _, rfl, _, _, rfl, rfl, _, rfl, ?_⟩
    refine ite2 (fun d => ?_) (fun d => ?_)
    · have d' : z[e] ∈ (S sg).cps.toList := of_decide_eq_true d
      rw [S_list] at d'
      refine ⟨_, fun σ' H'' q' => q', _, rfl, _, _, rfl, rfl, ?_⟩
      refine ⟨z.length - (e + 1), by omega, e + 1, rfl, rfl, by omega, by omega, ?_, rfl⟩
      rw [seg_step h1 hat]
      intro x hx
      rcases List.mem_append.mp hx with y | y
      · exact h3 x y
      · have : x = z[e] := by simpa using y
        rw [this]; exact d'
    · have d' : ¬ z[e] ∈ (S sg).cps.toList := of_decide_eq_false (Bool.eq_false_iff.mpr d)
      rw [S_list] at d'
      refine ⟨_, rfl, _, rfl, _, rfl, _, rfl, _, rfl, _, rfl, hzl, ?_⟩
      exact fin e h1 h2 h3 (fun x hx => by rw [hat] at hx; cases hx; exact d')
  · have c' : ¬ (e : Int) < (((S z).length : Nat) : Int) := of_decide_eq_false (Bool.eq_false_iff.mpr c)
    rw [S_len] at c'
    refine ⟨_, rfl, _, rfl, _, rfl, _, rfl, _, rfl, _, rfl, hzl, ?_⟩
    exact fin e h1 h2 h3 (fun x hx => by rw [List.getElem?_eq_none (by omega)] at hx; cases hx)
theorem scFig : FnScope ["text", "start", "figures"] ["text", "start"] (defScope sFigures) := ⟨rfl, rfl, rfl, by decide +kernel, rfl, by decide +kernel, by decide +kernel⟩
theorem ok_fig (F : Fun K "figures_at" "figures_at" sFigures f fd) (G : Gm mg) (R : Fn P w K mg base 1 "run_at" ["text", "start", "signs"] spRun) : FnOk P w K mg base CX0 2 f fd ["text", "start"] spFig := by
  obtain ⟨tf, hf⟩ := G.figs
  obtain ⟨tm, hm⟩ := G.mf
  refine F.ok scFig (fun vs H Q E h => ?_) (fun cdv A outer s H vs Q E hr h => ?_)
  · obtain ⟨z, k, rfl, _⟩ := h
    rfl
  obtain ⟨z, k, rfl, hz, hk, hn, q⟩ := h
  refine ⟨_, pss_cons (ps_set (i := 2) scFig.nd rfl (Or.inl rfl) (pe_fn R hr (pa_cons (pv 0) (pa_cons (pv 1) (pa_cons (pe_glob (v := .str FIGS) rfl hf ⟨_, rfl⟩) pa_nil)))))
    (pss_cons (ps_if (pt_cmpR op_eq (pv 2) pe_str (nomark _)) pss_never pss_nil)
    (pss_cons (ps_if (pt_cmpR op_gt (pe_callB call_len_str rfl G.len PySem.boot_len (pa_cons (pv 2) pa_nil)) (pe_glob (v := .int 60) rfl hm ⟨_, rfl⟩) (nomark _)) pss_never pss_nil)
    (pss_cons (ps_if (PW.pt (pw_and (pt_cmpR op_eq (pe_ix ix_str (pv 2) pe_int (fun _ _ => rfl)) pe_str (nomark _)) (pw_and1 (pt_cmpR op_gt (pe_callB call_len_str rfl G.len PySem.boot_len (pa_cons (pv 2) pa_nil)) pe_int (nomark _))))) pss_never pss_nil)
    (pss_one (ps_ret (pv 2)))))), ?_⟩
  refine ⟨_, rfl, _, rfl, z, k, figL, by rw [← fig_eq]; rfl, hz, hk, ?_⟩
  have hlen : (S (run figL (z.drop k))).length ≤ sizeLine := by rw [S_len]; exact line_of (Nat.le_trans hn.len (by omega))
  obtain ⟨c, r, hc⟩ : ∃ c r, run figL (z.drop k) = c :: r := by
    cases e : run figL (z.drop k) with
    | nil => exact absurd e hn.ne
    | cons c r => exact ⟨c, r, rfl⟩
  have h0 : (run figL (z.drop k))[0]? = some c := by rw [hc]; rfl
  refine ⟨_, rfl, rfl, _, rfl, iteN (by rw [none_eq]; exact str_ne hn.ne) ?_⟩
  refine ⟨_, rfl, _, rfl, hlen, _, _, rfl, rfl, _, rfl, iteN (by rw [S_len]; have := hn.len; omega) ?_⟩
  refine ⟨_, rfl, _, 0, c, rfl, rfl, hlen, atS h0, rfl, _, rfl, ?_⟩
  by_cases hc0 : c = 48
  · have hl : (run figL (z.drop k)).length = 1 := hn.lead (by rw [h0, hc0])
    refine iteP (by rw [hc0, one_S, zero_eq]) ⟨_, rfl, _, rfl, hlen, _, _, rfl, rfl, _, rfl, iteN (by rw [S_len, hl]; decide) ?_⟩
    exact ⟨_, rfl, q⟩
  · refine iteN (by rw [one_S, zero_eq]; exact str_ne (by simpa using hc0)) (iteF ?_)
    exact ⟨_, rfl, q⟩
theorem scBelow : FnScope ["text", "start", "figures"] ["text", "start"] (defScope sBelow) := ⟨rfl, rfl, rfl, by decide +kernel, rfl, by decide +kernel, by decide +kernel⟩
theorem ok_below (F : Fun K "below_zero_at" "below_zero_at" sBelow f fd) (R : Fn P w K mg base 2 "figures_at" ["text", "start"] spFig) : FnOk P w K mg base CX0 3 f fd ["text", "start"] spBelow := by
  refine F.ok scBelow (fun vs H Q E h => ?_) (fun cdv A outer s H vs Q E hr h => ?_)
  · obtain ⟨z, k, rfl, _⟩ := h
    rfl
  obtain ⟨z, k, rfl, hz, hk, hn, h48, q⟩ := h
  refine ⟨_, pss_cons (ps_set (i := 2) scBelow.nd rfl (Or.inl rfl) (pe_fn R hr (pa_cons (pv 0) (pa_cons (pv 1) pa_nil))))
    (pss_cons (ps_if (pt_cmpR op_eq (pv 2) pe_str (nomark _)) pss_never pss_nil)
    (pss_one (ps_ret (pv 2)))), ?_⟩
  refine ⟨_, rfl, _, rfl, z, k, rfl, hz, hk, hn, ?_⟩
  refine ⟨_, rfl, rfl, _, rfl, iteN (by rw [zero_eq]; exact str_ne h48) ?_⟩
  exact ⟨_, rfl, q⟩
theorem scNameAt : FnScope ["text", "start", "name"] ["text", "start"] (defScope sNameAt) := ⟨rfl, rfl, rfl, by decide +kernel, rfl, by decide +kernel, by decide +kernel⟩
theorem ok_nameAt (F : Fun K "name_at" "name_at" sNameAt f fd) (G : Gm mg) (R : Fn P w K mg base 1 "run_at" ["text", "start", "signs"] spRun) : FnOk P w K mg base CX0 2 f fd ["text", "start"] spNameAt := by
  obtain ⟨tf, hf⟩ := G.lets
  obtain ⟨tm, hm⟩ := G.ml
  refine F.ok scNameAt (fun vs H Q E h => ?_) (fun cdv A outer s H vs Q E hr h => ?_)
  · obtain ⟨z, k, rfl, _⟩ := h
    rfl
  obtain ⟨z, k, rfl, hz, hk, hn, q⟩ := h
  refine ⟨_, pss_cons (ps_set (i := 2) scNameAt.nd rfl (Or.inl rfl) (pe_fn R hr (pa_cons (pv 0) (pa_cons (pv 1) (pa_cons (pe_glob (v := .str LETS) rfl hf ⟨_, rfl⟩) pa_nil)))))
    (pss_cons (ps_if (pt_cmpR op_gt (pe_callB call_len_str rfl G.len PySem.boot_len (pa_cons (pv 2) pa_nil)) (pe_glob (v := .int 8) rfl hm ⟨_, rfl⟩) (nomark _)) pss_never pss_nil)
    (pss_one (ps_ret (pv 2)))), ?_⟩
  refine ⟨_, rfl, _, rfl, z, k, letL, by rw [← let_eq]; rfl, hz, hk, ?_⟩
  have hlen : (S (run letL (z.drop k))).length ≤ sizeLine := by rw [S_len]; exact line_of (by omega)
  refine ⟨_, rfl, _, rfl, hlen, _, _, rfl, rfl, _, rfl, iteN (by rw [S_len]; omega) ?_⟩
  exact ⟨_, rfl, q⟩
theorem scWordAt : FnScope ["text", "start", "first"] ["text", "start"] (defScope sWordAt) := ⟨rfl, rfl, rfl, by decide +kernel, rfl, by decide +kernel, by decide +kernel⟩
theorem drop_at {z : List Nat} {k c : Nat} {r : List Nat} (h : z.drop k = c :: r) : z[k]? = some c ∧ k < z.length ∧ z.drop (k + 1) = r := by
  have h1 : z[k]? = some c := by
    have : (z.drop k)[0]? = some c := by rw [h]; rfl
    simpa [List.getElem?_drop] using this
  refine ⟨h1, (List.getElem?_eq_some_iff.mp h1).1, ?_⟩
  rw [← List.tail_drop, h]; rfl
theorem ok_wordAt (F : Fun K "word_at" "word_at" sWordAt f fd) (G : Gm mg) (RN : Fn P w K mg base 2 "name_at" ["text", "start"] spNameAt) (RF : Fn P w K mg base 2 "figures_at" ["text", "start"] spFig)
    (RB : Fn P w K mg base 3 "below_zero_at" ["text", "start"] spBelow) : FnOk P w K mg base CX0 4 f fd ["text", "start"] spWordAt := by
  obtain ⟨ts, hs⟩ := G.sgns
  obtain ⟨tl, hl⟩ := G.lets
  obtain ⟨tf, hf⟩ := G.figs
  refine F.ok scWordAt (fun vs H Q E h => ?_) (fun cdv A outer s H vs Q E hr h => ?_)
  · obtain ⟨z, k, u, r, rfl, _⟩ := h
    rfl
  obtain ⟨z, k, u, r, rfl, hz, hd, hw, hsep, q⟩ := h
  have hzl : (S z).length ≤ sizeLine := by rw [S_len]; exact line_of hz
  refine ⟨_, pss_cons (ps_set (i := 2) scWordAt.nd rfl (Or.inl rfl) (pe_ix ix_str (pv 0) (pv 1) (fun _ _ => rfl)))
    (pss_cons (ps_if (pt_cmpR op_in_one (pv 2) (pe_glob (v := .str SGNS) rfl hs ⟨_, rfl⟩) (by with_unfolding_all rfl)) (pss_one (ps_ret (pv 2))) pss_nil)
    (pss_cons (ps_if (pt_cmpR op_in_one (pv 2) (pe_glob (v := .str LETS) rfl hl ⟨_, rfl⟩) (by with_unfolding_all rfl)) (pss_one (ps_ret (pe_fn RN hr (pa_cons (pv 0) (pa_cons (pv 1) pa_nil))))) pss_nil)
    (pss_cons (ps_if (pt_cmpR op_eq (pv 2) pe_str (nomark _)) (pss_one (ps_ret (pe_op op_add_str pe_str (pe_fn RB hr (pa_cons (pv 0) (pa_cons (pe_op op_add (pv 1) pe_int) pa_nil)))))) pss_nil)
    (pss_cons (ps_if (pt_cmpR op_in_one (pv 2) (pe_glob (v := .str FIGS) rfl hf ⟨_, rfl⟩) (by with_unfolding_all rfl)) (pss_one (ps_ret (pe_fn RF hr (pa_cons (pv 0) (pa_cons (pv 1) pa_nil))))) pss_nil)
    pss_never)))), ?_⟩
  obtain ⟨c, u', hu, _⟩ := hw.head
  have hd' : z.drop k = c :: (u' ++ r) := by rw [hd, hu]; rfl
  obtain ⟨hat, hkl, hd1⟩ := drop_at hd'
  refine ⟨_, rfl, _, rfl, _, _, _, rfl, rfl, hzl, atS hat, ?_⟩
  refine ⟨_, rfl, _, _, rfl, rfl, _, rfl, ?_⟩
  rw [sgn_cps]
  cases hw with
  | @sign d hs' =>
    have e : d = c := by injection hu
    subst e
    exact iteP hs' ⟨_, rfl, q⟩
  | name hne h8 hall =>
    have hc : c ∈ letL := hall c (by rw [hu]; simp)
    have hrun : run letL (z.drop k) = u := by rw [hd]; exact run_eq hall (hsep.let_of hne hall)
    refine iteN (let_sgn c hc) ⟨_, rfl, _, _, rfl, rfl, _, rfl, ?_⟩
    rw [let_cps]
    refine iteP hc ⟨_, rfl, _, rfl, z, k, rfl, hz, Nat.le_of_lt hkl, by rw [hrun]; exact h8, ?_⟩
    rw [hrun]; exact q
  | num hn =>
    have hc : c ∈ figL := hn.all c (by rw [hu]; simp)
    have hrun : run figL (z.drop k) = u := by rw [hd]; exact run_eq hn.all (hsep.fig_of hn.ne hn.all)
    refine iteN (fig_sgn c hc) ⟨_, rfl, _, _, rfl, rfl, _, rfl, ?_⟩
    rw [let_cps]
    refine iteN (fig_let c hc) ⟨_, rfl, rfl, _, rfl, iteN (by rw [one_S, minus_eq]; exact str_ne (by simpa using (fig_32 c hc).2)) ⟨_, rfl, _, _, rfl, rfl, _, rfl, ?_⟩⟩
    rw [fig_cps]
    refine iteP hc ⟨_, rfl, _, rfl, z, k, rfl, hz, Nat.le_of_lt hkl, by rw [hrun]; exact hn, ?_⟩
    rw [hrun]; exact q
  | @neg v hn h48 =>
    have e : 45 = c ∧ v = u' := by injection hu with h1 h2; exact ⟨h1, h2⟩
    obtain ⟨e1, e2⟩ := e
    subst e1; subst e2
    have hrun : run figL (z.drop (k + 1)) = v := by rw [hd1]; exact run_eq hn.all ((hsep.tail hn.ne).fig_of hn.ne hn.all)
    refine iteN n45.1 ⟨_, rfl, _, _, rfl, rfl, _, rfl, ?_⟩
    rw [let_cps]
    refine iteN n45.2.1 ⟨_, rfl, rfl, _, rfl, iteP (by rw [one_S, minus_eq]) ?_⟩
    refine ⟨_, rfl, _, rfl, _, _, rfl, rfl, z, k + 1, rfl, hz, hkl, by rw [hrun]; exact hn, by rw [hrun]; exact h48, ?_⟩
    rw [hrun]
    refine ⟨_, _, rfl, rfl, ?_, ?_⟩
    · rw [minus_eq, S_len, S_len]
      have := hn.len
      exact line_of (by simp; omega)
    · rw [minus_eq, S_app]; exact q
end
end K5
namespace K5
open PySem L2 K3
section
variable {P : Program} {w : World} {K : PySem.W.Frag} {mg : Str → Option Value} {base : Heap} {f : Addr} {fd : FuncData}
theorem scWords : FnScope ["text", "told", "start", "word"] ["text"] (defScope sWords) := ⟨rfl, rfl, rfl, by decide +kernel, rfl, by decide +kernel, by decide +kernel⟩
theorem W_app (a b : List (List Nat)) : W (a ++ b) = W a ++ W b := by simp [W]
theorem W_len (a : List (List Nat)) : (W a).length = a.length := by simp [W]
theorem ok_words (F : Fun K "words" "words" sWords f fd) (G : Gm mg) (R : Fn P w K mg base 4 "word_at" ["text", "start"] spWordAt) : FnOk P w K mg base CX0 5 f fd ["text"] spWords := by
  refine F.ok scWords (fun vs H Q E h => ?_) (fun cdv A outer s H vs Q E hr h => ?_)
  · obtain ⟨z, ws, rfl, _⟩ := h
    rfl
  obtain ⟨z, ws, rfl, hz, hW, q⟩ := h
  have hzl : (S z).length ≤ sizeLine := by rw [S_len]; exact line_of hz
  refine ⟨_, pss_cons (ps_if (pt_not (pt_val (pe_callB call_isinst rfl G.isi PyProof.Rows.boot_isinstance (pa_cons (pv 0) (pa_cons (pe_bltn (v := .ty "str") rfl G.str PyProof.Rows.boot_str rfl) pa_nil))))) pss_never pss_nil)
    (pss_cons (ps_set (i := 1) scWords.nd rfl (Or.inl rfl) (pe_lst pa_nil))
    (pss_cons (ps_set (i := 2) scWords.nd rfl (Or.inl rfl) pe_int)
    (pss_cons (ps_while PassesOwn.never (pt_cmpR op_lt (pv 2) (pe_callB call_len_str rfl G.len PySem.boot_len (pa_cons (pv 0) pa_nil)) (nomark _))
      (pss_one (ps_if (pt_cmpR op_eq (pe_ix ix_str (pv 0) (pv 2) (fun _ _ => rfl)) pe_str (nomark _))
        (pss_one (ps_aug (i := 2) scWords.nd rfl (Or.inl rfl) pe_int ip_add))
        (pss_cons (ps_set (i := 3) scWords.nd rfl (Or.inl rfl) (pe_fn R hr (pa_cons (pv 0) (pa_cons (pv 2) pa_nil))))
        (pss_cons (ps_expr (pe_bm PySem.F.plainAttrs_list PySem.F.slot_list_append PySem.F.type_list_append mt_append (pv 1) (pa_cons (pv 3) pa_nil)))
        (pss_one (ps_aug (i := 2) scWords.nd rfl (Or.inl rfl) (pe_callB call_len_str rfl G.len PySem.boot_len (pa_cons (pv 3) pa_nil)) ip_add)))))))
    (pss_one (ps_ret (pv 1)))))), ?_⟩
  refine ⟨_, rfl, _, "str", _, true, rfl, .str _, rfl, _, rfl, iteF ?_⟩
  refine ⟨(by show 0 ≤ sizeLine; decide), fun l hl => ?_⟩
  have hws := hW.len
  refine ⟨fun m σ H' => ∃ (k : Nat) (done rest : List (List Nat)) (wd : Option V), σ = [some (.str (S z)), some (.ref l), some (.int (k : Int)), wd] ∧ Same H H' ∧ H' l = some (.lst (W done)) ∧ done ++ rest = ws ∧ Writ (z.drop k) rest ∧ k ≤ z.length ∧ m = z.length - k,
    ⟨_, 0, [], ws, none, rfl, same_new hl _, upd_same, rfl, hW, Nat.zero_le _, rfl⟩, ?_⟩
  rintro m σ H' ⟨k, done, rest, wd, rfl, hsame, hl', hdr, hwr, hk, rfl⟩
  refine ⟨_, rfl, _, rfl, _, rfl, hzl, _, _, rfl, rfl, _, rfl, ?_⟩
  refine ite2 (fun c => ?_) (fun c => ?_)
  · have c' : (k : Int) < (((S z).length : Nat) : Int) := of_decide_eq_true c
    rw [S_len] at c'
    have hkl : k < z.length := by omega
    have hat : z[k]? = some z[k] := List.getElem?_eq_getElem hkl
    have hdk : z.drop k = z[k] :: z.drop (k + 1) := List.drop_eq_getElem_cons hkl
    refine ⟨_, fun σ' H'' q' => q', ?_⟩
    refine ⟨_, rfl, _, rfl, _, _, _, rfl, rfl, hzl, atS hat, rfl, _, rfl, ?_⟩
    rcases hwr.step (by rw [hdk]; exact List.cons_ne_nil _ _) with ⟨r, er, hr'⟩ | ⟨u, r, vs, er, ev, hu, hsep, hr'⟩
    · have e32 : z[k] = 32 ∧ z.drop (k + 1) = r := by rw [hdk] at er; injection er with h1 h2; exact ⟨h1, h2⟩
      refine iteP (by rw [e32.1, one_S, blank_eq]) ⟨_, rfl, _, _, rfl, rfl, ?_⟩
      exact ⟨z.length - (k + 1), by omega, k + 1, done, rest, wd, rfl, hsame, hl', hdr, by rw [e32.2]; exact hr', by omega, rfl⟩
    · obtain ⟨c0, u', hu0, h32⟩ := hu.head
      have ec : z[k] = c0 := by
        rw [hdk, hu0] at er
        injection er
      have hul : 0 < u.length := List.length_pos_iff.mpr hu.ne
      have hzk : z.length - k = u.length + r.length := by
        have := congrArg List.length er
        rw [List.length_drop, List.length_append] at this
        exact this
      refine iteN (by rw [ec, one_S, blank_eq]; exact str_ne (by simpa using h32)) ?_
      refine ⟨_, rfl, _, rfl, z, k, u, r, rfl, hz, er, hu, hsep, ?_⟩
      have hdl : done.length < 5000 := by
        have h1 : (done ++ rest).length = ws.length := by rw [hdr]
        rw [List.length_append, ev, List.length_cons] at h1
        omega
      refine ⟨_, rfl, .inl ⟨rfl, _, SqL.of hl'⟩, _, rfl, l, _, _, rfl, rfl, hl', by rw [W_len, size_line]; omega, ?_⟩
      have hul' : (S u).length ≤ sizeLine := by rw [S_len]; exact line_of (Nat.le_trans hu.len (by omega))
      refine ⟨_, rfl, _, rfl, _, rfl, hul', _, _, rfl, rfl, ?_⟩
      refine ⟨z.length - (k + u.length), by omega, k + u.length, done ++ [u], vs, some (.str (S u)), ?_, ?_, ?_, ?_, ?_, by omega, rfl⟩
      · rw [S_len]; rfl
      · intro b o hb
        have hne : b ≠ l := ne_of_none hb hl
        rw [upd_ne hne]; exact hsame b o hb
      · rw [upd_same, W_app]; rfl
      · rw [← hdr, ev, List.append_assoc]; rfl
      · rw [← List.drop_drop, er, List.drop_left]; exact hr'
  · have c' : ¬ (k : Int) < (((S z).length : Nat) : Int) := of_decide_eq_false (Bool.eq_false_iff.mpr c)
    rw [S_len] at c'
    have hnil : z.drop k = [] := List.drop_eq_nil_of_le (by omega)
    rw [hnil] at hwr
    have hre : rest = [] := by
      have := hwr.len
      exact List.length_eq_zero_iff.mp (by simpa using this)
    rw [hre, List.append_nil] at hdr
    refine ⟨_, rfl, q l H' hsame (by rw [← hdr]; exact hl') hl⟩
theorem scNameBy : FnScope ["_law_cell", "_law_letters", "_law_name", "_law_k"] ["_law_cell"] (defScope sNameBy) := ⟨rfl, rfl, rfl, by decide +kernel, rfl, by decide +kernel, by decide +kernel⟩
theorem ok_nameBy (F : Fun K "_law_name_by" "_law_name_by" sNameBy f fd) (G : Gm mg) : FnOk P w K mg base CX0 1 f fd ["_law_cell"] spNameBy := by
  refine F.ok scNameBy (fun vs H Q E h => ?_) (fun cdv A outer s H vs Q E hr h => ?_)
  · obtain ⟨c, rfl, _⟩ := h
    rfl
  obtain ⟨c, rfl, q⟩ := h
  refine ⟨_, pss_cons (ps_set (i := 1) scNameBy.nd rfl (Or.inl rfl) pe_str)
    (pss_cons (ps_set (i := 2) scNameBy.nd rfl (Or.inl rfl) pe_str)
    (pss_cons (ps_for PassesOwn.never rfl (pi_range1 rfl G.rng (pa_cons (pe_op op_add pe_int (pe_op op_mod (pv 0) pe_int)) pa_nil)) (pg_name (i := 3) scNameBy.nd rfl (Or.inl rfl))
      (pss_cons (ps_set (i := 0) scNameBy.nd rfl (Or.inl rfl) (pe_op op_add (pe_op op_fdiv (pv 0) pe_int) (pe_op op_mul pe_int (pv 3))))
      (pss_one (ps_set (i := 2) scNameBy.nd rfl (Or.inl rfl) (pe_op op_add_str (pv 2) (pe_ix ix_str (pv 1) (pe_op op_mod (pv 0) pe_int) (fun _ _ => rfl)))))))
    (pss_one (ps_ret (pv 2))))), ?_⟩
  have h0 : 0 ≤ c % 8 := Int.emod_nonneg c (by decide)
  have h8 : c % 8 < 8 := Int.emod_lt_of_pos c (by decide)
  refine ⟨_, rfl, _, _, rfl, rfl, (by show (0 : Int) < 8; decide), _, _, rfl, rfl, _, rfl, (by show -(2 ^ 62 : Int) ≤ 1 + c % 8; omega), (by show (1 + c % 8 : Int) < 2 ^ 62; omega), ?_⟩
  refine for_range (lo := 0) (n := (1 + c % 8).toNat) (fun i σ H' => ∃ (d : Int) (nm : List Nat) (kv : Option V), σ = [some (.int d), some (.str LETS), some (.str (S nm)), kv] ∧ H' = H ∧ nm.length = i ∧ (∀ x ∈ nm, x ∈ letL))
    ⟨c, [], none, by rw [← none_eq]; rfl, rfl, rfl, fun x hx => by cases hx⟩ ?_ ?_
  · rintro i σ H' hi ⟨d, nm, kv, rfl, rfl, hl, ha⟩
    refine ⟨_, rfl, _, _, rfl, rfl, ⟨by decide, by decide⟩, _, rfl, _, _, rfl, rfl, .inl ⟨by decide, by decide⟩, _, _, rfl, rfl, ?_⟩
    have hm0 : 0 ≤ (d / 3 + 7 * (0 + (i : Int))) % 26 := Int.emod_nonneg _ (by decide)
    have hm1 : (d / 3 + 7 * (0 + (i : Int))) % 26 < 26 := Int.emod_lt_of_pos _ (by decide)
    obtain ⟨ch, hch, hcl⟩ := letL_at ((d / 3 + 7 * (0 + (i : Int))) % 26).toNat (by omega)
    have hcast : (d / 3 + 7 * (0 + (i : Int))) % 26 = ((((d / 3 + 7 * (0 + (i : Int))) % 26).toNat : Nat) : Int) := by omega
    have hat : atI LETS.cps.toList ((d / 3 + 7 * (0 + (i : Int))) % 26) = some ch := by
      rw [hcast, let_cps]; exact atI_nat hch
    refine ⟨_, rfl, _, rfl, _, rfl, _, _, rfl, rfl, (by show (0 : Int) < 26; decide), _, _, ch, rfl, rfl, (by rw [let_eq, S_len]; exact line_of (by decide)), hat, _, _, rfl, rfl, ?_, ?_⟩
    · rw [one_S, S_len, S_len]; exact line_of (by simp only [List.length_singleton]; omega)
    · refine ⟨d / 3 + 7 * (0 + (i : Int)), nm ++ [ch], some (.int (0 + (i : Int))), ?_, rfl, by simp [hl], fun x hx => ?_⟩
      · rw [one_S, S_app]; rfl
      · rcases List.mem_append.mp hx with y | y
        · exact ha x y
        · have : x = ch := by simpa using y
          rw [this]; exact hcl
  · rintro σ H' ⟨d, nm, kv, rfl, rfl, hl, ha⟩
    refine ⟨_, rfl, q nm ?_ ?_ ha⟩
    · intro e; rw [e] at hl; simp at hl; omega
    · omega
end
end K5
namespace L2
open PySem PySem.Spec PyProof.Rows
section
variable {κ : Type} [DecidableEq κ]
end
section
variable {P : Program} {w : World} {H : Hp} {h : Heap} {a : Addr}
end
section
variable {X : Cx} {pins : List (Addr × Obj)} {σ : St} {H : Hp} {s : Shared} {a : Addr} {y v : V} {u r : Value} {o : Option V} {A : Around} {E : Value → Shared → Prop}
end
section
variable {X : Cx} {pins : List (Addr × Obj)} {σ : St} {H : Hp} {s : Shared} {a : Addr} {kvs : List (Key × V)} {k : Key} {u : Value} {A : Around} {E : Value → Shared → Prop}
end
section
variable {X : Cx} {o i e value : Expr} {pos pos' tpos : Pos} {td ty tv : TE}
end
section
variable {X : Cx} {pos : Pos}
end
structure M1 (X : Cx) (o : Expr) (m : Str) (apos : Pos) (e : Expr) (cpos : Pos) : Prop where
  base : attributeBase o m X.env (eval o X.env) = eval o X.env
  few : ((backTo cpos (starEach [e] X.env)).all (fun x => !x.1) && (backToKw cpos (keywordEach [] X.env)).all (fun x => x.1.isSome)
    && decide (([e] : List Expr).length + ([] : List Keyword).length + (if ([] : List Keyword).isEmpty then 0 else 1) < 30)) = true
  line : (apos.endLine == cpos.line) = true
  trees : backTo cpos (starEach [e] X.env) = [(false, eval e X.env)]
structure M2 (X : Cx) (o : Expr) (m : Str) (apos : Pos) (e f : Expr) (cpos : Pos) : Prop where
  base : attributeBase o m X.env (eval o X.env) = eval o X.env
  few : ((backTo cpos (starEach [e, f] X.env)).all (fun x => !x.1) && (backToKw cpos (keywordEach [] X.env)).all (fun x => x.1.isSome)
    && decide (([e, f] : List Expr).length + ([] : List Keyword).length + (if ([] : List Keyword).isEmpty then 0 else 1) < 30)) = true
  line : (apos.endLine == cpos.line) = true
  trees : backTo cpos (starEach [e, f] X.env) = [(false, eval e X.env), (false, eval f X.env)]
section
variable {X : Cx} {pins : List (Addr × Obj)} {σ : St} {H : Hp} {s : Shared} {a : Addr} {y d : V} {u r : Value} {o : Option V} {A : Around} {E : Value → Shared → Prop}
end
section
variable {X : Cx} {o e f : Expr} {apos cpos : Pos} {td ty tx : TE}
end
section
variable {X : Cx} {pins : List (Addr × Obj)} {σ : St} {H : Hp} {s : Shared} {a : Addr} {kvs : List (Key × V)} {A : Around} {E : Value → Shared → Prop}
end
section
variable {X : Cx} {pins : List (Addr × Obj)} {σ : St} {H : Hp} {s : Shared} {a : Addr} {y : V} {u : Value} {A : Around} {E : Value → Shared → Prop}
end
end L2
namespace L2
open PySem PySem.Spec PyProof.Rows
section
variable {X : Cx}
theorem Same.seqT {K : PySem.W.Frag} {H H' : Hp} {a : Addr} {xs : List V} (e : Same H H') (h : SqT K H a xs) : SqT K H' a xs := by
  rcases h with (h | ⟨o, h⟩) | h
  · exact .inl (.inl (e _ _ h))
  · exact .inl (.inr ⟨o, e _ _ h⟩)
  · exact .inr h
def rInsert : V → List V → Hp → VK → Prop := fun x vs H Q => ∃ l xs y, x = .ref l ∧ vs = [.int 0, y] ∧ H l = some (.lst xs) ∧ xs.length < sizeLine ∧ Q .non (upd H l (.lst (y :: xs)))
theorem mt_insert0 : MtM X "list.insert" rInsert := by
  intro pins s σ H x vs v us Q I rx rv h
  obtain ⟨l, xs, y, e1, e2, hH, hz, q⟩ := h
  subst e1; subst e2
  cases (show v = Value.ref l from rx)
  obtain ⟨u0, u, e3, r0, ru⟩ := rv.two
  subst e3
  obtain ⟨t, e4⟩ := (show ∃ t, u0 = Value.int 0 t from r0)
  subst e4
  obtain ⟨z, its, n, r, hl, e⟩ := I.lstM hH
  have hfit : ¬ (!Builtin.List.listFitsIndex 0) = true := by decide
  refine call_meets F.slot_list_insert ⟨_, e, rfl⟩ F.entry_list_insert (F.args_list_insert_3 _ _ _) (AutoSeq1.list_insert_list_int_val_1 l its.toArray n 0 t u hfit (by rw [List.size_toArray]; omega)) ⟨e, ?_⟩
  refine ⟨.non, _, I.lset (its' := u :: its) hH e ?_ (.cons ru r) ?_, rfl, q⟩
  · apply Array.toList_inj.mp
    simp
  · rw [List.length_cons]; omega
end
def Itd (hi : Int) (n : Nat) : It := ⟨fun i _ => i < n, fun i H x H' => H' = H ∧ x = .int (hi - i), fun i _ => n ≤ i⟩
theorem turn_rangeD {P : Program} {w : World} {K : PySem.W.Frag} {tg : Expr} (it : Addr) (hi : Int) (n : Nat) : Turn P w K tg (Itd hi n) [it] it (fun i h => IsRangeIter h it (hi + (i : Nat) * (-1)) ((n : Int) - (i : Nat)) (-1)) where
  mem := by simp
  obj := fun i h st b hb => by
    have e : b = it := by simpa using hb
    subst e
    exact ⟨_, st, fun v z => by
      have z' : Data.fields _ = Data.cell v := z
      cases z'⟩
  keep := fun i h h' st k => k it (by simp) _ st
  item := by
    intro X hP hw hK hc i pins s σ H E I hf st hg
    subst hP hw hK
    have hg' : i < n := hg
    obtain ⟨f0, f1, f2, f3, f4, f5⟩ := hf it (by simp)
    refine wpAny_pyNext_range_item st (by omega) fun h' st' sb => ?_
    have I1 : Inv X pins σ H { s with heap := h', toks := s.toks + 1 } := I.turned (t' := s.toks + 1) (fun b o hb e => (sb.2 b hb).trans e) f0 f1 f3 f4 f5
    have st2 : IsRangeIter h' it (hi + ((i + 1 : Nat) : Int) * (-1)) ((n : Int) - ((i + 1 : Nat) : Int)) (-1) := by
      have e1 : hi + ((i + 1 : Nat) : Int) * (-1) = hi + (i : Nat) * (-1) + (-1) := by omega
      have e2 : (n : Int) - ((i + 1 : Nat) : Int) = (n : Int) - (i : Nat) - 1 := by omega
      rw [e1, e2]; exact st'
    exact ⟨_, rfl, go_of (s := { s with heap := h', toks := s.toks + 1 }) (n := "range_iterator") st2 rfl rfl (by decide) ⟨.int (hi - i), H, I1, ⟨s.toks, by congr 1; omega⟩, ⟨rfl, rfl⟩, st2, fun b hb => (hf b hb).1⟩⟩
  done := by
    intro X hP hw hK hc i pins s σ H E I hf st hg
    subst hP hw hK
    have hg' : n ≤ i := hg
    obtain ⟨f0, f1, f2, f3, f4, f5⟩ := hf it (by simp)
    exact wpAny_pyNext_range_end (I.ok.hd hc) st (by omega) fun h' eb => ⟨rfl, I.turned (t' := s.toks) (fun b o hb e => eb b o hb e) f0 f1 f3 f4 f5⟩
  self := fun _ _ _ _ _ st h => wpAny_pyIter_rangeiter st h
section
variable {X : Cx} {tg : Expr}
theorem rangeSize_neg (a b : Int) : Builtin.Range.rangeSize a b (-1) = if b < a then a - b else 0 := by
  unfold Builtin.Range.rangeSize
  simp only [show ¬ ((-1 : Int) > 0) by decide, if_false]
  split <;> first | omega | (simp; omega) | simp
def iRngD (ta : TA) : TI := fun σ H R => ta σ H fun vs H1 => ∃ i j : Int, vs = [.int i, .int j, .int (-1)] ∧ (-(2 ^ 20) ≤ i ∧ i < 2 ^ 20 ∧ -(2 ^ 20) ≤ j ∧ j < 2 ^ 20) ∧ R (Itd i (i - j).toNat) H1
theorem pi_rangeD {a b c : Expr} {ta : TA} {p pos : Pos} (hg : Gl X "range") (hm : X.mg "range" = none) (ha : PA X [a, b, c] ta) (hs : starEach [a, b, c] X.env = [(false, eval a X.env), (false, eval b X.env), (false, eval c X.env)] := by rfl)
    (hs2 : starEach [b, c] X.env = [(false, eval b X.env), (false, eval c X.env)] := by rfl) : PI X tg (.Call (.Name "range" p) [a, b, c] [] pos) (iRngD ta) := by
  intro pins s σ H R I h
  refine Call_ (ld_blt I hg hm boot_range (PyProof.Rows.callWith_type1 (thn (ha pos pins s σ H _ I h) fun us s1 ⟨vs, H1, I1, r1, q1⟩ => ?_) (by rw [hs, hs2]) (by rw [hs2]; rfl)))
  obtain ⟨i, j, e, ⟨q1, q2, q3, q4⟩, q⟩ := q1
  subst e
  cases r1 with
  | cons r rr =>
    cases rr with
    | cons r' rr =>
      cases rr with
      | cons r'' rr =>
        cases rr
        obtain ⟨t, rfl⟩ := r
        obtain ⟨t', rfl⟩ := r'
        obtain ⟨t'', rfl⟩ := r''
        refine call_range_3 (by decide) ?_ (.inl (PyProof.noPylong_small (by decide)))
        have hsmall : Builtin.Range.small i j (-1) = true := by
          unfold Builtin.Range.small
          rw [rangeSize_neg]
          simp only [Builtin.Range.rangeFitsLong, Bool.and_eq_true, Bool.or_eq_true, decide_eq_true_eq, beq_iff_eq, show ¬ ((-1 : Int) > 0) by decide, if_false]
          split <;> omega
        refine wpAny_pyIter_range (IsRange.new ..) hsmall ?_
        have I2 : Inv X pins σ H1 { s1 with heap := s1.heap.push { cls := .type "range", data := .fields #[.int i t, .int j t', .int (-1) t''] }, toks := s1.toks } := I1.kept fun b o e => Heap.get?_push_of_some _ e
        refine ⟨(s1.heap.push { cls := .type "range", data := .fields #[.int i t, .int j t', .int (-1) t''] }).objs.size, [(s1.heap.push { cls := .type "range", data := .fields #[.int i t, .int j t', .int (-1) t''] }).objs.size], _, _, H1, rfl,
          I2.kept (t' := s1.toks) fun b o e => Heap.get?_push_of_some _ e, turn_rangeD _ i (i - j).toNat, ?_, fun b hb => ?_, q⟩
        · have e1 : i + ((0 : Nat) : Int) * (-1) = i := by omega
          have e2 : (((i - j).toNat : Nat) : Int) - ((0 : Nat) : Int) = Builtin.Range.rangeSize i j (-1) := by rw [rangeSize_neg]; split <;> omega
          show IsRangeIter _ _ (i + ((0 : Nat) : Int) * (-1)) ((((i - j).toNat : Nat) : Int) - ((0 : Nat) : Int)) (-1)
          rw [e1, e2]
          exact Heap.get?_push_size _ rfl
        · have e : b = (s1.heap.push { cls := .type "range", data := .fields #[.int i t, .int j t', .int (-1) t''] }).objs.size := by simpa using hb
          subst e
          exact I2.fpOk (Nat.le_refl _) (I2.hok.fresh (Nat.le_refl _))
theorem for_rangeD {hi : Int} {n : Nat} {g : TG} {tb : TS} {D : Ends} {σ : St} {H : Hp} (Pv : Nat → St → Hp → Prop) (h0 : Pv 0 σ H)
    (hs : ∀ i σ H, i < n → Pv i σ H → g (.int (hi - i)) σ H fun σ2 H2 => tb { D with nx := Pv (i + 1), ct := Pv (i + 1), bk := D.nx } σ2 H2) (hd : ∀ σ H, Pv n σ H → D.nx σ H) :
    ∃ W : Nat → Nat → St → Hp → Prop, (∃ m, W 0 m σ H) ∧ ∀ i m σ H, W i m σ H →
      ((Itd hi n).stop i H ∧ D.nx σ H) ∨ ((Itd hi n).go i H ∧ ∃ N : St → Hp → Prop, (∀ σ' H', N σ' H' → ∃ m', m' < m ∧ W (i + 1) m' σ' H') ∧ ∀ x H', (Itd hi n).yld i H x H' → g x σ H' fun σ2 H2 => tb { D with nx := N, ct := N, bk := D.nx } σ2 H2) := by
  refine ⟨fun i m σ H => m = n - i ∧ i ≤ n ∧ Pv i σ H, ⟨n - 0, rfl, Nat.zero_le _, h0⟩, ?_⟩
  rintro i m σ H ⟨rfl, hi', p⟩
  by_cases h : i < n
  · refine .inr ⟨h, Pv (i + 1), fun σ' H' p' => ⟨n - (i + 1), by omega, rfl, h, p'⟩, ?_⟩
    rintro x H' ⟨rfl, rfl⟩
    exact hs i σ _ h p
  · have e : i = n := by omega
    subst e
    exact .inl ⟨Nat.le_refl _, hd σ H p⟩
end
end L2
namespace TM
inductive Tree (α : Type) where
  | node (name : α) (mark : Int) (bs : List (Tree α))
variable {α : Type}
def Tree.bs : Tree α → List (Tree α)
  | .node _ _ bs => bs
def atT : Tree α → List Int → Option (Tree α)
  | t, [] => some t
  | t, i :: r => if 0 ≤ i then (match t.bs[i.toNat]? with
    | some b => atT b r
    | none => none) else none
theorem atT_nil (t : Tree α) : atT t [] = some t := by cases t; rfl
theorem atT_cons (t : Tree α) (i : Int) (r : List Int) : atT t (i :: r) = if 0 ≤ i then (match t.bs[i.toNat]? with
    | some b => atT b r
    | none => none) else none := by cases t; rfl
def putB : Tree α → List Int → Tree α → Tree α
  | _, [], o => o
  | .node a m bs, i :: r, o => match bs[i.toNat]? with
    | some b => .node a m (bs.set i.toNat (putB b r o))
    | none => .node a m bs
structure Rows (α : Type) where
  n : Nat
  nm : Nat → α
  mr : Nat → Int
  up : Nat → Nat
structure Rows.Ok (R : Rows α) : Prop where
  pos : 0 < R.n
  up0 : R.up 0 = 0
  upk : ∀ k, 0 < k → R.up k < k
variable {R : Rows α}
section
variable {K : Nat → List Int} {B : Nat → Tree α} {o0 : Tree α}
def it (R : Rows α) : Nat → Nat → Nat
  | 0, s => s
  | j + 1, s => R.up (it R j s)
variable {B' : Nat → Tree α} {o : Tree α} {s : Nat}
end
end TM
namespace L2
open PySem PySem.Spec PyProof.Rows TM
mutual
inductive TrV (K : PySem.W.Frag) (H : Hp) : V → Tree Str → Prop where
  | mk {a b : Addr} {vs : List V} {ts : List (Tree Str)} {name : Str} {mark : Int} : SqT K H a [.str name, .int mark, .ref b] → SqT K H b vs → TrAll K H vs ts → vs.length ≤ 1000 → TrV K H (.ref a) (.node name mark ts)
inductive TrAll (K : PySem.W.Frag) (H : Hp) : List V → List (Tree Str) → Prop where
  | nil : TrAll K H [] []
  | cons {v : V} {vs : List V} {t : Tree Str} {ts : List (Tree Str)} : TrV K H v t → TrAll K H vs ts → TrAll K H (v :: vs) (t :: ts)
end
mutual
theorem TrV.mono {K : PySem.W.Frag} {H H' : Hp} (k : ∀ a xs, SqT K H a xs → SqT K H' a xs) : ∀ {v : V} {t : Tree Str}, TrV K H v t → TrV K H' v t
  | _, _, .mk h1 h2 h3 h4 => .mk (k _ _ h1) (k _ _ h2) (TrAll.mono k h3) h4
theorem TrAll.mono {K : PySem.W.Frag} {H H' : Hp} (k : ∀ a xs, SqT K H a xs → SqT K H' a xs) : ∀ {vs : List V} {ts : List (Tree Str)}, TrAll K H vs ts → TrAll K H' vs ts
  | _, _, .nil => .nil
  | _, _, .cons h t => .cons (TrV.mono k h) (TrAll.mono k t)
end
theorem TrAll.length {K : PySem.W.Frag} {H : Hp} : ∀ {vs : List V} {ts : List (Tree Str)}, TrAll K H vs ts → vs.length = ts.length
  | _, _, .nil => rfl
  | _, _, .cons _ t => by rw [List.length_cons, List.length_cons, TrAll.length t]
theorem TrAll.get {K : PySem.W.Frag} {H : Hp} : ∀ {vs : List V} {ts : List (Tree Str)} {i : Nat} {t : Tree Str}, TrAll K H vs ts → ts[i]? = some t → ∃ v, vs[i]? = some v ∧ TrV K H v t
  | _, _, _, _, .nil, e => by simp at e
  | _, _, 0, _, .cons h _, e => by simp at e; subst e; exact ⟨_, rfl, h⟩
  | _, _, i + 1, t, .cons _ r, e => by
    obtain ⟨v, h1, h2⟩ := TrAll.get (i := i) (t := t) r (by simpa using e)
    exact ⟨v, by simpa using h1, h2⟩
theorem SqT.put {K : PySem.W.Frag} {H : Hp} {a d : Addr} {xs ys : List V} {o : HO} (h : SqT K H a xs) (hd : H d = some (.lst ys)) : SqT K (upd H d o) a xs := by
  rcases h with (h | ⟨ob, h⟩) | h
  · exact .inl (.inl (by rw [upd_ne (ne_of h hd (by intro z; cases z))]; exact h))
  · exact .inl (.inr ⟨ob, by rw [upd_ne (ne_of h hd (by intro z; cases z))]; exact h⟩)
  · exact .inr h
end L2
namespace L2
open PySem
def SameX (x : Addr) (H H' : Hp) : Prop := ∀ b u, b ≠ x → H b = some u → H' b = some u
theorem SameX.refl (x : Addr) (H : Hp) : SameX x H H := fun _ _ _ e => e
theorem SameX.trans {x : Addr} {H H1 H2 : Hp} (a : SameX x H H1) (b : SameX x H1 H2) : SameX x H H2 := fun c u n e => b c u n (a c u n e)
theorem SameX.of {x : Addr} {H H' : Hp} (h : Same H H') : SameX x H H' := fun b u _ e => h b u e
theorem SameX.upd {x : Addr} {H : Hp} {o : HO} : SameX x H (upd H x o) := fun b u n e => by rw [upd_ne n]; exact e
structure InsAt (H : Hp) (x : Addr) : Prop where
  ex : ∃ C dx fs, H x = some (.ins C dx fs)
theorem put_no {f g : Str} {v y : V} {r : List (Str × V)} (h : ¬ g = f) : putF f v ((g, y) :: r) = (g, y) :: putF f v r := by
  show (if g = f then _ else _) = _
  rw [if_neg h]
theorem put_yes {f : Str} {v y : V} {r : List (Str × V)} : putF f v ((f, y) :: r) = (f, v) :: r := by
  show (if f = f then _ else _) = _
  rw [if_pos rfl]
end L2
namespace L2
open PySem PySem.Spec PyProof.Rows
def lamArgs (e : Expr) : Arguments := match e with
  | .Lambda a _ _ _ => a
  | _ => { posonlyargs := [], args := [], vararg := none, kwonlyargs := [], kw_defaults := [], kwarg := none, defaults := [] }
def lamBody (e : Expr) : Expr := match e with
  | .Lambda _ b _ _ => b
  | _ => e
def lamScope (e : Expr) : Scope := match e with
  | .Lambda _ _ s _ => s
  | _ => { kind := .function, names := [], isGenerator := false, isCoroutine := false }
def lamPos (e : Expr) : Pos := match e with
  | .Lambda _ _ _ p => p
  | _ => ⟨0, 0, 0, 0⟩
def retOf (s : Stmt) : Expr := match (defBody s).getLast? with
  | some (.Return (some e) _) => e
  | _ => .Name "" ⟨0, 0, 0, 0⟩
def argOf (e : Expr) (i : Nat) : Expr := match e with
  | .Call _ as _ _ => as.getD i e
  | _ => e
abbrev lamFn (qual : Str) (e : Expr) (pm : Value) (c : Addr) (ctv : Value) : FuncData := PySem.W.kla_fn "<lambda>" qual (lamArgs e) (lamBody e) (lamScope e) [] pm (.ref c) ctv
def LamO (f : Addr) (fd : FuncData) : HO := .ext fun h => h.get? f = some { cls := .type "function", data := .func fd }
def CodO (c : Addr) (qual : Str) : HO := .ext fun h => h.CodeRec (.ref c) qual
structure LamAt (H : Hp) (f : Addr) (e : Expr) : Prop where
  ex : ∃ qual pm c ctv, H f = some (LamO f (lamFn qual e pm c ctv)) ∧ H c = some (CodO c qual)
def TbS (H : Hp) (T : Addr) (pos : Pos) (qual : Str) : Prop := H T = some (.tbl #[]) ∨ ∃ c, H T = some (.tbl #[rawInt pos.line, rawInt pos.col, .ref c]) ∧ H c = some (CodO c qual)
theorem TbS.at {H : Hp} {T : Addr} {pos : Pos} {qual : Str} (h : TbS H T pos qual) : ∃ ps, H T = some (.tbl ps) := by
  rcases h with h | ⟨c, h, _⟩
  · exact ⟨_, h⟩
  · exact ⟨_, h⟩
theorem TbS.same {H H' : Hp} {T : Addr} {pos : Pos} {qual : Str} (g : Same H H') (h : TbS H T pos qual) : TbS H' T pos qual := by
  rcases h with h | ⟨c, h, h2⟩
  · exact .inl (g _ _ h)
  · exact .inr ⟨c, g _ _ h, g _ _ h2⟩
def BtAt (mg : Str → Option Value) (base : Heap) : Prop := ∃ bm o, mg "__builtins__" = some (.ref bm) ∧ bm ≠ builtinsNs ∧ bm ≠ mainGlobals ∧ base.get? bm = some o ∧ o.cls = .type "module" ∧ o.dict = some builtinsNs ∧ o.data = .plain
theorem tbl_seqT {K : PySem.W.Frag} {T : Addr} {H H' : Hp} {ps : Array Value} {a : Addr} {xs : List V} (i : H T = some (.tbl ps)) (g : SameX T H H') (h : SqT K H a xs) : SqT K H' a xs := by
  rcases h with (h | ⟨o, h⟩) | h
  · exact .inl (.inl (g _ _ (ne_of h i (by intro z; cases z)) h))
  · exact .inl (.inr ⟨o, g _ _ (ne_of h i (by intro z; cases z)) h⟩)
  · exact .inr h
theorem tbl_seq {K : PySem.W.Frag} {T : Addr} {H H' : Hp} {ps : Array Value} {a : Addr} {xs : List V} (i : H T = some (.tbl ps)) (g : SameX T H H') (h : SqL K H a xs) : SqL K H' a xs := by
  rcases h with (h | ⟨o, h⟩) | h
  · exact .inl (.inl (g _ _ (ne_of h i (by intro z; cases z)) h))
  · exact .inl (.inr ⟨o, g _ _ (ne_of h i (by intro z; cases z)) h⟩)
  · exact .inr h
section
variable {X : Cx}
theorem ext_lam {P : Program} {w : World} {H : Hp} {h : Heap} {f : Addr} {fd : FuncData} (e : h.get? f = some { cls := .type "function", data := .func fd }) : ObjOk P w H h f (LamO f fd) := ⟨e, ⟨_, e⟩, fun _ _ e1 k => k _ e1⟩
theorem ext_cod {P : Program} {w : World} {H : Hp} {h : Heap} {c : Addr} {qual : Str} (e : h.CodeRec (.ref c) qual) : ObjOk P w H h c (CodO c qual) := by
  refine ⟨e, ?_, fun h1 h2 e1 k => ?_⟩
  · obtain ⟨c', oc, vs, tq, z, hoc, _⟩ := e
    cases z
    exact ⟨_, hoc⟩
  · obtain ⟨c', oc, vs, tq, z, hoc, r⟩ := e1
    cases z
    exact ⟨c, oc, vs, tq, rfl, k _ hoc, r⟩
end
end L2
namespace L2
open PySem PySem.Spec PyProof.Rows
section
variable {X : Cx}
end
section
variable {P : Program} {w : World} {K : PySem.W.Frag} {mg : Str → Option Value} {base : Heap}
theorem code_of {x : Str} {f c T : Addr} {oc : Value} {od : Option Addr} {fd : FuncData} {sl : Array (Option Value)} (hn : PySem.W.nsIn K mainGlobals x = some (some (.ref f))) (lk : K.lookup f = some ⟨oc, od, .func fd, sl⟩) (h : PySem.W.tabIn K x = some (c, T)) : fd.code = .ref c := by
  unfold PySem.W.tabIn at h
  rw [hn] at h
  simp only [lk] at h
  split at h
  · rename_i c2 hc
    split at h
    · split at h
      · cases h; exact hc
      · cases h
    · cases h
  · cases h
theorem Fun.okC {x qual : Str} {st : Stmt} {f c T : Addr} {fd : FuncData} {N ps : List Str} {k : Nat} {sp : Sp} (F : Fun K x qual st f fd) (hn : PySem.W.nsIn K mainGlobals x = some (some (.ref f))) (hT : PySem.W.tabIn K x = some (c, T)) (S : FnScope N ps (defScope st)) (len : ∀ vs H Q E, sp vs H Q E → vs.length = ps.length)
    (hbody : ∀ (A : Around) (outer : List Env) (s : Shared) (H : Hp) (vs : List V) (Q : VK) (E : XK), Room k (A.deeper (envOfC qual (defScope st) s.heap.objs.size f (.ref c))) → sp vs H Q E →
      ∃ t, PSs (cxOf CX0 P w K mg base N qual (defScope st) f (.ref c) A outer s H E).nox (defBody st) t ∧ t { nx := fun _ H' => Q .non H', rt := Q } (start N vs) H) : FnOk P w K mg base CX0 (k + 1) f fd ps sp := by
  obtain ⟨oc, od, kV, doc, pm, an, cdv, ct, osl, rfl, lk, hcd⟩ := F.ex
  have e : cdv = .ref c := code_of hn lk hT
  subst e
  refine fn_of lk hcd S len fun A outer s H vs Q E hr hsp => ?_
  obtain ⟨t, h, q⟩ := hbody A outer s H vs Q E hr hsp
  exact ⟨t, h.nox, q⟩
end
end L2
namespace L2
open PySem PySem.Spec PyProof.Rows
def hidF (h : Heap) (H : Hp) (l : List Addr) : Heap := PySem.W.hideAll h (trk h H ++ l)
theorem hidF_size (h : Heap) (H : Hp) (l : List Addr) : (hidF h H l).objs.size = h.objs.size := PySem.W.hideAll_size _ _
theorem hidF_get {h : Heap} {H : Hp} {l : List Addr} {b : Addr} {o : Obj} (e : h.get? b = some o) (n : H b = none) (m : b ∉ l) : (hidF h H l).get? b = some o :=
  PySem.W.hideAll_get _ e fun hm => by
    rcases List.mem_append.mp hm with hm | hm
    · have q : (H b).isSome = true := (List.mem_filter.mp hm).2
      rw [n] at q; simp at q
    · exact m hm
theorem of_hidF {h : Heap} {H : Hp} {l : List Addr} {b : Addr} {o : Obj} (e : (hidF h H l).get? b = some o) : h.get? b = some o ∧ H b = none ∧ b ∉ l := by
  have e' : h.get? b = some o := PySem.W.of_hideAll (trk h H ++ l) e
  have no : ∀ m : b ∈ trk h H ++ l, False := fun m => by
    have z : (hidF h H l).get? b = none := PySem.W.hideAll_none (trk h H ++ l) m
    rw [z] at e; cases e
  refine ⟨e', ?_, fun m => no (List.mem_append_right _ m)⟩
  cases q : H b with
  | none => rfl
  | some x => exact (no (List.mem_append_left _ (List.mem_filter.mpr ⟨List.mem_range.mpr (Heap.lt_size e'), by simp [q]⟩))).elim
def Sub (g h : Heap) : Prop := ∀ b o, g.get? b = some o → h.get? b = some o
theorem Mod.sub {K : PySem.W.Frag} {mg : Str → Option Value} {g h : Heap} (s : Sub g h) (m : Mod K mg g) : Mod K mg h :=
  ⟨m.kin.keeps s, m.glob.keeps s, let ⟨mb, hb, q⟩ := m.blt; ⟨mb, hb.keeps s, q⟩, m.nolimit.keeps s⟩
theorem BtAt.sub {mg : Str → Option Value} {g h : Heap} (s : Sub g h) (b : BtAt mg g) : BtAt mg h := by
  obtain ⟨bm, ob, b1, b2, b3, b4, r⟩ := b
  exact ⟨bm, ob, b1, b2, b3, s _ _ b4, r⟩
theorem funs_to {h g base : Heap} : ∀ {l : List Env}, h.FunFrames base l → (∀ b ∈ frs l, g.get? b = none) → h.FunFrames g l
  | [], _, _ => trivial
  | env :: rest, hf, hn => by
    obtain ⟨h1, ⟨L, o, e1, e2, e3, e4⟩, r⟩ := hf
    refine ⟨h1, ⟨L, o, e1, hn L ?_, e3, e4⟩, funs_to r fun b hb => hn b ?_⟩
    · exact List.mem_filterMap.mpr ⟨env, List.mem_cons_self, e1⟩
    · obtain ⟨e, he, q⟩ := List.mem_filterMap.mp hb
      exact List.mem_filterMap.mpr ⟨e, List.mem_cons_of_mem _ he, q⟩
theorem Env0.sub {P : Program} {w : World} {K : PySem.W.Frag} {mg : Str → Option Value} {base : Heap} {A : Around} {outer : List Env} {s : Shared} {H : Hp} (e : Env0 P w K mg base A outer s H) : Sub base (hidF s.heap H (frs outer)) := fun b o h =>
  hidF_get (e.bs b o h).1 (e.bs b o h).2 fun m => by
    have := (e.funs.mem m).1
    rw [h] at this; cases this
theorem Env0.big {P : Program} {w : World} {K : PySem.W.Frag} {mg : Str → Option Value} {base : Heap} {A : Around} {outer : List Env} {s : Shared} {H : Hp} (e : Env0 P w K mg base A outer s H) : Env0 P w K mg (hidF s.heap H (frs outer)) A outer s H :=
  ⟨e.frames, e.mod.sub e.sub, fun b o h => ⟨(of_hidF h).1, (of_hidF h).2.1⟩, Nat.le_of_eq (hidF_size _ _ _), funs_to e.funs fun b hb => by
    cases q : (hidF s.heap H (frs outer)).get? b with
    | none => rfl
    | some o => exact absurd hb (of_hidF q).2.2, e.frf, e.hok, e.bare⟩
def Cells (X : Cx) (σ : St) (g : Heap) : Prop := ∀ (i : Nat) (x : Str) (v : V), X.N[i]? = some x → σ[i]? = some (some v) → X.env.scope.names.lookup x = some .cell → ∃ c u, X.env.cells.lookup x = some c ∧ g.IsCell c (some u) ∧ RelV v u
section
variable {X : Cx} {pins : List (Addr × Obj)} {σ : St} {H : Hp} {s : Shared}
theorem Inv.cells (I : Inv X pins σ H s) (hfn : ∀ x, X.fn x = true) : Cells X σ (hidF s.heap H (frs X.stack)) := by
  intro i x v h1 h2 h3
  obtain ⟨m, hns, hl⟩ := I.loc
  obtain ⟨u, rv, lk⟩ := hl i x v h1 h2 (.inr (.inl h3))
  rcases lk with ⟨k, _⟩ | ⟨_, c, hc, ic⟩
  · have k' : X.env.scope.names.lookup x = some .local := k
    rw [h3] at k'; cases k'
  refine ⟨c, u, hc, ?_, rv⟩
  obtain ⟨o, ho, r⟩ := ic
  refine ⟨o, hidF_get ho (I.freeC x c hc) (fun m => ?_), r⟩
  have hge := I.ok.cab x c (hfn x) hc
  have lt : ∀ b ∈ frs X.outer, b < X.s₀.heap.objs.size := fun b hb => by
    obtain ⟨_, o', ho', _⟩ := I.ok.funs.mem hb
    exact Heap.lt_size ho'
  rcases I.ok.stk with e | ⟨e, e2⟩
  · rw [e] at m
    exact absurd (lt c m) (Nat.not_lt.mpr hge)
  · rw [e] at m
    rcases List.mem_filterMap.mp m with ⟨env, he, hf⟩
    rcases List.mem_cons.mp he with rfl | he
    · rw [e2] at hf
      obtain rfl := Option.some.inj hf
      obtain ⟨o2, es, ep, h5, h6, _⟩ := hns
      rw [h5] at ho
      obtain rfl := Option.some.inj ho
      rw [h6] at r
      cases r
    · exact absurd (lt c (List.mem_filterMap.mpr ⟨env, he, hf⟩)) (Nat.not_lt.mpr hge)
end
abbrev lamFnC (qual : Str) (e : Expr) (cl : List (Str × Addr)) (pm : Value) (c : Addr) (ctv : Value) : FuncData := PySem.W.kla_fn "<lambda>" qual (lamArgs e) (lamBody e) (lamScope e) cl pm (.ref c) ctv
structure LamAtC (H : Hp) (f : Addr) (e : Expr) (cl : List (Str × Addr)) : Prop where
  ex : ∃ qual pm c ctv, H f = some (LamO f (lamFnC qual e cl pm c ctv)) ∧ H c = some (CodO c qual)
theorem LamAtC.same {H H' : Hp} {f : Addr} {e : Expr} {cl : List (Str × Addr)} (g : Same H H') (h : LamAtC H f e cl) : LamAtC H' f e cl := by
  obtain ⟨q, pm, c, ctv, h1, h2⟩ := h.ex
  exact ⟨q, pm, c, ctv, g _ _ h1, g _ _ h2⟩
def tLamC (T : Addr) (qual : Str) (e : Expr) (cl : List (Str × Addr)) : TE := fun σ H Q => TbS H T (lamPos e) qual ∧ ∀ f H', SameX T H H' → H f = none → LamAtC H' f e cl → TbS H' T (lamPos e) qual → Q (.ref f) H'
section
variable {X : Cx}
theorem pe_lamC {cl : List (Str × Addr)} {a : Arguments} {b : Expr} {sc : Scope} {pos : Pos} {c T : Addr} (hcode : X.env.code = .ref c) (hC : PySem.W.codeHdIn X.K c T = true) (hB : BtAt X.mg X.base) (hcl : closureFor sc X.env = pure cl := by rfl) (hdef : defaultsOf a X.env = ([], []) := by rfl) :
    PE X (.Lambda a b sc pos) (tLamC T (X.env.qual ++ "<lambda>") (.Lambda a b sc pos) cl) := by
  intro pins s σ H Q I h
  obtain ⟨ht, q⟩ := h
  obtain ⟨ps0, hT⟩ := ht.at
  obtain ⟨bm, ob, b1, b2, b3, b4, b5, b6, b7⟩ := hB
  have hbT : bm ≠ T := fun z => by have := (I.bs _ _ b4).2; rw [z, hT] at this; cases this
  have hg : s.heap.Ns mainGlobals X.mg := I.mod.glob.keeps I.bk
  have hgT : mainGlobals ≠ T := fun z => by
    obtain ⟨o, es, ep, e, _⟩ := I.mod.glob
    have := (I.bs _ _ e).2
    rw [z, hT] at this; cases this
  have hb : s.heap.BuiltinsAt X.mg T := ⟨bm, ob, b1, b2, b3, hbT, I.bk _ _ b4, b5, b6, b7⟩
  have hCd : PySem.W.CodeHd s.heap c T := PySem.W.codeHd_of_K I.kIn hC
  have hLT : X.env.locals ≠ T := fun z => by have := I.free; rw [z, hT] at this; cases this
  refine PySem.W.kla_eval hdef ?_
  rcases ht with h0 | ⟨c', h0, hc'⟩
  · have hP : s.heap.get? T = some (PySem.W.tabObj #[]) := I.hok T _ h0
    refine PySem.W.kla_makeFunction (mg := X.mg) hcl I.ok.glob hg hcode hCd hP trivial rfl hgT hb fun c' ctv h' tk hx hge hlt hrec htb => ?_
    obtain ⟨qual, hqual⟩ : ∃ qual, qual = X.env.qual ++ "<lambda>" := ⟨_, rfl⟩
    rw [← hqual] at hrec ⊢
    have hHc : H c' = none := I.hok.fresh hge
    have hHf : H h'.objs.size = none := I.hok.fresh (Nat.le_of_lt (Nat.lt_of_le_of_lt hge hlt))
    have nTc : T ≠ c' := ne_of_none h0 hHc
    have nTf : T ≠ h'.objs.size := ne_of_none h0 hHf
    have ncf : c' ≠ h'.objs.size := Nat.ne_of_lt hlt
    obtain ⟨fd, hfd⟩ : ∃ fd : FuncData, fd = lamFnC qual (.Lambda a b sc pos) cl ((X.mg "__name__").getD .none) c' ctv := ⟨_, rfl⟩
    have hob : PySem.W.kla_obj "<lambda>" qual a b sc cl ((X.mg "__name__").getD .none) c' ctv = { cls := .type "function", data := .func fd } := by rw [hfd]; rfl
    rw [hob]
    obtain ⟨ps, hps⟩ : ∃ ps : Array Value, ps = #[rawInt pos.line, rawInt pos.col, .ref c'] := ⟨_, rfl⟩
    have htb' : h'.get? T = some { cls := .none, data := .fields ps } := by rw [hps]; exact htb
    obtain ⟨H', hH'⟩ : ∃ H' : Hp, H' = upd (upd (upd H T (.tbl ps)) c' (CodO c' qual)) h'.objs.size (LamO h'.objs.size fd) := ⟨_, rfl⟩
    have eF : H' h'.objs.size = some (LamO h'.objs.size fd) := by rw [hH']; exact upd_same
    have eC : H' c' = some (CodO c' qual) := by rw [hH', upd_ne ncf]; exact upd_same
    have eT : H' T = some (.tbl ps) := by rw [hH', upd_ne nTf, upd_ne nTc]; exact upd_same
    have eO : ∀ x, x ≠ T → x ≠ c' → x ≠ h'.objs.size → H' x = H x := fun x n1 n2 n3 => by rw [hH', upd_ne n3, upd_ne n2, upd_ne n1]
    have eK : ∀ x u, H x = some u → x ≠ T → H' x = some u := fun x u e n1 => by rw [eO x n1 (ne_of_none e hHc) (ne_of_none e hHf)]; exact e
    have hpush : ∀ x o, h'.get? x = some o → (h'.push { cls := .type "function", data := .func fd }).get? x = some o := fun x o e => Heap.get?_push_of_some _ e
    have J : Inv X pins σ H' { s with heap := h'.push { cls := .type "function", data := .func fd }, toks := tk } := by
      refine I.step (g' := s.gens) (d' := s.drawn) (ch := []) (fun _ z => nomatch z) (fun x o _ _ _ e n => ?_) (fun x o _ _ _ e n => ?_) (fun x o _ e n => ?_) (fun x o _ e => ?_) (fun x xs e => ?_) (fun x o u e => ?_) (fun x qs e => ?_) (fun m hn => ?_) (fun x o e => ?_) I.bare
      · exact hpush _ _ (hx _ _ (fun z => by rw [z, hT] at n; cases n) e)
      · exact ⟨o.slots, hpush _ _ (hx _ _ (fun z => by rw [z, hT] at n; cases n) e)⟩
      · have lx := Heap.lt_size e
        rw [eO x (fun z => by rw [z, hT] at n; cases n) (Nat.ne_of_lt (Nat.lt_of_lt_of_le lx hge)) (Nat.ne_of_lt (Nat.lt_trans (Nat.lt_of_lt_of_le lx hge) hlt))]
        exact n
      · by_cases z : x = T
        · exact ⟨_, hpush _ _ (z ▸ htb')⟩
        · exact ⟨o, hpush _ _ (hx _ _ z e)⟩
      · exact eK x _ e (ne_of e h0 (by intro z; cases z))
      · exact eK x _ e (ne_of e h0 (by intro z; cases z))
      · by_cases z : x = T
        · subst z
          rw [h0] at e
          cases e
          exact ⟨ps, by rw [eT]; simp⟩
        · exact ⟨#[], by rw [eK x _ e z]; simp⟩
      · exact (hn.extBut hx hLT).push _
      · by_cases z1 : x = h'.objs.size
        · subst z1
          rw [eF] at e
          cases e
          exact ext_lam (Heap.get?_push_size _ rfl)
        by_cases z2 : x = c'
        · subst z2
          rw [eC] at e
          cases e
          refine ext_cod ?_
          obtain ⟨c2, oc, vs, tq, z, hoc, r⟩ := hrec
          exact ⟨c2, oc, vs, tq, z, hpush _ _ hoc, r⟩
        by_cases z3 : x = T
        · subst z3
          rw [eT] at e
          cases e
          exact hpush _ _ htb'
        rw [eO x z3 z2 z1] at e
        refine (I.hok x o e).stay (fun y u hy r => ?_) (fun y r => ?_) fun y xs r => ?_
        · refine hpush _ _ (hx _ _ (fun z => ?_) r)
          rcases hy with hy | hy
          · exact z3 (hy.symm.trans z)
          · rw [z, hT] at hy; cases hy
        · exact eK y _ r (ne_of r h0 (by intro z; cases z))
        · exact eK y _ r (ne_of r h0 (by intro z; cases z))
    refine ⟨.ref h'.objs.size, H', J, rfl, q h'.objs.size H' (fun x u n e => eK x u e n) hHf ⟨qual, _, c', ctv, by rw [eF, hfd], eC⟩ ?_⟩
    refine .inr ⟨c', ?_, by rw [← hqual]; exact eC⟩
    rw [eT, hps]; rfl
  · have hP : s.heap.get? T = some (PySem.W.tabObj #[rawInt pos.line, rawInt pos.col, .ref c']) := I.hok T _ h0
    have hf : codeAmong pos (#[rawInt pos.line, rawInt pos.col, Value.ref c'] : Array Value).toList = some (.ref c') := by
      show (if ((pos.line : Int) == (pos.line : Int) && (pos.col : Int) == (pos.col : Int)) = true then some (Value.ref c') else _) = _
      simp
    refine PySem.W.kla_makeFunctionHit (mg := X.mg) hcl I.ok.glob hg hcode hCd hP trivial hf hb fun ctv h' tk hk hsz => ?_
    obtain ⟨qual, hqual⟩ : ∃ qual, qual = X.env.qual ++ "<lambda>" := ⟨_, rfl⟩
    rw [← hqual]
    have hHf : H h'.objs.size = none := I.hok.fresh hsz
    refine ⟨.ref h'.objs.size, upd H h'.objs.size (LamO h'.objs.size (lamFnC qual (.Lambda a b sc pos) cl ((X.mg "__name__").getD .none) c' ctv)), I.laid (t' := tk) (fun x o e => Heap.get?_push_of_some _ (hk _ _ e)) hsz (ext_lam (Heap.get?_push_size _ rfl)), rfl, ?_⟩
    have g := same_new hHf (LamO h'.objs.size (lamFnC qual (.Lambda a b sc pos) cl ((X.mg "__name__").getD .none) c' ctv))
    refine q h'.objs.size _ (SameX.of g) hHf ⟨qual, _, c', ctv, upd_same, g _ _ (by rw [hqual]; exact hc')⟩ (.inr ⟨c', g _ _ h0, g _ _ hc'⟩)
end
end L2
namespace L2
open PySem PySem.Spec PyProof.Rows
abbrev envL (qual : Str) (scope : Scope) (cl : List (Str × Addr)) (L f : Addr) (cd : Value) : Env := newEnv scope L mainGlobals cl (qual ++ Str.ofString ".<locals>.") (some f) cd none builtinsNs
def cxL (CX : CXT) (P : Program) (w : World) (K : PySem.W.Frag) (mg : Str → Option Value) (base : Heap) (N : List Str) (qual : Str) (scope : Scope) (cl : List (Str × Addr)) (f : Addr) (cd : Value) (A : Around) (outer : List Env) (s : Shared) (H : Hp) (E : XK) : Cx :=
  { prog := P, w := w, K := K, mg := mg, base := base, A := A.deeper (envL qual scope cl s.heap.objs.size f cd), N := N, s₀ := s, H₀ := H, env := envL qual scope cl s.heap.objs.size f cd, outer := outer, stack := envL qual scope cl s.heap.objs.size f cd :: outer, ex := [], fn := fun _ => false, calm := true, pn := [],
    xe := fun e s' => wpAny (model P w) (A.deeper (envL qual scope cl s.heap.objs.size f cd)) (leaving (envL qual scope cl s.heap.objs.size f cd) e) (fun _ s'' => CX outer H s E e s'') (fun e' s'' => CX outer H s E e' s'') s' }
structure ClAt (base : Heap) (N : List Str) (cl : List (Str × Addr)) (vs : List V) : Prop where
  len : vs.length = N.length
  val : ∀ (i : Nat) (x : Str) (v : V), N[i]? = some x → vs[i]? = some v → ∃ c u, cl.lookup x = some c ∧ base.IsCell c (some u) ∧ RelV v u
  cel : ∀ x c, cl.lookup x = some c → ∃ u, base.IsCell c u
  inj : ∀ x y c, cl.lookup x = some c → cl.lookup y = some c → x = y
def CalC (P : Program) (w : World) (K : PySem.W.Frag) (mg : Str → Option Value) (base : Heap) (k : Nat) (e : Expr) (cl : List (Str × Addr)) (sp : Sp) : Prop :=
  ∀ (f : Addr) (A : Around) (outer : List Env) (s : Shared) (H : Hp) (Q : VK) (E : XK), Room k A → Env0 P w K mg base A outer s H → LamAtC H f e cl → sp [] H Q E →
    codeAny (model P w) A (.call (.ref f) ⟨[], []⟩) (CR CX0 outer P w H s Q E) s
theorem ClAt.two {base : Heap} {x1 x2 : Str} {c1 c2 : Addr} {v1 v2 : V} {u1 u2 : Value} (hx : x1 ≠ x2) (hc : c1 ≠ c2) (h1 : base.IsCell c1 (some u1)) (h2 : base.IsCell c2 (some u2)) (r1 : RelV v1 u1) (r2 : RelV v2 u2) : ClAt base [x1, x2] [(x2, c2), (x1, c1)] [v1, v2] := by
  have l1 : List.lookup x1 [(x2, c2), (x1, c1)] = some c1 := by
    rw [List.lookup_cons]
    have : (x1 == x2) = false := by simpa using hx
    rw [this]; simp [List.lookup]
  have l2 : List.lookup x2 [(x2, c2), (x1, c1)] = some c2 := by simp [List.lookup]
  have any : ∀ x c, List.lookup x [(x2, c2), (x1, c1)] = some c → (x = x2 ∧ c = c2) ∨ (x = x1 ∧ c = c1) := fun x c h => by
    by_cases e2 : x = x2
    · subst e2; rw [l2] at h; exact .inl ⟨rfl, (Option.some.inj h).symm⟩
    by_cases e1 : x = x1
    · subst e1; rw [l1] at h; exact .inr ⟨rfl, (Option.some.inj h).symm⟩
    · have a : (x == x2) = false := by simpa using e2
      have b : (x == x1) = false := by simpa using e1
      simp [List.lookup, a, b] at h
  refine ⟨rfl, fun i x v e1 e2 => ?_, fun x c h => ?_, fun x y c a b => ?_⟩
  · match i, e1, e2 with
    | 0, e1, e2 => cases e1; cases e2; exact ⟨c1, u1, l1, h1, r1⟩
    | 1, e1, e2 => cases e1; cases e2; exact ⟨c2, u2, l2, h2, r2⟩
    | i + 2, e1, e2 => cases e1
  · rcases any x c h with ⟨_, rfl⟩ | ⟨_, rfl⟩
    · exact ⟨_, h2⟩
    · exact ⟨_, h1⟩
  · rcases any x c a with ⟨rfl, rfl⟩ | ⟨rfl, rfl⟩ <;> rcases any y c b with ⟨rfl, e⟩ | ⟨rfl, e⟩
    · rfl
    · exact absurd e.symm hc
    · exact absurd e hc
    · rfl
theorem lam_runC {P : Program} {w : World} {K : PySem.W.Frag} {mg : Str → Option Value} {base : Heap} {k : Nat} {e : Expr} {cl : List (Str × Addr)} {N : List Str} {vs : List V} {sp : Sp} (hk : (lamScope e).kind = ScopeKind.function) (hco : (lamScope e).isCoroutine = false) (hge : (lamScope e).isGenerator = false) (hfree : ∀ y ∈ (lamScope e).names, y.2 ≠ NameKind.cell ∧ y.2 ≠ NameKind.local)
    (hN : ∀ x, (lamScope e).names.lookup x = some .free → ∃ c, cl.lookup x = some c) (hC : ClAt base N cl vs)
    (hbind : ∀ (qual : Str) (pm : Value) (c : Addr) (ctv : Value), bindArgs (lamFnC qual e cl pm c ctv) ⟨[], []⟩ = pure [])
    (hbody : ∀ (qual : Str) (f c : Addr) (A : Around) (outer : List Env) (s : Shared) (H : Hp) (Q : VK) (E : XK), Room k (A.deeper (envL qual (lamScope e) cl s.heap.objs.size f (.ref c))) → sp [] H Q E →
      ∃ t, PE (cxL CX0 P w K mg base N qual (lamScope e) cl f (.ref c) A outer s H E).nox (lamBody e) t ∧ t (vs.map some) H Q) : CalC P w K mg base (k + 1) e cl sp := by
  intro f A outer s H Q E hr e0 hL hsp
  obtain ⟨qual, pm, c, ctv, hf, hc⟩ := hL.ex
  have hfo : s.heap.get? f = some { cls := .type "function", data := .func (lamFnC qual e cl pm c ctv) } := (e0.hok f _ hf).1
  have hrec : s.heap.CodeRec (.ref c) qual := (e0.hok c _ hc).1
  have lim : s.heap.NoLimit := e0.mod.nolimit.keeps fun b o e => (e0.bs b o e).1
  refine PySem.W.kla_callFunE hr.depth hfo rfl hco hge rfl hrec ?_
  rw [hbind qual pm c ctv]
  refine wpAny_pure ?_
  refine wpAny_newFunctionEnv (fun y hy => (hfree y hy).1) (by intro y hy; simp at hy) (fun h1 hns hsb => ?_) hk
  have keep : ∀ b o, s.heap.get? b = some o → h1.get? b = some o := fun b o e => (hsb.2 b (Nat.ne_of_lt (Heap.lt_size e))).trans (Heap.get?_push_of_some _ e)
  refine ⟨lim.keeps keep, PySem.W.kla_codeExpr ?_⟩
  obtain ⟨t, ht, hq⟩ := hbody qual f c A outer s H Q E (hr.deeper _) hsp
  have inb : ∀ {x : Str} {cc : Addr} {u : Option Value}, base.IsCell cc u → h1.IsCell cc u ∧ H cc = none ∧ cc < s.heap.objs.size := fun {x cc u} ⟨o, ho, r⟩ => ⟨⟨o, keep _ _ (e0.bs _ _ ho).1, r⟩, (e0.bs _ _ ho).2, Heap.lt_size (e0.bs _ _ ho).1⟩
  have noA : ∀ b : Addr, b ∉ (cxL CX0 P w K mg base N qual (lamScope e) cl f (.ref c) A outer s H E).ex := fun b z => absurd (show b ∈ ([] : List Addr) from z) (by simp)
  have I : Inv (cxL CX0 P w K mg base N qual (lamScope e) cl f (.ref c) A outer s H E) [] (vs.map some) H { s with heap := h1, toks := s.toks + 0 } := by
    refine ⟨⟨e0.mod, hk, rfl, rfl, Nat.le_refl _, fun y z cc h1 h2 => hC.inj y z cc h1 h2, fun y hy => ?_, fun y cc h _ => ?_, fun _ => hr.hd, Around.frames_deeper e0.frames, .inr ⟨rfl, rfl⟩, fun b z => absurd z (noA b), e0.bs, e0.bsz, fun b _ _ => noA b, fun b z => absurd z (noA b), e0.funs, e0.frf⟩,
      rfl, e0.bare, Un.kept keep, ⟨_, hns, fun i y v h1 h2 h3 => ?_⟩, fun y cc h => ?_, e0.hok.fresh (Nat.le_refl _), fun y cc h => ?_, fun p hp => absurd (show p ∈ ([] : List (Addr × Obj)) from hp) (by simp), e0.hok.kept keep, ?_⟩
    · have hy : (lamScope e).names.lookup y = some .cell ∨ (lamScope e).names.lookup y = some .free := hy
      rcases hy with hy | hy
      · exact absurd rfl (hfree _ (PySem.mem_of_lookup hy)).1
      · exact hN y hy
    · cases h
    · have hv : vs[i]? = some v := by
        rw [List.getElem?_map] at h2
        cases q : vs[i]? with
        | none => rw [q] at h2; cases h2
        | some a => rw [q] at h2; cases h2; rfl
      obtain ⟨cc, u, e1, e2, e3⟩ := hC.val i y v h1 hv
      have h3 : (lamScope e).names.lookup y = some .local ∨ (lamScope e).names.lookup y = some .cell ∨ (lamScope e).names.lookup y = some .free := h3
      rcases h3 with k | k | k
      · exact absurd rfl (hfree _ (PySem.mem_of_lookup k)).2
      · exact absurd rfl (hfree _ (PySem.mem_of_lookup k)).1
      · exact ⟨u, e3, .inr ⟨.inr k, cc, e1, (inb (x := y) e2).1⟩⟩
    · obtain ⟨u, hu⟩ := hC.cel y cc h
      exact ⟨u, (inb (x := y) hu).1⟩
    · obtain ⟨u, hu⟩ := hC.cel y cc h
      exact (inb (x := y) hu).2.1
    · rw [List.length_map]; exact hC.len
  refine wpAny_mono (ht.nox [] _ (vs.map some) H _ I hq) (fun u s' hs => ?_) fun e s' hs => hs
  obtain ⟨v, H', J, rv, q⟩ := hs
  exact ⟨v, H', J.os, J.bare, J.base, J.hok, rv, q⟩
def tCallV0 (i : Nat) (e : Expr) (cl : List (Str × Addr)) (sp : Sp) : TE := fun σ H Q => ∃ f, σ[i]? = some (some (.ref f)) ∧ LamAtC H f e cl ∧ sp [] H Q E0
section
variable {X : Cx}
theorem pe_callV0 {i : Nat} {x : Str} {e : Expr} {cl : List (Str × Addr)} {sp : Sp} {k : Nat} {p pos : Pos} (C : CalC X.prog X.w X.K X.mg X.base k e cl sp) (hr : Room k X.A) (hN : X.N[i]? = some x := by rfl) (hv : Vis X.env.scope x := by first | exact Or.inl rfl | exact Or.inr (Or.inl rfl) | exact Or.inr (Or.inr rfl))
    (hd : (x == ("__debug__" : Str)) = false := by decide) (hcd : (x == ("__classdict__" : Str)) = false := by decide) :
    PE X (.Call (.Name x p) [] [] pos) (tCallV0 i e cl sp) := by
  intro pins s σ H Q I h
  obtain ⟨f, hs, hL, q2⟩ := h
  refine wpAny_Call_Name_kw (thn (pe_var (pos := p) hN hv hd hcd pins s σ H (fun v H1 => v = .ref f ∧ H1 = H) I ⟨.ref f, hs, rfl, rfl⟩) fun u s1 ⟨v, H1, I1, r1, ev, eH⟩ => ?_)
  subst ev eH
  obtain rfl : u = Value.ref f := r1
  refine PySem.W.callWith_of (P := fun h => ∃ fd, h.get? f = some { cls := .type "function", data := .func fd }) rfl
    (fun h ⟨fd, hf⟩ => ⟨.frame, .inl rfl, (PySem.W.Looks.ld (part := none) hf).andThen .now⟩) (PySem.evalArgs_none ⟨?_, ?_⟩)
  · obtain ⟨qual, pm, c, ctv, hf, hc⟩ := hL.ex
    exact ⟨_, (I1.hok f _ hf).1⟩
  · refine wpAny_call (codeAny_mono (C f X.A X.stack s1 H1 Q E0 hr I1.env0 hL q2) fun r s' hq => ?_)
    cases r with
    | error e => exact hq.elim
    | ok fl =>
      cases fl with
      | ret u => exact I1.after hq
      | next => exact False.elim hq
      | brk => exact False.elim hq
      | cont => exact False.elim hq
def tMethB (X : Cx) (C : Addr) (m : Str) (sp : Heap → Sp) (dvs : List V) (ta : TE) (t : TA) : TE := fun σ H Q => ta σ H fun x H1 => ∃ a dx fs, x = .ref a ∧ H1 a = some (.ins C dx fs) ∧ fs.lookup m = none ∧
  t σ H1 fun vs H2 => ∀ g : Heap, Sub X.base g → Cells X σ g → sp g (.ref a :: vs ++ dvs) H2 Q E0
theorem run_fnB {f : Addr} {fd : FuncData} {k : Nat} {ps : List Str} {ds : List Value} {dvs : List V} {sp : Heap → Sp} {pins : List (Addr × Obj)} {σ : St} {H : Hp} {s : Shared} {Q : VK} {us : List Value} {vs : List V} (F : ∀ g : Heap, Sub X.base g → FnOk X.prog X.w X.K X.mg g CX0 k f fd ps (sp g)) (hr : Room k X.A) (hb : Binds X.K fd ps ds) (hd : Vals dvs ds) (hfn : ∀ x, X.fn x = true)
    (I : Inv X pins σ H s) (r : Vals vs us) (h : ∀ g : Heap, Sub X.base g → Cells X σ g → sp g (vs ++ dvs) H Q E0) : wpAny (model X.prog X.w) X.A (call (.ref f) us) (EP X pins σ Q) X.xe s := by
  have r2 : Vals (vs ++ dvs) (us ++ ds) := r.append hd
  have h' := h _ I.env0.sub (I.cells hfn)
  have hl : (us ++ ds).length = ps.length := by rw [← r2.length]; exact (F _ I.env0.sub).len _ _ _ _ h'
  refine wpAny_call (codeAny_mono ((F _ I.env0.sub).run X.A X.stack s H ⟨us, []⟩ (us ++ ds) (vs ++ dvs) Q E0 hr I.env0.big (hb s us I.kIn hl) r2 h') fun r s' hq => ?_)
  cases r with
  | error e => exact hq.elim
  | ok fl =>
    cases fl with
    | ret u => exact I.after hq
    | next => exact False.elim hq
    | brk => exact False.elim hq
    | cont => exact False.elim hq
theorem pe_methB {o e : Expr} {es : List Expr} {m : Str} {apos pos : Pos} {C f : Addr} {fd : FuncData} {k : Nat} {ps : List Str} {ds : List Value} {dvs : List V} {sp : Heap → Sp} {ta : TE} {t : TA} {pl : Sem Bool} (he : PE X o ta) (c : Cls X.K C) (hm : Meth X.K C m f) (F : ∀ g : Heap, Sub X.base g → FnOk X.prog X.w X.K X.mg g CX0 k f fd ps (sp g)) (hr : Room k X.A) (hb : Binds X.K fd ps ds) (hd : Vals dvs ds) (hfn : ∀ x, X.fn x = true) (ha : PA X (e :: es) t)
    (hst : starEach (e :: es) X.env = (false, eval e X.env) :: starEach es X.env := by rfl) (hpl : (backTo pos (starEach es X.env)).any (·.1) = false := by rfl)
    (ht : eval (.Call (.Attribute o m apos) (e :: es) [] pos) X.env = (do
      let ov ← eval o X.env
      standAt apos.atName
      let (f, first) ← holding [ov] (getMethod ov m pl)
      callWith pos f first (backTo pos (starEach (e :: es) X.env)) (backToKw pos (keywordEach [] X.env))) := by rfl) :
    PE X (.Call (.Attribute o m apos) (e :: es) [] pos) (tMethB X C m sp dvs ta t) := by
  intro pins s σ H Q I h
  refine PySem.W.methodCall_KW (pl := pl) (thn (he pins s σ H _ I h) fun u s1 ⟨x, H1, I1, rx, a, dx, fs, ex, ea, l, q⟩ => ?_) ht
  subst ex
  obtain rfl : u = Value.ref a := rx
  refine getmeth_ok I1 ea c hm l ?_
  refine PySem.W.callWith_K (first := [.ref a]) (h₀ := X.base) I.ok.mod.kin hm.kp (thn (ha pos pins s1 σ H1 _ I1 q) fun us s2 ⟨vs, H2, I2, r, q2⟩ => ⟨I2.kIn, ?_⟩) hst hpl
  exact run_fnB (us := .ref a :: us) (vs := .ref a :: vs) F hr hb hd hfn I2 (.cons rfl r) q2
end
end L2
namespace L2
open PySem PySem.Spec PyProof.Rows
structure Mt (P : Program) (w : World) (K : PySem.W.Frag) (mg : Str → Option Value) (base : Heap) (C : Addr) (k : Nat) (m : Str) (ps : List Str) (sp : Sp) : Prop where
  ex : ∃ f fd, Meth K C m f ∧ FnOk P w K mg base CX0 k f fd ps sp ∧ Binds K fd ps []
section
variable {X : Cx} {C : Addr} {k k' : Nat} {m : Str} {ps : List Str} {sp : Sp} {o e : Expr} {es : List Expr} {ta : TE} {t : TA} {apos pos : Pos}
theorem pe_mt0 {pl : Sem Bool} (M : Mt X.prog X.w X.K X.mg X.base C k m ps sp) (c : Cls X.K C) (hr : Room k' X.A) (he : PE X o ta) (hk : k ≤ k' := by decide)
    (ht : eval (.Call (.Attribute o m apos) [] [] pos) X.env = (do
      let ov ← eval o X.env
      standAt apos.atName
      let (f, first) ← holding [ov] (getMethod ov m pl)
      callWith pos f first (backTo pos (starEach [] X.env)) (backToKw pos (keywordEach [] X.env))) := by rfl) :
    PE X (.Call (.Attribute o m apos) [] [] pos) (tMeth C m sp [] E0 ta tNil) := by
  obtain ⟨f, fd, h1, h2, h3⟩ := M.ex
  exact pe_meth0 (pl := pl) he c h1 h2 (hr.mono hk) h3 .nil pass0 ht
theorem pe_mt {pl : Sem Bool} (M : Mt X.prog X.w X.K X.mg X.base C k m ps sp) (c : Cls X.K C) (hr : Room k' X.A) (he : PE X o ta) (ha : PA X (e :: es) t) (hk : k ≤ k' := by decide)
    (hst : starEach (e :: es) X.env = (false, eval e X.env) :: starEach es X.env := by rfl) (hpl : (backTo pos (starEach es X.env)).any (·.1) = false := by rfl)
    (ht : eval (.Call (.Attribute o m apos) (e :: es) [] pos) X.env = (do
      let ov ← eval o X.env
      standAt apos.atName
      let (f, first) ← holding [ov] (getMethod ov m pl)
      callWith pos f first (backTo pos (starEach (e :: es) X.env)) (backToKw pos (keywordEach [] X.env))) := by rfl) :
    PE X (.Call (.Attribute o m apos) (e :: es) [] pos) (tMeth C m sp [] E0 ta t) := by
  obtain ⟨f, fd, h1, h2, h3⟩ := M.ex
  exact pe_meth (pl := pl) he c h1 h2 (hr.mono hk) h3 .nil pass0 ha hst hpl ht
theorem call_intS : CallR X (.type "int") (fun xs H Q => ∃ (x : Str) (n : Int), xs = [.str x] ∧ intText? x = some n ∧ x.length ≤ 640 ∧ Q (.int n) H) := by
  intro pins s σ H xs us Q I r h
  obtain ⟨x, n, rfl, h1, h2, q⟩ := h
  obtain ⟨u, rfl, t, rfl⟩ := vals1 r
  exact PySem.W.KIN.call_text h1 h2 ⟨.int n, H, I.tok _, ⟨_, rfl⟩, q⟩
end
end L2
namespace K3
open PySem L2
def sh (m : Int) : List Nat := if m < 0 then 45 :: D m.natAbs else D m.natAbs
theorem D_all (n : Nat) : NumText.AllDigits (D n) := fun c hc => by
  have h : c ∈ figL := by
    obtain ⟨k, hk⟩ : ∃ k, n < 10 ^ (k + 1) := ⟨n, Nat.lt_of_lt_of_le (Nat.lt_pow_self (by decide : 1 < 10)) (Nat.pow_le_pow_right (by decide) (Nat.le_succ n))⟩
    exact (D_facts k n hk).2.2.1 c hc
  have : ∀ c ∈ figL, 48 ≤ c ∧ c ≤ 57 := by decide
  exact this c h
theorem D_nil (n : Nat) : D n ≠ [] := by
  obtain ⟨k, hk⟩ : ∃ k, n < 10 ^ (k + 1) := ⟨n, Nat.lt_of_lt_of_le (Nat.lt_pow_self (by decide : 1 < 10)) (Nat.pow_le_pow_right (by decide) (Nat.le_succ n))⟩
  exact (D_facts k n hk).1
theorem D_len {n : Nat} (h : n < 10 ^ 60) : (D n).length ≤ 60 := (D_facts 59 n h).2.1
theorem D_val (n : Nat) : NumText.digitsVal (D n) = n := PySem.W.KIN.val_back n
theorem read_sh {m : Int} (h : m.natAbs < 10 ^ 60) : intText? (S (sh m)) = some m := by
  have hl := D_len h
  unfold sh
  by_cases c : m < 0
  · rw [if_pos c]
    have := intText_neg (x := S (45 :: D m.natAbs)) (cs := D m.natAbs) (S_list _) (D_all _) (D_nil _) (by rw [S_len]; simp only [List.length_cons]; omega)
    rw [this, D_val]
    congr 1; omega
  · rw [if_neg c]
    have := intText_digits (x := S (D m.natAbs)) (by rw [S_list]; exact D_all _) (by rw [S_list]; exact D_nil _) (by rw [S_len]; omega)
    rw [this, S_list, D_val]
    congr 1; omega
theorem sh_len {m : Int} (h : m.natAbs < 10 ^ 60) : (sh m).length ≤ 61 := by
  have hl := D_len h
  unfold sh
  split
  · simp only [List.length_cons]; omega
  · omega
theorem sh_word {m : Int} (h : m.natAbs < 10 ^ 60) : Word (sh m) := by
  unfold sh
  by_cases c : m < 0
  · rw [if_pos c]; exact .neg (D_num h) (D_ne h (by omega))
  · rw [if_neg c]; exact .num (D_num h)
theorem sh_head (m : Int) : ∃ c r, sh m = c :: r ∧ (c ∈ figL ∨ c = 45) := by
  unfold sh
  by_cases c : m < 0
  · rw [if_pos c]; exact ⟨45, _, rfl, .inr rfl⟩
  · rw [if_neg c]
    cases q : D m.natAbs with
    | nil => exact absurd q (D_nil _)
    | cons x r =>
      obtain ⟨k, hk⟩ : ∃ k, m.natAbs < 10 ^ (k + 1) := ⟨m.natAbs, Nat.lt_of_lt_of_le (Nat.lt_pow_self (by decide : 1 < 10)) (Nat.pow_le_pow_right (by decide) (Nat.le_succ _))⟩
      exact ⟨x, r, rfl, .inl ((D_facts k _ hk).2.2.1 x (by rw [q]; exact List.mem_cons_self))⟩
theorem sh_last (m : Int) : ∃ a, (sh m).getLast? = some a ∧ a ∈ figL := by
  obtain ⟨k, hk⟩ : ∃ k, m.natAbs < 10 ^ (k + 1) := ⟨m.natAbs, Nat.lt_of_lt_of_le (Nat.lt_pow_self (by decide : 1 < 10)) (Nat.pow_le_pow_right (by decide) (Nat.le_succ _))⟩
  have hf := D_facts k _ hk
  have e : (sh m).getLast? = (D m.natAbs).getLast? := by
    unfold sh
    split
    · cases q : D m.natAbs with
      | nil => exact absurd q hf.1
      | cons x r => rw [List.getLast?_cons_cons]
    · rfl
  rw [e]
  exact ⟨_, List.getLast?_eq_some_getLast hf.1, hf.2.2.1 _ (List.getLast_mem hf.1)⟩
end K3
namespace K5
open PySem L2 K3
abbrev sInit : Stmt := inClass sReader 0
abbrev sAhead : Stmt := inClass sReader 1
abbrev sAtName : Stmt := inClass sReader 2
abbrev sAtNum : Stmt := inClass sReader 3
abbrev sPassed : Stmt := inClass sReader 4
abbrev sNeedEnd : Stmt := inClass sReader 6
abbrev sTakeName : Stmt := inClass sReader 7
abbrev sTakeNum : Stmt := inClass sReader 8
abbrev sTakeWord : Stmt := inClass sReader 9
abbrev sInB : Stmt := inClass sReader 10
def rdV (l : Addr) (v : V) : List (Str × V) := [("found", .ref l), ("spot", v)]
def rd (l : Addr) (n : Nat) : List (Str × V) := rdV l (.int (n : Int))
theorem put_spot (l : Addr) (n : Nat) (v : V) : putF "spot" v (rd l n) = rdV l v := by
  unfold rd rdV
  rw [put_no (by decide +kernel), put_yes]
structure RdAt (C : Addr) (H : Hp) (r l : Addr) (ws : List (List Nat)) (n : Nat) : Prop where
  ins : ∃ dx, H r = some (.ins C dx (rd l n))
  fl : H l = some (.lst (W ws))
theorem RdAt.same {C : Addr} {H H' : Hp} {r l : Addr} {ws : List (List Nat)} {n : Nat} (g : Same H H') (h : RdAt C H r l ws n) : RdAt C H' r l ws n := by
  obtain ⟨⟨dx, h1⟩, h2⟩ := h
  exact ⟨⟨dx, g _ _ h1⟩, g _ _ h2⟩
structure RdT (K : PySem.W.Frag) (mg : Str → Option Value) (C : Addr) : Prop where
  cl : Cls K C
  nf : NoAttr K C "found"
  ns : NoAttr K C "spot"
  mgC : mg "Reader" = some (.ref C)
def ah (ws : List (List Nat)) (n : Nat) : List Nat := (ws[n]?).getD []
def beg (w sg : List Nat) : Bool := match w with
  | [] => false
  | c :: _ => decide (c ∈ sg)
def numL : List Nat := figL ++ [45]
def spBeg : Sp := fun vs H Q _ => ∃ (w sg : List Nat), vs = [.str (S w), .str (S sg)] ∧ w.length ≤ 100 ∧ Q (.bl (beg w sg)) H
def spAhead (C : Addr) : Sp := fun vs H Q _ => ∃ (r l : Addr) (ws : List (List Nat)) (n : Nat), vs = [.ref r] ∧ RdAt C H r l ws n ∧ n ≤ ws.length ∧ Q (.str (S (ah ws n))) H
def spAt (C : Addr) (sg : List Nat) : Sp := fun vs H Q _ => ∃ (r l : Addr) (ws : List (List Nat)) (n : Nat), vs = [.ref r] ∧ RdAt C H r l ws n ∧ n ≤ ws.length ∧ (ah ws n).length ≤ 100 ∧ Q (.bl (beg (ah ws n) sg)) H
def spPassed (C : Addr) : Sp := fun vs H Q _ => ∃ (r l : Addr) (ws : List (List Nat)) (n : Nat) (c : List Nat), vs = [.ref r, .str (S c)] ∧ RdAt C H r l ws n ∧ n ≤ ws.length ∧ (ah ws n ≠ c → Q (.bl false) H) ∧ (ah ws n = c → ∀ H', SameX r H H' → RdAt C H' r l ws (n + 1) → Q (.bl true) H')
def spEnd (C : Addr) : Sp := fun vs H Q _ => ∃ (r l : Addr) (ws : List (List Nat)) (n : Nat), vs = [.ref r] ∧ RdAt C H r l ws n ∧ n = ws.length ∧ Q .non H
def spTakeW (C : Addr) : Sp := fun vs H Q _ => ∃ (r l : Addr) (ws : List (List Nat)) (n : Nat), vs = [.ref r] ∧ RdAt C H r l ws n ∧ n ≤ ws.length ∧ ∀ H', SameX r H H' → RdAt C H' r l ws (n + 1) → Q (.str (S (ah ws n))) H'
def spTakeN (C : Addr) : Sp := fun vs H Q _ => ∃ (r l : Addr) (ws : List (List Nat)) (n : Nat), vs = [.ref r] ∧ RdAt C H r l ws n ∧ n ≤ ws.length ∧ (ah ws n).length ≤ 100 ∧ beg (ah ws n) letL = true ∧ ∀ H', SameX r H H' → RdAt C H' r l ws (n + 1) → Q (.str (S (ah ws n))) H'
def spTakeI (C : Addr) : Sp := fun vs H Q _ => ∃ (r l : Addr) (ws : List (List Nat)) (n : Nat) (i : Int), vs = [.ref r] ∧ RdAt C H r l ws n ∧ n ≤ ws.length ∧ (ah ws n).length ≤ 100 ∧ beg (ah ws n) numL = true ∧ intText? (S (ah ws n)) = some i ∧ ∀ H', SameX r H H' → RdAt C H' r l ws (n + 1) → Q (.int i) H'
def spInit (C : Addr) : Sp := fun vs H Q _ => ∃ (r dx : Addr) (z : List Nat) (ws : List (List Nat)), vs = [.ref r, .str (S z)] ∧ H r = some (.ins C dx []) ∧ z.length ≤ 5000 ∧ Writ z ws ∧ ∀ (l : Addr) (H' : Hp), SameX r H H' → RdAt C H' r l ws 0 → Q .non H'
theorem RdAt.step {C : Addr} {H : Hp} {r l dx : Addr} {ws : List (List Nat)} {n : Nat} (h : RdAt C H r l ws n) (hx : H r = some (.ins C dx (rd l n))) : RdAt C (upd H r (.ins C dx (putF "spot" (.int ((n : Int) + 1)) (rd l n)))) r l ws (n + 1) := by
  refine ⟨⟨dx, ?_⟩, ?_⟩
  · rw [upd_same, put_spot]; rfl
  · rw [upd_ne (ne_of h.fl hx (by intro z; cases z))]; exact h.fl
theorem ah_at {ws : List (List Nat)} {n : Nat} (h : n < ws.length) : (W ws)[n]? = some (.str (S (ah ws n))) := by
  unfold W ah
  rw [List.getElem?_map, List.getElem?_eq_getElem h]; rfl
section
variable {P : Program} {w : World} {K : PySem.W.Frag} {mg : Str → Option Value} {base : Heap} {f : Addr} {fd : FuncData} {C : Addr}
theorem scBegins : FnScope ["word", "signs"] ["word", "signs"] (defScope sBegins) := ⟨rfl, rfl, rfl, by decide +kernel, rfl, by decide +kernel, by decide +kernel⟩
theorem ok_begins (F : Fun K "begins_in" "begins_in" sBegins f fd) : FnOk P w K mg base CX0 1 f fd ["word", "signs"] spBeg := by
  refine F.ok scBegins (fun vs H Q E h => ?_) (fun cdv A outer s H vs Q E hr h => ?_)
  · obtain ⟨u, sg, rfl, _⟩ := h
    rfl
  obtain ⟨u, sg, rfl, hu, q⟩ := h
  refine ⟨_, (pss_one (ps_ret (pe_and (pe_cmpR op_ne (pv 0) pe_str (nomark _)) (pe_one (pe_cmpR op_in_one (pe_ix ix_str (pv 0) pe_int (fun _ _ => rfl)) (pv 1) (by with_unfolding_all rfl)))))), ?_⟩
  cases u with
  | nil =>
    refine ⟨_, rfl, rfl, _, rfl, ?_⟩
    have e : decide (V.str (S []) = V.str (Str.ofString "")) = true := decide_eq_true (by rw [none_eq])
    rw [e]
    exact iteF q
  | cons c u =>
    refine ⟨_, rfl, rfl, _, rfl, ?_⟩
    have e : decide (V.str (S (c :: u)) = V.str (Str.ofString "")) = false := decide_eq_false (by rw [none_eq]; exact str_ne (by simp))
    rw [e]
    refine iteT ⟨_, rfl, _, _, c, rfl, rfl, (by rw [S_len]; exact line_of (by omega)), atS (k := 0) rfl, _, rfl, _, _, rfl, rfl, ?_⟩
    rw [S_list]
    exact q
theorem scAhead : FnScope ["self"] ["self"] (defScope sAhead) := ⟨rfl, rfl, rfl, by decide +kernel, rfl, by decide +kernel, by decide +kernel⟩
theorem ok_ahead (F : Fun K "ahead" "Reader.ahead" sAhead f fd) (G : Gm mg) (T : RdT K mg C) : FnOk P w K mg base CX0 1 f fd ["self"] (spAhead C) := by
  refine F.ok scAhead (fun vs H Q E h => ?_) (fun cdv A outer s H vs Q E hr h => ?_)
  · obtain ⟨r, l, ws, n, rfl, _⟩ := h
    rfl
  obtain ⟨r, l, ws, n, rfl, hR, hn, q⟩ := h
  refine ⟨_, (pss_cons (ps_if (pt_cmpR op_eq (pe_fld (pv 0) rfl) (pe_callB call_len_seq rfl G.len PySem.boot_len (pa_cons (pe_fld (pv 0) rfl) pa_nil)) (nomark _)) (pss_one (ps_ret pe_str)) pss_nil)
    (pss_one (ps_ret (pe_ix ix_list (pe_fld (pv 0) rfl) (pe_fld (pv 0) rfl) (fun _ _ => rfl))))), ?_⟩
  obtain ⟨dx, hx⟩ := hR.ins
  refine ⟨_, rfl, r, C, dx, _, _, rfl, hx, T.cl, T.ns, rfl, _, rfl, r, C, dx, _, _, rfl, hx, T.cl, T.nf, rfl, l, _, rfl, .inl (SqL.of hR.fl), rfl, _, rfl, ?_⟩
  rw [W_len]
  by_cases h : n = ws.length
  · refine iteP (by rw [h]) ?_
    have e : ah ws n = [] := by unfold ah; rw [List.getElem?_eq_none (by omega)]; rfl
    rw [e] at q
    show Q (.str (Str.ofString "")) H
    rw [none_eq]; exact q
  · refine iteN (fun z => h (by injection z with z; omega)) ⟨_, rfl, r, C, dx, _, _, rfl, hx, T.cl, T.nf, rfl, _, rfl, r, C, dx, _, _, rfl, hx, T.cl, T.ns, rfl, l, _, _, _, rfl, rfl, SqL.of hR.fl, atI_nat (ah_at (by omega)), q⟩
theorem scAtName : FnScope ["self"] ["self"] (defScope sAtName) := ⟨rfl, rfl, rfl, by decide +kernel, rfl, by decide +kernel, by decide +kernel⟩
theorem ok_atName (F : Fun K "at_name" "Reader.at_name" sAtName f fd) (G : Gm mg) (T : RdT K mg C) (RB : Fn P w K mg base 1 "begins_in" ["word", "signs"] spBeg) (MA : Mt P w K mg base C 1 "ahead" ["self"] (spAhead C)) : FnOk P w K mg base CX0 2 f fd ["self"] (spAt C letL) := by
  obtain ⟨tl, hl⟩ := G.lets
  refine F.ok scAtName (fun vs H Q E h => ?_) (fun cdv A outer s H vs Q E hr h => ?_)
  · obtain ⟨r, l, ws, n, rfl, _⟩ := h
    rfl
  obtain ⟨r, l, ws, n, rfl, hR, hn, hw, q⟩ := h
  refine ⟨_, (pss_one (ps_ret (pe_fn RB hr (pa_cons (pe_mt0 MA T.cl hr (pv 0)) (pa_cons (pe_glob (v := .str LETS) rfl hl ⟨_, rfl⟩) pa_nil))))), ?_⟩
  obtain ⟨dx, hx⟩ := hR.ins
  refine ⟨_, rfl, r, dx, _, rfl, hx, rfl, r, l, ws, n, rfl, hR, hn, ah ws n, letL, ?_, hw, q⟩
  rw [← let_eq]; rfl
theorem scAtNum : FnScope ["self"] ["self"] (defScope sAtNum) := ⟨rfl, rfl, rfl, by decide +kernel, rfl, by decide +kernel, by decide +kernel⟩
theorem ok_atNum (F : Fun K "at_number" "Reader.at_number" sAtNum f fd) (G : Gm mg) (T : RdT K mg C) (RB : Fn P w K mg base 1 "begins_in" ["word", "signs"] spBeg) (MA : Mt P w K mg base C 1 "ahead" ["self"] (spAhead C)) : FnOk P w K mg base CX0 2 f fd ["self"] (spAt C numL) := by
  obtain ⟨tl, hl⟩ := G.figs
  refine F.ok scAtNum (fun vs H Q E h => ?_) (fun cdv A outer s H vs Q E hr h => ?_)
  · obtain ⟨r, l, ws, n, rfl, _⟩ := h
    rfl
  obtain ⟨r, l, ws, n, rfl, hR, hn, hw, q⟩ := h
  refine ⟨_, (pss_one (ps_ret (pe_fn RB hr (pa_cons (pe_mt0 MA T.cl hr (pv 0)) (pa_cons (pe_op op_add_str (pe_glob (v := .str FIGS) rfl hl ⟨_, rfl⟩) pe_str) pa_nil))))), ?_⟩
  obtain ⟨dx, hx⟩ := hR.ins
  refine ⟨_, rfl, r, dx, _, rfl, hx, rfl, r, l, ws, n, rfl, hR, hn, _, _, rfl, rfl, (by decide +kernel), ah ws n, numL, ?_, hw, q⟩
  rw [fig_eq, minus_eq, S_app]; rfl
theorem scPassed : FnScope ["self", "sign"] ["self", "sign"] (defScope sPassed) := ⟨rfl, rfl, rfl, by decide +kernel, rfl, by decide +kernel, by decide +kernel⟩
theorem ok_passed (F : Fun K "passed" "Reader.passed" sPassed f fd) (T : RdT K mg C) (MA : Mt P w K mg base C 1 "ahead" ["self"] (spAhead C)) : FnOk P w K mg base CX0 2 f fd ["self", "sign"] (spPassed C) := by
  refine F.ok scPassed (fun vs H Q E h => ?_) (fun cdv A outer s H vs Q E hr h => ?_)
  · obtain ⟨r, l, ws, n, c, rfl, _⟩ := h
    rfl
  obtain ⟨r, l, ws, n, c, rfl, hR, hn, q1, q2⟩ := h
  refine ⟨_, (pss_cons (ps_if (pt_cmpR op_ne (pe_mt0 MA T.cl hr (pv 0)) (pv 1) (nomark _)) (pss_one (ps_ret pe_bl)) pss_nil)
    (pss_cons (ps_fldaug (pv 0) pe_int in_add)
    (pss_one (ps_ret pe_bl)))), ?_⟩
  obtain ⟨dx, hx⟩ := hR.ins
  refine ⟨_, rfl, r, dx, _, rfl, hx, rfl, r, l, ws, n, rfl, hR, hn, _, rfl, rfl, _, rfl, ?_⟩
  by_cases h : ah ws n = c
  · refine iteNS (by rw [h]) ⟨_, rfl, r, C, dx, _, _, rfl, hx, T.cl, T.ns, rfl, _, _, rfl, rfl, dx, _, hx, (by show 2 < 1000; decide), ?_⟩
    exact q2 h _ SameX.upd (hR.step hx)
  · have e : decide (V.str (S (ah ws n)) = V.str (S c)) = false := decide_eq_false (str_ne h)
    rw [e]
    exact iteT (q1 h)
theorem scTakeWord : FnScope ["self", "word"] ["self"] (defScope sTakeWord) := ⟨rfl, rfl, rfl, by decide +kernel, rfl, by decide +kernel, by decide +kernel⟩
theorem ok_takeWord (F : Fun K "take_word" "Reader.take_word" sTakeWord f fd) (T : RdT K mg C) (MA : Mt P w K mg base C 1 "ahead" ["self"] (spAhead C)) : FnOk P w K mg base CX0 2 f fd ["self"] (spTakeW C) := by
  refine F.ok scTakeWord (fun vs H Q E h => ?_) (fun cdv A outer s H vs Q E hr h => ?_)
  · obtain ⟨r, l, ws, n, rfl, _⟩ := h
    rfl
  obtain ⟨r, l, ws, n, rfl, hR, hn, q⟩ := h
  refine ⟨_, (pss_cons (ps_set (i := 1) scTakeWord.nd rfl (Or.inl rfl) (pe_mt0 MA T.cl hr (pv 0)))
    (pss_cons (ps_fldaug (pv 0) pe_int in_add)
    (pss_one (ps_ret (pv 1))))), ?_⟩
  obtain ⟨dx, hx⟩ := hR.ins
  refine ⟨_, rfl, r, dx, _, rfl, hx, rfl, r, l, ws, n, rfl, hR, hn, ?_⟩
  refine ⟨_, rfl, r, C, dx, _, _, rfl, hx, T.cl, T.ns, rfl, _, _, rfl, rfl, dx, _, hx, (by show 2 < 1000; decide), _, rfl, ?_⟩
  exact q _ SameX.upd (hR.step hx)
theorem scTakeName : FnScope ["self"] ["self"] (defScope sTakeName) := ⟨rfl, rfl, rfl, by decide +kernel, rfl, by decide +kernel, by decide +kernel⟩
theorem ok_takeName (F : Fun K "take_name" "Reader.take_name" sTakeName f fd) (T : RdT K mg C) (MN : Mt P w K mg base C 2 "at_name" ["self"] (spAt C letL)) (MW : Mt P w K mg base C 2 "take_word" ["self"] (spTakeW C)) : FnOk P w K mg base CX0 3 f fd ["self"] (spTakeN C) := by
  refine F.ok scTakeName (fun vs H Q E h => ?_) (fun cdv A outer s H vs Q E hr h => ?_)
  · obtain ⟨r, l, ws, n, rfl, _⟩ := h
    rfl
  obtain ⟨r, l, ws, n, rfl, hR, hn, hw, hb, q⟩ := h
  refine ⟨_, (pss_cons (ps_if (pt_not (pt_val (pe_mt0 MN T.cl hr (pv 0)))) pss_never pss_nil)
    (pss_one (ps_ret (pe_mt0 MW T.cl hr (pv 0))))), ?_⟩
  obtain ⟨dx, hx⟩ := hR.ins
  refine ⟨_, rfl, r, dx, _, rfl, hx, rfl, r, l, ws, n, rfl, hR, hn, hw, _, rfl, ?_⟩
  rw [hb]
  exact iteF ⟨_, rfl, r, dx, _, rfl, hx, rfl, r, l, ws, n, rfl, hR, hn, q⟩
theorem scTakeNum : FnScope ["self"] ["self"] (defScope sTakeNum) := ⟨rfl, rfl, rfl, by decide +kernel, rfl, by decide +kernel, by decide +kernel⟩
theorem ok_takeNum (F : Fun K "take_number" "Reader.take_number" sTakeNum f fd) (G : Gm mg) (T : RdT K mg C) (MN : Mt P w K mg base C 2 "at_number" ["self"] (spAt C numL)) (MW : Mt P w K mg base C 2 "take_word" ["self"] (spTakeW C)) : FnOk P w K mg base CX0 3 f fd ["self"] (spTakeI C) := by
  refine F.ok scTakeNum (fun vs H Q E h => ?_) (fun cdv A outer s H vs Q E hr h => ?_)
  · obtain ⟨r, l, ws, n, i, rfl, _⟩ := h
    rfl
  obtain ⟨r, l, ws, n, i, rfl, hR, hn, hw, hb, hi, q⟩ := h
  refine ⟨_, (pss_cons (ps_if (pt_not (pt_val (pe_mt0 MN T.cl hr (pv 0)))) pss_never pss_nil)
    (pss_one (ps_ret (pe_callTy call_intS rfl G.int PyProof.Rows.boot_int (pa_cons (pe_mt0 MW T.cl hr (pv 0)) pa_nil))))), ?_⟩
  obtain ⟨dx, hx⟩ := hR.ins
  refine ⟨_, rfl, r, dx, _, rfl, hx, rfl, r, l, ws, n, rfl, hR, hn, hw, _, rfl, ?_⟩
  rw [hb]
  exact iteF ⟨_, rfl, r, dx, _, rfl, hx, rfl, r, l, ws, n, rfl, hR, hn, fun H' g' hR' => ⟨_, i, rfl, hi, (by rw [S_len]; omega), q H' g' hR'⟩⟩
theorem scNeedEnd : FnScope ["self", "word"] ["self"] (defScope sNeedEnd) := ⟨rfl, rfl, rfl, by decide +kernel, rfl, by decide +kernel, by decide +kernel⟩
theorem ok_needEnd (F : Fun K "need_end" "Reader.need_end" sNeedEnd f fd) (T : RdT K mg C) (MA : Mt P w K mg base C 1 "ahead" ["self"] (spAhead C)) : FnOk P w K mg base CX0 2 f fd ["self"] (spEnd C) := by
  refine F.ok scNeedEnd (fun vs H Q E h => ?_) (fun cdv A outer s H vs Q E hr h => ?_)
  · obtain ⟨r, l, ws, n, rfl, _⟩ := h
    rfl
  obtain ⟨r, l, ws, n, rfl, hR, hn, q⟩ := h
  refine ⟨_, (pss_cons (ps_set (i := 1) scNeedEnd.nd rfl (Or.inl rfl) (pe_mt0 MA T.cl hr (pv 0)))
    (pss_one (ps_if (pt_cmpR op_ne (pv 1) pe_str (nomark _)) pss_never pss_nil))), ?_⟩
  obtain ⟨dx, hx⟩ := hR.ins
  have e : ah ws n = [] := by unfold ah; rw [List.getElem?_eq_none (by omega)]; rfl
  refine ⟨_, rfl, r, dx, _, rfl, hx, rfl, r, l, ws, n, rfl, hR, by omega, _, rfl, rfl, _, rfl, iteNS ?_ q⟩
  rw [e, none_eq]
theorem scInit : FnScope ["self", "text"] ["self", "text"] (defScope sInit) := ⟨rfl, rfl, rfl, by decide +kernel, rfl, by decide +kernel, by decide +kernel⟩
theorem ok_init (F : Fun K "__init__" "Reader.__init__" sInit f fd) (T : RdT K mg C) (RW : Fn P w K mg base 5 "words" ["text"] spWords) : FnOk P w K mg base CX0 6 f fd ["self", "text"] (spInit C) := by
  refine F.ok scInit (fun vs H Q E h => ?_) (fun cdv A outer s H vs Q E hr h => ?_)
  · obtain ⟨r, dx, z, ws, rfl, _⟩ := h
    rfl
  obtain ⟨r, dx, z, ws, rfl, hx, hz, hw, q⟩ := h
  refine ⟨_, (pss_cons (ps_fld (pv 0) (pe_fn RW hr (pa_cons (pv 1) pa_nil)) rfl)
    (pss_one (ps_fld (pv 0) pe_int rfl))), ?_⟩
  refine ⟨_, rfl, z, ws, rfl, hz, hw, fun l H' g' hl hl0 => ?_⟩
  have hx' := g' _ _ hx
  have ne : l ≠ r := fun e => by rw [e, hx] at hl0; cases hl0
  refine ⟨_, rfl, r, C, dx, _, rfl, hx', T.cl, T.nf, (by show 0 < 1000; decide), ?_⟩
  refine ⟨_, rfl, r, C, dx, _, rfl, upd_same, T.cl, T.ns, (by show 1 < 1000; decide), ?_⟩
  refine q l _ (((SameX.of g').trans SameX.upd).trans SameX.upd) ⟨⟨dx, ?_⟩, ?_⟩
  · rw [upd_same]
    show some (HO.ins C dx (putF "spot" _ (putF "found" _ []))) = _
    rw [show putF "found" (V.ref l) [] = ([("found", V.ref l)] : List (Str × V)) from rfl, put_no (by decide +kernel)]; rfl
  · rw [upd_ne ne, upd_ne ne]; exact hl
end
end K5
namespace TM
variable {α : Type}
mutual
def sz : Tree α → Nat
  | .node _ _ bs => 1 + szs bs
def szs : List (Tree α) → Nat
  | [] => 0
  | t :: r => sz t + szs r
end
mutual
def lv : Tree α → Nat
  | .node _ _ bs => 1 + lvs bs
def lvs : List (Tree α) → Nat
  | [] => 0
  | t :: r => max (lv t) (lvs r)
end
mutual
def pl : Tree α → List (List Int)
  | .node _ _ bs => [] :: pls 0 bs
def pls : Nat → List (Tree α) → List (List Int)
  | _, [] => []
  | i, t :: r => (pl t).map (List.cons (i : Int)) ++ pls (i + 1) r
end
theorem sz_bs (t : Tree α) : sz t = 1 + szs t.bs := by cases t; simp [sz, Tree.bs]
theorem lv_bs (t : Tree α) : lv t = 1 + lvs t.bs := by cases t; simp [lv, Tree.bs]
theorem szs_map : ∀ ts : List (Tree α), ((ts.map fun t => (sz t : Int)).sum) = (szs ts : Int)
  | [] => by simp [szs]
  | t :: r => by rw [List.map_cons, List.sum_cons, szs_map r]; simp [szs]
theorem sz_le {ts : List (Tree α)} {t : Tree α} (h : t ∈ ts) : sz t ≤ szs ts := by
  induction ts with
  | nil => cases h
  | cons u r ih =>
    simp only [szs]
    rcases List.mem_cons.mp h with rfl | h
    · omega
    · have := ih h; omega
theorem lv_le {ts : List (Tree α)} {t : Tree α} (h : t ∈ ts) : lv t ≤ lvs ts := by
  induction ts with
  | nil => cases h
  | cons u r ih =>
    simp only [lvs]
    rcases List.mem_cons.mp h with rfl | h
    · omega
    · have := ih h; omega
mutual
theorem lv_sz : ∀ t : Tree α, lv t ≤ sz t
  | .node _ _ bs => by simp only [lv, sz]; have := lvs_szs bs; omega
theorem lvs_szs : ∀ ts : List (Tree α), lvs ts ≤ szs ts
  | [] => by simp [lvs, szs]
  | t :: r => by simp only [lvs, szs]; have h1 := lv_sz t; have h2 := lvs_szs r; omega
end
mutual
theorem pl_len : ∀ t : Tree α, (pl t).length = sz t
  | .node _ _ bs => by simp only [pl, sz, List.length_cons]; rw [pls_len 0 bs]; omega
theorem pls_len : ∀ (i : Nat) (ts : List (Tree α)), (pls i ts).length = szs ts
  | _, [] => by simp [pls, szs]
  | i, t :: r => by simp only [pls, szs, List.length_append, List.length_map]; rw [pl_len t, pls_len (i + 1) r]
end
mutual
theorem mem_pl : ∀ (t : Tree α) (p : List Int), p ∈ pl t ↔ (atT t p).isSome = true
  | .node a m bs, p => by
    cases p with
    | nil => simp [pl, atT_nil]
    | cons i r =>
      rw [atT_cons]
      simp only [pl, List.mem_cons, reduceCtorEq, false_or]
      rw [mem_pls 0 bs i r]
      constructor
      · rintro ⟨k, t, hk, rfl, h⟩
        rw [if_pos (by omega)]
        have e : (((0 + k : Nat) : Int)).toNat = k := by omega
        show (match bs[(((0 + k : Nat) : Int)).toNat]? with | some b => atT b r | none => none).isSome = true
        rw [e, hk]; exact h
      · intro h
        by_cases hi : 0 ≤ i
        · rw [if_pos hi] at h
          have h' : (match bs[i.toNat]? with | some b => atT b r | none => none).isSome = true := h
          cases hk : bs[i.toNat]? with
          | none => rw [hk] at h'; cases h'
          | some b => rw [hk] at h'; exact ⟨i.toNat, b, hk, by omega, h'⟩
        · rw [if_neg hi] at h; cases h
theorem mem_pls : ∀ (j : Nat) (ts : List (Tree α)) (i : Int) (r : List Int), i :: r ∈ pls j ts ↔ ∃ k t, ts[k]? = some t ∧ i = ((j + k : Nat) : Int) ∧ (atT t r).isSome = true
  | j, [], i, r => by simp [pls]
  | j, u :: ts, i, r => by
    simp only [pls, List.mem_append, List.mem_map]
    rw [mem_pls (j + 1) ts i r]
    constructor
    · rintro (⟨q, hq, e⟩ | ⟨k, t, h1, h2, h3⟩)
      · simp only [List.cons.injEq] at e
        obtain ⟨e1, rfl⟩ := e
        exact ⟨0, u, rfl, by rw [← e1]; rfl, (mem_pl u q).mp hq⟩
      · exact ⟨k + 1, t, by simpa using h1, by rw [h2]; congr 1; omega, h3⟩
    · rintro ⟨k, t, h1, h2, h3⟩
      cases k with
      | zero =>
        have : u = t := by simpa using h1
        subst this
        exact .inl ⟨r, (mem_pl u r).mpr h3, by rw [h2]; rfl⟩
      | succ k => exact .inr ⟨k, t, by simpa using h1, by rw [h2]; congr 1; omega, h3⟩
end
mutual
theorem len_le : ∀ (t : Tree α) (p : List Int), p ∈ pl t → p.length < lv t
  | .node a m bs, p, h => by
    simp only [pl, List.mem_cons] at h
    simp only [lv]
    rcases h with rfl | h
    · simp; omega
    · have := lens_le 0 bs p h; omega
theorem lens_le : ∀ (j : Nat) (ts : List (Tree α)) (p : List Int), p ∈ pls j ts → p.length ≤ lvs ts
  | j, [], p, h => by simp [pls] at h
  | j, u :: ts, p, h => by
    simp only [pls, List.mem_append, List.mem_map] at h
    simp only [lvs]
    rcases h with ⟨q, hq, rfl⟩ | h
    · have := len_le u q hq; simp; omega
    · have := lens_le (j + 1) ts p h; omega
end
mutual
theorem len_max : ∀ t : Tree α, ∃ p ∈ pl t, p.length + 1 = lv t
  | .node a m bs => by
    simp only [pl, lv]
    rcases lens_max 0 bs with h | ⟨p, hp, e⟩
    · exact ⟨[], List.mem_cons_self, by rw [h]; rfl⟩
    · exact ⟨p, List.mem_cons_of_mem _ hp, by omega⟩
theorem lens_max : ∀ (j : Nat) (ts : List (Tree α)), lvs ts = 0 ∨ ∃ p ∈ pls j ts, p.length = lvs ts
  | j, [] => .inl (by simp [lvs])
  | j, u :: ts => by
    right
    simp only [pls, lvs]
    obtain ⟨p, hp, e⟩ := len_max u
    by_cases hc : lvs ts ≤ lv u
    · exact ⟨(j : Int) :: p, List.mem_append_left _ (List.mem_map.mpr ⟨p, hp, rfl⟩), by simp; omega⟩
    · rcases lens_max (j + 1) ts with h | ⟨q, hq, e2⟩
      · omega
      · exact ⟨q, List.mem_append_right _ hq, by omega⟩
end
open HT (lexLt)
mutual
theorem pl_asc : ∀ t : Tree α, (pl t).Pairwise fun x y => lexLt x y = true
  | .node a m bs => by
    simp only [pl]
    rw [List.pairwise_cons]
    refine ⟨fun y hy => ?_, pls_asc 0 bs⟩
    cases y with
    | nil => exact absurd hy (nil_pls 0 bs)
    | cons _ _ => rfl
theorem pls_asc : ∀ (j : Nat) (ts : List (Tree α)), (pls j ts).Pairwise fun x y => lexLt x y = true
  | j, [] => by simp [pls]
  | j, u :: ts => by
    simp only [pls]
    rw [List.pairwise_append]
    refine ⟨?_, pls_asc (j + 1) ts, fun x hx y hy => ?_⟩
    · rw [List.pairwise_map]
      refine (pl_asc u).imp fun {x y} h => ?_
      rw [HT.lexLt_cons, if_pos rfl]; exact h
    · obtain ⟨q, hq, rfl⟩ := List.mem_map.mp hx
      cases y with
      | nil => exact absurd hy (nil_pls (j + 1) ts)
      | cons i r =>
        obtain ⟨k, t, _, rfl, _⟩ := (mem_pls (j + 1) ts i r).mp hy
        rw [HT.lexLt_cons, if_neg (by omega)]
        exact decide_eq_true (by omega)
theorem nil_pls : ∀ (j : Nat) (ts : List (Tree α)), [] ∉ pls j ts
  | j, [] => by simp [pls]
  | j, u :: ts => by
    simp only [pls, List.mem_append, List.mem_map, not_or]
    exact ⟨(fun ⟨q, _, e⟩ => nomatch e), nil_pls (j + 1) ts⟩
end
variable {R : Rows α} {K : Nat → List Int} {B : Nat → Tree α} {o0 : Tree α}
end TM
namespace L2
open PySem PySem.Spec PyProof.Rows
def compX (X : Cx) (N' : List Str) (scope : Scope) (cl : List (Str × Addr)) (C : Addr) (fp : List Addr) (s₀ : Shared) (H₀ : Hp) : Cx :=
  { X with N := N', s₀ := s₀, H₀ := H₀, env := compEnvC scope cl C X.env, outer := X.stack, ex := fp, fn := fun _ => false, pn := [], xe := fun _ _ => False }
def PF (X : Cx) (ifs : List Expr) (t : TT) : Prop :=
  ∀ (pins : List (Addr × Obj)) (s : Shared) (σ : St) (H : Hp) (Q : Bool → Hp → Prop), Inv X pins σ H s → t σ H Q →
    wpAny (model X.prog X.w) X.A (forIn ifs true fun c r => if r = true then do let ok ← isTrue c X.env (eval c X.env); pure (ForInStep.yield ok) else pure (ForInStep.yield r)) (TP X pins σ Q) X.xe s
theorem pf_nil {X : Cx} : PF X [] (fun _ H Q => Q true H) := by
  intro pins s σ H Q I h
  rw [List.forIn_nil]
  exact wpAny_pure ⟨H, I, h⟩
def tComp (wi : TI) (cap : List Nat) (tt : TT) (te : TE) : TE := fun σ H Q => wi σ H fun J H1 => ∀ acc, H1 acc = none → ∃ W : Nat → Nat → Hp → Prop, (∃ m, W 0 m (upd H1 acc (.lst []))) ∧ ∀ i m H2, W i m H2 →
  (J.stop i H2 ∧ Q (.ref acc) H2) ∨ (J.go i H2 ∧ ∀ x H3, J.yld i H2 x H3 → tt (some x :: cap.map fun j => (σ[j]?).getD none) H3 fun ok H4 => if ok = true then
    te (some x :: cap.map fun j => (σ[j]?).getD none) H4 (fun y H5 => ∃ ys, H5 acc = some (.lst ys) ∧ ys.length < sizeLine ∧ ∃ m', m' < m ∧ W (i + 1) m' (upd H5 acc (.lst (ys ++ [y]))))
    else ∃ m', m' < m ∧ W (i + 1) m' H4)
structure CompOk (X : Cx) (x : Str) (caps : List Str) (cap : List Nat) (scope : Scope) (cl : List (Str × Addr)) : Prop where
  clos : closureFor scope X.env = pure cl
  cell : ∀ y ∈ scope.names, y.2 ≠ .cell
  kind : scope.kind = .function
  names : ∀ y ∈ scope.names, y.2 = .local → scope.names.lookup y.1 = some .local
  lx : scope.names.lookup x = some .local
  nd : (x :: caps).Nodup
  from_ : ∀ y c, cl.lookup y = some c → X.env.cells.lookup y = some c
  has : ∀ y, ((relabel scope X.env).names.lookup y = some .cell ∨ (relabel scope X.env).names.lookup y = some .free) → ∃ c, cl.lookup y = some c
  len : cap.length = caps.length
  cps : ∀ (i : Nat) (y : Str), caps[i]? = some y → ∃ j, cap[i]? = some j ∧ X.N[j]? = some y ∧ X.env.scope.names.lookup y = some .cell ∧ (relabel scope X.env).names.lookup y = some .cell
structure OwnAt (X : Cx) (pins : List (Addr × Obj)) (H : Hp) (s : Shared) (C : Addr) : Prop where
  ns : ∃ m, s.heap.Ns C m
  free : H C = none
  loc : C ≠ X.env.locals
  above : X.s₀.heap.objs.size ≤ C
  cells : ∀ x c, X.env.cells.lookup x = some c → c ≠ C
  pins : ∀ p ∈ X.pn ++ pins, p.1 ≠ C
theorem comp_core {X : Cx} {elt iter : Expr} {x : Str} {px : Pos} {ifs : List Expr} {scope : Scope} {pos pos' : Pos} {wi : TI} {tt : TT} {te : TE} {cl : List (Str × Addr)} {caps : List Str} {cap : List Nat}
    (O : CompOk X x caps cap scope cl) (hc : X.calm = true) (hi : PI X (.Name x px) iter wi)
    (ht : ∀ C fp s₀ H₀, PF (compX X (x :: caps) scope cl C fp s₀ H₀) ifs tt) (he : ∀ C fp s₀ H₀, PE (compX X (x :: caps) scope cl C fp s₀ H₀) elt te)
    (hs : ∀ x, foldedSetIterable iter X.env x = pure x) {pins : List (Addr × Obj)} {s : Shared} {σ : St} {H : Hp} {Q : VK} {use : Option (Value → Sem Unit)} {QQ : Value → Shared → Prop} (I : Inv X pins σ H s)
    (h : tComp wi cap tt te σ H Q)
    (hfin : ∀ D C H' s', Inv X pins σ H' s' → OwnAt X pins H' s' C → Q (.ref D) H' → compPost (model X.prog X.w) X.A X.xe use QQ (.ref D) C (.ok .next) s') :
    wpAny (model X.prog X.w) X.A (comprehension (.ListComp elt [⟨.Name x px, iter, ifs, 0⟩] scope pos) scope X.env pos' (newList []) false (eval iter X.env) use) QQ X.xe s := by
  refine wpAny_comprehension_free rfl hs O.clos O.kind O.names (thn (hi pins s σ H _ I h) fun v s1 h1 => thn h1 fun itv s2 h2 => ?_)
  obtain ⟨it, fp, tn, J, H1, e, I2, T, t0, f2, hR⟩ := h2
  subst e
  refine wpAny_newObj_type (wpAny_newFunctionEnv O.cell (by intro y hy; simp at hy) (fun h₁ hns hsb => ?_) O.kind)
  have hacc : H1 s2.heap.objs.size = none := I2.fresh
  obtain ⟨W, ⟨m0, w0⟩, turn⟩ := hR s2.heap.objs.size hacc
  have I3 : Inv X pins σ (upd H1 s2.heap.objs.size (.lst [])) { s2 with heap := s2.heap.push { cls := .type "list", data := .seq ([] : List Value).toArray } } := I2.lnew (t' := s2.toks) (ys := []) (its := []) .nil (Nat.zero_le _)
  generalize hs3 : ({ s2 with heap := s2.heap.push { cls := .type "list", data := .seq ([] : List Value).toArray } } : Shared) = s3 at hns hsb I3 ⊢
  generalize hD : s2.heap.objs.size = D at I3 w0 turn hacc ⊢
  generalize hH3 : upd H1 D (.lst []) = H3 at I3 w0
  have keep3 : ∀ b o, s3.heap.get? b = some o → h₁.get? b = some o := fun b o e => (hsb.2 b (Nat.ne_of_lt (Heap.lt_size e))).trans (Heap.get?_push_of_some _ e)
  have hfp3 : ∀ b ∈ fp, H3 b = none := fun b hb => by
    rw [← hH3, upd_ne]
    · exact (f2 b hb).1
    · intro z
      obtain ⟨o, e, _⟩ := T.obj _ _ t0 b hb
      exact absurd (Heap.lt_size e) (by rw [z, hD]; exact Nat.lt_irrefl _)
  have hCfresh : H3 s3.heap.objs.size = none := I3.fresh
  have hCfp : ∀ b ∈ fp, b ≠ s3.heap.objs.size := fun b hb z => by
    obtain ⟨o, e, _⟩ := T.obj _ _ t0 b hb
    have h2 : s3.heap.objs.size = s2.heap.objs.size + 1 := by rw [← hs3]; exact Heap.size_push ..
    exact absurd (Heap.lt_size e) (by rw [z, h2]; exact Nat.not_lt.mpr (Nat.le_succ _))
  have t3 : tn 0 h₁ := T.keep _ _ _ t0 fun b hb o e => keep3 b o (by rw [← hs3]; exact Heap.get?_push_of_some _ e)
  have ok' : (compX X (x :: caps) scope cl s3.heap.objs.size fp s3 H3).Ok := by
    refine ⟨I3.ok.mod, O.kind, I3.ok.glob, I3.ok.blt, Nat.le_refl _, fun y z c e1 e2 => I3.ok.inj y z c (O.from_ y c e1) (O.from_ z c e2), fun y hy => O.has y hy, fun y c z _ => (nomatch z), I3.ok.hd, I3.ok.frames, .inl rfl, fun b hb => ⟨hCfp b hb, fun y c e => ?_⟩, I3.bs, Nat.le_trans I3.ok.bsz I3.sz, fun b o e hb => ?_, fun b hb z => ?_, I3.stack, I3.stkFree⟩
    · exact (f2 b hb).2.2.2.2.1 y c (O.from_ y c e)
    · rcases (f2 b hb).2.2.2.1 with q | q
      · exact I3.ok.noex b o e q
      · exact absurd (Nat.lt_of_lt_of_le (Heap.lt_size e) (Nat.le_trans I3.ok.bsz q)) (Nat.lt_irrefl _)
    · rcases List.mem_cons.mp (I3.stkSub b z) with q | q
      · exact (f2 b hb).2.1 q
      · exact (f2 b hb).2.2.1 q
  have I4 : Inv (compX X (x :: caps) scope cl s3.heap.objs.size fp s3 H3) [] (none :: cap.map fun j => (σ[j]?).getD none) H3 { s3 with heap := h₁, toks := s3.toks + ([] : List (Str × Value)).length } := by
    obtain ⟨m, hn, hl⟩ := id I3.loc
    refine ⟨ok', rfl, I3.bare, Un.kept keep3, ⟨_, hns, fun i y v e1 e2 e3 => ?_⟩, fun y c e => ?_, hCfresh, fun y c e => I3.freeC y c (O.from_ y c e), fun p hp => (nomatch hp), I3.hok.kept keep3, ?_⟩
    · cases i with
      | zero => simp at e2
      | succ i =>
        have e1' : caps[i]? = some y := by
          have e1'' : (x :: caps)[i + 1]? = some y := e1
          simpa using e1''
        obtain ⟨j, hj, hN, hk, hk'⟩ := O.cps i y e1'
        have e2' : (σ[j]?).getD none = some v := by simpa [hj] using e2
        have e2'' : σ[j]? = some (some v) := by
          cases q : σ[j]? with
          | none => rw [q] at e2'; cases e2'
          | some a => rw [q] at e2'; exact congrArg some e2'
        obtain ⟨u, r, l⟩ := hl j y v hN e2'' (.inr (.inl hk))
        refine ⟨u, r, ?_⟩
        rcases l with ⟨k, _⟩ | ⟨k, c, e, z⟩
        · have k' : X.env.scope.names.lookup y = some .local := k
          rw [hk] at k'; cases k'
        · obtain ⟨c', hc'⟩ := O.has y (.inl hk')
          have : c' = c := Option.some.inj ((O.from_ y c' hc').symm.trans e)
          subst this
          refine .inr ⟨.inl hk', c', hc', ?_⟩
          obtain ⟨o, ho, hd⟩ := z
          exact ⟨o, keep3 _ _ ho, hd⟩
    · obtain ⟨v, o, ho, hd⟩ := I3.cell y c (O.from_ y c e)
      exact ⟨v, o, keep3 _ _ ho, hd⟩
    · show (none :: cap.map _).length = (x :: caps).length
      simp [O.len]
  have fin : ∀ (H' : Hp) (σ' : St) (s' : Shared), Inv (compX X (x :: caps) scope cl s3.heap.objs.size fp s3 H3) [] σ' H' s' → Q (.ref D) H' →
      compPost (model X.prog X.w) X.A X.xe use QQ (.ref D) s3.heap.objs.size (.ok .next) s' := fun H' σ' s' I' q => by
    obtain ⟨m, hn, _⟩ := id I'.loc
    have hU : Un (frs X.stack) fp H3 H' s3.heap s'.heap := I'.base
    have hok2 : HOk X.prog X.w H' s'.heap := I'.hok
    have os' : s'.os = s3.os := I'.os
    have I6 : Inv X pins σ H' s' := I3.call' (ch := fp) os' hU hok2 I'.bare (fun b hb => ⟨(f2 b hb).2.2.2.1, (f2 b hb).2.1, (f2 b hb).2.2.2.2⟩)
    refine hfin D _ H' s' I6 ⟨⟨m, hn⟩, I'.free, Nat.ne_of_gt I3.lt, I3.sz, fun y c e z => ?_, fun p hp z => ?_⟩ q
    · obtain ⟨v, hv⟩ := I3.cell y c e
      exact absurd hv.lt (by rw [z]; exact Nat.lt_irrefl _)
    · exact absurd (Heap.lt_size (I3.pin p hp).1) (by rw [z]; exact Nat.lt_irrefl _)
  have stat : ∀ {H' : Hp}, (∀ b ∈ fp, H' b = none) → ∀ b ∈ fp, FpOk (compX X (x :: caps) scope cl s3.heap.objs.size fp s3 H3) [] H' b := fun hn b hb =>
    ⟨hn b hb, hCfp b hb, ok'.exfs b hb, .inl hb, fun y c e => (f2 b hb).2.2.2.2.1 y c (O.from_ y c e), fun p hp => (nomatch hp)⟩
  have loop : codeAny (model X.prog X.w) X.A (.compLoop (.ListComp elt [⟨.Name x px, iter, ifs, 0⟩] scope pos) 0 (.ref it) (.ref D) (compEnvC scope cl s3.heap.objs.size X.env))
      (compPost (model X.prog X.w) X.A X.xe use QQ (.ref D) s3.heap.objs.size) { s3 with heap := h₁, toks := s3.toks + ([] : List (Str × Value)).length } := by
    refine codeAny_loop rfl (fun n s' => ∃ i a H', Inv (compX X (x :: caps) scope cl s3.heap.objs.size fp s3 H3) [] (a :: cap.map fun j => (σ[j]?).getD none) H' s' ∧ tn i s'.heap ∧ (∀ b ∈ fp, H' b = none) ∧ W i n H') ?_ m0 ⟨0, none, H3, I4, t3, hfp3, w0⟩
    rintro n s5 ⟨i, a, H5, I5, st5, fr5, w5⟩
    show wpAny _ _ ((compTurn (.ListComp elt [⟨.Name x px, iter, ifs, 0⟩] scope pos) 0 (.ref it) (.ref D) (compEnvC scope cl s3.heap.objs.size X.env)).onRaise (fun x => do noteFrame x (compEnvC scope cl s3.heap.objs.size X.env); theTreesLotGoes x)) _ _ s5
    refine wpAny_noted ?_
    rw [compTurn_list]
    refine wpAny_bind (wpAny_standAt (wpAny_bind ?_))
    have bad : ∀ {M : Model} {A : Around} {α : Type} {t : Sem α} {P : α → Shared → Prop} {E' : Value → Shared → Prop} {s' : Shared}, wpAny M A t P (fun _ _ => False) s' → wpAny M A t P E' s' := fun h => wpAny_mono h (fun _ _ q => q) fun _ _ z => z.elim
    rcases turn i n H5 w5 with ⟨stop, qn⟩ | ⟨go, step⟩
    · refine bad (thn (T.done (compX X (x :: caps) scope cl s3.heap.objs.size fp s3 H3) rfl rfl rfl hc i [] s5 _ H5 (fun _ _ => False) I5 (stat fr5) st5 stop) fun r s6 ⟨hr, I6⟩ => ?_)
      subst hr
      exact wpAny_pure (fin H5 _ s6 I6 qn)
    · refine bad (thn (T.item (compX X (x :: caps) scope cl s3.heap.objs.size fp s3 H3) rfl rfl rfl hc i [] s5 _ H5 (fun _ _ => False) I5 (stat fr5) st5 go) fun r s6 ⟨u, hr, h6⟩ => ?_)
      subst hr
      refine wpAny_bind (bad (thn h6 fun _ s7 ⟨y, H7, I7, r7, y7, st7, fr7⟩ => ?_))
      have I7' := I7.pinned (stat fr7) (T.obj _ _ st7)
      have goal := step y H7 y7
      have hxl : Loc (compX X (x :: caps) scope cl s3.heap.objs.size fp s3 H3).env.scope x := .inl (lookup_relabel_local O.lx)
      refine wpAny_bind (wpAny_assign_Name (store_ok (i := 0) I7' O.nd rfl hxl r7 (fun s8 I8 => ?_) (.inr (lookup_relabel_local O.lx))))
      have I8' : Inv (compX X (x :: caps) scope cl s3.heap.objs.size fp s3 H3) ([] ++ pinsAt fp s7.heap) (some y :: cap.map fun j => (σ[j]?).getD none) H7 s8 := I8
      refine wpAny_bind (bad (thn (ht s3.heap.objs.size fp s3 H3 _ s8 _ H7 _ I8' goal) fun okb s9 ⟨H9, I9, q9⟩ => ?_))
      have again : ∀ {H10 : Hp} {s10 : Shared} {m' : Nat}, Inv (compX X (x :: caps) scope cl s3.heap.objs.size fp s3 H3) ([] ++ pinsAt fp s7.heap) (some y :: cap.map fun j => (σ[j]?).getD none) H10 s10 → m' < n → W (i + 1) m' H10 →
          ∃ m, m < n ∧ ∃ i a H', Inv (compX X (x :: caps) scope cl s3.heap.objs.size fp s3 H3) [] (a :: cap.map fun j => (σ[j]?).getD none) H' s10 ∧ tn i s10.heap ∧ (∀ b ∈ fp, H' b = none) ∧ W i m H' := fun {H10 s10 m'} I10 hm w10 => by
        refine ⟨m', hm, i + 1, some y, H10, I10.unpinned, T.keep _ _ _ st7 fun b hb o e => (I10.pin (b, o) (List.mem_append_right _ (List.mem_append_right _ (mem_pinsAt hb e)))).1, fun b hb => ?_, w10⟩
        obtain ⟨o, e, d⟩ := T.obj _ _ st7 b hb
        exact (I10.pin (b, o) (List.mem_append_right _ (List.mem_append_right _ (mem_pinsAt hb e)))).2.1
      cases okb with
      | false =>
        rw [if_neg Bool.false_ne_true] at q9
        obtain ⟨m', hm, w9⟩ := q9
        exact wpAny_pure ⟨rfl, again I9 hm w9⟩
      | true =>
        rw [if_pos rfl] at q9
        refine wpAny_bind (wpAny_bind (bad (thn (he s3.heap.objs.size fp s3 H3 _ s9 _ H9 _ I9 q9) fun yv s10 ⟨yy, H10, I10, r10, ys, hys, hlen, m', hm, w10⟩ => ?_)))
        refine wpAny_bind (bad (thn (mt_append (X := compX X (x :: caps) scope cl s3.heap.objs.size fp s3 H3) _ s10 _ H10 (.ref D) [yy] (.ref D) [yv] (fun _ H11 => W (i + 1) m' H11) I10 rfl (.cons r10 .nil) ⟨D, ys, yy, rfl, rfl, hys, hlen, w10⟩) fun _ s11 ⟨_, H11, I11, _, q11⟩ => ?_))
        exact wpAny_pure (wpAny_pure ⟨rfl, again I11 hm q11⟩)
  refine codeAny_compStart_list loop (T.self _ 0 _ _ _ t3 loop)
theorem OwnAt.go {X : Cx} {pins : List (Addr × Obj)} {σ : St} {H : Hp} {s : Shared} {C : Addr} {h' : Heap} (I : Inv X pins σ H s) (o : OwnAt X pins H s C) (hb : Heap.SameBut C s.heap h') : Inv X pins σ H { s with heap := h' } :=
  I.turned (t' := s.toks) (fun b u hb' e => (hb.2 b hb').trans e) o.free o.loc (.inr o.above) o.cells o.pins
theorem pe_lcomp {X : Cx} {elt iter : Expr} {x : Str} {px : Pos} {ifs : List Expr} {scope : Scope} {pos : Pos} {wi : TI} {tt : TT} {te : TE} {cl : List (Str × Addr)} {caps : List Str} {cap : List Nat}
    (O : CompOk X x caps cap scope cl) (hc : X.calm = true) (hi : PI X (.Name x px) iter wi)
    (ht : ∀ C fp s₀ H₀, PF (compX X (x :: caps) scope cl C fp s₀ H₀) ifs tt) (he : ∀ C fp s₀ H₀, PE (compX X (x :: caps) scope cl C fp s₀ H₀) elt te)
    (hs : ∀ x, foldedSetIterable iter X.env x = pure x := by intro _; rfl) :
    PE X (.ListComp elt [⟨.Name x px, iter, ifs, 0⟩] scope pos) (tComp wi cap tt te) := by
  intro pins s σ H Q I h
  rw [eval_ListComp]
  exact comp_core (use := none) O hc hi ht he hs I h fun D C H' s' I' o q => by
    obtain ⟨m, hn⟩ := o.ns
    exact ⟨m, hn, fun h' hb => ⟨.ref D, H', o.go I' hb, rfl, q⟩⟩
theorem ps_setC {X : Cx} {elt iter : Expr} {x y : Str} {px py : Pos} {ifs : List Expr} {scope : Scope} {pos spos : Pos} {wi : TI} {tt : TT} {te : TE} {cl : List (Str × Addr)} {caps : List Str} {cap : List Nat} {i : Nat}
    (O : CompOk X x caps cap scope cl) (hc : X.calm = true) (hi : PI X (.Name x px) iter wi)
    (ht : ∀ C fp s₀ H₀, PF (compX X (x :: caps) scope cl C fp s₀ H₀) ifs tt) (he : ∀ C fp s₀ H₀, PE (compX X (x :: caps) scope cl C fp s₀ H₀) elt te)
    (hN : X.N.Nodup) (hy : X.N[i]? = some y) (hl : X.env.scope.names.lookup y = some .local)
    (hsw : swapsWith (.ListComp elt [⟨.Name x px, iter, ifs, 0⟩] scope pos) (some (.Name y py)) spos.line X.env = pure true := by rfl)
    (hs : ∀ x, foldedSetIterable iter X.env x = pure x := by intro _; rfl) :
    PS X (.Assign [.Name y py] (.ListComp elt [⟨.Name x px, iter, ifs, 0⟩] scope pos) spos) (tAsg (tComp wi cap tt te) (gName i)) := by
  intro pins s σ H D I h
  rw [exec_Assign_Name_used _ _ _ _ hsw]
  refine wpAny_bind (wpAny_standAt (wpAny_bind ?_))
  show wpAny _ X.A (do let _ ← comprehension (.ListComp elt [⟨.Name x px, iter, ifs, 0⟩] scope pos) scope X.env _ (newList []) false (eval iter X.env) (some (assign (.Name y py) X.env))) _ _ s
  refine wpAny_bind (thn (comp_core (use := some (assign (.Name y py) X.env)) (QQ := fun _ s' => SP X pins D .next s') O hc hi ht he hs I h fun Dd C H' s' I' o q => ?_) fun _ s' hq => wpAny_pure (wpAny_pure hq))
  obtain ⟨m, hn⟩ := o.ns
  show wpAny _ X.A (assign (.Name y py) X.env (.ref Dd)) _ _ s'
  refine wpAny_assign_Name (store_ok2 (v := .ref Dd) I' hN hy (.inl hl) rfl (fun s2 I2 sb => ?_) (.inr hl))
  obtain ⟨a, sb, ha⟩ := sb
  have hCa : C ≠ a := by
    rcases ha with z | z
    · rw [z]; exact o.loc
    · exact Ne.symm (o.cells y a z)
  have o2 : OwnAt X pins H' s2 C := ⟨⟨m, hn.sameBut sb hCa⟩, o.free, o.loc, o.above, o.cells, o.pins⟩
  refine ⟨m, hn.sameBut sb hCa, fun h' hb => ?_⟩
  exact ⟨_, H', o2.go I2 hb, q⟩
def compW (n : Nat) (Pv : Nat → List V → Hp → Prop) : Nat → Nat → Hp → Prop := fun i m H => m = n - i ∧ i ≤ n ∧ ∃ ys, Pv i ys H
def compN (n : Nat) (Pv : Nat → List V → Hp → Prop) (acc : Addr) (i m : Nat) : VK := fun y H5 => ∃ ys, H5 acc = some (.lst ys) ∧ ys.length < sizeLine ∧ ∃ m', m' < m ∧ compW n Pv (i + 1) m' (upd H5 acc (.lst (ys ++ [y])))
theorem comp_next {n : Nat} {Pv : Nat → List V → Hp → Prop} {acc : Addr} {i : Nat} {y : V} {H5 : Hp} {ys : List V} (hi : i < n) (hacc : H5 acc = some (.lst ys)) (hl : ys.length < 5000) (hP : Pv (i + 1) (ys ++ [y]) (upd H5 acc (.lst (ys ++ [y])))) : compN n Pv acc i (n - i) y H5 :=
  ⟨ys, hacc, Nat.lt_trans hl (by decide), n - (i + 1), by omega, rfl, hi, _, hP⟩
theorem comp_list {K : PySem.W.Frag} {a acc : Addr} {xs : List V} {tt : TT} {te : TE} {cs : List (Option V)} {H1 : Hp} {Q : Hp → Prop} (Pv : Nat → List V → Hp → Prop) (h0 : Pv 0 [] (upd H1 acc (.lst [])))
    (hl : ∀ i ys H, i ≤ xs.length → Pv i ys H → SqL K H a xs)
    (hs : ∀ i x ys H, i < xs.length → xs[i]? = some x → Pv i ys H → tt (some x :: cs) H fun ok H4 => if ok = true then te (some x :: cs) H4 (compN xs.length Pv acc i (xs.length - i)) else ∃ m', m' < xs.length - i ∧ compW xs.length Pv (i + 1) m' H4)
    (hd : ∀ ys H, Pv xs.length ys H → Q H) :
    ∃ W : Nat → Nat → Hp → Prop, (∃ m, W 0 m (upd H1 acc (.lst []))) ∧ ∀ i m H2, W i m H2 →
      ((Itl K a).stop i H2 ∧ Q H2) ∨ ((Itl K a).go i H2 ∧ ∀ x H3, (Itl K a).yld i H2 x H3 → tt (some x :: cs) H3 fun ok H4 => if ok = true then
        te (some x :: cs) H4 (fun y H5 => ∃ ys, H5 acc = some (.lst ys) ∧ ys.length < sizeLine ∧ ∃ m', m' < m ∧ W (i + 1) m' (upd H5 acc (.lst (ys ++ [y]))))
        else ∃ m', m' < m ∧ W (i + 1) m' H4) := by
  refine ⟨compW xs.length Pv, ⟨xs.length - 0, rfl, Nat.zero_le _, [], h0⟩, ?_⟩
  rintro i m H2 ⟨rfl, hi, ys, p⟩
  have hq := hl i ys H2 hi p
  by_cases h : i < xs.length
  · refine .inr ⟨⟨xs, xs[i], hq, List.getElem?_eq_getElem h⟩, ?_⟩
    rintro x H3 ⟨rfl, hx⟩
    exact hs i x ys _ h (hx xs hq) p
  · have e : i = xs.length := by omega
    subst e
    exact .inl ⟨⟨xs, hq, Nat.le_refl _⟩, hd ys H2 p⟩
end L2
namespace L2
open PySem PySem.Spec PyProof.Rows
theorem lookup_mem {k : NameKind} {y : Str} : ∀ {l : List (Str × NameKind)}, l.lookup y = some k → ∃ z ∈ l, z.2 = k
  | [], h => by simp at h
  | (n, j) :: r, h => by
    cases hx : y == n with
    | true =>
      simp only [List.lookup_cons, hx] at h
      exact ⟨(n, j), List.mem_cons_self, by cases h; rfl⟩
    | false =>
      simp only [List.lookup_cons, hx] at h
      obtain ⟨z, h1, h2⟩ := lookup_mem h
      exact ⟨z, List.mem_cons_of_mem _ h1, h2⟩
theorem CompOk.plain {X : Cx} {x : Str} {scope : Scope} (hk : scope.kind = .function) (hn : ∀ z ∈ scope.names, z.2 ≠ .cell ∧ z.2 ≠ .free) (hl : ∀ y ∈ scope.names, y.2 = .local → scope.names.lookup y.1 = some .local) (hx : scope.names.lookup x = some .local) :
    CompOk X x [] [] scope [] := by
  have e : (relabel scope X.env).names = scope.names := map_eq_self fun z hz => by
    obtain ⟨n, k⟩ := z
    have : (k == NameKind.free) = false := by simpa using (hn _ hz).2
    simp [this]
  refine ⟨closureFor_none fun z hz => (hn z hz).2, fun z hz => (hn z hz).1, hk, hl, hx, by simp, fun y c h => (nomatch h), fun y hy => ?_, rfl, fun i y h => by simp at h⟩
  rw [e] at hy
  rcases hy with h | h
  · obtain ⟨z, h1, h2⟩ := lookup_mem h
    exact absurd h2 (hn z h1).1
  · obtain ⟨z, h1, h2⟩ := lookup_mem h
    exact absurd h2 (hn z h1).2
end L2
namespace L2
open PySem PySem.Spec PyProof.Rows
section
variable {X : Cx}
theorem call_isinstT : CallR X (.builtin "isinstance") (fun xs H Q => ∃ a ys T b, xs = [.ref a, .ty T] ∧ SqT X.K H a ys ∧ PySem.W.kitOne X.K (.type "tuple") (.type T) = some b ∧ Q (.bl b) H) := by
  intro pins s σ H xs us Q I r h
  obtain ⟨a, ys, T, b, rfl, ht, e, q⟩ := h
  obtain ⟨u, c, rfl, rx, rc⟩ := vals2 r
  cases (show c = Value.type T from rc)
  cases (show u = Value.ref a from rx)
  obtain ⟨its, r1, p, _⟩ := I.tuple ht
  obtain ⟨o, h1, h2, _⟩ := p
  exact PySem.W.kia_one PySem.W.kitx_tuple I.kIn ⟨o, h1, h2⟩ e (fun z => nomatch z) fun tk => ⟨.bl b, H, I.tok tk, rfl, q⟩
end
end L2
namespace L2
open PySem PySem.Spec PyProof.Rows
theorem vals_items : ∀ {ns : List Int} {us : List Value}, Vals (ns.map V.int) us → ∃ xs : List (Int × Tok), us = xs.map (fun p => Value.int p.1 p.2) ∧ xs.map (·.1) = ns
  | [], _, .nil => ⟨[], rfl, rfl⟩
  | n :: ns, _, .cons r rr => by
    obtain ⟨t, e⟩ := r
    obtain ⟨xs, e1, e2⟩ := vals_items rr
    exact ⟨(n, t) :: xs, by rw [e, e1]; rfl, by rw [List.map_cons, e2]⟩
theorem items_arr (xs : List (Int × Tok)) : intItems xs.toArray = (xs.map (fun p => Value.int p.1 p.2)).toArray := by
  simp [intItems]
theorem num_at (xs : List (Int × Tok)) (j : Nat) : numAt xs.toArray j = (xs.map (·.1)).getD j 0 := by rw [numAt_eq]
theorem pre_sum (xs : List (Int × Tok)) (j : Nat) : preSum (numAt xs.toArray) j = ((xs.map (·.1)).take j).sum := by rw [preSum_eq]
def Fits (ns : List Int) : Prop := (∀ n ∈ ns, 0 ≤ n) ∧ ns.sum ≤ 1000000000
theorem sum_nonneg : ∀ {ns : List Int}, (∀ n ∈ ns, 0 ≤ n) → 0 ≤ ns.sum
  | [], _ => by simp
  | n :: ns, h => by
    have h1 := h n List.mem_cons_self
    have h2 := sum_nonneg (ns := ns) fun m hm => h m (List.mem_cons_of_mem _ hm)
    rw [List.sum_cons]; omega
theorem Fits.le {ns : List Int} (h : Fits ns) (j : Nat) : 0 ≤ (ns.take j).sum ∧ (ns.take j).sum ≤ ns.sum := by
  have h1 := sum_nonneg (ns := ns.take j) fun m hm => h.1 m (List.mem_of_mem_take hm)
  have h2 := sum_nonneg (ns := ns.drop j) fun m hm => h.1 m (List.mem_of_mem_drop hm)
  have h3 : ns.sum = (ns.take j).sum + (ns.drop j).sum := by rw [← List.sum_append, List.take_append_drop]
  omega
section
variable {X : Cx}
theorem call_sum (hc : X.calm = true) : CallR X (.builtin "sum") (fun xs H Q => ∃ l ns, xs = [.ref l] ∧ SqL X.K H l (ns.map V.int) ∧ Fits ns ∧ Q (.int ns.sum) H) := by
  intro pins s σ H xs us Q I r h
  obtain ⟨l, ns, rfl, hl, hf, q⟩ := h
  cases r with
  | cons r rr =>
    cases rr
    obtain rfl : _ = Value.ref l := r
    obtain ⟨its, rv, p, _⟩ := I.list hl
    obtain ⟨ys, rfl, e2⟩ := vals_items rv
    have hL : s.heap.IsList l (intItems ys.toArray) := by rw [items_arr]; exact p.isList
    refine sum_intList (I.ok.hd hc) hL (fun j hj => ?_) fun h' tk t' hk => ⟨.int ns.sum, H, I.kept (t' := tk) hk, ⟨t', ?_⟩, q⟩
    · have hjl : j < ns.length := by rw [← e2]; simpa using hj
      have a := hf.le (j + 1)
      have b := hf.1 _ (List.getElem_mem hjl)
      have c := hf.le j
      have d : (ns.take (j + 1)).sum = (ns.take j).sum + ns[j] := by rw [List.take_add_one, List.getElem?_eq_getElem hjl, List.sum_append]; simp
      have e := hf.2
      rw [num_at, pre_sum, e2]
      have f : ns.getD j 0 = ns[j] := by simp [List.getD, List.getElem?_eq_getElem hjl]
      rw [f]
      exact ⟨⟨by omega, by omega⟩, ⟨by omega, by omega⟩⟩
    · rw [pre_sum, e2, List.take_of_length_le]
      rw [← e2]; simp
end
section
variable {prog : Program} {w : World} {A : Around} {R : Result → Shared → Prop} {I : Addr} {fp wr : List Addr} {n : Nat} {P : Nat → Value → Prop} {St : Nat → Heap → Prop}
end
section
variable {prog : Program} {w : World} {A : Around} {E : Value → Shared → Prop} {s : Shared}
end
end L2
namespace Srt
open PySem PySem.W PyProof.Rows
variable {α β : Type} {O : KeyOrd} {key : Nat → O.α} {n : Nat}
def Ok (O : KeyOrd) (key : Nat → O.α) (n : Nat) (Q : α → Prop) : KasT α → Prop
  | .ret a => Q a
  | .ask i j k => i < n ∧ j < n ∧ Ok O key n Q (k (O.blt (key i) (key j)))
variable (key) in
def kk (p : Array Nat) (i : Nat) : O.α := key (p.getD i 0)
end Srt
namespace L2
open PySem PySem.Spec PyProof.Rows PySem.W
section
variable {prog : Program} {w : World} {A : Around} {E : Value → Shared → Prop} {s : Shared}
end
section
variable {X : Cx}
end
end L2
namespace L2
open PySem PySem.Spec PyProof.Rows PySem.W
section
variable {prog : Program} {w : World} {A : Around} {E : Value → Shared → Prop} {s : Shared}
end
section
variable {prog : Program} {w : World} {A : Around} {E : Value → Shared → Prop} {s : Shared}
end
section
variable {X : Cx}
end
end L2
namespace L2
open PySem PySem.Spec PyProof.Rows
section
variable {prog : Program} {w : World} {A : Around} {E : Value → Shared → Prop} {s : Shared}
end
section
variable {X : Cx}
end
end L2
namespace L2
open PySem PySem.Spec PyProof.Rows PySem.W
section
variable {X : Cx}
end
section
variable {prog : Program} {w : World} {A : Around} {E : Value → Shared → Prop} {s : Shared}
end
section
variable {X : Cx}
end
end L2
namespace L2
open PySem PySem.Spec PyProof.Rows
section
variable {X : Cx} {pins : List (Addr × Obj)} {σ : St} {H : Hp} {s : Shared} {h' : Heap}
end
section
variable {X : Cx} {elts : List Expr} {k1 : Nat} {tpos : Pos}
end
end L2
namespace L2
open PySem PySem.Spec PyProof.Rows
section
variable {prog : Program} {w : World} {A : Around} {E : Value → Shared → Prop} {s : Shared} {it t : Addr} {i : Nat} {its : Array Value} {x : Value} {Q : Value → Shared → Prop}
end
section
variable {X : Cx} {elts : List Expr} {k1 : Nat} {tpos : Pos}
end
end L2
namespace L2
open PySem PySem.Spec PyProof.Rows
section
variable {X : Cx} {x : Str} {p pos : Pos} {e : Expr} {es : List Expr} {kws : List Keyword} {t tk : TA} {id : String} {ks : List Str} {r : List V → List V → Hp → VK → Prop}
theorem comp_tup {K : PySem.W.Frag} {a acc : Addr} {xs : List V} {tt : TT} {te : TE} {cs : List (Option V)} {H1 : Hp} {Q : Hp → Prop} (Pv : Nat → List V → Hp → Prop) (h0 : Pv 0 [] (upd H1 acc (.lst [])))
    (hl : ∀ i ys H, i ≤ xs.length → Pv i ys H → SqT K H a xs)
    (hs : ∀ i x ys H, i < xs.length → xs[i]? = some x → Pv i ys H → tt (some x :: cs) H fun ok H4 => if ok = true then te (some x :: cs) H4 (compN xs.length Pv acc i (xs.length - i)) else ∃ m', m' < xs.length - i ∧ compW xs.length Pv (i + 1) m' H4)
    (hd : ∀ ys H, Pv xs.length ys H → Q H) :
    ∃ W : Nat → Nat → Hp → Prop, (∃ m, W 0 m (upd H1 acc (.lst []))) ∧ ∀ i m H2, W i m H2 →
      ((Itt K a).stop i H2 ∧ Q H2) ∨ ((Itt K a).go i H2 ∧ ∀ x H3, (Itt K a).yld i H2 x H3 → tt (some x :: cs) H3 fun ok H4 => if ok = true then
        te (some x :: cs) H4 (fun y H5 => ∃ ys, H5 acc = some (.lst ys) ∧ ys.length < sizeLine ∧ ∃ m', m' < m ∧ W (i + 1) m' (upd H5 acc (.lst (ys ++ [y]))))
        else ∃ m', m' < m ∧ W (i + 1) m' H4) := by
  refine ⟨compW xs.length Pv, ⟨xs.length - 0, rfl, Nat.zero_le _, [], h0⟩, ?_⟩
  rintro i m H2 ⟨rfl, hi, ys, p⟩
  have hq := hl i ys H2 hi p
  by_cases h : i < xs.length
  · refine .inr ⟨⟨xs, xs[i], hq, List.getElem?_eq_getElem h⟩, ?_⟩
    rintro x H3 ⟨rfl, hx⟩
    exact hs i x ys _ h (hx xs hq) p
  · have e : i = xs.length := by omega
    subst e
    exact .inl ⟨⟨xs, hq, Nat.le_refl _⟩, hd ys H2 p⟩
end
end L2
namespace L2
open PySem PySem.Spec PyProof.Rows
structure CompG (X : Cx) (xs caps : List Str) (cap : List Nat) (scope : Scope) (cl : List (Str × Addr)) : Prop where
  clos : closureFor scope X.env = pure cl
  cell : ∀ y ∈ scope.names, y.2 ≠ .cell
  kind : scope.kind = .function
  names : ∀ y ∈ scope.names, y.2 = .local → scope.names.lookup y.1 = some .local
  lx : ∀ x ∈ xs, scope.names.lookup x = some .local
  nd : (xs ++ caps).Nodup
  from_ : ∀ y c, cl.lookup y = some c → X.env.cells.lookup y = some c
  has : ∀ y, ((relabel scope X.env).names.lookup y = some .cell ∨ (relabel scope X.env).names.lookup y = some .free) → ∃ c, cl.lookup y = some c
  len : cap.length = caps.length
  cps : ∀ (i : Nat) (y : Str), caps[i]? = some y → ∃ j, cap[i]? = some j ∧ X.N[j]? = some y ∧ X.env.scope.names.lookup y = some .cell ∧ (relabel scope X.env).names.lookup y = some .cell
section
variable {X : Cx} {xs caps : List Str} {cap : List Nat} {scope : Scope} {cl : List (Str × Addr)}
end
section
variable {K : PySem.W.Frag} {a b acc : Addr} {xs zs : List V} {tt : TT} {te : TE} {cs : St} {H1 : Hp} {Q : Hp → Prop}
end
end L2
namespace L2
open PySem PySem.Spec PyProof.Rows
section
variable {prog : Program} {w : World} {A : Around} {E : Value → Shared → Prop} {s : Shared}
end
section
variable {X : Cx} {elts : List Expr} {k1 : Nat} {tpos : Pos}
end
end L2
namespace L2
open PySem PySem.Spec PyProof.Rows
def rCatL (K : PySem.W.Frag) : R2 := fun x y H Q => ∃ l b xs zs, x = .ref l ∧ y = .ref b ∧ SqL K H l xs ∧ SqL K H b zs ∧ xs.length + zs.length ≤ sizeLine ∧ ∀ p, H p = none → Q (.ref p) (upd H p (.lst (xs ++ zs)))
theorem op_catL {X : Cx} : OpR X (binaryOp .Add) (rCatL X.K) := by
  intro pins s σ H x y v u Q I rx ry h
  obtain ⟨l, b, xs, zs, rfl, rfl, ha, hb, hz, q⟩ := h
  cases rx
  cases ry
  obtain ⟨its, r1, ⟨⟨c1, d1, t1, s1⟩, n1, g1, e1, f1, k1⟩, _⟩ := I.list ha
  obtain ⟨its2, r2, ⟨⟨c2, d2, t2, s2⟩, n2, g2, e2, f2, k2⟩, _⟩ := I.list hb
  simp only at e1 f1 k1 e2 f2 k2
  subst e1 f1 k1 e2 f2 k2
  have l1 := r1.length
  have l2 := r2.length
  refine concat_meets ⟨_, g1, rfl⟩ ⟨_, g2, rfl⟩ noFill_list_add seq_list_add PySem.F.slot_list_add PySem.F.entry_list_add (PySem.F.args_list_add_2 _ _) (list_addW l b _ _ n1 n2 none none s1 s2 (by rw [List.size_toArray, List.size_toArray]; omega)) ⟨g1, g2, ?_⟩
  have ea : its.toArray ++ its2.toArray = (its ++ its2).toArray := by simp
  rw [ea]
  exact ⟨.ref _, _, I.lnew (t' := s.toks) (r1.append r2) (by rw [List.length_append]; omega), rfl, q _ I.fresh⟩
theorem cutTo (xs : List V) (k : Nat) : cutV xs none (some (k : Int)) = xs.take k := by
  unfold cutV
  rw [HT.sIx_none, HT.sIx_nat, List.drop_zero, Nat.sub_zero]
  by_cases h : k ≤ xs.length
  · rw [Nat.min_eq_left h]
  · rw [Nat.min_eq_right (by omega), List.take_of_length_le (Nat.le_refl _), List.take_of_length_le (by omega)]
theorem size_line : sizeLine = 16777216 := by decide
theorem line_of {n : Nat} (h : n ≤ 5000) : n ≤ sizeLine := by rw [size_line]; omega
end L2
namespace K9
open PySem L2 TM
mutual
def isT (f : Str → Str → Option (List Str)) : Tree Str → Str → Bool
  | .node n _ bs, k => match f k n with
    | none => false
    | some ss => decide (ss.length = bs.length) && isTs f bs ss
def isTs (f : Str → Str → Option (List Str)) : List (Tree Str) → List Str → Bool
  | [], ss => ss.isEmpty
  | b :: bs, ss => match ss with
    | [] => false
    | s :: r => isT f b s && isTs f bs r
end
mutual
def td : Tree Str → PyData
  | .node n m bs => .tuple [.str n, .int m, .tuple (tds bs)]
def tds : List (Tree Str) → List PyData
  | [] => []
  | t :: r => td t :: tds r
end
mutual
theorem TrV.rd {K : PySem.W.Frag} {H : Hp} : ∀ {v : V} {t : Tree Str}, TrV K H v t → RdV K H v (td t)
  | _, _, .mk h1 h2 h3 _ => by
    simp only [td]
    exact .tup h1 (.cons (.str _) (.cons (.int _) (.cons (.tup h2 (TrAll.rd h3)) .nil)))
theorem TrAll.rd {K : PySem.W.Frag} {H : Hp} : ∀ {vs : List V} {ts : List (Tree Str)}, TrAll K H vs ts → RdAll K H vs (tds ts)
  | _, _, .nil => by simp only [tds]; exact .nil
  | _, _, .cons h t => by simp only [tds]; exact .cons (TrV.rd h) (TrAll.rd t)
end
def LayT (t : Tree Str) : Prop := (td t).canLay0 = true
theorem lay_tds : ∀ ts : List (Tree Str), (∀ t ∈ ts, LayT t) → PyData.canLayAll0 (tds ts) = true
  | [], _ => by simp [tds, PyData.canLayAll0]
  | t :: r, h => by
    have h1 : (td t).canLay0 = true := h t List.mem_cons_self
    simp only [tds, PyData.canLayAll0, h1, lay_tds r fun u hu => h u (List.mem_cons_of_mem _ hu), Bool.and_self]
theorem LayT.node {n : Str} {m : Int} {ts : List (Tree Str)} (hn : PyData.strOk n = true) (h : ∀ t ∈ ts, LayT t) : LayT (.node n m ts) := by
  unfold LayT
  simp only [td, PyData.canLay0, PyData.canLayAll0, hn, lay_tds ts h, Bool.and_self]
theorem tr_open {K : PySem.W.Frag} {H : Hp} {v : V} {t : Tree Str} (h : TrV K H v t) : ∃ a b vs name mark, v = .ref a ∧ t = .node name mark t.bs ∧ SqT K H a [.str name, .int mark, .ref b] ∧ SqT K H b vs ∧ TrAll K H vs t.bs ∧ vs.length ≤ 1000 := by
  cases h with
  | mk h1 h2 h3 h4 => exact ⟨_, _, _, _, _, rfl, rfl, h1, h2, h3, h4⟩
end K9
namespace K5
open PySem L2 K3 TM
structure Nm (w : List Nat) : Prop where
  ne : w ≠ []
  len : w.length ≤ 8
  all : ∀ c ∈ w, c ∈ letL
def Mks (m : Int) (ms : List (List Nat)) : Prop := ms = [sh m] ∨ m = 0 ∧ ms = []
def br (ts : List (Tree Str)) (us : List (List Nat)) : List (List Nat) := match ts with
  | [] => []
  | _ :: _ => [40] :: (us ++ [[41]])
mutual
inductive Tks : Tree Str → List (List Nat) → Prop where
  | mk {w : List Nat} {m : Int} {ms : List (List Nat)} {ts : List (Tree Str)} {us : List (List Nat)} : Nm w → m.natAbs < 10 ^ 60 → Mks m ms → TksL ts us → ts.length ≤ 1000 → Tks (.node (S w) m ts) (w :: (ms ++ br ts us))
inductive TksL : List (Tree Str) → List (List Nat) → Prop where
  | nil : TksL [] []
  | cons {t : Tree Str} {ts : List (Tree Str)} {a b : List (List Nat)} : Tks t a → TksL ts b → TksL (t :: ts) (a ++ b)
end
def Fol (rest : List (List Nat)) : Prop := ∀ w, rest[0]? = some w → beg w numL = false ∧ w ≠ [40]
theorem Fol.nil : Fol [] := fun w h => by simp at h
theorem Fol.close (r : List (List Nat)) : Fol ([41] :: r) := fun w h => by
  have e : [41] = w := by simpa using h
  subst e
  exact ⟨by decide, by decide⟩
theorem let_num : ∀ c ∈ letL, c ∉ numL := by decide
theorem let_40 : ∀ c ∈ letL, c ≠ 40 := by decide
theorem Nm.beg {w : List Nat} (h : Nm w) : beg w letL = true ∧ K5.beg w numL = false ∧ w ≠ [40] := by
  cases w with
  | nil => exact absurd rfl h.ne
  | cons c r =>
    have hc := h.all c List.mem_cons_self
    refine ⟨decide_eq_true hc, decide_eq_false (let_num c hc), fun z => ?_⟩
    injection z with z1 z2
    exact let_40 c hc z1
theorem Tks.head {t : Tree Str} {a : List (List Nat)} (h : Tks t a) : ∃ w r, a = w :: r ∧ Nm w := by
  cases h with
  | mk h1 h2 h3 h4 h5 => exact ⟨_, _, rfl, h1⟩
theorem Tks.fol {t : Tree Str} {a : List (List Nat)} (h : Tks t a) (r : List (List Nat)) : Fol (a ++ r) := by
  obtain ⟨w, r', rfl, hw⟩ := h.head
  intro w' e
  have e' : w = w' := by simpa using e
  subst e'
  exact ⟨hw.beg.2.1, hw.beg.2.2⟩
theorem TksL.fol {ts : List (Tree Str)} {us : List (List Nat)} (h : TksL ts us) {r : List (List Nat)} (hr : Fol r) : Fol (us ++ r) := by
  cases h with
  | nil => exact hr
  | cons h1 h2 => rw [List.append_assoc]; exact h1.fol _
theorem ah_drop {ws : List (List Nat)} {n : Nat} {w : List Nat} {r : List (List Nat)} (h : ws.drop n = w :: r) : ah ws n = w ∧ n < ws.length ∧ ws.drop (n + 1) = r ∧ w ∈ ws := by
  have hn : n < ws.length := by
    rcases Nat.lt_or_ge n ws.length with q | q
    · exact q
    · rw [List.drop_eq_nil_of_le q] at h; cases h
  rw [List.drop_eq_getElem_cons hn] at h
  injection h with h1 h2
  refine ⟨?_, hn, h2, ?_⟩
  · unfold ah; rw [List.getElem?_eq_getElem hn, h1]; rfl
  · rw [← h1]; exact List.getElem_mem _
theorem ah_nil {ws : List (List Nat)} {n : Nat} (h : ws.drop n = []) : ah ws n = [] ∧ ws.length ≤ n := by
  have hn : ws.length ≤ n := by
    rcases Nat.lt_or_ge n ws.length with q | q
    · rw [List.drop_eq_getElem_cons q] at h; cases h
    · exact q
  exact ⟨by unfold ah; rw [List.getElem?_eq_none hn]; rfl, hn⟩
theorem drop_app {ws a r : List (List Nat)} {n : Nat} (h : ws.drop n = a ++ r) : ws.drop (n + a.length) = r := by
  rw [← List.drop_drop, h, List.drop_left]
theorem ah_len {ws : List (List Nat)} (hW : ∀ w ∈ ws, w.length ≤ 61) (n : Nat) : (ah ws n).length ≤ 100 := by
  unfold ah
  cases q : ws[n]? with
  | none => simp
  | some w => have := hW w (List.mem_of_getElem? q); simp; omega
theorem ah_fol {ws rest : List (List Nat)} {n : Nat} (h : ws.drop n = rest) (hf : Fol rest) : beg (ah ws n) numL = false ∧ ah ws n ≠ [40] := by
  cases rest with
  | nil => rw [(ah_nil h).1]; exact ⟨rfl, by decide⟩
  | cons w r => rw [(ah_drop h).1]; exact hf w rfl
def SXr (T r : Addr) (H H' : Hp) : Prop := ∀ b u, b ≠ T → b ≠ r → H b = some u → H' b = some u
theorem SXr.of {T r : Addr} {H H' : Hp} (g : Same H H') : SXr T r H H' := fun b u _ _ e => g b u e
theorem SXr.ofT {T r : Addr} {H H' : Hp} (g : SameX T H H') : SXr T r H H' := fun b u n _ e => g b u n e
theorem SXr.ofR {T r : Addr} {H H' : Hp} (g : SameX r H H') : SXr T r H H' := fun b u _ n e => g b u n e
theorem SXr.trans {T r : Addr} {H H1 H2 : Hp} (a : SXr T r H H1) (b : SXr T r H1 H2) : SXr T r H H2 := fun c u n m e => b c u n m (a c u n m e)
structure TR (C T r : Addr) (pos : Pos) (qual : Str) (H : Hp) : Prop where
  tb : TbS H T pos qual
  ins : ∃ dx fs, H r = some (.ins C dx fs)
section
variable {C T r : Addr} {pos : Pos} {qual : Str} {H H' : Hp} {K : PySem.W.Frag}
theorem TR.ne {b : Addr} {u : HO} (h : TR C T r pos qual H) (e : H b = some u) (n1 : ∀ ps, u ≠ .tbl ps) (n2 : ∀ C dx fs, u ≠ .ins C dx fs) : b ≠ T ∧ b ≠ r := by
  obtain ⟨ps, hT⟩ := h.tb.at
  obtain ⟨dx, fs, hr⟩ := h.ins
  exact ⟨fun z => by rw [z, hT] at e; exact n1 ps (Option.some.inj e).symm, fun z => by rw [z, hr] at e; exact n2 C dx fs (Option.some.inj e).symm⟩
theorem TR.keep {b : Addr} {u : HO} (h : TR C T r pos qual H) (g : SXr T r H H') (e : H b = some u) (n1 : ∀ ps, u ≠ .tbl ps) (n2 : ∀ C dx fs, u ≠ .ins C dx fs) : H' b = some u := g b u (h.ne e n1 n2).1 (h.ne e n1 n2).2 e
theorem TR.seqT {a : Addr} {xs : List V} (h : TR C T r pos qual H) (g : SXr T r H H') (q : SqT K H a xs) : SqT K H' a xs := by
  rcases q with (q | ⟨o, q⟩) | q
  · exact .inl (.inl (h.keep g q (fun _ z => nomatch z) (fun _ _ _ z => nomatch z)))
  · exact .inl (.inr ⟨o, h.keep g q (fun _ z => nomatch z) (fun _ _ _ z => nomatch z)⟩)
  · exact .inr q
theorem TR.lst {a : Addr} {xs : List V} (h : TR C T r pos qual H) (g : SXr T r H H') (q : H a = some (.lst xs)) : H' a = some (.lst xs) := h.keep g q (fun _ z => nomatch z) (fun _ _ _ z => nomatch z)
theorem TR.lam {f : Addr} {e : Expr} {cl : List (Str × Addr)} (h : TR C T r pos qual H) (g : SXr T r H H') (q : LamAtC H f e cl) : LamAtC H' f e cl := by
  obtain ⟨qu, pm, c, ctv, h1, h2⟩ := q.ex
  exact ⟨qu, pm, c, ctv, h.keep g h1 (fun _ z => nomatch z) (fun _ _ _ z => nomatch z), h.keep g h2 (fun _ z => nomatch z) (fun _ _ _ z => nomatch z)⟩
theorem TR.tbR (h : TR C T r pos qual H) (g : SameX r H H') : TbS H' T pos qual := by
  obtain ⟨dx, fs, hr⟩ := h.ins
  rcases h.tb with q | ⟨c, q, q2⟩
  · exact .inl (g _ _ (ne_of q hr (by intro z; cases z)) q)
  · exact .inr ⟨c, g _ _ (ne_of q hr (by intro z; cases z)) q, g _ _ (ne_of q2 hr (by intro z; cases z)) q2⟩
end
theorem RdAt.tr {C T r l : Addr} {pos : Pos} {qual : Str} {H : Hp} {ws : List (List Nat)} {n : Nat} (h : RdAt C H r l ws n) (tb : TbS H T pos qual) : TR C T r pos qual H := by
  obtain ⟨dx, hx⟩ := h.ins
  exact ⟨tb, dx, _, hx⟩
def spTk (K : PySem.W.Frag) (C T : Addr) (pos : Pos) (qual : Str) (r l : Addr) (ws : List (List Nat)) (n0 : Nat) : Sp := fun vs H Q _ => ∃ (m : Nat) (t : Tree Str) (a rest : List (List Nat)), vs = [] ∧ RdAt C H r l ws m ∧ ws.drop m = a ++ rest ∧ Tks t a ∧ Fol rest ∧ lv t ≤ n0 ∧ TbS H T pos qual ∧
  ∀ (v : V) (H' : Hp), SXr T r H H' → RdAt C H' r l ws (m + a.length) → TrV K H' v t → TbS H' T pos qual → Q v H'
def spInB (P : Program) (w : World) (K : PySem.W.Frag) (mg : Str → Option Value) (C T : Addr) (pos : Pos) (qual : Str) (k : Nat) (g : Heap) : Sp := fun vs H Q _ => ∃ (r l L : Addr) (ws : List (List Nat)) (n n0 : Nat) (ts : List (Tree Str)) (us rest : List (List Nat)) (e : Expr) (cl : List (Str × Addr)), vs = [.ref r, .ref L] ∧ RdAt C H r l ws n ∧ (∀ w ∈ ws, w.length ≤ 61) ∧ n ≤ ws.length ∧ ws.drop n = br ts us ++ rest ∧ TksL ts us ∧ Fol rest ∧ (∀ t ∈ ts, lv t ≤ n0) ∧ ts.length ≤ 1000 ∧ LamAtC H L e cl ∧ CalC P w K mg g k e cl (spTk K C T pos qual r l ws n0) ∧ TbS H T pos qual ∧
  ∀ (b : Addr) (vs : List V) (H' : Hp), SXr T r H H' → RdAt C H' r l ws (n + (br ts us).length) → SqT K H' b vs → TrAll K H' vs ts → TbS H' T pos qual → Q (.ref b) H'
def spTreeF (K : PySem.W.Frag) (C T : Addr) (pos : Pos) (qual : Str) (n0 : Nat) : Sp := fun vs H Q _ => ∃ (r l : Addr) (ws : List (List Nat)) (m : Nat) (rm : Int) (t : Tree Str) (a rest : List (List Nat)), vs = [.ref r, .int rm] ∧ RdAt C H r l ws m ∧ (∀ w ∈ ws, w.length ≤ 61) ∧ ws.drop m = a ++ rest ∧ Tks t a ∧ Fol rest ∧ lv t ≤ n0 ∧ (lv t : Int) ≤ rm ∧ TbS H T pos qual ∧
  ∀ (v : V) (H' : Hp), SXr T r H H' → RdAt C H' r l ws (m + a.length) → TrV K H' v t → TbS H' T pos qual → Q v H'
theorem tr_len {K : PySem.W.Frag} {H : Hp} : ∀ {vs : List V} {ts : List (Tree Str)}, TrAll K H vs ts → vs.length = ts.length := fun h => h.length
theorem tr_app {K : PySem.W.Frag} {H : Hp} (ts : List (Tree Str)) : ∀ {vs ws : List V} {us : List (Tree Str)}, TrAll K H vs ts → TrAll K H ws us → TrAll K H (vs ++ ws) (ts ++ us) := by
  induction ts with
  | nil => intro vs ws us h h2; cases h; exact h2
  | cons t r ih =>
    intro vs ws us h h2
    cases h with
    | cons a b => exact .cons a (ih b h2)
section
variable {P : Program} {w : World} {K : PySem.W.Frag} {mg : Str → Option Value} {base : Heap} {f : Addr} {fd : FuncData} {C T : Addr} {pos : Pos} {qual : Str}
theorem scInB : FnScope ["self", "take_one", "taken"] ["self", "take_one"] (defScope sInB) := ⟨rfl, rfl, rfl, by decide +kernel, rfl, by decide +kernel, by decide +kernel⟩
theorem ok_inb {k : Nat} (F : Fun K "in_brackets" "Reader.in_brackets" sInB f fd) (G : Gm mg) (TT : RdT K mg C) (MP : Mt P w K mg base C 2 "passed" ["self", "sign"] (spPassed C)) : FnOk P w K mg base CX0 (k + 3) f fd ["self", "take_one"] (spInB P w K mg C T pos qual (k + 2) base) := by
  refine F.ok scInB (fun vs H Q E h => ?_) (fun cdv A outer s H vs Q E hr h => ?_)
  · obtain ⟨r, l, L, ws, n, n0, ts, us, rest, e, cl, rfl, _⟩ := h
    rfl
  obtain ⟨r, l, L, ws, n, n0, ts, us, rest, e, cl, rfl, hR, hW, hn, hd, ht, hf, hlv, hts, hL, hC, hT, q⟩ := h
  refine ⟨_, (pss_cons (ps_set (i := 2) scInB.nd rfl (Or.inl rfl) (pe_lst pa_nil))
    (pss_cons (ps_cut (ps_if (pt_val (pe_mt MP TT.cl hr (pv 0) (pa_cons (pe_str) pa_nil) (by omega))) (pss_cons (ps_expr (pe_bm PySem.F.plainAttrs_list PySem.F.slot_list_append PySem.F.type_list_append mt_append (pv 2) (pa_cons (pe_callV0 (i := 1) hC hr) pa_nil)))
    (pss_one (ps_while PassesOwn.never (pt_not (pt_val (pe_mt MP TT.cl hr (pv 0) (pa_cons (pe_str) pa_nil) (by omega)))) (pss_one (ps_expr (pe_bm PySem.F.plainAttrs_list PySem.F.slot_list_append PySem.F.type_list_append mt_append (pv 2) (pa_cons (pe_callV0 (i := 1) hC hr) pa_nil))))))) pss_nil))
    (pss_one (ps_ret (pe_callTy call_tuple_of rfl G.tup PyProof.Rows.boot_tuple (pa_cons (pv 2) pa_nil)))))), ?_⟩
  have e40 : S [40] = Str.ofString "(" := by decide +kernel
  have e41 : S [41] = Str.ofString ")" := by decide +kernel
  refine ⟨(by show 0 ≤ sizeLine; decide), fun lt hlt => ?_⟩
  have s1 := same_new hlt (.lst [])
  have f1 : upd H lt (.lst []) lt = some (.lst []) := upd_same
  have hR1 := hR.same s1
  have hT1 := hT.same s1
  have hL1 := hL.same s1
  generalize upd H lt (.lst []) = H1 at s1 f1 hR1 hT1 hL1
  refine ⟨fun σ' H' => ∃ ys : List V, σ' = [some (.ref r), some (.ref L), some (.ref lt)] ∧ H' lt = some (.lst ys) ∧ SXr T r H H' ∧ RdAt C H' r l ws (n + (br ts us).length) ∧ TrAll K H' ys ts ∧ TbS H' T pos qual, ?_, ?_⟩
  case refine_2 =>
    rintro σ H2 ⟨ys, rfl, hy, x2, hR2, ht2, hT2⟩
    refine ⟨_, rfl, lt, ys, rfl, .inl ⟨SqL.of hy, fun tp htp => ?_⟩⟩
    have s3 := same_new htp (.tup ys)
    exact q tp ys _ (x2.trans (SXr.of s3)) (hR2.same s3) (SqT.of upd_same) (TrAll.mono (fun _ _ h => s3.seqT h) ht2) (hT2.same s3)
  obtain ⟨dx, hx⟩ := hR1.ins
  cases ht with
  | nil =>
    have hd' : ws.drop n = rest := hd
    refine ⟨_, rfl, r, dx, _, rfl, hx, rfl, r, l, ws, n, [40], (by rw [e40]; rfl), hR1, hn, fun _ => ⟨_, rfl, iteF ⟨[], rfl, f1, SXr.of s1, hR1, .nil, hT1⟩⟩, fun z => absurd z (ah_fol hd' hf).2⟩
  | @cons t ts' a b ht1 ht2 =>
  have hd' : ws.drop n = [40] :: ((a ++ b) ++ ([41] :: rest)) := by rw [hd]; simp [br]
  obtain ⟨ha, hn1, hd1, _⟩ := ah_drop hd'
  refine ⟨_, rfl, r, dx, _, rfl, hx, rfl, r, l, ws, n, [40], (by rw [e40]; rfl), hR1, hn, fun z => absurd ha z, fun _ H2 g2 hR2 => ⟨_, rfl, iteT ?_⟩⟩
  have tr1 := hR1.tr (T := T) (pos := pos) (qual := qual) hT1
  have x2 : SXr T r H1 H2 := SXr.ofR g2
  have f2 := tr1.lst x2 f1
  have hT2 := tr1.tbR g2
  have hL2 := tr1.lam x2 hL1
  have tr2 := hR2.tr (T := T) (pos := pos) (qual := qual) hT2
  have hda : ws.drop (n + 1) = a ++ (b ++ ([41] :: rest)) := by rw [hd1, List.append_assoc]
  have len : n + 1 + a.length + b.length + 1 = n + (br (t :: ts') (a ++ b)).length := by simp [br]; omega
  refine ⟨_, rfl, .inl ⟨rfl, _, SqL.of f2⟩, L, rfl, hL2, n + 1, t, a, b ++ ([41] :: rest), rfl, hR2, hda, ht1, ht2.fol (Fol.close rest), hlv t List.mem_cons_self, hT2, fun v H3 x3 hR3 tv3 hT3 => ?_⟩
  have f3 := tr2.lst x3 f2
  have hL3 := tr2.lam x3 hL2
  refine ⟨lt, [], v, rfl, rfl, f3, (by show 0 < sizeLine; decide), ?_⟩
  have tr3 := hR3.tr (T := T) (pos := pos) (qual := qual) hT3
  have neR : lt ≠ r := (tr3.ne f3 (fun _ z => nomatch z) fun _ _ _ z => nomatch z).2
  have neT : lt ≠ T := (tr3.ne f3 (fun _ z => nomatch z) fun _ _ _ z => nomatch z).1
  have nel : l ≠ lt := fun z => by have h1 := hR.fl; rw [z, hlt] at h1; cases h1
  have grow : ∀ {H' : Hp} {ys ys' : List V} {p : Nat}, H' lt = some (.lst ys) → RdAt C H' r l ws p → TbS H' T pos qual → LamAtC H' L e cl → RdAt C (upd H' lt (.lst ys')) r l ws p ∧ TbS (upd H' lt (.lst ys')) T pos qual ∧ LamAtC (upd H' lt (.lst ys')) L e cl := fun {H' ys ys' p} h1 h2 h3 h4 => by
    refine ⟨?_, ?_, ?_⟩
    · obtain ⟨⟨dx, h5⟩, h6⟩ := h2
      exact ⟨⟨dx, by rw [upd_ne neR.symm]; exact h5⟩, by rw [upd_ne nel]; exact h6⟩
    · rcases h3 with h | ⟨c, h, h'⟩
      · exact .inl (by rw [upd_ne neT.symm]; exact h)
      · exact .inr ⟨c, by rw [upd_ne neT.symm]; exact h, by rw [upd_ne (ne_of h' h1 (by intro z; cases z))]; exact h'⟩
    · obtain ⟨qu, pm, c, ctv, h5, h6⟩ := h4.ex
      exact ⟨qu, pm, c, ctv, by rw [upd_ne (ne_of h5 h1 (by intro z; cases z))]; exact h5, by rw [upd_ne (ne_of h6 h1 (by intro z; cases z))]; exact h6⟩
  obtain ⟨hR4, hT4, hL4⟩ := grow (ys' := [] ++ [v]) f3 hR3 hT3 hL3
  have x14 : SXr T r H (upd H3 lt (.lst ([] ++ [v]))) := fun c u n1 n2 e => by
    rw [upd_ne (ne_of_none e hlt)]
    exact x3 c u n1 n2 (x2 c u n1 n2 (s1 c u e))
  have tv4 : TrAll K (upd H3 lt (.lst ([] ++ [v]))) ([] ++ [v]) [t] := .cons (TrV.mono (fun _ _ h => h.put f3) tv3) .nil
  have f4 : upd H3 lt (.lst ([] ++ [v])) lt = some (.lst ([] ++ [v])) := upd_same
  generalize upd H3 lt (.lst ([] ++ [v])) = H4 at hR4 hT4 hL4 x14 tv4 f4
  refine ⟨fun m σ' H' => ∃ (ys : List V) (dn td : List (Tree Str)) (c : List (List Nat)) (p : Nat), σ' = [some (.ref r), some (.ref L), some (.ref lt)] ∧ t :: ts' = dn ++ td ∧ td.length = m ∧ H' lt = some (.lst ys) ∧ SXr T r H H' ∧ RdAt C H' r l ws p ∧ ws.drop p = c ++ ([41] :: rest) ∧ TksL td c ∧ p + c.length + 1 = n + (br (t :: ts') (a ++ b)).length ∧ TrAll K H' ys dn ∧ TbS H' T pos qual ∧ LamAtC H' L e cl,
    ⟨ts'.length, [] ++ [v], [t], ts', b, n + 1 + a.length, rfl, rfl, rfl, f4, x14, hR4, drop_app hda, ht2, len, tv4, hT4, hL4⟩, ?_⟩
  rintro m σ H5 ⟨ys, dn, td, c, p, rfl, ets, hm, f5, x5, hR5, hd5, ht5, len5, tv5, hT5, hL5⟩
  obtain ⟨dx5, hx5⟩ := hR5.ins
  have tr5 := hR5.tr (T := T) (pos := pos) (qual := qual) hT5
  have hp : p ≤ ws.length := by
    rcases Nat.lt_or_ge p ws.length with z | z
    · omega
    · rw [List.drop_eq_nil_of_le z] at hd5
      have := congrArg List.length hd5
      simp at this
  refine ⟨_, rfl, r, dx5, _, rfl, hx5, rfl, r, l, ws, p, [41], (by rw [e41]; rfl), hR5, hp, fun z => ?_, fun z H6 g6 hR6 => ⟨_, rfl, iteF ?_⟩⟩
  · cases ht5 with
    | nil => exact absurd (ah_drop hd5).1 z
    | @cons t2 td2 a2 b2 h1 h2 =>
    have hmem : t2 ∈ t :: ts' := by rw [ets]; exact List.mem_append_right _ List.mem_cons_self
    have hda2 : ws.drop p = a2 ++ (b2 ++ ([41] :: rest)) := by rw [hd5, List.append_assoc]
    have hyl := tr_len tv5
    have hdl : dn.length + (td2.length + 1) = ts'.length + 1 := by
      have := congrArg List.length ets
      simp at this; omega
    have hts' : ts'.length + 1 ≤ 1000 := hts
    refine ⟨_, rfl, iteT ⟨fun σ' H' => ∃ m', m' < m ∧ ∃ (ys : List V) (dn td : List (Tree Str)) (c : List (List Nat)) (p : Nat), σ' = [some (.ref r), some (.ref L), some (.ref lt)] ∧ t :: ts' = dn ++ td ∧ td.length = m' ∧ H' lt = some (.lst ys) ∧ SXr T r H H' ∧ RdAt C H' r l ws p ∧ ws.drop p = c ++ ([41] :: rest) ∧ TksL td c ∧ p + c.length + 1 = n + (br (t :: ts') (a ++ b)).length ∧ TrAll K H' ys dn ∧ TbS H' T pos qual ∧ LamAtC H' L e cl, fun σ' H' h => h, ?_⟩⟩
    refine ⟨_, rfl, .inl ⟨rfl, _, SqL.of f5⟩, L, rfl, hL5, p, t2, a2, b2 ++ ([41] :: rest), rfl, hR5, hda2, h1, h2.fol (Fol.close rest), hlv t2 hmem, hT5, fun v6 H6 x6 hR6 tv6 hT6 => ?_⟩
    have f6 := tr5.lst x6 f5
    have hL6 := tr5.lam x6 hL5
    refine ⟨lt, ys, v6, rfl, rfl, f6, Nat.lt_of_lt_of_le (show ys.length < 1001 by omega) (by decide), ?_⟩
    obtain ⟨hR7, hT7, hL7⟩ := grow (ys' := ys ++ [v6]) f6 hR6 hT6 hL6
    refine ⟨td2.length, ?_, ys ++ [v6], dn ++ [t2], td2, b2, p + a2.length, rfl, by rw [ets]; simp, rfl, upd_same, fun c u n1 n2 e => ?_, hR7, drop_app hda2, h2, ?_, ?_, hT7, hL7⟩
    · rw [← hm]; exact Nat.lt_succ_self _
    · rw [upd_ne (ne_of_none e hlt)]
      exact x6 c u n1 n2 (x5 c u n1 n2 e)
    · rw [List.length_append] at len5; omega
    · exact tr_app dn (TrAll.mono (fun _ _ h => (tr5.seqT x6 h).put f6) tv5) (.cons (TrV.mono (fun _ _ h => h.put f6) tv6) .nil)
  · have hc0 : td = [] ∧ c = [] := by
      cases ht5 with
      | nil => exact ⟨rfl, rfl⟩
      | @cons t2 td2 a2 b2 h1 h2 =>
        obtain ⟨w1, r1, rfl, hw1⟩ := h1.head
        have := (ah_drop (show ws.drop p = w1 :: (r1 ++ (b2 ++ ([41] :: rest))) by rw [hd5]; simp)).1
        rw [z] at this
        subst this
        have := hw1.all 41 (by simp)
        exact absurd this (by decide)
    obtain ⟨rfl, rfl⟩ := hc0
    have x6 : SXr T r H5 H6 := SXr.ofR g6
    rw [List.append_nil] at ets
    have e6 : p + 1 = n + (br (t :: ts') (a ++ b)).length := by simpa using len5
    rw [e6] at hR6
    exact ⟨ys, rfl, tr5.lst x6 f5, x5.trans x6, hR6, by rw [ets]; exact TrAll.mono (fun _ _ h => tr5.seqT x6 h) tv5, tr5.tbR g6⟩
end
end K5
namespace K5
open PySem L2 K3 TM
def eltOf (e : Expr) (i : Nat) : Expr := match e with
  | .Tuple es _ _ => es.getD i e
  | _ => e
abbrev eL : Expr := argOf (eltOf (retOf sTreeF) 2) 0
abbrev qL : Str := (PyProof.Rows.envOfC "tree_from" (defScope sTreeF) 0 0 .none).qual ++ "<lambda>"
abbrev pL : Pos := lamPos eL
section
variable {P : Program} {w : World} {K : PySem.W.Frag} {mg : Str → Option Value} {base : Heap} {f : Addr} {fd : FuncData} {C T c : Addr}
theorem scTreeF : FnScope ["reader", "room", "name", "mark"] ["reader", "room"] (defScope sTreeF) := ⟨rfl, rfl, rfl, by decide +kernel, rfl, by decide +kernel, by decide +kernel⟩
theorem lam_free : ∀ y ∈ (lamScope eL).names, y.2 ≠ NameKind.cell ∧ y.2 ≠ NameKind.local := by decide +kernel
theorem lam_two : ∀ y ∈ (lamScope eL).names, y.2 = NameKind.free → y.1 = Str.ofString "reader" ∨ y.1 = Str.ofString "room" := by decide +kernel
theorem ne_rr : Str.ofString "reader" ≠ Str.ofString "room" := by decide +kernel
theorem ok_treeF {n : Nat} {fI : Addr} {fdI : FuncData} (F : Fun K "tree_from" "tree_from" sTreeF f fd) (hn : PySem.W.nsIn K mainGlobals "tree_from" = some (some (.ref f))) (hTb : PySem.W.tabIn K "tree_from" = some (c, T)) (hC : PySem.W.codeHdIn K c T = true) (hB : BtAt mg base) (TT : RdT K mg C)
    (MN : Mt P w K mg base C 3 "take_name" ["self"] (spTakeN C)) (MA : Mt P w K mg base C 2 "at_number" ["self"] (spAt C numL)) (MI : Mt P w K mg base C 3 "take_number" ["self"] (spTakeI C)) (mI : Meth K C "in_brackets" fI) (bI : Binds K fdI ["self", "take_one"] [])
    (FI : ∀ g : Heap, FnOk P w K mg g CX0 (3 * n + 3 + 3) fI fdI ["self", "take_one"] (spInB P w K mg C T pL qL (3 * n + 3 + 2) g))
    (R : ∀ g : Heap, BtAt mg g → Fn P w K mg g (3 * n + 4) "tree_from" ["reader", "room"] (spTreeF K C T pL qL n)) : FnOk P w K mg base CX0 (3 * n + 7) f fd ["reader", "room"] (spTreeF K C T pL qL (n + 1)) := by
  refine Fun.okC F hn hTb scTreeF (fun vs H Q E h => ?_) (fun A outer s H vs Q E hr h => ?_)
  · obtain ⟨r, l, ws, m, rm, t, a, rest, rfl, _⟩ := h
    rfl
  obtain ⟨r, l, ws, m, rm, t, a, rest, rfl, hR, hW, hd, ht, hf, hlv, hrm, tb, q⟩ := h
  refine ⟨_, (pss_cons (ps_if (pt_cmpR op_eq (pv 1) pe_int (nomark _)) pss_never pss_nil)
    (pss_cons (ps_set (i := 2) scTreeF.nd rfl (Or.inl rfl) (pe_mt0 MN TT.cl hr (pv 0) (by omega)))
    (pss_cons (ps_cut (ps_set (i := 3) scTreeF.nd rfl (Or.inl rfl) (pe_ifExp (pt_val (pe_mt0 MA TT.cl hr (pv 0) (by omega))) (pe_mt0 MI TT.cl hr (pv 0) (by omega)) pe_int)))
    (pss_one (ps_ret (pe_tup (pa_cons (pv 2) (pa_cons (pv 3) (pa_cons (pe_methB (pv 0) TT.cl mI (fun g _ => FI g) hr bI .nil (fun _ => rfl) (pa_cons (pe_lamC (c := c) (T := T) rfl hC hB) pa_nil)) pa_nil))))))))), ?_⟩
  cases ht with
  | @mk wn mk ms ts us hw hmk hms hts hlen =>
  rw [lv] at hlv hrm
  obtain ⟨dx, hx⟩ := hR.ins
  have hd0 : ws.drop m = wn :: ((ms ++ br ts us) ++ rest) := hd
  obtain ⟨ha, hm1, hd1, _⟩ := ah_drop hd0
  refine ⟨_, rfl, rfl, _, rfl, iteN (fun z => ?_) ?_⟩
  · have : rm = 0 := V.int.inj z
    omega
  refine ⟨_, rfl, r, dx, _, rfl, hx, rfl, r, l, ws, m, rfl, hR, by omega, ah_len hW m, by rw [ha]; exact hw.beg.1, fun H1 g1 hR1 => ?_⟩
  rw [ha]
  have tr0 := hR.tr (T := T) (pos := pL) (qual := qL) tb
  have tb1 := tr0.tbR g1
  have x1 : SXr T r H H1 := SXr.ofR g1
  obtain ⟨dx1, hx1⟩ := hR1.ins
  refine ⟨fun σ' H' => ∃ p : Nat, σ' = [some (.ref r), some (.int rm), some (.str (S wn)), some (.int mk)] ∧ SXr T r H H' ∧ RdAt C H' r l ws p ∧ p ≤ ws.length ∧ ws.drop p = br ts us ++ rest ∧ p + (br ts us).length = m + (wn :: (ms ++ br ts us)).length ∧ TbS H' T pL qL, ?_, ?_⟩
  · refine ⟨_, rfl, r, dx1, _, rfl, hx1, rfl, r, l, ws, m + 1, rfl, hR1, by omega, ah_len hW _, _, rfl, ?_⟩
    rcases hms with rfl | ⟨rfl, rfl⟩
    · have hd2 : ws.drop (m + 1) = sh mk :: (br ts us ++ rest) := by rw [hd1]; rfl
      obtain ⟨hb, hm2, hd3, _⟩ := ah_drop hd2
      have bg : beg (ah ws (m + 1)) numL = true := by
        rw [hb]
        obtain ⟨c0, r0, e0, h0⟩ := sh_head mk
        rw [e0]
        refine decide_eq_true ?_
        rcases h0 with h0 | h0
        · exact List.mem_append_left _ h0
        · rw [h0]; exact List.mem_append_right _ List.mem_cons_self
      rw [bg]
      refine iteT ⟨_, rfl, r, dx1, _, rfl, hx1, rfl, r, l, ws, m + 1, mk, rfl, hR1, by omega, ah_len hW _, bg, by rw [hb]; exact read_sh hmk, fun H2 g2 hR2 => ?_⟩
      have tr1 := hR1.tr (T := T) (pos := pL) (qual := qL) tb1
      exact ⟨m + 1 + 1, rfl, x1.trans (SXr.ofR g2), hR2, by omega, hd3, by simp; omega, tr1.tbR g2⟩
    · have hd2 : ws.drop (m + 1) = br ts us ++ rest := by rw [hd1]; rfl
      have bg : beg (ah ws (m + 1)) numL = false := by
        cases ts with
        | nil => exact (ah_fol hd2 hf).1
        | cons t0 ts0 => rw [(ah_drop hd2).1]; decide
      rw [bg]
      exact iteF ⟨m + 1, rfl, x1, hR1, by omega, hd2, by simp; omega, tb1⟩
  rintro σ H3 ⟨p, rfl, x3, hR3, hp, hd3, hlen3, tb3⟩
  obtain ⟨dx3, hx3⟩ := hR3.ins
  refine ⟨_, rfl, _, rfl, _, rfl, r, dx3, _, rfl, hx3, rfl, tb3, fun L H4 x4 hL0 hL4 tb4 g hs hc => ?_⟩
  obtain ⟨ps, hps⟩ := tb3.at
  have nr : r ≠ T := fun z => by rw [z, hps] at hx3; cases hx3
  have nl : l ≠ T := fun z => by have h := hR3.fl; rw [z, hps] at h; cases h
  have hR4 : RdAt C H4 r l ws p := ⟨⟨dx3, x4 _ _ nr hx3⟩, x4 _ _ nl hR3.fl⟩
  obtain ⟨c1, u1, e1, i1, v1⟩ := hc 0 "reader" (.ref r) rfl rfl rfl
  obtain ⟨c2, u2, e2, i2, v2⟩ := hc 1 "room" (.int rm) rfl rfl rfl
  refine ⟨r, l, L, ws, p, lvs ts, ts, us, rest, eL, _, rfl, hR4, hW, hp, hd3, hts, hf, fun t0 ht0 => lv_le ht0, hlen, hL4, ?_, tb4, fun b vs H5 x5 hR5 sq5 tr5 tb5 => ⟨(by show 3 ≤ sizeLine; decide), fun tp htp => ?_⟩⟩
  · obtain rfl : s.heap.objs.size + 1 = c1 := Option.some.inj e1
    obtain rfl : s.heap.objs.size + 1 + 1 = c2 := Option.some.inj e2
    have hcl := ClAt.two ne_rr (Nat.ne_of_lt (Nat.lt_succ_self _)) i1 i2 v1 v2
    refine lam_runC (k := 3 * n + 4) (N := ["reader", "room"]) (vs := [.ref r, .int rm]) rfl rfl rfl lam_free (fun x hx => ?_) hcl (fun _ _ _ _ => rfl) (fun qual' f' c' A' outer' s' H' Q' E' hr' h' => ?_)
    · rcases lam_two _ (PySem.mem_of_lookup hx) rfl with z | z
      · have z' : x = Str.ofString "reader" := z
        rw [z']
        obtain ⟨c0, u0, e0, _⟩ := hcl.val 0 (Str.ofString "reader") (.ref r) rfl rfl
        exact ⟨c0, e0⟩
      · have z' : x = Str.ofString "room" := z
        rw [z']
        obtain ⟨c0, u0, e0, _⟩ := hcl.val 1 (Str.ofString "room") (.int rm) rfl rfl
        exact ⟨c0, e0⟩
    · obtain ⟨m', t', a', rest', _, hR', hd', ht', hf', hlv', tb', q'⟩ := h'
      refine ⟨_, pe_fn (R g (hB.sub hs)) hr' (pa_cons (pv 0) (pa_cons (pe_op op_sub (pv 1) pe_int) pa_nil)) (Nat.le_refl _), ?_⟩
      exact ⟨_, rfl, _, rfl, _, _, rfl, rfl, r, l, ws, m', rm - 1, t', a', rest', rfl, hR', hW, hd', ht', hf', by omega, by omega, tb', q'⟩
  · have s6 := same_new htp (.tup [.str (S wn), .int mk, .ref b])
    rw [hlen3] at hR5
    have hl5 := tr5.length
    exact q _ _ ((x3.trans (SXr.ofT x4)).trans (x5.trans (SXr.of s6))) (hR5.same s6) (.mk (SqT.of upd_same) (s6.seqT sq5) (TrAll.mono (fun _ _ h => s6.seqT h) tr5) (by omega)) (tb5.same s6)
theorem none_treeF {k : Nat} : FnOk P w K mg base CX0 k f fd ["reader", "room"] (spTreeF K C T pL qL 0) := by
  have no : ∀ vs H Q E, ¬ spTreeF K C T pL qL 0 vs H Q E := fun vs H Q E h => by
    obtain ⟨r, l, ws, m, rm, t, a, rest, _, _, _, _, _, _, h0, _⟩ := h
    rw [lv_bs] at h0; omega
  exact ⟨fun vs H Q E h => absurd h (no vs H Q E), fun A outer s H args us vs Q E _ _ _ _ h => absurd h (no vs H Q E)⟩
structure RdM (P : Program) (w : World) (K : PySem.W.Frag) (mg : Str → Option Value) (C : Addr) : Prop where
  tn : ∀ base : Heap, Mt P w K mg base C 3 "take_name" ["self"] (spTakeN C)
  an : ∀ base : Heap, Mt P w K mg base C 2 "at_number" ["self"] (spAt C numL)
  ti : ∀ base : Heap, Mt P w K mg base C 3 "take_number" ["self"] (spTakeI C)
  ib : ∃ (fI : Addr) (fdI : FuncData), Meth K C "in_brackets" fI ∧ Binds K fdI ["self", "take_one"] [] ∧ ∀ (T : Addr) (pos : Pos) (qual : Str) (k : Nat) (g : Heap), FnOk P w K mg g CX0 (k + 3) fI fdI ["self", "take_one"] (spInB P w K mg C T pos qual (k + 2) g)
theorem all_treeF (F : Fun K "tree_from" "tree_from" sTreeF f fd) (hn : PySem.W.nsIn K mainGlobals "tree_from" = some (some (.ref f))) (hTb : PySem.W.tabIn K "tree_from" = some (c, T)) (hC : PySem.W.codeHdIn K c T = true) (TT : RdT K mg C) (M : RdM P w K mg C) (hb : Binds K fd ["reader", "room"] []) (hm : mg "tree_from" = some (.ref f)) : ∀ (n : Nat) (g : Heap), BtAt mg g → FnOk P w K mg g CX0 (3 * n + 4) f fd ["reader", "room"] (spTreeF K C T pL qL n)
  | 0, _, _ => none_treeF
  | n + 1, g, hB => by
    obtain ⟨fI, fdI, mI, bI, FI⟩ := M.ib
    exact ok_treeF F hn hTb hC hB TT (M.tn g) (M.an g) (M.ti g) mI bI (fun g => FI T pL qL (3 * n + 3) g) fun g' hB' => ⟨f, fd, all_treeF F hn hTb hC TT M hb hm n g' hB', hb, F.kp, hm⟩
end
end K5
namespace L2
open PySem PySem.Spec PyProof.Rows PySem.W
theorem strs_of_vals : ∀ {ss : List Str} {us : List Value}, Vals (ss.map V.str) us → StrsAre us ss
  | [], _, .nil => .nil
  | x :: r, _, .cons h t => by
    obtain ⟨k, rfl⟩ := (show ∃ t, _ = Value.str x t from h)
    exact .cons x k (strs_of_vals t)
section
variable {X : Cx}
theorem mt_join : MtR X "str.join" (fun x vs H Q => ∃ (sep : Str) (l : Addr) (ss : List Str), x = .str sep ∧ vs = [.ref l] ∧ SqL X.K H l (ss.map V.str) ∧ (ss.map (·.length)).sum + ss.length * sep.length ≤ 16777216 ∧ Q (.str (Txt.join sep ss)) H) := by
  intro pins s σ H x xs v us Q I rx rv h
  obtain ⟨sep, l, ss, rfl, rfl, hl, hz, q⟩ := h
  obtain ⟨t, rfl⟩ := (show ∃ t, v = Value.str sep t from rx)
  obtain ⟨u, rfl, ru⟩ := rv.one
  obtain rfl : u = Value.ref l := ru
  obtain ⟨its, r, p, _⟩ := I.list hl
  exact join_list p.isList (strs_of_vals r) hz fun t' k => ⟨.str _, H, I.tok _, ⟨_, rfl⟩, q⟩
end
section
variable {prog : Program} {w : World} {A : Around} {E : Value → Shared → Prop} {s : Shared}
end
section
variable {X : Cx} {tg : Expr}
end
end L2
namespace K5
open PySem L2 K3 TM
def gl (sep : List Nat) : List (List Nat) → List Nat
  | [] => []
  | x :: r => x ++ r.flatMap fun y => sep ++ y
theorem gl_fold (sep : List Nat) : ∀ (r : List (List Nat)) (acc : List Nat), (r.map S).foldl (fun a p => a ++ (S sep).cps ++ p.cps) acc.toArray = (acc ++ r.flatMap fun y => sep ++ y).toArray
  | [], acc => by simp
  | y :: r, acc => by
    rw [List.map_cons, List.foldl_cons]
    have e : acc.toArray ++ (S sep).cps ++ (S y).cps = (acc ++ (sep ++ y)).toArray := by
      apply Array.toList_inj.mp
      simp [S]
    rw [e, gl_fold sep r]
    simp [List.flatMap_cons]
theorem join_S (sep : List Nat) (xs : List (List Nat)) : Txt.join (S sep) (xs.map S) = S (gl sep xs) := by
  show Builtin.Str.glued (S sep) (xs.map S) = _
  unfold Builtin.Str.glued
  cases xs with
  | nil => rfl
  | cons x r =>
    have := gl_fold sep r x
    show (⟨((r.map S).foldl (fun a p => a ++ (S sep).cps ++ p.cps) (S x).cps)⟩ : Str) = _
    rw [show (S x).cps = x.toArray from rfl, this]
    rfl
theorem gl_len (sep : List Nat) : ∀ xs : List (List Nat), (xs.map List.length).sum ≤ (gl sep xs).length
  | [] => by simp [gl]
  | x :: r => by
    have : ∀ r : List (List Nat), (r.map List.length).sum ≤ (r.flatMap fun y => sep ++ y).length := fun r => by
      induction r with
      | nil => simp
      | cons y r ih => simp only [List.map_cons, List.sum_cons, List.flatMap_cons, List.length_append]; omega
    have h := this r
    simp only [gl, List.map_cons, List.sum_cons, List.length_append]; omega
theorem gl_cnt {sep : List Nat} (hs : 0 < sep.length) : ∀ xs : List (List Nat), xs.length ≤ (gl sep xs).length + 1
  | [] => by simp
  | x :: r => by
    have : ∀ r : List (List Nat), r.length ≤ (r.flatMap fun y => sep ++ y).length := fun r => by
      induction r with
      | nil => simp
      | cons y r ih => simp only [List.flatMap_cons, List.length_append, List.length_cons]; omega
    have h := this r
    simp only [gl, List.length_cons, List.length_append]; omega
def shM (m : Int) : List Nat := if m = 0 then [] else sh m
def shB (xs : List (List Nat)) : List Nat := match xs with
  | [] => []
  | _ :: _ => [40] ++ gl [32] xs ++ [41]
mutual
def shT : Tree Str → List Nat
  | .node n m ts => n.cps.toList ++ shM m ++ shB (shTs ts)
def shTs : List (Tree Str) → List (List Nat)
  | [] => []
  | t :: r => shT t :: shTs r
end
theorem shTs_map : ∀ ts : List (Tree Str), shTs ts = ts.map shT
  | [] => by simp [shTs]
  | t :: r => by simp only [shTs, List.map_cons, shTs_map r]
mutual
def mbT : Tree Str → Prop
  | .node _ m ts => m.natAbs < 10 ^ 60 ∧ mbTs ts
def mbTs : List (Tree Str) → Prop
  | [] => True
  | t :: r => mbT t ∧ mbTs r
end
theorem mb_mem : ∀ {ts : List (Tree Str)} {t : Tree Str}, mbTs ts → t ∈ ts → mbT t
  | u :: r, t, h, ht => by
    rw [mbTs] at h
    rcases List.mem_cons.mp ht with rfl | ht
    · exact h.1
    · exact mb_mem h.2 ht
theorem le_sum : ∀ {l : List Nat} {x : Nat}, x ∈ l → x ≤ l.sum
  | y :: r, x, h => by
    rw [List.sum_cons]
    rcases List.mem_cons.mp h with rfl | h
    · omega
    · have := le_sum h; omega
theorem shB_mem {xs : List (List Nat)} {x : List Nat} (h : x ∈ xs) : x.length ≤ (shB xs).length ∧ (xs.map List.length).sum ≤ (shB xs).length ∧ xs.length ≤ (shB xs).length := by
  cases xs with
  | nil => cases h
  | cons y r =>
    have h1 := gl_len [32] (y :: r)
    have h2 := gl_cnt (sep := [32]) (by decide) (y :: r)
    have h3 : x.length ≤ ((y :: r).map List.length).sum := le_sum (List.mem_map.mpr ⟨x, h, rfl⟩)
    have e : (shB (y :: r)).length = (gl [32] (y :: r)).length + 2 := by simp [shB]
    omega
theorem str_sh (i : Int) : Str.ofString (toString i) = S (sh i) := by
  cases i with
  | ofNat n =>
    show Str.ofString (toString ((n : Nat) : Int)) = _
    rw [← S_self (Str.ofString (toString ((n : Nat) : Int))), PySem.W.KIN.signs_num]
    unfold sh
    rw [if_neg (by show ¬ ((n : Nat) : Int) < 0; omega)]
    rfl
  | negSucc n =>
    rw [← S_self (Str.ofString (toString (Int.negSucc n))), PyProof.Rows.signs_ofString]
    have e : toString (Int.negSucc n) = "-" ++ Nat.repr (n + 1) := rfl
    rw [e, String.toList_append, List.map_append, Nat.toList_repr]
    unfold sh
    rw [if_pos (by omega)]
    rfl
theorem log_sh {i : Int} (h : i.natAbs < 10 ^ 60) : i.natAbs.log2 < 1920 := log_small (Nat.lt_trans h (by decide))
def spSM : Sp := fun vs H Q _ => ∃ m : Int, vs = [.int m] ∧ m.natAbs < 10 ^ 60 ∧ Q (.str (S (shM m))) H
def spSB (K : PySem.W.Frag) : Sp := fun vs H Q _ => ∃ (l : Addr) (xs : List (List Nat)), vs = [.ref l] ∧ SqL K H l (xs.map fun x => V.str (S x)) ∧ (shB xs).length ≤ 5000 ∧ Q (.str (S (shB xs))) H
def spShow (K : PySem.W.Frag) (n : Nat) : Sp := fun vs H Q _ => ∃ (v : V) (t : Tree Str), vs = [v] ∧ TrV K H v t ∧ lv t ≤ n ∧ mbT t ∧ (shT t).length ≤ 5000 ∧ ∀ H', Same H H' → Q (.str (S (shT t))) H'
section
variable {P : Program} {w : World} {K : PySem.W.Frag} {mg : Str → Option Value} {base : Heap} {f : Addr} {fd : FuncData}
theorem scSM : FnScope ["mark"] ["mark"] (defScope sShowM) := ⟨rfl, rfl, rfl, by decide +kernel, rfl, by decide +kernel, by decide +kernel⟩
theorem ok_sm (F : Fun K "show_mark" "show_mark" sShowM f fd) (G : Gm mg) : FnOk P w K mg base CX0 1 f fd ["mark"] spSM := by
  refine F.ok scSM (fun vs H Q E h => ?_) (fun cdv A outer s H vs Q E hr h => ?_)
  · obtain ⟨m, rfl, _⟩ := h
    rfl
  obtain ⟨m, rfl, hm, q⟩ := h
  refine ⟨_, (pss_one (ps_ret (pe_ifExp (pt_cmpR op_eq (pv 0) pe_int (nomark _)) pe_str (pe_callTy call_str_int rfl G.str PyProof.Rows.boot_str (pa_cons (pv 0) pa_nil))))), ?_⟩
  unfold shM at q
  refine ⟨_, rfl, rfl, _, rfl, ite2 (fun c => ?_) (fun c => ?_)⟩
  · have : m = 0 := V.int.inj (of_decide_eq_true c)
    rw [if_pos this] at q
    show Q (.str (Str.ofString "")) H
    rw [none_eq]; exact q
  · have : m ≠ 0 := fun z => c (decide_eq_true (by rw [z]))
    rw [if_neg this, ← str_sh] at q
    exact ⟨_, rfl, _, rfl, log_sh hm, q⟩
theorem scSB : FnScope ["texts"] ["texts"] (defScope sShowB) := ⟨rfl, rfl, rfl, by decide +kernel, rfl, by decide +kernel, by decide +kernel⟩
theorem ok_sb (F : Fun K "show_in_brackets" "show_in_brackets" sShowB f fd) (G : Gm mg) : FnOk P w K mg base CX0 1 f fd ["texts"] (spSB K) := by
  refine F.ok scSB (fun vs H Q E h => ?_) (fun cdv A outer s H vs Q E hr h => ?_)
  · obtain ⟨l, xs, rfl, _⟩ := h
    rfl
  obtain ⟨l, xs, rfl, hl, hz, q⟩ := h
  refine ⟨_, (pss_cons (ps_if (pt_cmpR op_eq (pe_callB call_len_seq rfl G.len PySem.boot_len (pa_cons (pv 0) pa_nil)) pe_int (nomark _)) (pss_one (ps_ret pe_str)) pss_nil)
    (pss_one (ps_ret (pe_op op_add_str (pe_op op_add_str pe_str (pe_bm PySem.F.plainAttrs_str PySem.F.slot_str_join PySem.F.type_str_join mt_join pe_str (pa_cons (pv 0) pa_nil))) pe_str)))), ?_⟩
  refine ⟨_, rfl, l, _, rfl, .inl hl, rfl, _, rfl, ?_⟩
  rw [List.length_map]
  cases xs with
  | nil =>
    refine iteP rfl ?_
    show Q (.str (Str.ofString "")) H
    rw [none_eq]; exact q
  | cons x r =>
    refine iteN (fun z => by have := V.int.inj z; simp at this; omega) ?_
    have h1 := gl_len [32] (x :: r)
    have h2 := gl_cnt (sep := [32]) (by decide) (x :: r)
    have e : (shB (x :: r)).length = (gl [32] (x :: r)).length + 2 := by simp [shB]
    have eb : Str.ofString " " = S [32] := by decide +kernel
    have eo : Str.ofString "(" = S [40] := by decide +kernel
    have ec : Str.ofString ")" = S [41] := by decide +kernel
    have hm : ((x :: r).map S).map V.str = (x :: r).map fun x => V.str (S x) := by rw [List.map_map]; rfl
    have hls : (((x :: r).map S).map fun z : Str => z.length) = (x :: r).map List.length := by
      rw [List.map_map]
      exact List.map_congr_left fun y _ => S_len y
    refine ⟨rfl, _, rfl, S [32], l, (x :: r).map S, (by rw [← eb]), rfl, (by rw [hm]; exact hl), ?_, ?_⟩
    · rw [hls, List.length_map, S_len]
      show _ + _ * 1 ≤ _
      omega
    · rw [join_S]
      refine ⟨_, _, rfl, rfl, ?_, _, _, rfl, rfl, ?_, ?_⟩
      · rw [eo, S_len, S_len]; exact line_of (by simp only [List.length_singleton]; omega)
      · rw [eo, ec, S_app, S_len, S_len]; exact line_of (by simp only [List.length_append, List.length_singleton]; omega)
      · rw [eo, ec, S_app, S_app]; exact q
theorem scShow : FnScope ["tree"] ["tree"] (defScope sShow) := ⟨rfl, rfl, rfl, by decide +kernel, rfl, by decide +kernel, by decide +kernel⟩
theorem ok_show {n : Nat} (F : Fun K "show_tree" "show_tree" sShow f fd) (G : Gm mg) (RM : Fn P w K mg base 1 "show_mark" ["mark"] spSM) (RB : Fn P w K mg base 1 "show_in_brackets" ["texts"] (spSB K)) (R : Fn P w K mg base (n + 1) "show_tree" ["tree"] (spShow K n)) : FnOk P w K mg base CX0 (n + 2) f fd ["tree"] (spShow K (n + 1)) := by
  refine F.ok scShow (fun vs H Q E h => ?_) (fun cdv A outer s H vs Q E hr h => ?_)
  · obtain ⟨v, t, rfl, _⟩ := h
    rfl
  obtain ⟨v, t, rfl, ht, hlv, hmb, hz, q⟩ := h
  refine ⟨_, (pss_one (ps_ret (pe_op op_add_str (pe_op op_add_str (pe_ix ix_tup (pv 0) pe_int (fun _ _ => rfl)) (pe_fn RM hr (pa_cons (pe_ix ix_tup (pv 0) pe_int (fun _ _ => rfl)) pa_nil) (by omega))) (pe_fn RB hr (pa_cons (pe_lcomp (CompOk.plain rfl (by decide +kernel) (by decide +kernel) (by decide +kernel)) rfl (pi_tup (pe_ix ix_tup (pv 0) pe_int (fun _ _ => rfl))) (fun _ _ _ _ => pf_nil) (fun _ _ _ _ => pe_fn R hr (pa_cons (pv 0) pa_nil) (Nat.le_refl _))) pa_nil) (by omega))))), ?_⟩
  cases ht with
  | @mk a b vs ts name mark h1 h2 h3 h4 =>
  have hlen := h3.length
  rw [lv] at hlv
  rw [mbT] at hmb
  rw [shT] at hz q
  rw [List.length_append, List.length_append] at hz
  refine ⟨_, rfl, a, _, 0, _, rfl, rfl, h1, rfl, _, rfl, a, _, 1, _, rfl, rfl, h1, rfl, mark, rfl, hmb.1, _, _, rfl, rfl, ?_, ?_⟩
  · rw [S_len]; exact line_of (by show name.length + _ ≤ _; have : name.cps.toList.length = name.length := by simp [Str.length]
                                  omega)
  refine ⟨_, rfl, a, _, 2, _, rfl, rfl, h1, rfl, b, rfl, ⟨_, h2⟩, fun acc hacc => ?_⟩
  refine comp_tup (K := K) (xs := vs) (tt := fun _ H Q => Q true H) (te := tCall (spShow K n) [] E0 (tCons (tVar 0) tNil)) (cs := []) (fun i ys H' => H' acc = some (.lst ys) ∧ Same H H' ∧ ys = ((ts.take i).map shT).map fun x => V.str (S x))
    ⟨upd_same, same_new hacc _, rfl⟩ ?_ ?_ ?_
  · rintro i ys H' _ ⟨_, g, _⟩
    exact g.seqT h2
  · rintro i x ys H' hi hx ⟨hya, g, rfl⟩
    obtain ⟨c, hc⟩ : ∃ c, ts[i]? = some c := ⟨_, List.getElem?_eq_getElem (by omega)⟩
    obtain ⟨cv, hcv, hct⟩ := h3.get hc
    obtain rfl : cv = x := Option.some.inj (hcv.symm.trans hx)
    have hm := List.mem_of_getElem? hc
    have a1 := lv_le hm
    have a2 := shB_mem (xs := shTs ts) (x := shT c) (by rw [shTs_map]; exact List.mem_map.mpr ⟨c, hm, rfl⟩)
    refine iteT ⟨_, rfl, cv, c, rfl, hct.mono fun _ _ => g.seqT, by omega, mb_mem hmb.2 hm, by omega, fun H4 g4 => ?_⟩
    refine comp_next hi (g4 _ _ hya) (by rw [List.length_map, List.length_map, List.length_take]; omega) ⟨upd_same, fun x u e => ?_, ?_⟩
    · rw [upd_ne (ne_of_none e hacc)]; exact g4 _ _ (g _ _ e)
    · rw [List.take_add_one, hc]; simp
  rintro ys H1 ⟨hya, g, rfl⟩
  rw [hlen, List.take_length] at hya
  refine ⟨acc, shTs ts, rfl, (by rw [shTs_map]; exact SqL.of hya), by omega, _, _, rfl, rfl, ?_, ?_⟩
  · have : name.cps.toList.length = name.length := by simp [Str.length]
    have e : (name ++ S (shM mark)).length = name.cps.toList.length + (shM mark).length := by
      rw [← S_self name, S_app, S_len, List.length_append, S_list]
    rw [e, S_len]; exact line_of (by omega)
  · have e : name ++ S (shM mark) ++ S (shB (shTs ts)) = S (name.cps.toList ++ shM mark ++ shB (shTs ts)) := by
      rw [← S_app, ← S_app, S_self]
    rw [e]
    exact q H1 g
theorem none_show {k : Nat} : FnOk P w K mg base CX0 k f fd ["tree"] (spShow K 0) := by
  have no : ∀ vs H Q E, ¬ spShow K 0 vs H Q E := fun vs H Q E h => by
    obtain ⟨v, t, _, _, h0, _⟩ := h
    rw [lv_bs] at h0; omega
  exact ⟨fun vs H Q E h => absurd h (no vs H Q E), fun A outer s H args us vs Q E _ _ _ _ h => absurd h (no vs H Q E)⟩
theorem all_show (F : Fun K "show_tree" "show_tree" sShow f fd) (G : Gm mg) (RM : Fn P w K mg base 1 "show_mark" ["mark"] spSM) (RB : Fn P w K mg base 1 "show_in_brackets" ["texts"] (spSB K)) (hb : Binds K fd ["tree"] []) (hm : mg "show_tree" = some (.ref f)) : ∀ n : Nat, FnOk P w K mg base CX0 (n + 1) f fd ["tree"] (spShow K n)
  | 0 => none_show
  | n + 1 => ok_show F G RM RB ⟨f, fd, all_show F G RM RB hb hm n, hb, F.kp, hm⟩
end
end K5
namespace K5
open PySem L2 K3 TM
theorem tr_open {K : PySem.W.Frag} {H : Hp} {v : V} {t : TM.Tree Str} (h : TrV K H v t) : ∃ a b vs name mark, v = .ref a ∧ t = .node name mark t.bs ∧ SqT K H a [.str name, .int mark, .ref b] ∧ SqT K H b vs ∧ TrAll K H vs t.bs ∧ vs.length ≤ 1000 := by
  cases h with
  | mk h1 h2 h3 h4 => exact ⟨_, _, _, _, _, rfl, rfl, h1, h2, h3, h4⟩
def spSize (K : PySem.W.Frag) (n : Nat) : Sp := fun vs H Q _ => ∃ (v : V) (t : Tree Str), vs = [v] ∧ TrV K H v t ∧ lv t ≤ n ∧ sz t ≤ 1000 ∧ ∀ H', Same H H' → Q (.int (sz t : Int)) H'
structure Gm2 (mg : Str → Option Value) : Prop where
  lv : ∃ t, mg "MOST_LEVELS" = some (.int 40 t)
  nm : ∃ t, mg "MOST_NAMES" = some (.int 200 t)
def spRead (K : PySem.W.Frag) (T : Addr) : Sp := fun vs H Q _ => ∃ (z : List Nat) (ws : List (List Nat)) (t : Tree Str), vs = [.str (S z)] ∧ z.length ≤ 5000 ∧ Writ z ws ∧ Tks t ws ∧ lv t ≤ 40 ∧ sz t ≤ 200 ∧ TbS H T pL qL ∧ ∀ (v : V) (H' : Hp), SameX T H H' → TrV K H' v t → TbS H' T pL qL → Q v H'
section
variable {P : Program} {w : World} {K : PySem.W.Frag} {mg : Str → Option Value} {base : Heap} {f : Addr} {fd : FuncData} {C T : Addr}
theorem scSize : FnScope ["tree"] ["tree"] (defScope sSize) := ⟨rfl, rfl, rfl, by decide +kernel, rfl, by decide +kernel, by decide +kernel⟩
theorem ok_size {n : Nat} (F : Fun K "size" "size" sSize f fd) (G : Gm mg) (R : Fn P w K mg base n "size" ["tree"] (spSize K n)) : FnOk P w K mg base CX0 (n + 1) f fd ["tree"] (spSize K (n + 1)) := by
  refine F.ok scSize (fun vs H Q E h => ?_) (fun cdv A outer s H vs Q E hr h => ?_)
  · obtain ⟨v, t, rfl, _⟩ := h
    rfl
  obtain ⟨v, t, rfl, ht, hlv, hsz, q⟩ := h
  refine ⟨_, (pss_one (ps_ret (pe_op op_add pe_int (pe_callB (call_sum rfl) rfl G.sum PyProof.Rows.boot_sum (pa_cons (pe_lcomp (CompOk.plain rfl (by decide +kernel) (by decide +kernel) (by decide +kernel)) rfl (pi_tup (pe_ix ix_tup (pv 0) pe_int (fun _ _ => rfl))) (fun _ _ _ _ => pf_nil) (fun _ _ _ _ => pe_fn R hr (pa_cons (pv 0) pa_nil) (Nat.le_refl _))) pa_nil))))), ?_⟩
  obtain ⟨a, b, bs, name, mark, rfl, et, h1, h2, h3, hbl⟩ := tr_open ht
  have hlen := h3.length
  rw [lv_bs] at hlv
  rw [sz_bs] at hsz q
  refine ⟨_, rfl, a, _, 2, _, rfl, rfl, h1, rfl, b, rfl, ⟨_, h2⟩, fun acc hacc => ?_⟩
  refine comp_tup (K := K) (xs := bs) (tt := fun _ H Q => Q true H) (te := tCall (spSize K n) [] E0 (tCons (tVar 0) tNil)) (cs := []) (fun i ys H' => H' acc = some (.lst ys) ∧ Same H H' ∧ ys = ((t.bs.take i).map fun u => (sz u : Int)).map V.int)
    ⟨upd_same, same_new hacc _, rfl⟩ ?_ ?_ ?_
  · rintro i ys H' _ ⟨_, g, _⟩
    exact g.seqT h2
  · rintro i x ys H' hi hx ⟨hya, g, rfl⟩
    obtain ⟨c, hc⟩ : ∃ c, t.bs[i]? = some c := ⟨_, List.getElem?_eq_getElem (by omega)⟩
    obtain ⟨cv, hcv, hct⟩ := h3.get hc
    obtain rfl : cv = x := Option.some.inj (hcv.symm.trans hx)
    have hm := List.mem_of_getElem? hc
    have a1 := lv_le hm
    have a2 := sz_le hm
    refine iteT ⟨_, rfl, cv, c, rfl, hct.mono fun _ _ => g.seqT, by omega, by omega, fun H4 g4 => ?_⟩
    refine comp_next hi (g4 _ _ hya) (by rw [List.length_map, List.length_map, List.length_take]; omega) ⟨upd_same, fun x u e => ?_, ?_⟩
    · rw [upd_ne (ne_of_none e hacc)]; exact g4 _ _ (g _ _ e)
    · rw [List.take_add_one, hc]; simp
  rintro ys H1 ⟨hya, g, rfl⟩
  have et2 : t.bs.take bs.length = t.bs := List.take_of_length_le (by omega)
  rw [et2] at hya
  refine ⟨acc, _, rfl, SqL.of hya, ⟨fun m hm => ?_, ?_⟩, _, _, rfl, rfl, ?_⟩
  · obtain ⟨u, _, rfl⟩ := List.mem_map.mp hm
    omega
  · rw [szs_map]; omega
  · rw [szs_map]
    exact q H1 g
theorem none_size : FnOk P w K mg base CX0 0 f fd ["tree"] (spSize K 0) := by
  have no : ∀ vs H Q E, ¬ spSize K 0 vs H Q E := fun vs H Q E h => by
    obtain ⟨v, t, _, _, h0, _⟩ := h
    rw [lv_bs] at h0; omega
  exact ⟨fun vs H Q E h => absurd h (no vs H Q E), fun A outer s H args us vs Q E _ _ _ _ h => absurd h (no vs H Q E)⟩
theorem all_size (F : Fun K "size" "size" sSize f fd) (G : Gm mg) (hb : Binds K fd ["tree"] []) (hm : mg "size" = some (.ref f)) : ∀ n : Nat, FnOk P w K mg base CX0 n f fd ["tree"] (spSize K n)
  | 0 => none_size
  | n + 1 => ok_size F G ⟨f, fd, all_size F G hb hm n, hb, F.kp, hm⟩
theorem scRead : FnScope ["text", "reader", "tree"] ["text"] (defScope sRead) := ⟨rfl, rfl, rfl, by decide +kernel, rfl, by decide +kernel, by decide +kernel⟩
theorem ok_read {fI : Addr} {fdI : FuncData} (F : Fun K "read_tree" "read_tree" sRead f fd) (G : Gm2 mg) (TT : RdT K mg C) (mkI : Mk K C fI) (FI : FnOk P w K mg base CX0 6 fI fdI ["self", "text"] (spInit C)) (bI : Binds K fdI ["self", "text"] []) (ME : Mt P w K mg base C 2 "need_end" ["self"] (spEnd C)) (RT : Fn P w K mg base 124 "tree_from" ["reader", "room"] (spTreeF K C T pL qL 40)) (RS : Fn P w K mg base 40 "size" ["tree"] (spSize K 40)) : FnOk P w K mg base CX0 125 f fd ["text"] (spRead K T) := by
  obtain ⟨tl, hl⟩ := G.lv
  obtain ⟨tn, hn⟩ := G.nm
  refine F.ok scRead (fun vs H Q E h => ?_) (fun cdv A outer s H vs Q E hr h => ?_)
  · obtain ⟨z, ws, t, rfl, _⟩ := h
    rfl
  obtain ⟨z, ws, t, rfl, hz, hw, ht, hlv, hsz, tb, q⟩ := h
  have hr7 : Room 7 _ := hr.mono (by decide)
  refine ⟨_, (pss_cons (ps_set (i := 1) scRead.nd rfl (Or.inl rfl) (pe_make mkI FI hr7 rfl TT.mgC bI .nil pass0 (pa_cons (pv 0) pa_nil)))
    (pss_cons (ps_set (i := 2) scRead.nd rfl (Or.inl rfl) (pe_fn RT hr (pa_cons (pv 1) (pa_cons (pe_glob (v := .int 40) rfl hl ⟨_, rfl⟩) pa_nil))))
    (pss_cons (ps_expr (pe_mt0 ME TT.cl hr (pv 1)))
    (pss_cons (ps_if (pt_cmpR op_gt (pe_fn RS hr (pa_cons (pv 2) pa_nil)) (pe_glob (v := .int 200) rfl hn ⟨_, rfl⟩) (nomark _)) pss_never pss_nil)
    (pss_one (ps_ret (pv 2))))))), ?_⟩
  have hW : ∀ u ∈ ws, u.length ≤ 61 := fun u hu => (hw.words u hu).len
  refine ⟨_, rfl, fun r dx hr0 hdx0 hne => ?_⟩
  have s1 : Same H (upd (upd H dx (.own r)) r (.ins C dx [])) := fun b u e => by rw [upd_ne (ne_of_none e hr0), upd_ne (ne_of_none e hdx0)]; exact e
  have hx1 : upd (upd H dx (.own r)) r (.ins C dx []) r = some (.ins C dx []) := upd_same
  generalize upd (upd H dx (.own r)) r (.ins C dx []) = H1 at s1 hx1
  refine ⟨r, dx, z, ws, rfl, hx1, hz, hw, fun l H2 g2 hR2 => ⟨rfl, ?_⟩⟩
  have tb1 := tb.same s1
  have tr1 : TR C T r pL qL H1 := ⟨tb1, dx, _, hx1⟩
  have tb2 := tr1.tbR g2
  have hd : ws.drop 0 = ws ++ [] := by simp
  refine ⟨_, rfl, r, l, ws, 0, 40, t, ws, [], rfl, hR2, hW, hd, ht, Fol.nil, hlv, (by omega), tb2, fun v H3 x3 hR3 tv3 tb3 => ?_⟩
  obtain ⟨dx3, hx3⟩ := hR3.ins
  refine ⟨_, rfl, r, dx3, _, rfl, hx3, rfl, r, l, ws, _, rfl, hR3, by omega, ?_⟩
  refine ⟨_, rfl, v, t, rfl, tv3, hlv, by omega, fun H4 g4 => ⟨_, _, rfl, rfl, _, rfl, iteN (by omega) ⟨_, rfl, ?_⟩⟩⟩
  refine q v H4 (fun b u n e => ?_) (tv3.mono fun _ _ => g4.seqT) (tb3.same g4)
  have nr : b ≠ r := ne_of_none e hr0
  exact g4 _ _ (x3 _ _ n nr (g2 _ _ nr (s1 _ _ e)))
end
end K5
namespace K5
open PySem L2 K3 TM
abbrev bl (i : Nat) : List Nat := List.replicate i 32
theorem bl_succ (i : Nat) : bl (i + 1) = 32 :: bl i := List.replicate_succ
def MkW (m : Int) (mt : List Nat) (ms : List (List Nat)) : Prop := (∃ i, mt = bl i ++ sh m ∧ ms = [sh m]) ∨ (m = 0 ∧ mt = [] ∧ ms = [])
def BrW (ts : List (Tree Str)) (xs : List (List Nat)) (bt : List Nat) : Prop := match ts with
  | [] => bt = []
  | _ :: _ => ∃ i j p k, bt = bl i ++ (40 :: (bl j ++ (gl (bl (p + 1)) xs ++ (bl k ++ [41]))))
mutual
inductive TW : Tree Str → List Nat → List (List Nat) → Prop where
  | mk {w : List Nat} {m : Int} {mt bt : List Nat} {ms : List (List Nat)} {ts : List (Tree Str)} {xs us : List (List Nat)} : Nm w → m.natAbs < 10 ^ 60 → MkW m mt ms → TWL ts xs us → ts.length ≤ 1000 → BrW ts xs bt → TW (.node (S w) m ts) (w ++ (mt ++ bt)) (w :: (ms ++ br ts us))
inductive TWL : List (Tree Str) → List (List Nat) → List (List Nat) → Prop where
  | nil : TWL [] [] []
  | cons {t : Tree Str} {ts : List (Tree Str)} {x : List Nat} {xs a b : List (List Nat)} : TW t x a → TWL ts xs b → TWL (t :: ts) (x :: xs) (a ++ b)
end
def En (rest : List Nat) : Prop := ∀ c, rest[0]? = some c → c ∉ letL ∧ c ∉ figL
theorem En.nil : En [] := fun c h => by simp at h
theorem En.cons {c : Nat} {r : List Nat} (h : c ∉ letL ∧ c ∉ figL) : En (c :: r) := fun d e => by
  have : c = d := by simpa using e
  rw [← this]; exact h
theorem En.bl (i : Nat) {r : List Nat} (h : En r) : En (bl i ++ r) := by
  cases i with
  | zero => exact h
  | succ i => rw [bl_succ]; exact En.cons n32
theorem twl_tks (ts : List (Tree Str)) (hP : ∀ t ∈ ts, ∀ x a, TW t x a → Tks t a) : ∀ xs us, TWL ts xs us → TksL ts us := by
  induction ts with
  | nil => intro xs us h; cases h; exact .nil
  | cons t r ih =>
    intro xs us h
    cases h with
    | cons h1 h2 => exact .cons (hP t List.mem_cons_self _ _ h1) (ih (fun u hu => hP u (List.mem_cons_of_mem _ hu)) _ _ h2)
theorem tw_tks : ∀ (n : Nat) (t : Tree Str) (x : List Nat) (a : List (List Nat)), sz t ≤ n → TW t x a → Tks t a
  | 0, t, x, a, hn, _ => by
    cases t with
    | node n m ts => rw [sz] at hn; omega
  | n + 1, t, x, a, hn, h => by
    cases h with
    | mk h1 h2 h3 h4 h5 h6 =>
      rw [sz] at hn
      refine .mk h1 h2 ?_ (twl_tks _ (fun t ht x a => tw_tks n t x a (by have := sz_le ht; omega)) _ _ h4) h5
      rcases h3 with ⟨i, _, e⟩ | ⟨e1, _, e2⟩
      · exact .inl e
      · exact .inr ⟨e1, e2⟩
theorem gl_two (sep x y : List Nat) (r : List (List Nat)) : gl sep (x :: y :: r) = x ++ (sep ++ gl sep (y :: r)) := by
  simp [gl, List.flatMap_cons, List.append_assoc]
theorem twl_writ (ts : List (Tree Str)) (hP : ∀ t ∈ ts, ∀ x a, TW t x a → ∀ rest ws, Writ rest ws → En rest → Writ (x ++ rest) (a ++ ws)) (p : Nat) : ∀ xs us, TWL ts xs us → ts ≠ [] → ∀ rest ws, Writ rest ws → En rest → Writ (gl (bl (p + 1)) xs ++ rest) (us ++ ws) := by
  induction ts with
  | nil => intro xs us _ h; exact absurd rfl h
  | cons t r ih =>
    intro xs us h _ rest ws hw he
    cases h with
    | @cons _ _ x xs' a b h1 h2 =>
      cases h2 with
      | nil =>
        have := hP t List.mem_cons_self _ _ h1 rest ws hw he
        simpa [gl] using this
      | @cons t2 r2 y ys a2 b2 g1 g2 =>
        have h3 := ih (fun u hu => hP u (List.mem_cons_of_mem _ hu)) _ _ (.cons g1 g2) (by simp) rest ws hw he
        have h4 := hP t List.mem_cons_self _ _ h1 (bl (p + 1) ++ (gl (bl (p + 1)) (y :: ys) ++ rest)) _ (h3.blanks (p + 1)) (by rw [bl_succ]; exact En.cons n32)
        rw [gl_two]
        simpa [List.append_assoc] using h4
theorem tw_writ : ∀ (n : Nat) (t : Tree Str) (x : List Nat) (a : List (List Nat)), sz t ≤ n → TW t x a → ∀ rest ws, Writ rest ws → En rest → Writ (x ++ rest) (a ++ ws)
  | 0, t, x, a, hn, _ => by
    cases t with
    | node n m ts => rw [sz] at hn; omega
  | n + 1, t, x, a, hn, h => by
    intro rest ws hw he
    cases h with
    | @mk w m mt bt ms ts xs us h1 h2 h3 h4 h5 h6 =>
      rw [sz] at hn
      have hb : Writ (bt ++ rest) (br ts us ++ ws) ∧ En (bt ++ rest) := by
        cases ts with
        | nil =>
          have h6 : bt = [] := h6
          subst h6
          exact ⟨hw, he⟩
        | cons t0 ts0 =>
          obtain ⟨i, j, p, k, e⟩ := h6
          have c1 : Writ ([41] ++ rest) ([41] :: ws) := .word (.sign (by decide)) (fun a b ha _ => by
            have : 41 = a := by simpa using ha
            subst this
            exact ⟨fun z => absurd z.1 (by decide), fun z => absurd z.1 (by decide)⟩) hw
          have c2 := twl_writ _ (fun t ht x a => tw_writ n t x a (by have := sz_le ht; omega)) p _ _ h4 (by simp) (bl k ++ ([41] ++ rest)) ([41] :: ws) (c1.blanks k) (En.bl k (En.cons (by decide)))
          have c3 : Writ ([40] ++ (bl j ++ (gl (bl (p + 1)) xs ++ (bl k ++ ([41] ++ rest))))) ([40] :: (us ++ ([41] :: ws))) := .word (.sign (by decide)) (fun a b ha _ => by
            have : 40 = a := by simpa using ha
            subst this
            exact ⟨fun z => absurd z.1 (by decide), fun z => absurd z.1 (by decide)⟩) (c2.blanks j)
          have c4 := c3.blanks i
          rw [e]
          refine ⟨by simpa [br, List.append_assoc] using c4, ?_⟩
          rw [List.append_assoc]
          exact En.bl i (En.cons (by decide))
      obtain ⟨hb1, hb2⟩ := hb
      have sepN : ∀ r : List Nat, (∀ c, r[0]? = some c → c ∉ letL) → Sep w r := fun r hr a b ha hb => by
        have ha' : a ∈ w := List.mem_of_getLast? ha
        exact ⟨fun z => hr b hb z.2, fun z => let_fig a (h1.all a ha') z.1⟩
      have wd : Word w := .name h1.ne h1.len h1.all
      rcases h3 with ⟨i, rfl, rfl⟩ | ⟨rfl, rfl, rfl⟩
      · have c5 : Writ (sh m ++ (bt ++ rest)) (sh m :: (br ts us ++ ws)) := .word (sh_word h2) (fun a b ha hb => by
          obtain ⟨a', ea, hf⟩ := sh_last m
          rw [ea] at ha
          obtain rfl := Option.some.inj ha
          exact ⟨fun z => fig_let _ hf z.1, fun z => (hb2 b hb).2 z.2⟩) hb1
        have c6 : Writ (w ++ (bl i ++ (sh m ++ (bt ++ rest)))) (w :: (sh m :: (br ts us ++ ws))) := .word wd (sepN _ fun c hc => by
          cases i with
          | zero =>
            obtain ⟨c0, r0, e0, h0⟩ := sh_head m
            rw [e0] at hc
            have : c0 = c := by simpa using hc
            subst this
            rcases h0 with h0 | h0
            · exact fig_let _ h0
            · rw [h0]; exact n45.2.1
          | succ i =>
            rw [bl_succ] at hc
            have : 32 = c := by simpa using hc
            subst this
            exact n32.1) (c5.blanks i)
        simpa [List.append_assoc] using c6
      · have c6 : Writ (w ++ (bt ++ rest)) (w :: (br ts us ++ ws)) := .word wd (sepN _ fun c hc => (hb2 c hc).1) hb1
        simpa [List.append_assoc] using c6
structure GT (t : Tree Str) (y : List Nat) : Prop where
  sh : ∃ a, TW t (shT t) a
  wi : ∃ b, TW t y b
  mb : mbT t
  l1 : (shT t).length + 3 ≤ 100 * sz t
  l2 : y.length + 3 ≤ 100 * sz t
  lo : ∀ c ∈ shT t, c < 128
end K5
namespace K5
open PySem L2 K3 TM
theorem sT {H H5 : Hp} {p : Addr} {o : HO} (hp : H p = none) (hX : upd H p o = H5) : Same H H5 := hX ▸ same_new hp o
theorem fT {K : PySem.W.Frag} {H H5 : Hp} {p : Addr} {xs : List V} (hX : upd H p (.tup xs) = H5) : SqT K H5 p xs := hX ▸ SqT.of upd_same
structure Row where
  ad : Addr
  nm : List Nat
  mr : Int
  up : Nat
  nu : Int
def Row.vs (r : Row) : List V := [.str (S r.nm), .int r.mr, .int (r.up : Int), .int r.nu]
structure RowOk (k : Nat) (r : Row) : Prop where
  nm : Nm r.nm
  mr : r.mr.natAbs < 10 ^ 60
  up : r.up < k ∨ k = 0 ∧ r.up = 0
  nu : 0 ≤ r.nu
def RAt (K : PySem.W.Frag) (H : Hp) (R : List Row) : Prop := ∀ r ∈ R, SqT K H r.ad r.vs
def ROk (R : List Row) : Prop := ∀ k r, R[k]? = some r → RowOk k r
def spRows (K : PySem.W.Frag) : Sp := fun vs H Q _ => ∃ (a : Addr) (ns : List Int), vs = [.ref a] ∧ SqL K H a (ns.map V.int) ∧ ns.length ≤ 36 ∧ ∀ (l : Addr) (R : List Row) (H' : Hp), Same H H' → H l = none → H' l = some (.lst (R.map fun r => V.ref r.ad)) → RAt K H' R → R.length = ns.length → ROk R → Q (.ref l) H'
section
variable {P : Program} {w : World} {K : PySem.W.Frag} {mg : Str → Option Value} {base : Heap} {f : Addr} {fd : FuncData}
theorem scRows : FnScope ["_law_cells", "_law_rows_here", "_law_cell", "_law_number", "_law_name", "_law_mark", "_law_up"] ["_law_cells"] (defScope sRows) := ⟨rfl, rfl, rfl, by decide +kernel, rfl, by decide +kernel, by decide +kernel⟩
theorem ok_rows (F : Fun K "_law_rows" "_law_rows" sRows f fd) (G : Gm mg) (RN : Fn P w K mg base 1 "_law_name_by" ["_law_cell"] spNameBy) : FnOk P w K mg base CX0 2 f fd ["_law_cells"] (spRows K) := by
  refine F.ok scRows (fun vs H Q E h => ?_) (fun cdv A outer s H vs Q E hr h => ?_)
  · obtain ⟨a, ns, rfl, _⟩ := h
    rfl
  obtain ⟨a, ns, rfl, hS, h36, q⟩ := h
  refine ⟨_, (pss_cons (ps_set (i := 1) scRows.nd rfl (Or.inl rfl) (pe_lst pa_nil))
    (pss_cons (ps_for PassesOwn.never rfl (pi_list (pv 0)) (pg_name (i := 2) scRows.nd rfl (Or.inl rfl)) (pss_cons (ps_set (i := 3) scRows.nd rfl (Or.inl rfl) (pe_op op_mod (pv 2) (pe_op op_pow pe_int pe_int)))
    (pss_cons (ps_set (i := 4) scRows.nd rfl (Or.inl rfl) (pe_fn RN hr (pa_cons (pe_op op_mod (pe_op op_mul (pv 3) pe_int) pe_int) pa_nil)))
    (pss_cons (ps_set (i := 5) scRows.nd rfl (Or.inl rfl) (pe_op op_add (pe_op op_sub (pe_op op_mod (pe_op op_mul (pv 3) pe_int) (pe_op op_sub (pe_op op_mul pe_int (pe_op op_pow pe_int pe_int)) pe_int)) (pe_op op_pow pe_int pe_int)) pe_int))
    (pss_cons (ps_cut (ps_if (pt_cmpR op_eq (pe_op op_mod (pe_op op_fdiv (pv 3) pe_int) pe_int) pe_int (nomark _)) (pss_one (ps_set (i := 5) scRows.nd rfl (Or.inl rfl) pe_int)) pss_nil))
    (pss_cons (ps_cut (ps_if (pt_cmpR op_eq (pe_op op_mod (pe_op op_fdiv (pv 3) pe_int) pe_int) pe_int (nomark _)) (pss_one (ps_set (i := 5) scRows.nd rfl (Or.inl rfl) (pe_op op_sub (pe_op op_mod (pe_op op_fdiv (pv 3) pe_int) pe_int) pe_int))) pss_nil))
    (pss_cons (ps_set (i := 6) scRows.nd rfl (Or.inl rfl) pe_int)
    (pss_cons (ps_cut (ps_if (pt_cmpR op_gt (pe_callB call_len_seq rfl G.len PySem.boot_len (pa_cons (pv 1) pa_nil)) pe_int (nomark _)) (pss_cons (ps_set (i := 6) scRows.nd rfl (Or.inl rfl) (pe_op op_mod (pv 3) (pe_callB call_len_seq rfl G.len PySem.boot_len (pa_cons (pv 1) pa_nil))))
    (pss_one (ps_if (pt_cmpR op_eq (pe_op op_mod (pe_op op_fdiv (pv 3) pe_int) pe_int) pe_int (nomark _)) (pss_one (ps_set (i := 6) scRows.nd rfl (Or.inl rfl) (pe_op op_sub (pe_callB call_len_seq rfl G.len PySem.boot_len (pa_cons (pv 1) pa_nil)) pe_int))) pss_nil))) pss_nil))
    (pss_one (ps_expr (pe_bm PySem.F.plainAttrs_list PySem.F.slot_list_append PySem.F.type_list_append mt_append (pv 1) (pa_cons ((pe_tup (pa_cons (pv 4) (pa_cons (pv 5) (pa_cons (pv 6) (pa_cons (pe_op op_mod (pe_op op_mul (pv 3) pe_int) pe_int) pa_nil)))))) pa_nil))))))))))))
    (pss_one (ps_ret (pv 1))))), ?_⟩
  refine ⟨(by show 0 ≤ sizeLine; decide), fun l hl => ?_⟩
  have hS1 : SqL K (upd H l (.lst [])) a (ns.map V.int) := (same_new hl _).seq hS
  refine ⟨_, rfl, a, rfl, ⟨_, hS1⟩, ?_⟩
  refine for_list (xs := ns.map V.int) (fun i σ H' => ∃ (R : List Row) (c2 c3 c4 c5 c6 : Option V), σ = [some (.ref a), some (.ref l), c2, c3, c4, c5, c6] ∧ Same H H' ∧ H' l = some (.lst (R.map fun r => V.ref r.ad)) ∧ R.length = i ∧ RAt K H' R ∧ ROk R)
    ⟨[], none, none, none, none, none, rfl, same_new hl _, upd_same, rfl, fun r hr => (nomatch hr), fun k r e => by simp at e⟩ ?_ ?_ ?_
  · rintro i σ H' _ ⟨R, c2, c3, c4, c5, c6, _, hs, _⟩
    exact hs.seq hS
  · rintro i x σ H' hx ⟨R, c2, c3, c4, c5, c6, rfl, hs, hl', hRn, hR, hO⟩
    have hi : i < 36 := by
      have := (List.getElem?_eq_some_iff.mp hx).1
      rw [List.length_map] at this; omega
    obtain ⟨c, rfl⟩ : ∃ n : Int, x = .int n := by
      rw [List.getElem?_map] at hx
      cases e : ns[i]? with
      | none => rw [e] at hx; cases hx
      | some n => rw [e] at hx; exact ⟨n, (Option.some.inj hx).symm⟩
    have hrl : (R.map fun r => V.ref r.ad).length = i := by rw [List.length_map]; exact hRn
    refine ⟨_, rfl, _, _, rfl, rfl, ⟨by decide, by decide, by decide⟩, _, _, rfl, rfl, (by show (0 : Int) < 10 ^ 64; decide), ?_⟩
    dsimp only
    have n0 : 0 ≤ c % 10 ^ Int.toNat 64 := Int.emod_nonneg _ (by decide)
    generalize hn : c % 10 ^ Int.toNat 64 = n at n0
    refine ⟨_, rfl, _, _, rfl, rfl, .inr ⟨by decide, by decide⟩, _, _, rfl, rfl, (by show (0 : Int) < 2147483647; decide), _, rfl, fun z hz1 hz2 hz3 => ?_⟩
    refine ⟨_, rfl, _, _, rfl, rfl, .inr ⟨by decide, by decide⟩, _, _, rfl, rfl, ⟨by decide, by decide, by decide⟩, _, _, rfl, rfl, .inl ⟨by decide, by decide⟩, _, _, rfl, rfl, _, _, rfl, rfl, (by show (0 : Int) < 2 * 10 ^ 60 - 1; decide), _, _, rfl, rfl, ⟨by decide, by decide, by decide⟩, _, _, rfl, rfl, _, _, rfl, rfl, ?_⟩
    dsimp only
    have mk0 : (n * 69621 % (2 * 10 ^ Int.toNat 60 - 1) - 10 ^ Int.toNat 60 + 1).natAbs < 10 ^ 60 := by
      have a0 : 0 ≤ n * 69621 % (2 * 10 ^ 60 - 1) := Int.emod_nonneg _ (by decide)
      have a1 : n * 69621 % (2 * 10 ^ 60 - 1) < 2 * 10 ^ 60 - 1 := Int.emod_lt_of_pos _ (by decide)
      show (n * 69621 % (2 * 10 ^ 60 - 1) - 10 ^ 60 + 1).natAbs < 10 ^ 60
      omega
    generalize n * 69621 % (2 * 10 ^ Int.toNat 60 - 1) - 10 ^ Int.toNat 60 + 1 = mk at mk0
    refine ⟨fun σ' H3 => ∃ mk : Int, σ' = [some (.ref a), some (.ref l), some (.int c), some (.int n), some (.str (S z)), some (.int mk), c6] ∧ H' = H3 ∧ mk.natAbs < 10 ^ 60, ?_, ?_⟩
    · refine ⟨_, rfl, _, _, rfl, rfl, ⟨by decide, by decide⟩, _, _, rfl, rfl, (by show (0 : Int) < 4; decide), rfl, _, rfl, ite2 (fun _ => ⟨0, rfl, rfl, by decide⟩) (fun _ => ⟨mk, rfl, rfl, mk0⟩)⟩
    rintro σ' _ ⟨mk1, rfl, rfl, mk1b⟩
    refine ⟨fun σ' H3 => ∃ mk : Int, σ' = [some (.ref a), some (.ref l), some (.int c), some (.int n), some (.str (S z)), some (.int mk), c6] ∧ H' = H3 ∧ mk.natAbs < 10 ^ 60, ?_, ?_⟩
    · refine ⟨_, rfl, _, _, rfl, rfl, ⟨by decide, by decide⟩, _, _, rfl, rfl, (by show (0 : Int) < 4; decide), rfl, _, rfl, ite2 (fun _ => ?_) (fun _ => ⟨mk1, rfl, rfl, mk1b⟩)⟩
      refine ⟨_, rfl, _, _, rfl, rfl, ⟨by decide, by decide⟩, _, _, rfl, rfl, (by show (0 : Int) < 19; decide), _, _, rfl, rfl, _, rfl, rfl, ?_⟩
      have a0 : 0 ≤ n / 12 % 19 := Int.emod_nonneg _ (by decide)
      have a1 : n / 12 % 19 < 19 := Int.emod_lt_of_pos _ (by decide)
      have : (n / 12 % 19 - 9).natAbs < 20 := by omega
      exact Nat.lt_of_lt_of_le this (by decide)
    rintro σ' _ ⟨mk2, rfl, rfl, mk2b⟩
    refine ⟨fun σ' H3 => ∃ u : Nat, σ' = [some (.ref a), some (.ref l), some (.int c), some (.int n), some (.str (S z)), some (.int mk2), some (.int (u : Int))] ∧ H' = H3 ∧ (u < i ∨ i = 0 ∧ u = 0), ?_, ?_⟩
    · refine ⟨_, rfl, l, _, rfl, .inl (SqL.of hl'), _, _, rfl, rfl, _, rfl, ite2 (fun g => ?_) (fun g => ?_)⟩
      · have g' : (0 : Int) < (((R.map fun r => V.ref r.ad).length : Nat) : Int) := of_decide_eq_true g
        rw [hrl] at g'
        have hip : 0 < i := by omega
        refine ⟨_, rfl, _, rfl, l, _, rfl, .inl (SqL.of hl'), _, _, rfl, rfl, (by rw [hrl]; exact g'), ?_⟩
        dsimp only
        rw [hrl]
        have m0 : 0 ≤ n % ((i : Nat) : Int) := Int.emod_nonneg _ (by omega)
        have m1 : n % ((i : Nat) : Int) < ((i : Nat) : Int) := Int.emod_lt_of_pos _ (by omega)
        refine ⟨_, rfl, _, _, rfl, rfl, ⟨by decide, by decide⟩, _, _, rfl, rfl, (by show (0 : Int) < 3; decide), rfl, _, rfl, ite2 (fun _ => ?_) (fun _ => ?_)⟩
        · refine ⟨_, rfl, l, _, rfl, .inl (SqL.of hl'), _, _, rfl, rfl, ?_⟩
          refine ⟨i - 1, ?_, rfl, .inl (by omega)⟩
          dsimp only
          rw [hrl, show ((i : Nat) : Int) - 1 = ((i - 1 : Nat) : Int) by omega]; rfl
        · refine ⟨(n % ((i : Nat) : Int)).toNat, ?_, rfl, .inl (by omega)⟩
          have e : (((n % ((i : Nat) : Int)).toNat : Nat) : Int) = n % ((i : Nat) : Int) := by omega
          rw [e]; rfl
      · have g' : ¬ (0 : Int) < (((R.map fun r => V.ref r.ad).length : Nat) : Int) := fun z => g (decide_eq_true z)
        rw [hrl] at g'
        exact ⟨0, rfl, rfl, .inr ⟨by omega, rfl⟩⟩
    rintro σ' _ ⟨u, rfl, rfl, hu⟩
    refine ⟨_, rfl, .inl ⟨rfl, _, SqL.of hl'⟩, _, rfl, _, rfl, _, rfl, _, rfl, _, _, rfl, rfl, .inr ⟨by decide, by decide⟩, _, _, rfl, rfl, (by show (0 : Int) < 2147483399; decide), (by show 4 ≤ sizeLine; decide), ?_⟩
    intro ra hp_; generalize hX_ : upd _ ra _ = H3; have s3 := sT hp_ hX_; have f3 := fT (K := K) hX_; clear hX_ hp_
    have hl3 := s3 _ _ hl'
    refine ⟨l, _, _, rfl, rfl, hl3, Nat.lt_of_lt_of_le (show _ < 36 by rw [hrl]; exact hi) (by decide), ?_⟩
    refine ⟨R ++ [⟨ra, z, mk2, u, n * 40692 % 2147483399⟩], _, _, _, _, _, rfl, fun b o e => ?_, ?_, by rw [List.length_append, hRn]; rfl, fun r hr => ?_, fun k r e => ?_⟩
    · rw [upd_ne (ne_of_none e hl)]; exact s3 _ _ (hs _ _ e)
    · rw [upd_same, List.map_append]; rfl
    · rcases List.mem_append.mp hr with hr | hr
      · exact (s3.seqT (hR r hr)).put hl3
      · have : r = ⟨ra, z, mk2, u, n * 40692 % 2147483399⟩ := by simpa using hr
        subst this
        exact f3.put hl3
    · rcases Nat.lt_or_ge k R.length with h | h
      · rw [List.getElem?_append_left h] at e; exact hO k r e
      · rw [List.getElem?_append_right h] at e
        have hk : k - R.length = 0 := by
          have := (List.getElem?_eq_some_iff.mp e).1
          simp at this; omega
        rw [hk] at e
        have : r = ⟨ra, z, mk2, u, n * 40692 % 2147483399⟩ := (Option.some.inj e).symm
        subst this
        have ek : k = i := by omega
        subst ek
        exact ⟨⟨hz1, hz2, hz3⟩, mk2b, hu, Int.emod_nonneg _ (by decide)⟩
  · rintro σ H' ⟨R, c2, c3, c4, c5, c6, rfl, hs, hl', hRn, hR, hO⟩
    rw [List.length_map] at hRn
    exact ⟨_, rfl, q l R H' hs hl hl' hR hRn hO⟩
end
end K5
namespace K5
open PySem L2 K3 TM
abbrev TY := Tree Str × List Nat
theorem twl_of (g : TY → List Nat) : ∀ l : List TY, (∀ p ∈ l, ∃ a, TW p.1 (g p) a) → ∃ us, TWL (l.map (·.1)) (l.map g) us
  | [], _ => ⟨[], .nil⟩
  | p :: r, h => by
    obtain ⟨a, ha⟩ := h p List.mem_cons_self
    obtain ⟨us, hu⟩ := twl_of g r fun q hq => h q (List.mem_cons_of_mem _ hq)
    exact ⟨a ++ us, .cons ha hu⟩
theorem gl_up {sep : List Nat} (hs : sep.length ≤ 3) (g : TY → List Nat) : ∀ l : List TY, (∀ p ∈ l, (g p).length + 3 ≤ 100 * sz p.1) → (gl sep (l.map g)).length ≤ 100 * szs (l.map (·.1)) := by
  have fl : ∀ l : List TY, (∀ p ∈ l, (g p).length + 3 ≤ 100 * sz p.1) → ((l.map g).flatMap fun y => sep ++ y).length ≤ 100 * szs (l.map (·.1)) := fun l => by
    induction l with
    | nil => intro _; simp
    | cons p r ih =>
      intro h
      have h1 := h p List.mem_cons_self
      have h2 := ih fun q hq => h q (List.mem_cons_of_mem _ hq)
      simp only [List.map_cons, List.flatMap_cons, List.length_append, szs]
      omega
  intro l h
  cases l with
  | nil => simp [gl]
  | cons p r =>
    have h1 := h p List.mem_cons_self
    have h2 := fl r fun q hq => h q (List.mem_cons_of_mem _ hq)
    simp only [gl, List.map_cons, List.length_append, szs]
    omega
theorem shT_node (w : List Nat) (m : Int) (ts : List (Tree Str)) : shT (.node (S w) m ts) = w ++ shM m ++ shB (ts.map shT) := by
  rw [shT, shTs_map, S_list]
theorem mbTs_of : ∀ ts : List (Tree Str), (∀ t ∈ ts, mbT t) → mbTs ts
  | [], _ => by rw [mbTs]; trivial
  | t :: r, h => by rw [mbTs]; exact ⟨h t List.mem_cons_self, mbTs_of r fun u hu => h u (List.mem_cons_of_mem _ hu)⟩
theorem let_low : ∀ c ∈ letL, c < 128 := by decide
theorem sh_low {m : Int} (h : m.natAbs < 10 ^ 60) : ∀ c ∈ sh m, c < 128 := (sh_word h).low
theorem gl_low : ∀ (xs : List (List Nat)), (∀ x ∈ xs, ∀ c ∈ x, c < 128) → ∀ c ∈ gl [32] xs, c < 128 := by
  intro xs h c hc
  cases xs with
  | nil => cases hc
  | cons x r =>
    rcases List.mem_append.mp hc with hc | hc
    · exact h x List.mem_cons_self c hc
    · obtain ⟨y, hy, hcy⟩ := List.mem_flatMap.mp hc
      rcases List.mem_append.mp hcy with z | z
      · have : c = 32 := by simpa using z
        omega
      · exact h y (List.mem_cons_of_mem _ hy) c z
theorem GT.of {w : List Nat} {m : Int} {mt bt : List Nat} {ms : List (List Nat)} {l : List TY} (hw : Nm w) (hm : m.natAbs < 10 ^ 60) (hl : ∀ p ∈ l, GT p.1 p.2) (hn : l.length ≤ 1000) (h1 : MkW m mt ms) (h2 : BrW (l.map (·.1)) (l.map (·.2)) bt) (b1 : mt.length ≤ 63) (b2 : bt.length ≤ 5 + 100 * szs (l.map (·.1))) : GT (.node (S w) m (l.map (·.1))) (w ++ (mt ++ bt)) := by
  have hlen : (l.map (·.1)).length ≤ 1000 := by rw [List.length_map]; exact hn
  have hs := sh_len hm
  have h8 := hw.len
  refine ⟨?_, ?_, ?_, ?_, ?_, ?_⟩
  · obtain ⟨us, hu⟩ := twl_of (fun p => shT p.1) l fun p hp => (hl p hp).sh
    rw [shT_node]
    have e : l.map (fun p => shT p.1) = (l.map (·.1)).map shT := by rw [List.map_map]; rfl
    rw [e] at hu
    have hM : MkW m (shM m) (if m = 0 then [] else [K3.sh m]) := by
      unfold shM
      by_cases c : m = 0
      · rw [if_pos c, if_pos c]; exact .inr ⟨c, rfl, rfl⟩
      · rw [if_neg c, if_neg c]; exact .inl ⟨0, rfl, rfl⟩
    have hB : BrW (l.map (·.1)) ((l.map (·.1)).map shT) (shB ((l.map (·.1)).map shT)) := by
      cases l with
      | nil => exact rfl
      | cons p r => exact ⟨0, 0, 0, 0, by simp [shB]⟩
    have := TW.mk hw hm hM hu hlen hB
    rw [List.append_assoc]
    exact ⟨_, this⟩
  · obtain ⟨us, hu⟩ := twl_of (fun p => p.2) l fun p hp => (hl p hp).wi
    exact ⟨_, TW.mk hw hm h1 hu hlen h2⟩
  · rw [mbT]
    refine ⟨hm, mbTs_of _ fun t ht => ?_⟩
    obtain ⟨p, hp, rfl⟩ := List.mem_map.mp ht
    exact (hl p hp).mb
  · rw [shT_node, sz]
    have e : (l.map (·.1)).map shT = l.map fun p => shT p.1 := by rw [List.map_map]; rfl
    have g := gl_up (sep := [32]) (by decide) (fun p => shT p.1) l fun p hp => (hl p hp).l1
    have b : (shB ((l.map (·.1)).map shT)).length ≤ 2 + 100 * szs (l.map (·.1)) := by
      rw [e]
      cases l with
      | nil => simp [shB]
      | cons p r =>
        have e2 : (shB ((p :: r).map fun p => shT p.1)).length = (gl [32] ((p :: r).map fun p => shT p.1)).length + 2 := by simp [shB]
        rw [e2]; omega
    have c : (shM m).length ≤ 61 := by
      unfold shM
      split
      · simp
      · exact hs
    simp only [List.length_append]
    omega
  · rw [sz]
    simp only [List.length_append]
    omega
  · rw [shT_node]
    intro c hc
    rcases List.mem_append.mp hc with hc | hc
    · rcases List.mem_append.mp hc with hc | hc
      · exact let_low c (hw.all c hc)
      · unfold shM at hc
        split at hc
        · cases hc
        · exact sh_low hm c hc
    · cases l with
      | nil => cases hc
      | cons p r =>
        have hc' : c ∈ [40] ++ gl [32] (((p :: r).map (·.1)).map shT) ++ [41] := hc
        rcases List.mem_append.mp hc' with hc | hc
        · rcases List.mem_append.mp hc with hc | hc
          · have : c = 40 := by simpa using hc
            omega
          · refine gl_low _ (fun x hx => ?_) c hc
            obtain ⟨t, ht, rfl⟩ := List.mem_map.mp hx
            obtain ⟨q, hq, rfl⟩ := List.mem_map.mp ht
            exact (hl q hq).lo
        · have : c = 41 := by simpa using hc
          omega
structure L3 (K : PySem.W.Frag) (H : Hp) (n : Nat) (lb ll lt : Addr) (ba la ta : List Addr) (Db Dl : Nat → List (List Nat)) (Dt : Nat → List (Tree Str)) : Prop where
  hb : H lb = some (.lst (ba.map V.ref))
  hl : H ll = some (.lst (la.map V.ref))
  ht : H lt = some (.lst (ta.map V.ref))
  at' : ∀ j, j < n → ∃ b l t vs, ba[j]? = some b ∧ la[j]? = some l ∧ ta[j]? = some t ∧ H b = some (.lst ((Db j).map fun x => V.str (S x))) ∧ H l = some (.lst ((Dl j).map fun x => V.str (S x))) ∧ H t = some (.lst vs) ∧ TrAll K H vs (Dt j)
structure Dj (H0 : Hp) (lb ll lt : Addr) (ba la ta : List Addr) : Prop where
  nb : ba.Nodup
  nl : la.Nodup
  nt : ta.Nodup
  bl : ∀ x ∈ ba, x ∉ la
  bt : ∀ x ∈ ba, x ∉ ta
  lt2 : ∀ x ∈ la, x ∉ ta
  o : ∀ x, x ∈ ba ∨ x ∈ la ∨ x ∈ ta → x ≠ lb ∧ x ≠ ll ∧ x ≠ lt ∧ H0 x = none
section
variable {K : PySem.W.Frag} {H H' H0 : Hp} {n : Nat} {lb ll lt : Addr} {ba la ta : List Addr} {Db Dl : Nat → List (List Nat)} {Dt : Nat → List (Tree Str)}
theorem L3.same (g : Same H H') (h : L3 K H n lb ll lt ba la ta Db Dl Dt) : L3 K H' n lb ll lt ba la ta Db Dl Dt :=
  ⟨g _ _ h.hb, g _ _ h.hl, g _ _ h.ht, fun j hj => by
    obtain ⟨b, l, t, vs, h1, h2, h3, h4, h5, h6, h7⟩ := h.at' j hj
    exact ⟨b, l, t, vs, h1, h2, h3, g _ _ h4, g _ _ h5, g _ _ h6, TrAll.mono (fun _ _ q => g.seqT q) h7⟩⟩
theorem at_inj {l : List Addr} (hn : l.Nodup) {i j : Nat} {x : Addr} (h1 : l[i]? = some x) (h2 : l[j]? = some x) : i = j := by
  obtain ⟨a1, e1⟩ := List.getElem?_eq_some_iff.mp h1
  obtain ⟨a2, e2⟩ := List.getElem?_eq_some_iff.mp h2
  exact (List.getElem_inj hn).mp (e1.trans e2.symm)
theorem L3.putB (d : Dj H0 lb ll lt ba la ta) (h : L3 K H n lb ll lt ba la ta Db Dl Dt) {u : Nat} {b : Addr} (x : List Nat) (hb : ba[u]? = some b) (hu : u < n) : L3 K (upd H b (.lst (V.str (S x) :: (Db u).map fun x => V.str (S x)))) n lb ll lt ba la ta (fun j => if j = u then x :: Db j else Db j) Dl Dt := by
  have hbm := List.mem_of_getElem? hb
  obtain ⟨n1, n2, n3, _⟩ := d.o b (.inl hbm)
  refine ⟨by rw [upd_ne n1.symm]; exact h.hb, by rw [upd_ne n2.symm]; exact h.hl, by rw [upd_ne n3.symm]; exact h.ht, fun j hj => ?_⟩
  obtain ⟨b0, l, t, vs, h1, h2, h3, h4, h5, h6, h7⟩ := h.at' j hj
  have nl : l ≠ b := fun z => d.bl b hbm (z ▸ List.mem_of_getElem? h2)
  have nt : t ≠ b := fun z => d.bt b hbm (z ▸ List.mem_of_getElem? h3)
  obtain ⟨bu, _, _, _, g1, _, _, g4, _⟩ := h.at' u hu
  obtain rfl : bu = b := Option.some.inj (g1.symm.trans hb)
  refine ⟨b0, l, t, vs, h1, h2, h3, ?_, by rw [upd_ne nl]; exact h5, by rw [upd_ne nt]; exact h6, TrAll.mono (fun _ _ q => q.put g4) h7⟩
  by_cases e : j = u
  · subst e
    obtain rfl : b0 = bu := Option.some.inj (h1.symm.trans hb)
    rw [upd_same, if_pos rfl]; rfl
  · have : b0 ≠ bu := fun z => e (at_inj d.nb (z ▸ h1) hb)
    rw [upd_ne this, if_neg e]; exact h4
theorem L3.putL (d : Dj H0 lb ll lt ba la ta) (h : L3 K H n lb ll lt ba la ta Db Dl Dt) {u : Nat} {b : Addr} (x : List Nat) (hb : la[u]? = some b) (hu : u < n) : L3 K (upd H b (.lst (V.str (S x) :: (Dl u).map fun x => V.str (S x)))) n lb ll lt ba la ta Db (fun j => if j = u then x :: Dl j else Dl j) Dt := by
  have hbm := List.mem_of_getElem? hb
  obtain ⟨n1, n2, n3, _⟩ := d.o b (.inr (.inl hbm))
  refine ⟨by rw [upd_ne n1.symm]; exact h.hb, by rw [upd_ne n2.symm]; exact h.hl, by rw [upd_ne n3.symm]; exact h.ht, fun j hj => ?_⟩
  obtain ⟨b0, l, t, vs, h1, h2, h3, h4, h5, h6, h7⟩ := h.at' j hj
  have nb : b0 ≠ b := fun z => d.bl b0 (List.mem_of_getElem? h1) (z ▸ hbm)
  have nt : t ≠ b := fun z => d.lt2 b hbm (z ▸ List.mem_of_getElem? h3)
  obtain ⟨_, bu, _, _, _, g1, _, _, g4, _⟩ := h.at' u hu
  obtain rfl : bu = b := Option.some.inj (g1.symm.trans hb)
  refine ⟨b0, l, t, vs, h1, h2, h3, by rw [upd_ne nb]; exact h4, ?_, by rw [upd_ne nt]; exact h6, TrAll.mono (fun _ _ q => q.put g4) h7⟩
  by_cases e : j = u
  · subst e
    obtain rfl : l = bu := Option.some.inj (h2.symm.trans hb)
    rw [upd_same, if_pos rfl]; rfl
  · have : l ≠ bu := fun z => e (at_inj d.nl (z ▸ h2) hb)
    rw [upd_ne this, if_neg e]; exact h5
theorem L3.putT (d : Dj H0 lb ll lt ba la ta) (h : L3 K H n lb ll lt ba la ta Db Dl Dt) {u : Nat} {b : Addr} {v : V} {t0 : Tree Str} {ws : List V} (hv : TrV K H v t0) (hb : ta[u]? = some b) (hw : H b = some (.lst ws)) (hu : u < n) : L3 K (upd H b (.lst (v :: ws))) n lb ll lt ba la ta Db Dl (fun j => if j = u then t0 :: Dt j else Dt j) := by
  have hbm := List.mem_of_getElem? hb
  obtain ⟨n1, n2, n3, _⟩ := d.o b (.inr (.inr hbm))
  refine ⟨by rw [upd_ne n1.symm]; exact h.hb, by rw [upd_ne n2.symm]; exact h.hl, by rw [upd_ne n3.symm]; exact h.ht, fun j hj => ?_⟩
  obtain ⟨b0, l, t, vs, h1, h2, h3, h4, h5, h6, h7⟩ := h.at' j hj
  have nb : b0 ≠ b := fun z => d.bt b0 (List.mem_of_getElem? h1) (z ▸ hbm)
  have nl : l ≠ b := fun z => d.lt2 l (List.mem_of_getElem? h2) (z ▸ hbm)
  by_cases e : j = u
  · subst e
    obtain rfl : t = b := Option.some.inj (h3.symm.trans hb)
    obtain rfl : vs = ws := by rw [hw] at h6; injection h6 with h6; injection h6 with h6; exact h6.symm
    exact ⟨b0, l, t, v :: vs, h1, h2, h3, by rw [upd_ne nb]; exact h4, by rw [upd_ne nl]; exact h5, upd_same, by rw [if_pos rfl]; exact .cons (TrV.mono (fun _ _ q => q.put hw) hv) (TrAll.mono (fun _ _ q => q.put hw) h7)⟩
  · have : t ≠ b := fun z => e (at_inj d.nt (z ▸ h3) hb)
    exact ⟨b0, l, t, vs, h1, h2, h3, by rw [upd_ne nb]; exact h4, by rw [upd_ne nl]; exact h5, by rw [upd_ne this]; exact h6, by rw [if_neg e]; exact TrAll.mono (fun _ _ q => q.put hw) h7⟩
end
def szD (l : List TY) : Nat := szs (l.map (·.1))
def tot (D : Nat → List TY) : Nat → Nat
  | 0 => 0
  | k + 1 => tot D k + szD (D k)
theorem tot_put {D : Nat → List TY} {u : Nat} {p : TY} : ∀ k : Nat, tot (fun j => if j = u then p :: D j else D j) k = tot D k + if u < k then sz p.1 else 0
  | 0 => by simp [tot]
  | k + 1 => by
    have ih := tot_put (D := D) (u := u) (p := p) k
    rw [tot, tot, ih]
    by_cases e : k = u
    · subst e
      rw [if_pos rfl, if_neg (Nat.lt_irrefl _), if_pos (Nat.lt_succ_self _)]
      simp only [szD, List.map_cons, szs]; omega
    · rw [if_neg e]
      by_cases h : u < k
      · rw [if_pos h, if_pos (by omega)]; omega
      · rw [if_neg h, if_neg (by omega)]; omega
theorem szD_le {D : Nat → List TY} : ∀ {k n : Nat}, k < n → szD (D k) ≤ tot D n
  | k, n + 1, h => by
    rw [tot]
    by_cases e : k = n
    · subst e; omega
    · have := szD_le (D := D) (k := k) (n := n) (by omega); omega
theorem len_szs : ∀ ts : List (Tree Str), ts.length ≤ szs ts
  | [] => Nat.le_refl _
  | t :: r => by
    have := len_szs r
    cases t with
    | node n m bs => simp only [szs, sz, List.length_cons]; omega
theorem lv_sz : ∀ (n : Nat) (t : Tree Str), sz t ≤ n → lv t ≤ sz t
  | 0, t, h => by cases t with | node n m ts => rw [sz] at h; omega
  | n + 1, t, h => by
    cases t with
    | node a m ts =>
      rw [sz] at h
      rw [sz, lv]
      have : ∀ us : List (Tree Str), (∀ u ∈ us, u ∈ ts) → lvs us ≤ szs us := fun us => by
        induction us with
        | nil => intro _; simp [lvs, szs]
        | cons u r ih =>
          intro hu
          have h1 := lv_sz n u (by have := sz_le (hu u List.mem_cons_self); omega)
          have h2 := ih fun v hv => hu v (List.mem_cons_of_mem _ hv)
          simp only [lvs, szs]; omega
      have := this ts fun u hu => hu
      omega
theorem cut_to {z : List Nat} {e : Nat} (h : e ≤ z.length) : cutS (S z) none (some (e : Int)) = S (z.take e) := by
  unfold cutS
  rw [HT.sIx_nat, HT.sIx_none, S_list, S_len, Nat.min_eq_left h]
  rfl
theorem bl_take {i n : Nat} (h : i ≤ n) : (bl n).take i = bl i := by
  rw [List.take_replicate, Nat.min_eq_left h]
theorem ok_low {u : List Nat} (h : ∀ c ∈ u, c < 128) : PyData.strOk (S u) = true := by
  unfold PyData.strOk
  rw [Array.all_eq_true_iff_forall_mem]
  intro c hc
  have : c ∈ u := by simpa [S] using hc
  have := h c this
  simp; omega
end K5
namespace K5
open PySem L2 K3 TM
def spTexts (K : PySem.W.Frag) : Sp := fun vs H Q _ => ∃ (l : Addr) (R : List Row), vs = [.ref l] ∧ H l = some (.lst (R.map fun r => V.ref r.ad)) ∧ RAt K H R ∧ ROk R ∧ 0 < R.length ∧ R.length ≤ 36 ∧
  ∀ (p : Addr) (v : V) (t : Tree Str) (y : List Nat) (H' : Hp), Same H H' → SqT K H' p [v, .str (S (shT t)), .str (S y)] → TrV K H' v t → GT t y → sz t ≤ 36 → Q (.ref p) H'
theorem rd_txt {K : PySem.W.Frag} {H : Hp} : ∀ xs : List (List Nat), RdAll K H (xs.map fun x => V.str (S x)) (xs.map fun x => PyData.str (S x))
  | [] => .nil
  | x :: r => .cons (.str _) (rd_txt r)
theorem lay_txt : ∀ xs : List (List Nat), (∀ x ∈ xs, ∀ c ∈ x, c < 128) → PyData.canLayAll0 (xs.map fun x => PyData.str (S x)) = true
  | [], _ => rfl
  | x :: r, h => by
    have h1 := ok_low (h x List.mem_cons_self)
    simp only [List.map_cons, PyData.canLayAll0, PyData.canLay0, h1, lay_txt r fun y hy => h y (List.mem_cons_of_mem _ hy), Bool.and_self]
theorem eqv_lnil (ds : List PyData) : PyData.eqv (.list ds) (.list []) = ds.isEmpty := by
  cases ds with
  | nil => simp [PyData.eqv, PyData.eqvAll]
  | cons d r => simp [PyData.eqv, PyData.eqvAll]
theorem e_b1 : Str.ofString " " = S (bl 1) := by decide +kernel
theorem e_b2 : Str.ofString "  " = S (bl 2) := by decide +kernel
theorem e_b3 : Str.ofString "   " = S (bl 3) := by decide +kernel
theorem e_op : Str.ofString "(" = S [40] := by decide +kernel
theorem e_cl : Str.ofString ")" = S [41] := by decide +kernel
structure New (H H' : Hp) (l : Addr) (n : Nat) (ba : List Addr) : Prop where
  hl : H' l = some (.lst (ba.map V.ref))
  len : ba.length = n
  nd : ba.Nodup
  all : ∀ b ∈ ba, H' b = some (.lst []) ∧ H b = none ∧ b ≠ l
  nl : H l = none
  sm : Same H H'
section
variable {P : Program} {w : World} {K : PySem.W.Frag} {mg : Str → Option Value} {base : Heap} {f : Addr} {fd : FuncData}
theorem scTexts : FnScope ["_law_rows_here", "_law_below", "_law_loose", "_law_trees", "_law_k", "_law_name", "_law_mark", "_law_up", "_law_number", "_law_shown", "_law_wide", "_law_gap", "_law_tree"] ["_law_rows_here"] (defScope sTexts) := ⟨rfl, rfl, rfl, by decide +kernel, rfl, by decide +kernel, by decide +kernel⟩
theorem ok_texts (F : Fun K "_law_texts" "_law_texts" sTexts f fd) (G : Gm mg) : FnOk P w K mg base CX0 1 f fd ["_law_rows_here"] (spTexts K) := by
  refine F.ok scTexts (fun vs H Q E h => ?_) (fun cdv A outer s H vs Q E hr h => ?_)
  · obtain ⟨l, R, rfl, _⟩ := h
    rfl
  obtain ⟨l, R, rfl, hl, hR, hO, hpos, h36, q⟩ := h
  have room : ∀ m : Nat, m ≤ 64 → (A.deeper (PyProof.Rows.envOfC "_law_texts" (defScope sTexts) s.heap.objs.size f cdv)).units + m < cLine := fun m hm => by have := hr.units; omega
  refine ⟨_, (pss_cons (ps_setC (i := 1) (CompOk.plain rfl (by decide +kernel) (by decide +kernel) (by decide +kernel)) rfl (pi_list (pv 0)) (fun _ _ _ _ => pf_nil) (fun _ _ _ _ => pe_lst pa_nil) scTexts.nd rfl rfl)
    (pss_cons (ps_setC (i := 2) (CompOk.plain rfl (by decide +kernel) (by decide +kernel) (by decide +kernel)) rfl (pi_list (pv 0)) (fun _ _ _ _ => pf_nil) (fun _ _ _ _ => pe_lst pa_nil) scTexts.nd rfl rfl)
    (pss_cons (ps_setC (i := 3) (CompOk.plain rfl (by decide +kernel) (by decide +kernel) (by decide +kernel)) rfl (pi_list (pv 0)) (fun _ _ _ _ => pf_nil) (fun _ _ _ _ => pe_lst pa_nil) scTexts.nd rfl rfl)
    (pss_cons (ps_for PassesOwn.never rfl (pi_rangeD rfl G.rng (pa_cons (pe_op op_sub (pe_callB call_len_seq rfl G.len PySem.boot_len (pa_cons (pv 0) pa_nil)) pe_int) (pa_cons (pe_un un_neg pe_int) (pa_cons (pe_un un_neg pe_int) pa_nil)))) (pg_name (i := 4) scTexts.nd rfl (Or.inl rfl)) (pss_cons (ps_asg (pe_ix ix_list (pv 0) (pv 4) (fun _ _ => rfl)) (pg_tup rfl (pgs_cons (pg_name (i := 5) scTexts.nd rfl (Or.inl rfl)) (pgs_cons (pg_name (i := 6) scTexts.nd rfl (Or.inl rfl)) (pgs_cons (pg_name (i := 7) scTexts.nd rfl (Or.inl rfl)) (pgs_cons (pg_name (i := 8) scTexts.nd rfl (Or.inl rfl)) pgs_nil))))))
    (pss_cons (ps_set (i := 9) scTexts.nd rfl (Or.inl rfl) (pv 5))
    (pss_cons (ps_set (i := 10) scTexts.nd rfl (Or.inl rfl) (pe_op op_add_str (pe_op op_add_str (pv 5) (pe_slice sl_str pe_str po_none (po_some (pe_op op_mod (pv 8) pe_int)))) (pe_callTy call_str_int rfl G.str PyProof.Rows.boot_str (pa_cons (pv 6) pa_nil))))
    (pss_cons (ps_cut (ps_if (pt_cmpR op_ne (pv 6) pe_int (nomark _)) (pss_one (ps_set (i := 9) scTexts.nd rfl (Or.inl rfl) (pe_op op_add_str (pv 9) (pe_callTy call_str_int rfl G.str PyProof.Rows.boot_str (pa_cons (pv 6) pa_nil))))) (pss_one (ps_if (pt_cmpR op_eq (pe_op op_mod (pe_op op_fdiv (pv 8) pe_int) pe_int) pe_int (nomark _)) (pss_one (ps_set (i := 10) scTexts.nd rfl (Or.inl rfl) (pv 5))) pss_nil))))
    (pss_cons (ps_cut (ps_if (pt_cmpR op_neD (pe_ix ix_list (pv 1) (pv 4) (fun _ _ => rfl)) (pe_lst pa_nil) (nomark _)) (pss_cons (ps_set (i := 9) scTexts.nd rfl (Or.inl rfl) (pe_op op_add_str (pe_op op_add_str (pe_op op_add_str (pv 9) pe_str) (pe_bm PySem.F.plainAttrs_str PySem.F.slot_str_join PySem.F.type_str_join mt_join pe_str (pa_cons (pe_ix ix_list (pv 1) (pv 4) (fun _ _ => rfl)) pa_nil))) pe_str))
    (pss_cons (ps_set (i := 10) scTexts.nd rfl (Or.inl rfl) (pe_op op_add_str (pe_op op_add_str (pe_op op_add_str (pv 10) (pe_slice sl_str pe_str po_none (po_some (pe_op op_mod (pe_op op_fdiv (pv 8) pe_int) pe_int)))) pe_str) (pe_slice sl_str pe_str po_none (po_some (pe_op op_mod (pe_op op_fdiv (pv 8) pe_int) pe_int)))))
    (pss_cons (ps_set (i := 11) scTexts.nd rfl (Or.inl rfl) (pe_slice sl_str pe_str po_none (po_some (pe_op op_add pe_int (pe_op op_mod (pe_op op_fdiv (pv 8) pe_int) pe_int)))))
    (pss_one (ps_set (i := 10) scTexts.nd rfl (Or.inl rfl) (pe_op op_add_str (pe_op op_add_str (pe_op op_add_str (pv 10) (pe_bm PySem.F.plainAttrs_str PySem.F.slot_str_join PySem.F.type_str_join mt_join (pv 11) (pa_cons (pe_ix ix_list (pv 2) (pv 4) (fun _ _ => rfl)) pa_nil))) (pe_slice sl_str pe_str po_none (po_some (pe_op op_mod (pe_op op_fdiv (pv 8) pe_int) pe_int)))) pe_str)))))) pss_nil))
    (pss_cons (ps_expr (pe_bm PySem.F.plainAttrs_list PySem.F.slot_list_insert PySem.F.type_list_insert mt_insert0 (pe_ix ix_list (pv 1) (pv 7) (fun _ _ => rfl)) (pa_cons (pe_int) (pa_cons (pv 9) pa_nil))))
    (pss_cons (ps_expr (pe_bm PySem.F.plainAttrs_list PySem.F.slot_list_insert PySem.F.type_list_insert mt_insert0 (pe_ix ix_list (pv 2) (pv 7) (fun _ _ => rfl)) (pa_cons (pe_int) (pa_cons (pv 10) pa_nil))))
    (pss_cons (ps_set (i := 12) scTexts.nd rfl (Or.inl rfl) (pe_tup (pa_cons (pv 5) (pa_cons (pv 6) (pa_cons (pe_callTy call_tuple_of rfl G.tup PyProof.Rows.boot_tuple (pa_cons (pe_ix ix_list (pv 3) (pv 4) (fun _ _ => rfl)) pa_nil)) pa_nil)))))
    (pss_one (ps_expr (pe_bm PySem.F.plainAttrs_list PySem.F.slot_list_insert PySem.F.type_list_insert mt_insert0 (pe_ix ix_list (pv 3) (pv 7) (fun _ _ => rfl)) (pa_cons (pe_int) (pa_cons (pv 12) pa_nil))))))))))))))
    (pss_one (ps_ret (pe_tup (pa_cons (pv 12) (pa_cons (pv 9) (pa_cons (pv 10) pa_nil)))))))))), ?_⟩
  have mk : ∀ (H0 : Hp) (lx : Addr), H0 lx = none → H0 l = some (.lst (R.map fun r => V.ref r.ad)) → New H0 (upd H0 lx (.lst [])) lx 0 [] := fun H0 lx h0 _ => ⟨upd_same, rfl, List.nodup_nil, fun b hb => (nomatch hb), h0, same_new h0 _⟩
  have step : ∀ {H0 H' : Hp} {lx : Addr} {i : Nat} {ba : List Addr} {p : Addr}, New H0 H' lx i ba → H' p = none → New H0 (upd (upd H' p (.lst [])) lx (.lst (ba.map V.ref ++ [.ref p]))) lx (i + 1) (ba ++ [p]) := fun {H0 H' lx i ba p} N hp => by
    have g1 := same_new hp (.lst [])
    have hpl : p ≠ lx := fun z => by rw [z, N.hl] at hp; cases hp
    refine ⟨by rw [upd_same, List.map_append]; rfl, by simp [N.len], ?_, fun b hb => ?_, N.nl, fun b u e => ?_⟩
    · rw [List.nodup_append]
      refine ⟨N.nd, by simp, fun b hb c hc => ?_⟩
      have : c = p := by simpa using hc
      subst this
      intro z
      subst z
      rw [(N.all b hb).1] at hp; cases hp
    · rcases List.mem_append.mp hb with z | z
      · obtain ⟨z1, z2, z3⟩ := N.all b z
        exact ⟨by rw [upd_ne z3]; exact g1 _ _ z1, z2, z3⟩
      · have : b = p := by simpa using z
        subst this
        exact ⟨by rw [upd_ne hpl, upd_same], N.sm.free hp, hpl⟩
    · rw [upd_ne (ne_of_none e N.nl)]; exact g1 _ _ (N.sm _ _ e)
  refine ⟨_, rfl, l, rfl, ⟨_, SqL.of hl⟩, fun lb hlb => ?_⟩
  refine comp_list (K := K) (xs := R.map fun r => V.ref r.ad) (tt := fun _ H Q => Q true H) (te := tLst tNil) (cs := []) (fun i ys H' => ∃ ba : List Addr, ys = ba.map V.ref ∧ New H H' lb i ba) ⟨[], rfl, mk H lb hlb hl⟩ ?_ ?_ ?_
  · rintro i ys H' _ ⟨ba, _, N⟩
    exact SqL.of (N.sm _ _ hl)
  · rintro i x ys H' hi _ ⟨ba, rfl, N⟩
    refine iteT ⟨(by show 0 ≤ sizeLine; decide), fun p hp => ?_⟩
    have hi' : i < 36 := by rw [List.length_map] at hi; omega
    exact comp_next (ys := ba.map V.ref) hi (same_new hp _ _ _ N.hl) (by rw [List.length_map, N.len]; omega) ⟨ba ++ [p], by simp, step N hp⟩
  rintro ys H1 ⟨ba, rfl, Nb⟩
  rw [List.length_map] at Nb
  have hl1 := Nb.sm _ _ hl
  refine ⟨_, rfl, l, rfl, ⟨_, SqL.of hl1⟩, fun ll hll => ?_⟩
  refine comp_list (K := K) (xs := R.map fun r => V.ref r.ad) (tt := fun _ H Q => Q true H) (te := tLst tNil) (cs := []) (fun i ys H' => ∃ ba : List Addr, ys = ba.map V.ref ∧ New H1 H' ll i ba) ⟨[], rfl, mk H1 ll hll hl1⟩ ?_ ?_ ?_
  · rintro i ys H' _ ⟨ba, _, N⟩
    exact SqL.of (N.sm _ _ hl1)
  · rintro i x ys H' hi _ ⟨ba, rfl, N⟩
    refine iteT ⟨(by show 0 ≤ sizeLine; decide), fun p hp => ?_⟩
    have hi' : i < 36 := by rw [List.length_map] at hi; omega
    exact comp_next (ys := ba.map V.ref) hi (same_new hp _ _ _ N.hl) (by rw [List.length_map, N.len]; omega) ⟨ba ++ [p], by simp, step N hp⟩
  rintro ys H2 ⟨la, rfl, Nl⟩
  rw [List.length_map] at Nl
  have hl2 := Nl.sm _ _ hl1
  refine ⟨_, rfl, l, rfl, ⟨_, SqL.of hl2⟩, fun lt hlt => ?_⟩
  refine comp_list (K := K) (xs := R.map fun r => V.ref r.ad) (tt := fun _ H Q => Q true H) (te := tLst tNil) (cs := []) (fun i ys H' => ∃ ba : List Addr, ys = ba.map V.ref ∧ New H2 H' lt i ba) ⟨[], rfl, mk H2 lt hlt hl2⟩ ?_ ?_ ?_
  · rintro i ys H' _ ⟨ba, _, N⟩
    exact SqL.of (N.sm _ _ hl2)
  · rintro i x ys H' hi _ ⟨ba, rfl, N⟩
    refine iteT ⟨(by show 0 ≤ sizeLine; decide), fun p hp => ?_⟩
    have hi' : i < 36 := by rw [List.length_map] at hi; omega
    exact comp_next (ys := ba.map V.ref) hi (same_new hp _ _ _ N.hl) (by rw [List.length_map, N.len]; omega) ⟨ba ++ [p], by simp, step N hp⟩
  rintro ys H3 ⟨ta, rfl, Nt⟩
  rw [List.length_map] at Nt
  have dj : Dj H lb ll lt ba la ta := by
    have b1 : ∀ x ∈ ba, H1 x = some (.lst []) := fun x hx => (Nb.all x hx).1
    have l2 : ∀ x ∈ la, H2 x = some (.lst []) := fun x hx => (Nl.all x hx).1
    refine ⟨Nb.nd, Nl.nd, Nt.nd, fun x hx z => ?_, fun x hx z => ?_, fun x hx z => ?_, fun x hx => ?_⟩
    · have := (Nl.all x z).2.1; rw [b1 x hx] at this; cases this
    · have := (Nt.all x z).2.1; rw [Nl.sm _ _ (b1 x hx)] at this; cases this
    · have := (Nt.all x z).2.1; rw [l2 x hx] at this; cases this
    · rcases hx with hx | hx | hx
      · refine ⟨(Nb.all x hx).2.2, fun z => ?_, fun z => ?_, (Nb.all x hx).2.1⟩
        · have := b1 x hx; rw [z, hll] at this; cases this
        · have := Nl.sm _ _ (b1 x hx); rw [z, hlt] at this; cases this
      · have h0 := (Nl.all x hx).2.1
        refine ⟨fun z => ?_, (Nl.all x hx).2.2, fun z => ?_, Nb.sm.free h0⟩
        · have := Nb.hl; rw [← z, h0] at this; cases this
        · have := l2 x hx; rw [z, hlt] at this; cases this
      · have h0 := (Nt.all x hx).2.1
        refine ⟨fun z => ?_, fun z => ?_, (Nt.all x hx).2.2, Nb.sm.free (Nl.sm.free h0)⟩
        · have := Nl.sm _ _ Nb.hl; rw [← z, h0] at this; cases this
        · have := Nl.hl; rw [← z, h0] at this; cases this
  have s3 := Nb.sm.trans (Nl.sm.trans Nt.sm)
  have l3 : L3 K H3 R.length lb ll lt ba la ta (fun j => ([] : List TY).map fun p => shT p.1) (fun j => ([] : List TY).map (·.2)) (fun j => ([] : List TY).map (·.1)) := by
    refine ⟨Nt.sm _ _ (Nl.sm _ _ Nb.hl), Nt.sm _ _ Nl.hl, Nt.hl, fun j hj => ?_⟩
    have j1 : j < ba.length := by rw [Nb.len]; exact hj
    have j2 : j < la.length := by rw [Nl.len]; exact hj
    have j3 : j < ta.length := by rw [Nt.len]; exact hj
    exact ⟨ba[j], la[j], ta[j], [], List.getElem?_eq_getElem j1, List.getElem?_eq_getElem j2, List.getElem?_eq_getElem j3, Nt.sm _ _ (Nl.sm _ _ (Nb.all _ (List.getElem_mem j1)).1), Nt.sm _ _ (Nl.all _ (List.getElem_mem j2)).1, (Nt.all _ (List.getElem_mem j3)).1, .nil⟩
  clear Nb Nl Nt hlb hll hlt mk step hl1 hl2
  have hcnt : ((R.length : Int) - 1 - -1).toNat = R.length := by omega
  refine ⟨_, rfl, l, _, rfl, .inl (SqL.of (s3 _ _ hl)), _, _, rfl, rfl, _, rfl, _, rfl, (R.length : Int) - 1, -1, (by rw [List.length_map]), ⟨by omega, by omega, by omega, by omega⟩, ?_⟩
  rw [hcnt]
  refine for_rangeD (hi := (R.length : Int) - 1) (n := R.length) (fun i σ H' => ∃ (D : Nat → List TY) (c4 c5 c6 c7 c8 c9 c10 c11 c12 : Option V), σ = [some (.ref l), some (.ref lb), some (.ref ll), some (.ref lt), c4, c5, c6, c7, c8, c9, c10, c11, c12] ∧ Same H H' ∧ L3 K H' R.length lb ll lt ba la ta (fun j => (D j).map fun p => shT p.1) (fun j => (D j).map (·.2)) (fun j => (D j).map (·.1)) ∧ (∀ j, ∀ p ∈ D j, GT p.1 p.2) ∧ (i < R.length → tot D (R.length - i) = i) ∧ (0 < i → ∃ v t y, c12 = some v ∧ c9 = some (.str (S (shT t))) ∧ c10 = some (.str (S y)) ∧ TrV K H' v t ∧ GT t y ∧ sz t ≤ 36))
    ⟨fun _ => [], none, none, none, none, none, none, none, none, none, rfl, s3, l3, fun j p hp => (nomatch hp), fun _ => ?_, fun z => absurd z (Nat.lt_irrefl _)⟩ ?_ ?_
  · have : ∀ k : Nat, tot (fun _ => ([] : List TY)) k = 0 := fun k => by
      induction k with
      | zero => rfl
      | succ k ih => rw [tot, ih]; rfl
    exact this _
  case refine_3 =>
    rintro σ H' ⟨D, c4, c5, c6, c7, c8, c9, c10, c11, c12, rfl, hs, _, _, _, hlast⟩
    obtain ⟨v, t, y, rfl, rfl, rfl, tv, gt, ht36⟩ := hlast hpos
    refine ⟨_, rfl, _, rfl, _, rfl, (by show 3 ≤ sizeLine; decide), fun p hp => ?_⟩
    have g := same_new hp (.tup [v, .str (S (shT t)), .str (S y)])
    exact q p v t y _ (hs.trans g) (SqT.of upd_same) (tv.mono fun _ _ => g.seqT) gt ht36
  rintro i σ H' hi ⟨D, c4, c5, c6, c7, c8, c9, c10, c11, c12, rfl, hs, h3, hG, htot, _⟩
  obtain ⟨k, hk⟩ : ∃ k : Nat, R.length = k + i + 1 := ⟨R.length - 1 - i, by omega⟩
  have ek : (R.length : Int) - 1 - (i : Int) = (k : Int) := by omega
  rw [ek]
  have htot := htot hi
  rw [show R.length - i = k + 1 by omega] at htot
  have hkn : k < R.length := by omega
  obtain ⟨r, hr⟩ : ∃ r, R[k]? = some r := ⟨_, List.getElem?_eq_getElem hkn⟩
  have ok := hO k r hr
  have hrt := hs.seqT (hR r (List.mem_of_getElem? hr))
  have hra : (R.map fun r => V.ref r.ad)[k]? = some (.ref r.ad) := by rw [List.getElem?_map, hr]; rfl
  have hun : r.up < R.length := by rcases ok.up with h | ⟨_, h⟩ <;> omega
  obtain ⟨w, hw⟩ : ∃ w, w = r.nm := ⟨_, rfl⟩
  obtain ⟨m, hm⟩ : ∃ m, m = r.mr := ⟨_, rfl⟩
  obtain ⟨nu, hnu⟩ : ∃ nu, nu = r.nu := ⟨_, rfl⟩
  obtain ⟨u, hu⟩ : ∃ u, u = r.up := ⟨_, rfl⟩
  have oN : Nm w := hw ▸ ok.nm
  have oM : m.natAbs < 10 ^ 60 := hm ▸ ok.mr
  have oU : u < k ∨ k = 0 ∧ u = 0 := hu ▸ ok.up
  have oV : 0 ≤ nu := hnu ▸ ok.nu
  have hun' : u < R.length := hu ▸ hun
  unfold Row.vs at hrt
  rw [← hw, ← hm, ← hnu, ← hu] at hrt
  have h8 := oN.len
  have hsl := sh_len oM
  refine ⟨_, rfl, _, rfl, l, _, _, _, rfl, rfl, SqL.of (hs _ _ hl), atI_nat hra, r.ad, _, rfl, hrt, rfl, _, _, rfl, _, _, rfl, _, _, rfl, _, _, rfl, rfl, ?_⟩
  refine ⟨_, rfl, ?_⟩
  obtain ⟨g0, eg0⟩ : ∃ g0 : Nat, nu % 3 = (g0 : Int) := ⟨(nu % 3).toNat, by omega⟩
  have lg0 : g0 ≤ 2 := by omega
  have ec0 : cutS (Str.ofString "  ") none (some (nu % 3)) = S (bl g0) := by rw [e_b2, eg0, cut_to (by simpa using lg0), bl_take lg0]
  have est : Str.ofString (toString m) = S (sh m) := str_sh m
  refine ⟨_, rfl, _, rfl, _, _, rfl, rfl, (by show (0 : Int) < 3; decide), _, rfl, _, rfl, (by decide +kernel), _, _, rfl, rfl, ?_, _, rfl, _, rfl, log_sh oM, _, _, rfl, rfl, ?_, ?_⟩
  · show (S w).length + (cutS (Str.ofString "  ") none (some (nu % 3))).length ≤ sizeLine
    rw [ec0, S_len, S_len]; exact line_of (by simp; omega)
  · show (S w ++ cutS (Str.ofString "  ") none (some (nu % 3))).length + (Str.ofString (toString m)).length ≤ sizeLine
    rw [ec0, est, S_app, S_len, S_len]; exact line_of (by simp; omega)
  have e10 : S w ++ cutS (Str.ofString "  ") none (some (nu % 3)) ++ Str.ofString (toString m) = S (w ++ (bl g0 ++ sh m)) := by rw [ec0, est, S_app, S_app, List.append_assoc]
  dsimp only
  rw [e10]
  clear ec0 e10 eg0
  refine ⟨fun σ' Hx => ∃ (mt : List Nat) (ms : List (List Nat)), σ' = [some (.ref l), some (.ref lb), some (.ref ll), some (.ref lt), some (.int (k : Int)), some (.str (S w)), some (.int m), some (.int (u : Int)), some (.int nu), some (.str (S (w ++ shM m))), some (.str (S (w ++ mt))), c11, c12] ∧ H' = Hx ∧ MkW m mt ms ∧ mt.length ≤ 63, ?_, ?_⟩
  · refine ⟨_, rfl, rfl, _, rfl, ?_⟩
    by_cases c : m = 0
    · refine iteNS (by rw [c]) ?_
      have e9 : w ++ shM m = w := by unfold shM; rw [if_pos c, List.append_nil]
      rw [e9]
      refine ⟨_, rfl, _, _, rfl, rfl, ⟨by decide, by decide⟩, _, _, rfl, rfl, (by show (0 : Int) < 2; decide), rfl, _, rfl, ite2 (fun _ => ?_) (fun _ => ?_)⟩
      · exact ⟨_, rfl, [], [], (by rw [List.append_nil]; rfl), rfl, .inr ⟨c, rfl, rfl⟩, by simp⟩
      · exact ⟨bl g0 ++ sh m, [sh m], rfl, rfl, .inl ⟨g0, rfl, rfl⟩, by simp; omega⟩
    · have e : decide (V.int m = V.int 0) = false := decide_eq_false fun z => c (V.int.inj z)
      rw [e]
      have e9 : w ++ shM m = w ++ sh m := by unfold shM; rw [if_neg c]
      rw [e9]
      refine iteT ⟨_, rfl, _, rfl, _, rfl, log_sh oM, _, _, rfl, rfl, ?_, bl g0 ++ sh m, [sh m], ?_, rfl, .inl ⟨g0, rfl, rfl⟩, by simp; omega⟩
      · show (S w).length + (Str.ofString (toString m)).length ≤ sizeLine
        rw [est, S_len, S_len]; exact line_of (by omega)
      · rw [← S_app w (sh m), ← est]; rfl
  rintro σ _ ⟨mt, ms, rfl, rfl, hmk, hmt⟩
  clear est
  obtain ⟨b, lo, tk, vs, hb1, hb2, hb3, hb4, hb5, hb6, hb7⟩ := h3.at' k hkn
  have hbk : (ba.map V.ref)[k]? = some (.ref b) := by rw [List.getElem?_map, hb1]; rfl
  have hlk : (la.map V.ref)[k]? = some (.ref lo) := by rw [List.getElem?_map, hb2]; rfl
  have htk : (ta.map V.ref)[k]? = some (.ref tk) := by rw [List.getElem?_map, hb3]; rfl
  have hzk : szD (D k) ≤ i := by rw [← htot, tot]; omega
  have hcl : (D k).length ≤ i := Nat.le_trans (by have := len_szs ((D k).map (·.1)); rw [List.length_map] at this; exact this) hzk
  have gs := gl_up (sep := [32]) (by decide) (fun p => shT p.1) (D k) fun p hp => (hG k p hp).l1
  have hszk : szs ((D k).map (·.1)) ≤ 36 := Nat.le_trans hzk (by omega)
  refine ⟨fun σ' Hx => ∃ (bt : List Nat) (c11 : Option V), σ' = [some (.ref l), some (.ref lb), some (.ref ll), some (.ref lt), some (.int (k : Int)), some (.str (S w)), some (.int m), some (.int (u : Int)), some (.int nu), some (.str (S (shT (.node (S w) m ((D k).map (·.1)))))), some (.str (S (w ++ (mt ++ bt)))), c11, c12] ∧ Same H' Hx ∧ BrW ((D k).map (·.1)) ((D k).map (·.2)) bt ∧ bt.length ≤ 5 + 100 * szs ((D k).map (·.1)), ?_, ?_⟩
  · refine ⟨_, rfl, _, rfl, lb, _, _, _, rfl, rfl, SqL.of h3.hb, atI_nat hbk, (by show 0 ≤ sizeLine; decide), fun le hle => ?_⟩
    have ke := same_new hle (.lst [])
    have low : ∀ x ∈ (D k).map fun p => shT p.1, ∀ c ∈ x, c < 128 := fun x hx => by
      obtain ⟨p, hp, rfl⟩ := List.mem_map.mp hx
      exact (hG k p hp).lo
    refine ⟨.list (((D k).map fun p => shT p.1).map fun x => PyData.str (S x)), .list [], .lst (SqL.of (ke _ _ hb4)) (rd_txt _), .lst (SqL.of upd_same) .nil, by simp only [PyData.canLay0]; exact lay_txt _ low, by simp [PyData.canLay0, PyData.canLayAll0], room _ (Nat.le_trans (Nat.min_le_right _ _) (by simp [PyData.depth, PyData.depthAll])), _, rfl, ?_⟩
    rw [if_pos rfl, eqv_lnil]
    have h3e := h3.same ke
    have hb4 := ke _ _ hb4
    have hb5 := ke _ _ hb5
    generalize upd H' le (.lst []) = He at ke h3e hb4 hb5
    by_cases hD : D k = []
    · rw [hD]
      have e9 : S (shT (.node (S w) m (([] : List TY).map (·.1)))) = S (w ++ shM m) := by rw [shT_node]; simp [shB]
      rw [e9]
      exact iteF ⟨[], c11, by rw [List.append_nil], ke, rfl, by simp⟩
    have hne : (!(((D k).map fun p => shT p.1).map fun x => PyData.str (S x)).isEmpty) = true := by
      cases e : D k with
      | nil => exact absurd e hD
      | cons p r => rfl
    refine ite2 (fun _ => ?_) (fun z => absurd hne z)
    obtain ⟨sx, hsx⟩ : ∃ sx, sx = (D k).map fun p => shT p.1 := ⟨_, rfl⟩
    obtain ⟨yx, hyx⟩ : ∃ yx, yx = (D k).map (·.2) := ⟨_, rfl⟩
    obtain ⟨g1, eg1⟩ : ∃ g : Nat, nu / 6 % 2 = (g : Int) := ⟨(nu / 6 % 2).toNat, by omega⟩
    obtain ⟨g2, eg2⟩ : ∃ g : Nat, nu / 12 % 2 = (g : Int) := ⟨(nu / 12 % 2).toNat, by omega⟩
    obtain ⟨gp, egp⟩ : ∃ g : Nat, 1 + nu / 24 % 3 = ((g + 1 : Nat) : Int) := ⟨(nu / 24 % 3).toNat, by omega⟩
    obtain ⟨g3, eg3⟩ : ∃ g : Nat, nu / 72 % 2 = (g : Int) := ⟨(nu / 72 % 2).toNat, by omega⟩
    have lg1 : g1 ≤ 1 := by omega
    have lg2 : g2 ≤ 1 := by omega
    have lgp : gp + 1 ≤ 3 := by omega
    have lg3 : g3 ≤ 1 := by omega
    have ec1 : cutS (Str.ofString " ") none (some (nu / 6 % 2)) = S (bl g1) := by rw [e_b1, eg1, cut_to (by simpa using lg1), bl_take lg1]
    have ec2 : cutS (Str.ofString " ") none (some (nu / 12 % 2)) = S (bl g2) := by rw [e_b1, eg2, cut_to (by simpa using lg2), bl_take lg2]
    have ecp : cutS (Str.ofString "   ") none (some (1 + nu / 24 % 3)) = S (bl (gp + 1)) := by rw [e_b3, egp, cut_to (by simpa using lgp), bl_take lgp]
    have ec3 : cutS (Str.ofString " ") none (some (nu / 72 % 2)) = S (bl g3) := by rw [e_b1, eg3, cut_to (by simpa using lg3), bl_take lg3]
    have hms : ∀ xs : List (List Nat), (xs.map S).map V.str = xs.map fun x => V.str (S x) := fun xs => by rw [List.map_map]; rfl
    have hls : ∀ xs : List (List Nat), ((xs.map S).map fun z : Str => z.length) = xs.map List.length := fun xs => by
      rw [List.map_map]
      exact List.map_congr_left fun y _ => S_len y
    have gy := gl_up (sep := bl (gp + 1)) (by simpa using lgp) (fun p => p.2) (D k) fun p hp => (hG k p hp).l2
    have gsx : (gl [32] sx).length ≤ 3600 := by rw [hsx]; omega
    have gyx : (gl (bl (gp + 1)) yx).length ≤ 100 * szs ((D k).map (·.1)) := by rw [hyx]; exact gy
    have gl1 := gl_len [32] sx
    have gl2 := gl_len (bl (gp + 1)) yx
    have lsx : sx.length ≤ 36 := by rw [hsx, List.length_map]; omega
    have lyx : yx.length ≤ 36 := by rw [hyx, List.length_map]; omega
    have lM : (shM m).length ≤ 61 := by
      unfold shM
      split
      · simp
      · exact hsl
    rw [← hsx] at hb4
    rw [← hyx] at hb5
    have eS : S (shT (.node (S w) m ((D k).map (·.1)))) = S (w ++ shM m) ++ Str.ofString "(" ++ Txt.join (S [32]) (sx.map S) ++ Str.ofString ")" := by
      have e0 : ((D k).map (·.1)).map shT = sx := by rw [hsx, List.map_map]; rfl
      rw [join_S, e_op, e_cl, S_app, S_app, S_app, shT_node, e0]
      congr 1
      cases e : sx with
      | nil =>
        rw [hsx] at e
        exact absurd (List.map_eq_nil_iff.mp e) hD
      | cons x r => simp [shB, List.append_assoc]
    refine ⟨_, rfl, _, _, rfl, rfl, ?_, rfl, _, rfl, _, rfl, lb, _, _, _, rfl, rfl, SqL.of h3e.hb, atI_nat hbk, S [32], b, sx.map S, (by rw [show S [32] = Str.ofString " " from e_b1.symm]), rfl, (by rw [hms]; exact SqL.of hb4), ?_, _, _, rfl, rfl, ?_, _, _, rfl, rfl, ?_, ?_⟩
    · rw [e_op, S_len, S_len]; exact line_of (by simp; omega)
    · rw [hls, List.length_map, S_len]
      show _ + _ * 1 ≤ _
      omega
    · rw [join_S, e_op, S_app, S_len, S_len]; exact line_of (by simp; omega)
    · rw [join_S, e_op, e_cl, S_app, S_app, S_len, S_len]; exact line_of (by simp; omega)
    rw [← eS]
    refine ⟨_, rfl, _, rfl, _, _, rfl, rfl, ⟨by decide, by decide⟩, _, _, rfl, rfl, (by show (0 : Int) < 2; decide), _, rfl, _, rfl, (by decide +kernel), _, _, rfl, rfl, ?_, _, _, rfl, rfl, ?_, _, rfl, _, _, rfl, rfl, ⟨by decide, by decide⟩, _, _, rfl, rfl, (by show (0 : Int) < 2; decide), _, rfl, _, rfl, (by decide +kernel), _, _, rfl, rfl, ?_, ?_⟩
    · show (S (w ++ mt)).length + (cutS (Str.ofString " ") none (some (nu / 6 % 2))).length ≤ sizeLine
      rw [ec1, S_len, S_len]; exact line_of (by simp; omega)
    · show (S (w ++ mt) ++ cutS (Str.ofString " ") none (some (nu / 6 % 2))).length + (Str.ofString "(").length ≤ sizeLine
      rw [ec1, e_op, S_app, S_len, S_len]; exact line_of (by simp; omega)
    · show (S (w ++ mt) ++ cutS (Str.ofString " ") none (some (nu / 6 % 2)) ++ Str.ofString "(").length + (cutS (Str.ofString " ") none (some (nu / 12 % 2))).length ≤ sizeLine
      rw [ec1, ec2, e_op, S_app, S_app, S_len, S_len]; exact line_of (by simp; omega)
    dsimp only
    have e10a : S (w ++ mt) ++ cutS (Str.ofString " ") none (some (nu / 6 % 2)) ++ Str.ofString "(" ++ cutS (Str.ofString " ") none (some (nu / 12 % 2)) = S (w ++ (mt ++ (bl g1 ++ (40 :: bl g2)))) := by
      rw [ec1, ec2, e_op, S_app, S_app, S_app]
      congr 1
      simp [List.append_assoc]
    rw [e10a]
    refine ⟨_, rfl, _, _, rfl, rfl, ⟨by decide, by decide⟩, _, _, rfl, rfl, (by show (0 : Int) < 3; decide), _, _, rfl, rfl, _, rfl, _, rfl, (by decide +kernel), ?_⟩
    dsimp only
    rw [ecp]
    refine ⟨_, rfl, _, rfl, rfl, _, rfl, _, rfl, ll, _, _, _, rfl, rfl, SqL.of h3e.hl, atI_nat hlk, S (bl (gp + 1)), lo, yx.map S, rfl, rfl, (by rw [hms]; exact SqL.of hb5), ?_, _, _, rfl, rfl, ?_, _, rfl, _, _, rfl, rfl, ⟨by decide, by decide⟩, _, _, rfl, rfl, (by show (0 : Int) < 2; decide), _, rfl, _, rfl, (by decide +kernel), _, _, rfl, rfl, ?_, _, _, rfl, rfl, ?_, ?_⟩
    · rw [hls, List.length_map, S_len, List.length_replicate]
      have : yx.length * (gp + 1) ≤ 36 * 3 := Nat.mul_le_mul lyx lgp
      omega
    · rw [join_S, S_len, S_len]; exact line_of (by simp; omega)
    · show (S (w ++ (mt ++ (bl g1 ++ (40 :: bl g2)))) ++ Txt.join (S (bl (gp + 1))) (yx.map S)).length + (cutS (Str.ofString " ") none (some (nu / 72 % 2))).length ≤ sizeLine
      rw [join_S, ec3, S_app, S_len, S_len]; exact line_of (by simp; omega)
    · show (S (w ++ (mt ++ (bl g1 ++ (40 :: bl g2)))) ++ Txt.join (S (bl (gp + 1))) (yx.map S) ++ cutS (Str.ofString " ") none (some (nu / 72 % 2))).length + (Str.ofString ")").length ≤ sizeLine
      rw [join_S, ec3, e_cl, S_app, S_app, S_len, S_len]; exact line_of (by simp; omega)
    have e10b : S (w ++ (mt ++ (bl g1 ++ (40 :: bl g2)))) ++ Txt.join (S (bl (gp + 1))) (yx.map S) ++ cutS (Str.ofString " ") none (some (nu / 72 % 2)) ++ Str.ofString ")" = S (w ++ (mt ++ (bl g1 ++ (40 :: (bl g2 ++ (gl (bl (gp + 1)) yx ++ (bl g3 ++ [41]))))))) := by
      rw [join_S, ec3, e_cl, S_app, S_app, S_app]
      congr 1
      simp [List.append_assoc]
    refine ⟨bl g1 ++ (40 :: (bl g2 ++ (gl (bl (gp + 1)) yx ++ (bl g3 ++ [41])))), some (.str (S (bl (gp + 1)))), ?_, ke, ?_, ?_⟩
    · rw [← e10b]; rfl
    · rw [← hyx]
      cases e : D k with
      | nil => exact absurd e hD
      | cons p r => exact ⟨g1, g2, gp, g3, rfl⟩
    · simp only [List.length_append, List.length_cons, List.length_replicate, List.length_nil]
      omega
  rintro σ Hx ⟨bt, c11', rfl, gx, hbr, hbt⟩
  obtain ⟨t, ht⟩ : ∃ t : Tree Str, t = .node (S w) m ((D k).map (·.1)) := ⟨_, rfl⟩
  obtain ⟨y, hy⟩ : ∃ y : List Nat, y = w ++ (mt ++ bt) := ⟨_, rfl⟩
  have gt : GT t y := by rw [ht, hy]; exact GT.of oN oM (hG k) (by omega) hmk hbr hmt hbt
  have hsz : sz t = 1 + szD (D k) := by rw [ht, sz]; rfl
  rw [← ht, ← hy]
  have hdu : (D u).length ≤ 36 := by
    have h1 : szD (D u) ≤ tot D (k + 1) := szD_le (by omega)
    have h2 := len_szs ((D u).map (·.1))
    rw [List.length_map] at h2
    have h3 : szs ((D u).map (·.1)) = szD (D u) := rfl
    omega
  have hsx := hs.trans gx
  have h3x := h3.same gx
  clear gs hbt hmt hmk hbr hb4 hb5 hb6 hb7 h3
  obtain ⟨bu, lu, tu, vu, u1, u2, u3, u4, u5, u6, u7⟩ := h3x.at' u hun'
  have obu := dj.o bu (.inl (List.mem_of_getElem? u1))
  have olu := dj.o lu (.inr (.inl (List.mem_of_getElem? u2)))
  have otu := dj.o tu (.inr (.inr (List.mem_of_getElem? u3)))
  refine ⟨_, rfl, _, rfl, lb, _, _, _, rfl, rfl, SqL.of h3x.hb, atI_nat (show (ba.map V.ref)[u]? = some (.ref bu) by rw [List.getElem?_map, u1]; rfl), .inl ⟨rfl, _, SqL.of u4⟩, _, rfl, bu, _, _, rfl, rfl, u4, Nat.lt_of_le_of_lt (show _ ≤ 36 by simpa using hdu) (by decide), ?_⟩
  have h4 := L3.putB dj h3x (shT t) u1 hun'
  have s4 : Same H (upd Hx bu (.lst (V.str (S (shT t)) :: ((D u).map fun p => shT p.1).map fun x => V.str (S x)))) := fun a o e => by rw [upd_ne (ne_of_none e obu.2.2.2)]; exact hsx _ _ e
  generalize upd Hx bu (.lst (V.str (S (shT t)) :: ((D u).map fun p => shT p.1).map fun x => V.str (S x))) = H4 at h4 s4
  clear u4 u5 u6 u7 h3x
  obtain ⟨_, lu', _, _, _, v2, _, _, v5, _, _⟩ := h4.at' u hun'
  obtain rfl : lu = lu' := Option.some.inj (u2.symm.trans v2)
  refine ⟨_, rfl, _, rfl, ll, _, _, _, rfl, rfl, SqL.of h4.hl, atI_nat (show (la.map V.ref)[u]? = some (.ref lu) by rw [List.getElem?_map, u2]; rfl), .inl ⟨rfl, _, SqL.of v5⟩, _, rfl, lu, _, _, rfl, rfl, v5, Nat.lt_of_le_of_lt (show _ ≤ 36 by simpa using hdu) (by decide), ?_⟩
  have h5 := L3.putL dj h4 y u2 hun'
  have s5 : Same H (upd H4 lu (.lst (V.str (S y) :: ((D u).map (·.2)).map fun x => V.str (S x)))) := fun a o e => by rw [upd_ne (ne_of_none e olu.2.2.2)]; exact s4 _ _ e
  generalize upd H4 lu (.lst (V.str (S y) :: ((D u).map (·.2)).map fun x => V.str (S x))) = H5 at h5 s5
  clear h4 s4 v5
  obtain ⟨_, _, tk', vs', _, _, w3, _, _, w6, w7⟩ := h5.at' k hkn
  obtain rfl : tk = tk' := Option.some.inj (hb3.symm.trans w3)
  refine ⟨_, rfl, _, rfl, _, rfl, _, rfl, lt, _, _, _, rfl, rfl, SqL.of h5.ht, atI_nat htk, tk, vs', rfl, .inl ⟨SqL.of w6, fun tp htp => ⟨(by show 3 ≤ sizeLine; decide), fun tr htr => ?_⟩⟩⟩
  have g6 := same_new htp (.tup vs')
  have g7 := same_new htr (.tup [.str (S w), .int m, .ref tp])
  have g67 := g6.trans g7
  have hvl := w7.length
  rw [List.length_map] at hvl
  have tv : TrV K (upd (upd H5 tp (.tup vs')) tr (.tup [.str (S w), .int m, .ref tp])) (.ref tr) t := by
    rw [ht]
    exact .mk (SqT.of upd_same) (g7.seqT (SqT.of upd_same)) (TrAll.mono (fun _ _ h => g67.seqT h) w7) (by omega)
  have h6 := h5.same g67
  have s6 := s5.trans g67
  generalize upd (upd H5 tp (.tup vs')) tr (.tup [.str (S w), .int m, .ref tp]) = H6 at tv h6 s6
  clear h5 s5 w6 w7 g6 g7 g67
  obtain ⟨_, _, tu', vu', _, _, x3, _, _, x6, x7⟩ := h6.at' u hun'
  obtain rfl : tu = tu' := Option.some.inj (u3.symm.trans x3)
  have hxl := x7.length
  rw [List.length_map] at hxl
  refine ⟨_, rfl, _, rfl, lt, _, _, _, rfl, rfl, SqL.of h6.ht, atI_nat (show (ta.map V.ref)[u]? = some (.ref tu) by rw [List.getElem?_map, u3]; rfl), .inl ⟨rfl, _, SqL.of x6⟩, _, rfl, tu, _, _, rfl, rfl, x6, Nat.lt_of_le_of_lt (show _ ≤ 36 by omega) (by decide), ?_⟩
  have h7 := L3.putT dj h6 tv u3 x6 hun'
  have s7 : Same H (upd H6 tu (.lst (.ref tr :: vu'))) := fun a o e => by rw [upd_ne (ne_of_none e otu.2.2.2)]; exact s6 _ _ e
  have tv7 : TrV K (upd H6 tu (.lst (.ref tr :: vu'))) (.ref tr) t := tv.mono fun _ _ h => h.put x6
  have f1 : (fun j => if j = u then shT t :: (D j).map (fun p => shT p.1) else (D j).map fun p => shT p.1) = fun j => ((if j = u then (t, y) :: D j else D j) : List TY).map fun p => shT p.1 := by
    funext j
    split <;> rfl
  have f2 : (fun j => if j = u then y :: (D j).map (·.2) else (D j).map (·.2)) = fun j => ((if j = u then (t, y) :: D j else D j) : List TY).map (·.2) := by
    funext j
    split <;> rfl
  have f3 : (fun j => if j = u then t :: (D j).map (·.1) else (D j).map (·.1)) = fun j => ((if j = u then (t, y) :: D j else D j) : List TY).map (·.1) := by
    funext j
    split <;> rfl
  rw [f1, f2, f3] at h7
  refine ⟨fun j => if j = u then (t, y) :: D j else D j, _, _, _, _, _, _, _, _, _, rfl, s7, h7, fun j p hp => ?_, fun hlt => ?_, fun _ => ⟨.ref tr, t, y, rfl, rfl, rfl, tv7, gt, by omega⟩⟩
  · dsimp only at hp
    split at hp
    · rcases List.mem_cons.mp hp with rfl | hp
      · exact gt
      · exact hG j p hp
    · exact hG j p hp
  · rw [show R.length - (i + 1) = k by omega, tot_put, if_pos (by omega)]
    rw [tot] at htot
    show tot D k + sz t = i + 1
    omega
end
end K5
namespace K5
open PySem L2 K3 TM K9
theorem td_depth : ∀ (n : Nat) (t : Tree Str), sz t ≤ n → (td t).depth ≤ 2 * lv t
  | 0, t, h => by cases t with | node n m ts => rw [sz] at h; omega
  | n + 1, t, h => by
    cases t with
    | node a m ts =>
      rw [sz] at h
      have : ∀ us : List (Tree Str), (∀ u ∈ us, u ∈ ts) → PyData.depthAll (tds us) ≤ 2 * lvs us := fun us => by
        induction us with
        | nil => intro _; simp [tds, PyData.depthAll]
        | cons u r ih =>
          intro hu
          have h1 := td_depth n u (by have := sz_le (hu u List.mem_cons_self); omega)
          have h2 := ih fun v hv => hu v (List.mem_cons_of_mem _ hv)
          simp only [tds, PyData.depthAll, lvs]; omega
      have h3 := this ts fun u hu => hu
      rw [lv]
      simp only [td, PyData.depth, PyData.depthAll]
      omega
theorem twl_lay (ts : List (Tree Str)) (hP : ∀ t ∈ ts, ∀ x a, TW t x a → LayT t) : ∀ xs us, TWL ts xs us → ∀ t ∈ ts, LayT t := by
  induction ts with
  | nil => intro xs us _ t ht; cases ht
  | cons t r ih =>
    intro xs us h u hu
    cases h with
    | cons h1 h2 =>
      rcases List.mem_cons.mp hu with rfl | hu
      · exact hP _ List.mem_cons_self _ _ h1
      · exact ih (fun v hv => hP v (List.mem_cons_of_mem _ hv)) _ _ h2 u hu
theorem tw_lay : ∀ (n : Nat) (t : Tree Str) (x : List Nat) (a : List (List Nat)), sz t ≤ n → TW t x a → LayT t
  | 0, t, x, a, hn, _ => by
    cases t with
    | node n m ts => rw [sz] at hn; omega
  | n + 1, t, x, a, hn, h => by
    cases h with
    | mk h1 h2 h3 h4 h5 h6 =>
      rw [sz] at hn
      exact LayT.node (ok_low fun c hc => let_low c (h1.all c hc)) (twl_lay _ (fun t ht x a => tw_lay n t x a (by have := sz_le ht; omega)) _ _ h4)
theorem cells_eq (ns : List Int) : cutV (ns.map V.int ++ [V.int 0]) none (some 36) = ((ns ++ [0]).take 36).map V.int := by
  rw [show (some (36 : Int)) = some ((36 : Nat) : Int) from rfl, cutTo, List.map_take, List.map_append]; rfl
def spLaw (K : PySem.W.Frag) (T : Addr) : Sp := fun vs H Q _ => ∃ (a : Addr) (ns : List Int), vs = [.ref a] ∧ SqL K H a (ns.map V.int) ∧ ns.length ≤ 63 ∧ H T = some (.tbl #[]) ∧ ∀ H', Q (.bl true) H'
section
variable {P : Program} {w : World} {K : PySem.W.Frag} {mg : Str → Option Value} {base : Heap} {f : Addr} {fd : FuncData} {T : Addr}
theorem scLaw : FnScope ["_law_script", "_law_rows_here", "_law_tree", "_law_shown", "_law_wide", "_law_found", "_law_written"] ["_law_script"] (defScope sLaw) := ⟨rfl, rfl, rfl, by decide +kernel, rfl, by decide +kernel, by decide +kernel⟩
theorem ok_law (F : Fun K "law" "law" sLaw f fd) (G : Gm mg) (RR : Fn P w K mg base 2 "_law_rows" ["_law_cells"] (spRows K)) (RX : Fn P w K mg base 1 "_law_texts" ["_law_rows_here"] (spTexts K)) (RS : Fn P w K mg base 41 "show_tree" ["tree"] (spShow K 40)) (RT : Fn P w K mg base 125 "read_tree" ["text"] (spRead K T)) :
    FnOk P w K mg base CX0 126 f fd ["_law_script"] (spLaw K T) := by
  refine F.ok scLaw (fun vs H Q E h => ?_) (fun cdv A outer s H vs Q E hr h => ?_)
  · obtain ⟨a, ns, rfl, _⟩ := h
    rfl
  obtain ⟨a, ns, rfl, hS, h63, hT, q⟩ := h
  have room : ∀ n : Nat, n ≤ 200 → (A.deeper (PyProof.Rows.envOfC "law" (defScope sLaw) s.heap.objs.size f cdv)).units + n < cLine := fun n hn => by have := hr.un; omega
  refine ⟨_, (pss_cons (ps_set (i := 1) scLaw.nd rfl (Or.inl rfl) (pe_fn RR hr (pa_cons (pe_slice sl_list (pe_op op_catL (pv 0) (pe_lst (pa_cons (pe_int) pa_nil))) po_none (po_some pe_int)) pa_nil)))
    (pss_cons (ps_asg (pe_fn RX hr (pa_cons (pv 1) pa_nil)) (pg_tup rfl (pgs_cons (pg_name (i := 2) scLaw.nd rfl (Or.inl rfl)) (pgs_cons (pg_name (i := 3) scLaw.nd rfl (Or.inl rfl)) (pgs_cons (pg_name (i := 4) scLaw.nd rfl (Or.inl rfl)) pgs_nil)))))
    (pss_cons (ps_set (i := 5) scLaw.nd rfl (Or.inl rfl) (pe_fn RS hr (pa_cons (pv 2) pa_nil)))
    (pss_cons (ps_if (PW.pt (pw_or (pt_not (pt_val (pe_callB call_isinst rfl G.isi PyProof.Rows.boot_isinstance (pa_cons (pv 5) (pa_cons (pe_bltn (v := .ty "str") rfl G.str PyProof.Rows.boot_str rfl) pa_nil))))) (pw_or1 (pt_cmpR op_ne (pv 5) (pv 3) (nomark _))))) (pss_one (ps_ret pe_bl)) pss_nil)
    (pss_cons (ps_for PassesOwn.never rfl (pi_list (pe_lst (pa_cons (pv 3) (pa_cons (pv 4) (pa_cons (pe_op op_add_str (pe_op op_add_str pe_str (pv 3)) pe_str) pa_nil))))) (pg_name (i := 6) scLaw.nd rfl (Or.inl rfl)) (pss_cons (ps_set (i := 5) scLaw.nd rfl (Or.inl rfl) (pe_fn RT hr (pa_cons (pv 6) pa_nil)))
    (pss_one (ps_if (PW.pt (pw_or (pt_not (pt_val (pe_callB call_isinstT rfl G.isi PyProof.Rows.boot_isinstance (pa_cons (pv 5) (pa_cons (pe_bltn (v := .ty "tuple") rfl G.tup PyProof.Rows.boot_tuple rfl) pa_nil))))) (pw_or (pt_cmpR op_neD (pv 5) (pv 2) (nomark _)) (pw_or1 (pt_cmpR op_ne (pe_fn RS hr (pa_cons (pv 5) pa_nil)) (pv 3) (nomark _)))))) (pss_one (ps_ret pe_bl)) pss_nil))))
    (pss_one (ps_ret pe_bl))))))), ?_⟩
  refine ⟨_, rfl, (by show 1 ≤ sizeLine; decide), fun p1 hp1 => ?_⟩
  have g1 := same_new hp1 (.lst [V.int 0])
  refine ⟨a, p1, _, _, rfl, rfl, g1.seq hS, SqL.of upd_same, ?_, fun p2 hp2 => ?_⟩
  · rw [List.length_map, List.length_singleton]; exact line_of (by omega)
  have g2 := same_new hp2 (.lst (ns.map V.int ++ [V.int 0]))
  refine ⟨_, rfl, p2, _, rfl, SqL.of upd_same, fun p3 hp3 => ?_⟩
  rw [cells_eq]
  have g3 := same_new hp3 (.lst (((ns ++ [0]).take 36).map V.int))
  refine ⟨p3, (ns ++ [0]).take 36, rfl, SqL.of upd_same, by rw [List.length_take]; omega, fun l R H1 s1 hl0 hl hR hRl hO => ?_⟩
  have s01 := (g1.trans (g2.trans g3)).trans s1
  have hR0 : 0 < R.length := by rw [hRl, List.length_take, List.length_append, List.length_singleton]; omega
  have hR36 : R.length ≤ 36 := by rw [hRl, List.length_take]; omega
  clear g1 g2 g3 s1
  refine ⟨_, rfl, l, R, rfl, hl, hR, hO, hR0, hR36, fun p v t y H2 s2 hp tv gt ht36 => ?_⟩
  refine ⟨p, _, rfl, hp, rfl, _, _, rfl, _, _, rfl, _, _, rfl, rfl, ?_⟩
  have lv36 : lv t ≤ 36 := Nat.le_trans (lv_sz _ t (Nat.le_refl _)) ht36
  have len1 : (shT t).length ≤ 3600 := by have := gt.l1; omega
  have len2 : y.length ≤ 3600 := by have := gt.l2; omega
  refine ⟨_, rfl, v, t, rfl, tv, by omega, gt.mb, by omega, fun H3 s3 => ?_⟩
  refine ⟨_, rfl, _, "str", _, true, rfl, .str _, rfl, _, rfl, iteF ⟨_, rfl, _, rfl, rfl, _, rfl, iteNS rfl ?_⟩⟩
  have tv3 := tv.mono fun _ _ => s3.seqT
  refine ⟨_, rfl, _, rfl, _, rfl, _, _, rfl, rfl, ?_, _, _, rfl, rfl, ?_, (by show 3 ≤ sizeLine; decide), fun lw hlw => ?_⟩
  · rw [e_b1, S_len, S_len]; exact line_of (by simp; omega)
  · rw [e_b1, S_app, S_len, S_len]; exact line_of (by simp; omega)
  have e3 : Str.ofString " " ++ S (shT t) ++ Str.ofString " " = S (32 :: (shT t ++ [32])) := by rw [e_b1, S_app, S_app]; rfl
  rw [e3]
  have s4 := same_new hlw (.lst [.str (S (shT t)), .str (S y), .str (S (32 :: (shT t ++ [32])))])
  have tb4 : TbS (upd H3 lw (.lst [.str (S (shT t)), .str (S y), .str (S (32 :: (shT t ++ [32])))])) T pL qL := .inl (s4 _ _ (s3 _ _ (s2 _ _ (s01 _ _ hT))))
  have tv4 := tv3.mono fun _ _ => s4.seqT
  have fw : upd H3 lw (.lst [.str (S (shT t)), .str (S y), .str (S (32 :: (shT t ++ [32])))]) lw = some (.lst [.str (S (shT t)), .str (S y), .str (S (32 :: (shT t ++ [32])))]) := upd_same
  generalize upd H3 lw (.lst [.str (S (shT t)), .str (S y), .str (S (32 :: (shT t ++ [32])))]) = H4 at s4 tb4 tv4 fw
  obtain ⟨ps4, hps4⟩ := tb4.at
  have texts : ∀ (i : Nat) (x : V), ([.str (S (shT t)), .str (S y), .str (S (32 :: (shT t ++ [32])))] : List V)[i]? = some x → ∃ z ws, x = .str (S z) ∧ z.length ≤ 5000 ∧ Writ z ws ∧ Tks t ws := fun i x hx => by
    obtain ⟨b1, hb1⟩ := gt.sh
    obtain ⟨b2, hb2⟩ := gt.wi
    have w1 := tw_writ _ t _ _ (Nat.le_refl _) hb1 [] [] .nil En.nil
    have w2 := tw_writ _ t _ _ (Nat.le_refl _) hb2 [] [] .nil En.nil
    have w3 := tw_writ _ t _ _ (Nat.le_refl _) hb1 [32] [] (.blank .nil) (En.cons n32)
    rw [List.append_nil, List.append_nil] at w1 w2
    rw [List.append_nil] at w3
    have k1 := tw_tks _ t _ _ (Nat.le_refl _) hb1
    have k2 := tw_tks _ t _ _ (Nat.le_refl _) hb2
    match i, hx with
    | 0, hx => cases hx; exact ⟨_, _, rfl, by omega, w1, k1⟩
    | 1, hx => cases hx; exact ⟨_, _, rfl, by omega, w2, k2⟩
    | 2, hx => cases hx; exact ⟨_, _, rfl, by simp; omega, .blank w3, k1⟩
    | i + 3, hx => cases hx
  have lay : (td t).canLay0 = true := by
    obtain ⟨b1, hb1⟩ := gt.sh
    exact tw_lay _ t _ _ (Nat.le_refl _) hb1
  have dep : (td t).depth ≤ 100 := by have := td_depth _ t (Nat.le_refl _); omega
  refine ⟨lw, rfl, ⟨_, SqL.of fw⟩, ?_⟩
  refine for_list (xs := [.str (S (shT t)), .str (S y), .str (S (32 :: (shT t ++ [32])))]) (fun i σ H' => ∃ (c5 c6 : Option V), σ = [some (.ref a), some (.ref l), some v, some (.str (S (shT t))), some (.str (S y)), c5, c6] ∧ SameX T H4 H' ∧ TbS H' T pL qL)
    ⟨_, none, rfl, SameX.refl _ _, tb4⟩ ?_ ?_ ?_
  · rintro i σ H' _ ⟨c5, c6, _, g, _⟩
    exact tbl_seq hps4 g (SqL.of fw)
  · rintro i x σ H' hx ⟨c5, c6, rfl, g, tb⟩
    obtain ⟨z, ws, rfl, hz, hw, hk⟩ := texts i x hx
    refine ⟨_, rfl, z, ws, t, rfl, hz, hw, hk, by omega, by omega, tb, fun v5 H5 x5 tv5 tb5 => ?_⟩
    have g5 := g.trans x5
    have tv' : TrV K H5 v t := tv4.mono fun _ _ h => tbl_seqT hps4 g5 h
    have tv5' := tv5
    cases tv5' with
    | @mk da db dvs dts dn dm d1 d2 d3 d4 =>
    refine ⟨_, rfl, da, _, "tuple", true, rfl, d1, rfl, _, rfl, iteF ⟨_, rfl, _, rfl, td _, td _, TrV.rd tv5, TrV.rd tv', lay, lay, room _ (Nat.le_trans (Nat.min_le_left _ _) (Nat.le_trans dep (by decide))), ?_⟩⟩
    rw [if_pos rfl, eqv_self _ lay]
    refine ⟨_, rfl, iteF ⟨_, rfl, _, _, rfl, tv5, by omega, gt.mb, by omega, fun H6 s6 => ⟨_, rfl, rfl, _, rfl, iteNS rfl ?_⟩⟩⟩
    exact ⟨_, _, rfl, g5.trans (SameX.of s6), tb5.same s6⟩
  · rintro σ H' ⟨c5, c6, rfl, _, _⟩
    exact q _
end
end K5
namespace L2
open PySem PySem.Spec PyProof.Rows
theorem law_callT {P : Program} {w : World} {K : PySem.W.Frag} {mg mb : Str → Option Value} {k : Nat} {fa a : Addr} {fd : FuncData} {x : Str} {sp : Sp} {s₁ : Shared} {vs : List Value} {ns : List Int} {Ts : List Addr}
    (KX : K.In s₁.heap) (hns : s₁.heap.Ns mainGlobals mg) (hb : s₁.heap.Ns builtinsNs mb) (hbb : ∀ x : Str, x ≠ "__name__" → mb x = bootBuiltins x) (hlim : s₁.heap.NoLimit) (hg : s₁.gens = #[]) (hbt : BtAt mg s₁.heap)
    (hTs : ∀ T ∈ Ts, s₁.heap.get? T = some { cls := .none, data := .fields #[] } ∧ isCodeTable s₁.heap T ∧ K.lookup T = none)
    (ha : s₁.heap.get? a = some { cls := .type "list", data := .seq vs.toArray }) (hi : IntsAre vs ns) (hl : ns.length ≤ sizeLine) (hr : Room k callerA)
    (F : ∀ base : Heap, K.In base → base.Ns mainGlobals mg → BtAt mg base → FnOk P w K mg base CX0 k fa fd [x] sp) (hbind : ∀ (s : Shared) (u : Value), BindsTo s fd ⟨[u], []⟩ [(x, u)])
    (hsp : ∀ H : Hp, SqL K H a (ns.map V.int) → (∀ T ∈ Ts, H T = some (.tbl #[])) → sp [.ref a] H (fun v _ => v = .bl true) fun _ _ _ => False) :
    codeAny (model P w) callerA (.call (.ref fa) ⟨[.ref a], []⟩) (fun r s' => r = .ok (.ret (.bool true)) ∧ OldK s₁.heap s'.heap ∧ s'.os = s₁.os ∧ AllBare s'.gens) s₁ := by
  have rv := vals_ints hi
  have lenV := hi.length
  have core : ∀ H : Hp, (∀ b, H b = none ∨ (b = a ∧ K.lookup a = none ∧ ∃ o xs, H b = some (.frz o (.lst xs))) ∨ (b ∈ Ts ∧ H b = some (.tbl #[]))) → SqL K H a (ns.map V.int) → (∀ T ∈ Ts, H T = some (.tbl #[])) → HOk P w H s₁.heap →
      codeAny (model P w) callerA (.call (.ref fa) ⟨[.ref a], []⟩) (fun r s' => r = .ok (.ret (.bool true)) ∧ OldK s₁.heap s'.heap ∧ s'.os = s₁.os ∧ AllBare s'.gens) s₁ := by
    intro H hO hS hT hok
    have base_of : ∀ {b : Addr} {o : Obj}, s₁.heap.get? b = some o → H b = none → (hidT s₁.heap H).get? b = some o := fun e n => hidT_get e n
    have noA : ∀ {b : Addr} {o : Obj}, s₁.heap.get? b = some o → (∀ xs n, o.data ≠ .seq xs n) → (∀ xs, o.data ≠ .fields xs) → H b = none := fun {b o} e d1 d2 => by
      rcases hO b with z | ⟨rfl, _⟩ | ⟨z, _⟩
      · exact z
      · rw [ha] at e; cases e
        exact absurd rfl (d1 _ _)
      · rw [(hTs b z).1] at e; cases e
        exact absurd rfl (d2 _)
    have nsK : ∀ {b : Addr} {m : Str → Option Value}, s₁.heap.Ns b m → (hidT s₁.heap H).Ns b m := fun {b m} ⟨o, es, ep, e, d, r⟩ => ⟨o, es, ep, base_of e (noA e (fun _ _ z => by rw [d] at z; cases z) (fun _ z => by rw [d] at z; cases z)), d, r⟩
    have hKb : K.In (hidT s₁.heap H) := fun b o e => base_of (KX b o e) (by
      rcases hO b with z | ⟨rfl, hk, _⟩ | ⟨z, _⟩
      · exact z
      · rw [hk] at e; cases e
      · rw [(hTs b z).2.2] at e; cases e)
    have hBt : BtAt mg (hidT s₁.heap H) := by
      obtain ⟨bm, o, b1, b2, b3, b4, b5, b6, b7⟩ := hbt
      exact ⟨bm, o, b1, b2, b3, base_of b4 (noA b4 (fun _ _ z => by rw [b7] at z; cases z) (fun _ z => by rw [b7] at z; cases z)), b5, b6, b7⟩
    have hM : Mod K mg (hidT s₁.heap H) := ⟨hKb, nsK hns, ⟨mb, nsK hb, hbb⟩, let ⟨mc, h1, h2⟩ := hlim; ⟨mc, nsK h1, h2⟩⟩
    have e0 : Env0 P w K mg (hidT s₁.heap H) callerA [] s₁ H := ⟨rfl, hM, fun b o e => of_hidT e, Nat.le_of_eq (hidT_size _ _), trivial, fun b hb => absurd (show b ∈ ([] : List Addr) from hb) (by simp), hok, .of_eq hg⟩
    refine codeAny_mono ((F _ hKb (nsK hns) hBt).run callerA [] s₁ H ⟨[.ref a], []⟩ [.ref a] [.ref a] _ _ hr e0 (hbind s₁ (.ref a)) (.cons rfl .nil) (hsp H hS hT)) fun r s' h => ?_
    cases r with
    | error e => exact h.elim
    | ok fl =>
      cases fl with
      | next => exact False.elim h
      | brk => exact False.elim h
      | cont => exact False.elim h
      | ret u =>
        obtain ⟨v, H', os, bare, un, hok', r', q⟩ := h
        have q' : v = .bl true := q
        subst q'
        obtain rfl : u = Value.bool true := r'
        refine ⟨rfl, ⟨fun b o e => ?_, fun b o e => un.there b o e (by simp)⟩, os, bare⟩
        rcases hO b with z | ⟨rfl, _, ob, xs, z⟩ | ⟨zT, z⟩
        · exact .inl (un.keep b o e z (by intro z; exact absurd (show b ∈ ([] : List Addr) from z) (by simp)) (by simp))
        · have z2 := un.frzs b ob _ z
          obtain ⟨e1, _⟩ := hok b _ z
          obtain ⟨e2, _⟩ := hok' b _ z2
          rw [e] at e1; cases e1
          exact .inl e2
        · obtain ⟨more, z2⟩ := un.tbls b _ z
          have e2 : s'.heap.get? b = some { cls := .none, data := .fields (#[] ++ more) } := hok' b _ z2
          obtain ⟨t1, t2, _⟩ := hTs b zT
          rw [t1] at e; cases e
          exact .inr (.inl ⟨t2, rfl, #[], more, rfl, e2⟩)
  have haT : ∀ T ∈ Ts, T ≠ a := fun T hT z => by
    have := (hTs T hT).1
    rw [z, ha] at this; cases this
  cases hk : K.lookup a with
  | some o =>
    have e := KX a o hk
    rw [ha] at e
    cases e
    refine core (fun b => if b ∈ Ts then some (.tbl #[]) else none) (fun b => ?_) (.inr ⟨_, vs.toArray, _, hk, rfl, rfl, rfl, by rw [List.size_toArray, lenV]; exact hl, by simpa using rv⟩) (fun T hT => if_pos hT) (fun b u z => ?_)
    · by_cases hb : b ∈ Ts
      · exact .inr (.inr ⟨hb, if_pos hb⟩)
      · exact .inl (if_neg hb)
    · by_cases hb : b ∈ Ts
      · have z' := (if_pos hb).symm.trans z
        cases z'
        exact (hTs b hb).1
      · have z' := (if_neg hb).symm.trans z
        cases z'
  | none =>
    refine core (fun b => if b = a then some (.frz { cls := .type "list", data := .seq vs.toArray } (.lst (ns.map V.int))) else if b ∈ Ts then some (.tbl #[]) else none) (fun b => ?_) (.inl (.inr ⟨{ cls := .type "list", data := .seq vs.toArray }, if_pos rfl⟩)) (fun T hT => (if_neg (haT T hT)).trans (if_pos hT)) (fun b u z => ?_)
    · by_cases hb : b = a
      · exact .inr (.inl ⟨hb, hk, _, _, if_pos hb⟩)
      · by_cases hbT : b ∈ Ts
        · exact .inr (.inr ⟨hbT, (if_neg hb).trans (if_pos hbT)⟩)
        · exact .inl ((if_neg hb).trans (if_neg hbT))
    · by_cases hb : b = a
      · have z' := (if_pos hb).symm.trans z
        cases z'
        subst hb
        exact ⟨ha, by rw [List.length_map]; exact hl, vs, _, rv, ha⟩
      · have z1 := (if_neg hb).symm.trans z
        by_cases hbT : b ∈ Ts
        · have z' := (if_pos hbT).symm.trans z1
          cases z'
          exact (hTs b hbT).1
        · have z' := (if_neg hbT).symm.trans z1
          cases z'
structure TabAt (q : Program) (K : PySem.W.Frag) (x : Str) (c T : Addr) : Prop where
  fnd : ∃ d, (recsOf q).find? (fun e => e.name == x) = some d
  tab : PySem.W.tabIn K x = some (c, T)
  hd : PySem.W.codeHdIn K c T = true
  no : K.lookup T = none
theorem walk_ofT {l : PySem.W.OpenLaw} {n k : Nat} {q : Program} {loose : List Str} {XP : (Str → Option Value) → Heap → Prop} {YP : World → Heap → Prop} {d : DefRec} {K : Params → PySem.W.Frag} {sp : World → Sp} {x : Str} {tabs : List (Str × Addr × Addr)}
    (hn : l.most = some n) (hn2 : n ≤ sizeLine) (hdf : d.params.defaults = []) (hr : Room k callerA)
    (hY : ∀ (w : World) (h : Heap), YP w h → (K w.params).In h)
    (htab : ∀ (w : World), ∀ p ∈ tabs, TabAt q (K w.params) p.1 p.2.1 p.2.2)
    (F : ∀ (w : World) (mg : Str → Option Value) (fa : Addr) (h : Heap), (K w.params).In h → h.Ns mainGlobals mg → mg d.name = some (.ref fa) →
      ∃ fd : FuncData, (∀ (s : Shared) (u : Value), BindsTo s fd ⟨[u], []⟩ [(x, u)]) ∧
        ∀ base : Heap, (K w.params).In base → base.Ns mainGlobals mg → BtAt mg base → FnOk l.prog w (K w.params) mg base CX0 k fa fd [x] (sp w))
    (hsp : ∀ (w : World) (H : Hp) (a : Addr) (ns : List Int), ns.length ≤ n → SqL (K w.params) H a (ns.map V.int) → (∀ p ∈ tabs, H p.2.2 = some (.tbl #[])) → sp w [.ref a] H (fun v _ => v = .bl true) fun _ _ _ => False) :
    PySem.W.WalkO q loose XP YP l.row.toRowW d [] (fun f vs => PySem.call f vs) := by
  refine Att.attach_call hn hdf fun w s₀ s₁ mg mb fa o pm cd doc a vs ns G Y ho hd hcd hmg hobj hints hlen hg => ?_
  have KX := hY w _ Y
  obtain ⟨fd, hb, hF⟩ := F w mg fa _ KX G.T.g hmg
  have hbt : BtAt mg s₁.heap := by
    obtain ⟨bm, ob, b1, b2, b3, b4, b5, b6⟩ := G.T.bmain
    have hbG : bm ≠ mainGlobals := fun q => by
      obtain ⟨o, es, ep, e, hd, _⟩ := G.T.g
      rw [q, e] at b3; cases b3; rw [hd] at b6; cases b6
    exact ⟨bm, ob, b1, b2, hbG, b3, b4, b5, b6⟩
  refine law_callT (Ts := tabs.map fun p => p.2.2) KX G.T.g G.T.b G.T.builtins G.T.nolimit hg hbt (fun T hT => ?_) hobj hints (Nat.le_trans hlen hn2) hr hF hb (fun H hS hT => hsp w H a ns hlen hS fun p hp => hT _ (List.mem_map.mpr ⟨p, hp, rfl⟩))
  obtain ⟨p, hp, rfl⟩ := List.mem_map.mp hT
  obtain ⟨⟨dd, hrec⟩, ht, _, hno⟩ := htab w p hp
  obtain ⟨hc, h0⟩ := PySem.W.tab_of G.T KX hrec ht
  exact ⟨h0, (hc.tab h0).isCodeTable, hno⟩
end L2
namespace L2
theorem ln1 {α : Type} {us : List α} (h : us.length = 1) : ∃ a, us = [a] := List.length_eq_one_iff.mp h
theorem ln2 {α : Type} {us : List α} (h : us.length = 2) : ∃ a b, us = [a, b] := by
  match us, h with
  | [a, b], _ => exact ⟨a, b, rfl⟩
theorem ln3 {α : Type} {us : List α} (h : us.length = 3) : ∃ a b c, us = [a, b, c] := by
  match us, h with
  | [a, b, c], _ => exact ⟨a, b, c, rfl⟩
end L2
namespace L2
open PySem
structure MethAt (K : PySem.W.Frag) (C : Addr) (m qual : Str) (st : Stmt) : Prop where
  ex : ∃ (f : Addr) (oc : Value) (od : Option Addr) (kV doc pm : Value) (an : Option Addr) (cdv ct : Value) (osl : Array (Option Value)),
    PySem.W.findIn K (.ref C) m = some (some (.ref f)) ∧ PySem.W.isFn K (.ref f) = true ∧ K.lookup f = some ⟨oc, od, .func (PySem.W.fnOf m qual (defArgs st) (defBody st) (defScope st) .none kV doc pm an cdv ct), osl⟩ ∧ PySem.W.codeIn K cdv qual = true ∧ PySem.W.keepIn K (.ref f) = true
theorem MethAt.mk' {K : PySem.W.Frag} {C : Addr} {m qual : Str} {st : Stmt} {f : Addr} {oc : Value} {od : Option Addr} {kV doc pm : Value} {an : Option Addr} {cdv ct : Value} {osl : Array (Option Value)}
    (a : PySem.W.findIn K (.ref C) m = some (some (.ref f))) (i : PySem.W.isFn K (.ref f) = true) (l : K.lookup f = some ⟨oc, od, .func (PySem.W.fnOf m qual (defArgs st) (defBody st) (defScope st) .none kV doc pm an cdv ct), osl⟩) (c : PySem.W.codeIn K cdv qual = true) (k : PySem.W.keepIn K (.ref f) = true) : MethAt K C m qual st :=
  ⟨f, oc, od, kV, doc, pm, an, cdv, ct, osl, a, i, l, c, k⟩
theorem MethAt.mt {P : Program} {w : World} {K : PySem.W.Frag} {mg : Str → Option Value} {C : Addr} {m qual : Str} {st : Stmt} {k : Nat} {ps : List Str} {sp : Sp} (M : MethAt K C m qual st) (ok : ∀ (g : Heap) (f : Addr) (fd : FuncData), Fun K m qual st f fd → FnOk P w K mg g CX0 k f fd ps sp) (bi : ∀ (f : Addr) (fd : FuncData), Fun K m qual st f fd → Binds K fd ps []) : ∀ g : Heap, Mt P w K mg g C k m ps sp := fun g => by
  obtain ⟨f, oc, od, kV, doc, pm, an, cdv, ct, osl, a, i, l, c, kp⟩ := M.ex
  have F := fun_mk (st := st) l c kp
  exact ⟨f, _, ⟨a, i, kp⟩, ok g _ _ F, bi _ _ F⟩
end L2
namespace K5
open PySem L2 K3
structure RdK (K : PySem.W.Frag) : Prop where
  ex : ∃ C : Addr, PySem.W.nsIn K mainGlobals "Reader" = some (some (.ref C)) ∧ Cls K C ∧ NoAttr K C "found" ∧ NoAttr K C "spot" ∧ PySem.W.makesIn K C = true ∧ PySem.W.keepIn K (.ref C) = true ∧
    MethAt K C "__init__" "Reader.__init__" sInit ∧ MethAt K C "ahead" "Reader.ahead" sAhead ∧ MethAt K C "at_name" "Reader.at_name" sAtName ∧ MethAt K C "at_number" "Reader.at_number" sAtNum ∧ MethAt K C "passed" "Reader.passed" sPassed ∧ MethAt K C "need_end" "Reader.need_end" sNeedEnd ∧ MethAt K C "take_name" "Reader.take_name" sTakeName ∧ MethAt K C "take_number" "Reader.take_number" sTakeNum ∧ MethAt K C "take_word" "Reader.take_word" sTakeWord ∧ MethAt K C "in_brackets" "Reader.in_brackets" sInB
theorem RdK.mk' {K : PySem.W.Frag} {C : Addr} (aC : PySem.W.nsIn K mainGlobals "Reader" = some (some (.ref C))) (pg : PySem.W.plainGet K C Str.empty = true) (hd : PySem.W.hasDictIn K C = true) (po : PySem.W.plainOver K C = true)
    (sa : PySem.W.findIn K (.ref C) "__setattr__" = some (some (.builtin "object.__setattr__"))) (n1 : PySem.W.findIn K (.ref C) "found" = some none) (n2 : PySem.W.findIn K (.ref C) "spot" = some none)
    (mk : PySem.W.makesIn K C = true) (kc : PySem.W.keepIn K (.ref C) = true) (m1 : MethAt K C "__init__" "Reader.__init__" sInit) (m2 : MethAt K C "ahead" "Reader.ahead" sAhead) (m3 : MethAt K C "at_name" "Reader.at_name" sAtName) (m4 : MethAt K C "at_number" "Reader.at_number" sAtNum) (m5 : MethAt K C "passed" "Reader.passed" sPassed) (m6 : MethAt K C "need_end" "Reader.need_end" sNeedEnd) (m7 : MethAt K C "take_name" "Reader.take_name" sTakeName) (m8 : MethAt K C "take_number" "Reader.take_number" sTakeNum) (m9 : MethAt K C "take_word" "Reader.take_word" sTakeWord) (m10 : MethAt K C "in_brackets" "Reader.in_brackets" sInB) : RdK K :=
  ⟨C, aC, ⟨pg, hd, po, sa⟩, n1, n2, mk, kc, m1, m2, m3, m4, m5, m6, m7, m8, m9, m10⟩
theorem RdK.m {P : Program} {w : World} {K : PySem.W.Frag} {mg : Str → Option Value} {h : Heap} (S : RdK K) (X : K.In h) (N : h.Ns mainGlobals mg) (G : Gm mg) (RB : ∀ g : Heap, Fn P w K mg g 1 "begins_in" ["word", "signs"] spBeg) :
    ∃ C, RdT K mg C ∧ RdM P w K mg C ∧ (∀ g : Heap, Fn P w K mg g 5 "words" ["text"] spWords → ∃ (fI : Addr) (fdI : FuncData), Mk K C fI ∧ FnOk P w K mg g CX0 6 fI fdI ["self", "text"] (spInit C) ∧ Binds K fdI ["self", "text"] []) ∧ ∀ g : Heap, Mt P w K mg g C 2 "need_end" ["self"] (spEnd C) := by
  obtain ⟨C, aC, cl, n1, n2, mk, kc, m1, m2, m3, m4, m5, m6, m7, m8, m9, m10⟩ := S.ex
  have T : RdT K mg C := ⟨cl, n1, n2, PySem.W.mg_of X N aC⟩
  have MA := m2.mt (P := P) (w := w) (mg := mg) (fun g f fd F => ok_ahead F G T) fun f fd F => F.binds fun _ _ _ _ _ _ us hl => by obtain ⟨a1, rfl⟩ := ln1 hl; rfl
  have MN := m3.mt (P := P) (w := w) (mg := mg) (fun g f fd F => ok_atName F G T (RB g) (MA g)) fun f fd F => F.binds fun _ _ _ _ _ _ us hl => by obtain ⟨a1, rfl⟩ := ln1 hl; rfl
  have MU := m4.mt (P := P) (w := w) (mg := mg) (fun g f fd F => ok_atNum F G T (RB g) (MA g)) fun f fd F => F.binds fun _ _ _ _ _ _ us hl => by obtain ⟨a1, rfl⟩ := ln1 hl; rfl
  have MP := m5.mt (P := P) (w := w) (mg := mg) (fun g f fd F => ok_passed F T (MA g)) fun f fd F => F.binds fun _ _ _ _ _ _ us hl => by obtain ⟨a1, a2, rfl⟩ := ln2 hl; rfl
  have ME := m6.mt (P := P) (w := w) (mg := mg) (fun g f fd F => ok_needEnd F T (MA g)) fun f fd F => F.binds fun _ _ _ _ _ _ us hl => by obtain ⟨a1, rfl⟩ := ln1 hl; rfl
  have MW := m9.mt (P := P) (w := w) (mg := mg) (fun g f fd F => ok_takeWord F T (MA g)) fun f fd F => F.binds fun _ _ _ _ _ _ us hl => by obtain ⟨a1, rfl⟩ := ln1 hl; rfl
  have MT := m7.mt (P := P) (w := w) (mg := mg) (fun g f fd F => ok_takeName F T (MN g) (MW g)) fun f fd F => F.binds fun _ _ _ _ _ _ us hl => by obtain ⟨a1, rfl⟩ := ln1 hl; rfl
  have MI := m8.mt (P := P) (w := w) (mg := mg) (fun g f fd F => ok_takeNum F G T (MU g) (MW g)) fun f fd F => F.binds fun _ _ _ _ _ _ us hl => by obtain ⟨a1, rfl⟩ := ln1 hl; rfl
  refine ⟨C, T, ⟨MT, MU, MI, ?_⟩, fun g RW => ?_, ME⟩
  · obtain ⟨f, oc, od, kV, doc, pm, an, cdv, ct, osl, a, i, l, c, kp⟩ := m10.ex
    have F := fun_mk (st := sInB) l c kp
    exact ⟨f, _, ⟨a, i, kp⟩, F.binds fun _ _ _ _ _ _ us hl => by obtain ⟨a1, a2, rfl⟩ := ln2 hl; rfl, fun T' pos qual k g => ok_inb F G T (MP g)⟩
  · obtain ⟨f, oc, od, kV, doc, pm, an, cdv, ct, osl, a, i, l, c, kp⟩ := m1.ex
    have F := fun_mk (st := sInit) l c kp
    exact ⟨f, _, ⟨mk, a, i, kc⟩, ok_init F T RW, F.binds fun _ _ _ _ _ _ us hl => by obtain ⟨a1, a2, rfl⟩ := ln2 hl; rfl⟩
end K5
namespace K5
open PySem L2
theorem all_mk {c1 T1 : Addr} {l : PySem.W.OpenLaw} {w : World} {K : PySem.W.Frag} {h : Heap} {mg : Str → Option Value} {fa : Addr} (X : K.In h) (N : h.Ns mainGlobals mg) (hfa : mg "law" = some (.ref fa))
    (d1 : DefAt K "words" sWords) (d2 : DefAt K "word_at" sWordAt) (d3 : DefAt K "name_at" sNameAt) (d4 : DefAt K "below_zero_at" sBelow) (d5 : DefAt K "figures_at" sFigures) (d6 : DefAt K "run_at" sRun) (d7 : DefAt K "begins_in" sBegins) (d8 : DefAt K "size" sSize) (d9 : DefAt K "read_tree" sRead) (d10 : DefAt K "tree_from" sTreeF) (d11 : DefAt K "show_tree" sShow) (d12 : DefAt K "show_mark" sShowM) (d13 : DefAt K "show_in_brackets" sShowB) (d14 : DefAt K "_law_name_by" sNameBy) (d15 : DefAt K "_law_rows" sRows) (d16 : DefAt K "_law_texts" sTexts) (d17 : DefAt K "law" sLaw)
    (z1 : PySem.W.nsIn K mainGlobals "len" = some none) (z2 : PySem.W.nsIn K mainGlobals "isinstance" = some none) (z3 : PySem.W.nsIn K mainGlobals "str" = some none) (z4 : PySem.W.nsIn K mainGlobals "list" = some none) (z5 : PySem.W.nsIn K mainGlobals "range" = some none) (z6 : PySem.W.nsIn K mainGlobals "tuple" = some none) (z7 : PySem.W.nsIn K mainGlobals "int" = some none) (z8 : PySem.W.nsIn K mainGlobals "sum" = some none)   (ht1 : PySem.W.tabIn K "tree_from" = some (c1, T1)) (hh1 : PySem.W.codeHdIn K c1 T1 = true)  {tA tB tC tD tE tF tG : Tok} (gA : PySem.W.nsIn K mainGlobals "LETTERS" = some (some (.str LETS tA))) (gB : PySem.W.nsIn K mainGlobals "FIGURES" = some (some (.str FIGS tB))) (gC : PySem.W.nsIn K mainGlobals "SIGNS" = some (some (.str SGNS tC))) (gD : PySem.W.nsIn K mainGlobals "MOST_LETTERS" = some (some (.int 8 tD))) (gE : PySem.W.nsIn K mainGlobals "MOST_FIGURES" = some (some (.int 60 tE))) (gF : PySem.W.nsIn K mainGlobals "MOST_LEVELS" = some (some (.int 40 tF))) (gG : PySem.W.nsIn K mainGlobals "MOST_NAMES" = some (some (.int 200 tG))) (s1 : RdK K) :
    ∃ fd : FuncData, (∀ (s : Shared) (v : Value), BindsTo s fd ⟨[v], []⟩ [("_law_script", v)]) ∧ ∀ base : Heap, K.In base → base.Ns mainGlobals mg → BtAt mg base → FnOk l.prog w K mg base CX0 126 fa fd ["_law_script"] (spLaw K T1) := by
  have G : Gm mg := ⟨PySem.W.mg_none_of X N z1, PySem.W.mg_none_of X N z2, PySem.W.mg_none_of X N z3, PySem.W.mg_none_of X N z4, PySem.W.mg_none_of X N z5, PySem.W.mg_none_of X N z6, PySem.W.mg_none_of X N z7, PySem.W.mg_none_of X N z8, ⟨_, PySem.W.mg_of X N gA⟩, ⟨_, PySem.W.mg_of X N gB⟩, ⟨_, PySem.W.mg_of X N gC⟩, ⟨_, PySem.W.mg_of X N gD⟩, ⟨_, PySem.W.mg_of X N gE⟩⟩
  obtain ⟨f, oc, od, kV, doc, pm, an, cdv, ct, osl, a, lk, c, kp⟩ := d17.ex
  have e := hfa.symm.trans (PySem.W.mg_of X N a)
  cases e
  have F := fun_mk (st := sLaw) lk c kp
  refine ⟨PySem.W.fnOf "law" "law" (defArgs sLaw) (defBody sLaw) (defScope sLaw) .none kV doc pm an cdv ct, fun s v => .of_eq rfl, fun base _ _ hB => ?_⟩
  have G2 : Gm2 mg := ⟨⟨_, PySem.W.mg_of X N gF⟩, ⟨_, PySem.W.mg_of X N gG⟩⟩
  have aB : ∀ g : Heap, Fn l.prog w K mg g 1 "begins_in" ["word", "signs"] spBeg := fun g => d7.fn X N (fun f fd F => ok_begins F) (fun _ _ _ _ _ _ us hl => by obtain ⟨a1, a2, rfl⟩ := ln2 hl; rfl)
  obtain ⟨C, TT, MM, II, EE⟩ := s1.m (P := l.prog) (w := w) X N G aB
  have w1 : Fn l.prog w K mg base 1 "run_at" ["text", "start", "signs"] spRun := d6.fn X N (fun f fd F => ok_run F G) fun _ _ _ _ _ _ us hl => by obtain ⟨a1, a2, a3, rfl⟩ := ln3 hl; rfl
  have w2 : Fn l.prog w K mg base 2 "figures_at" ["text", "start"] spFig := d5.fn X N (fun f fd F => ok_fig F G w1) fun _ _ _ _ _ _ us hl => by obtain ⟨a1, a2, rfl⟩ := ln2 hl; rfl
  have w3 : Fn l.prog w K mg base 3 "below_zero_at" ["text", "start"] spBelow := d4.fn X N (fun f fd F => ok_below F w2) fun _ _ _ _ _ _ us hl => by obtain ⟨a1, a2, rfl⟩ := ln2 hl; rfl
  have w4 : Fn l.prog w K mg base 2 "name_at" ["text", "start"] spNameAt := d3.fn X N (fun f fd F => ok_nameAt F G w1) fun _ _ _ _ _ _ us hl => by obtain ⟨a1, a2, rfl⟩ := ln2 hl; rfl
  have w5 : Fn l.prog w K mg base 4 "word_at" ["text", "start"] spWordAt := d2.fn X N (fun f fd F => ok_wordAt F G w4 w2 w3) fun _ _ _ _ _ _ us hl => by obtain ⟨a1, a2, rfl⟩ := ln2 hl; rfl
  have w6 : Fn l.prog w K mg base 5 "words" ["text"] spWords := d1.fn X N (fun f fd F => ok_words F G w5) fun _ _ _ _ _ _ us hl => by obtain ⟨a1, rfl⟩ := ln1 hl; rfl
  have r1 : Fn l.prog w K mg base 40 "size" ["tree"] (spSize K 40) := by
    obtain ⟨f, oc, od, kV, doc, pm, an, cdv, ct, osl, a, lk, c, kp⟩ := d8.ex
    have F := fun_mk (st := sSize) lk c kp
    have hb : Binds K _ ["tree"] [] := F.binds fun _ _ _ _ _ _ us hl => by obtain ⟨a1, rfl⟩ := ln1 hl; rfl
    exact ⟨f, _, all_size F G hb (PySem.W.mg_of X N a) 40, hb, kp, PySem.W.mg_of X N a⟩
  have r2 : Fn l.prog w K mg base 1 "show_mark" ["mark"] spSM := d12.fn X N (fun f fd F => ok_sm F G) fun _ _ _ _ _ _ us hl => by obtain ⟨a1, rfl⟩ := ln1 hl; rfl
  have r3 : Fn l.prog w K mg base 1 "show_in_brackets" ["texts"] (spSB K) := d13.fn X N (fun f fd F => ok_sb F G) fun _ _ _ _ _ _ us hl => by obtain ⟨a1, rfl⟩ := ln1 hl; rfl
  have r4 : Fn l.prog w K mg base 41 "show_tree" ["tree"] (spShow K 40) := by
    obtain ⟨f, oc, od, kV, doc, pm, an, cdv, ct, osl, a, lk, c, kp⟩ := d11.ex
    have F := fun_mk (st := sShow) lk c kp
    have hb : Binds K _ ["tree"] [] := F.binds fun _ _ _ _ _ _ us hl => by obtain ⟨a1, rfl⟩ := ln1 hl; rfl
    exact ⟨f, _, all_show F G r2 r3 hb (PySem.W.mg_of X N a) 40, hb, kp, PySem.W.mg_of X N a⟩
  have r5 : Fn l.prog w K mg base 124 "tree_from" ["reader", "room"] (spTreeF K C T1 pL qL 40) := by
    obtain ⟨f, oc, od, kV, doc, pm, an, cdv, ct, osl, a, lk, c, kp⟩ := d10.ex
    have F := fun_mk (st := sTreeF) lk c kp
    have hb : Binds K _ ["reader", "room"] [] := F.binds fun _ _ _ _ _ _ us hl => by obtain ⟨a1, a2, rfl⟩ := ln2 hl; rfl
    exact ⟨f, _, all_treeF F a ht1 hh1 TT MM hb (PySem.W.mg_of X N a) 40 base hB, hb, kp, PySem.W.mg_of X N a⟩
  obtain ⟨fI, fdI, mkI, FI, bI⟩ := II base w6
  have r6 : Fn l.prog w K mg base 125 "read_tree" ["text"] (spRead K T1) := d9.fn X N (fun f fd F => ok_read F G2 TT mkI FI bI (EE base) r5 r1) fun _ _ _ _ _ _ us hl => by obtain ⟨a1, rfl⟩ := ln1 hl; rfl
  have l1 : Fn l.prog w K mg base 1 "_law_name_by" ["_law_cell"] spNameBy := d14.fn X N (fun f fd F => ok_nameBy F G) fun _ _ _ _ _ _ us hl => by obtain ⟨a1, rfl⟩ := ln1 hl; rfl
  have l2 : Fn l.prog w K mg base 2 "_law_rows" ["_law_cells"] (spRows K) := d15.fn X N (fun f fd F => ok_rows F G l1) fun _ _ _ _ _ _ us hl => by obtain ⟨a1, rfl⟩ := ln1 hl; rfl
  have l3 : Fn l.prog w K mg base 1 "_law_texts" ["_law_rows_here"] (spTexts K) := d16.fn X N (fun f fd F => ok_texts F G) fun _ _ _ _ _ _ us hl => by obtain ⟨a1, rfl⟩ := ln1 hl; rfl
  exact ok_law F G l2 l3 r4 r6
theorem walk {c1 T1 : Addr} {l : PySem.W.OpenLaw} {q : Program} {loose : List Str} {XP : (Str → Option Value) → Heap → Prop} {YP : World → Heap → Prop} {d : DefRec} {K : Params → PySem.W.Frag} (hn : l.most = some 63) (hdf : d.params.defaults = [])
    (hY : ∀ (w : World) (h : Heap), YP w h → (K w.params).In h) (tb1 : ∀ w : World, TabAt q (K w.params) "tree_from" c1 T1)
    (F : ∀ (w : World) (mg : Str → Option Value) (fa : Addr) (h : Heap), (K w.params).In h → h.Ns mainGlobals mg → mg d.name = some (.ref fa) →
      ∃ fd : FuncData, (∀ (s : Shared) (u : Value), BindsTo s fd ⟨[u], []⟩ [("_law_script", u)]) ∧ ∀ base : Heap, (K w.params).In base → base.Ns mainGlobals mg → BtAt mg base → FnOk l.prog w (K w.params) mg base CX0 126 fa fd ["_law_script"] (spLaw (K w.params) T1)) :
    PySem.W.WalkO q loose XP YP l.row.toRowW d [] (fun f vs => PySem.call f vs) :=
  L2.walk_ofT (n := 63) (k := 126) (x := "_law_script") (tabs := [("tree_from", c1, T1)]) (sp := fun w => spLaw (K w.params) T1) hn (by decide) hdf ⟨rfl, by decide, by decide⟩ hY (fun w p hp => by
    simp only [List.mem_cons, List.not_mem_nil, or_false] at hp
    rcases hp with rfl
    · exact tb1 w) F (fun _ _ a ns hl hS hT => ⟨a, ns, rfl, hS, hl, hT ("tree_from", c1, T1) (by simp), fun _ => rfl⟩)
end K5
open PySem PySem.W PyProof.Rows
set_option maxRecDepth 100000 in
set_option maxHeartbeats 0 in
theorem PySem.Challenge.cw_turnery_k05_trees_shown_and_read_holds : PySem.Challenge.rw_turnery_k05_trees_shown_and_read.Holds := by
  w_on; o_law; k_head; (case hw => w_witness2)
  k_fill
  refine K5.walk (c1 := 211) (T1 := 207) (l := PySem.Challenge.rw_turnery_k05_trees_shown_and_read) rfl rfl (fun w h Y => PySem.W.km_in_of Y) ?tb1 ?F
  case tb1 =>
    intro w
    refine' L2.TabAt.mk ⟨_, ?a⟩ ?b ?c ?d; (case a => exact rfl); (case b => kernel_rfl); (case c => kernel_rfl); (case d => kernel_rfl)
  case F =>
    intro w mg fa h KX G hmg
    refine' K5.all_mk (c1 := 211) (T1 := 207) KX G hmg ?d1 ?d2 ?d3 ?d4 ?d5 ?d6 ?d7 ?d8 ?d9 ?d10 ?d11 ?d12 ?d13 ?d14 ?d15 ?d16 ?d17 ?z1 ?z2 ?z3 ?z4 ?z5 ?z6 ?z7 ?z8 ?ht1 ?hh1 ?gA ?gB ?gC ?gD ?gE ?gF ?gG ?s1
    (case ht1 => kernel_rfl); (case hh1 => kernel_rfl)
    (case d1 => refine' L2.DefAt.mk' ?a ?l ?c ?k; (case a => k_is); (case l => k_is); (case c => k_is); (case k => k_is))
    (case d2 => refine' L2.DefAt.mk' ?a ?l ?c ?k; (case a => k_is); (case l => k_is); (case c => k_is); (case k => k_is))
    (case d3 => refine' L2.DefAt.mk' ?a ?l ?c ?k; (case a => k_is); (case l => k_is); (case c => k_is); (case k => k_is))
    (case d4 => refine' L2.DefAt.mk' ?a ?l ?c ?k; (case a => k_is); (case l => k_is); (case c => k_is); (case k => k_is))
    (case d5 => refine' L2.DefAt.mk' ?a ?l ?c ?k; (case a => k_is); (case l => k_is); (case c => k_is); (case k => k_is))
    (case d6 => refine' L2.DefAt.mk' ?a ?l ?c ?k; (case a => k_is); (case l => k_is); (case c => k_is); (case k => k_is))
    (case d7 => refine' L2.DefAt.mk' ?a ?l ?c ?k; (case a => k_is); (case l => k_is); (case c => k_is); (case k => k_is))
    (case d8 => refine' L2.DefAt.mk' ?a ?l ?c ?k; (case a => k_is); (case l => k_is); (case c => k_is); (case k => k_is))
    (case d9 => refine' L2.DefAt.mk' ?a ?l ?c ?k; (case a => k_is); (case l => k_is); (case c => k_is); (case k => k_is))
    (case d10 => refine' L2.DefAt.mk' ?a ?l ?c ?k; (case a => k_is); (case l => k_is); (case c => k_is); (case k => k_is))
    (case d11 => refine' L2.DefAt.mk' ?a ?l ?c ?k; (case a => k_is); (case l => k_is); (case c => k_is); (case k => k_is))
    (case d12 => refine' L2.DefAt.mk' ?a ?l ?c ?k; (case a => k_is); (case l => k_is); (case c => k_is); (case k => k_is))
    (case d13 => refine' L2.DefAt.mk' ?a ?l ?c ?k; (case a => k_is); (case l => k_is); (case c => k_is); (case k => k_is))
    (case d14 => refine' L2.DefAt.mk' ?a ?l ?c ?k; (case a => k_is); (case l => k_is); (case c => k_is); (case k => k_is))
    (case d15 => refine' L2.DefAt.mk' ?a ?l ?c ?k; (case a => k_is); (case l => k_is); (case c => k_is); (case k => k_is))
    (case d16 => refine' L2.DefAt.mk' ?a ?l ?c ?k; (case a => k_is); (case l => k_is); (case c => k_is); (case k => k_is))
    (case d17 => refine' L2.DefAt.mk' ?a ?l ?c ?k; (case a => k_is); (case l => k_is); (case c => k_is); (case k => k_is))
    (case z1 => k_is); (case z2 => k_is); (case z3 => k_is); (case z4 => k_is); (case z5 => k_is); (case z6 => k_is); (case z7 => k_is); (case z8 => k_is)
    (case gA => k_is)
    (case gB => k_is)
    (case gC => k_is)
    (case gD => k_is)
    (case gE => k_is)
    (case gF => k_is)
    (case gG => k_is)
    case s1 =>
      refine' K5.RdK.mk' ?aC ?pg ?hd ?po ?sa ?n1 ?n2 ?mk ?kc ?m1 ?m2 ?m3 ?m4 ?m5 ?m6 ?m7 ?m8 ?m9 ?m10
      (case aC => k_is); (case pg => k_is); (case hd => k_is); (case po => k_is); (case sa => k_is); (case n1 => k_is); (case n2 => k_is); (case mk => k_is); (case kc => k_is)
      (case m1 => refine' L2.MethAt.mk' ?a ?i ?l ?c ?k; (case a => k_is); (case i => k_is); (case l => k_is); (case c => k_is); (case k => k_is))
      (case m2 => refine' L2.MethAt.mk' ?a ?i ?l ?c ?k; (case a => k_is); (case i => k_is); (case l => k_is); (case c => k_is); (case k => k_is))
      (case m3 => refine' L2.MethAt.mk' ?a ?i ?l ?c ?k; (case a => k_is); (case i => k_is); (case l => k_is); (case c => k_is); (case k => k_is))
      (case m4 => refine' L2.MethAt.mk' ?a ?i ?l ?c ?k; (case a => k_is); (case i => k_is); (case l => k_is); (case c => k_is); (case k => k_is))
      (case m5 => refine' L2.MethAt.mk' ?a ?i ?l ?c ?k; (case a => k_is); (case i => k_is); (case l => k_is); (case c => k_is); (case k => k_is))
      (case m6 => refine' L2.MethAt.mk' ?a ?i ?l ?c ?k; (case a => k_is); (case i => k_is); (case l => k_is); (case c => k_is); (case k => k_is))
      (case m7 => refine' L2.MethAt.mk' ?a ?i ?l ?c ?k; (case a => k_is); (case i => k_is); (case l => k_is); (case c => k_is); (case k => k_is))
      (case m8 => refine' L2.MethAt.mk' ?a ?i ?l ?c ?k; (case a => k_is); (case i => k_is); (case l => k_is); (case c => k_is); (case k => k_is))
      (case m9 => refine' L2.MethAt.mk' ?a ?i ?l ?c ?k; (case a => k_is); (case i => k_is); (case l => k_is); (case c => k_is); (case k => k_is))
      (case m10 => refine' L2.MethAt.mk' ?a ?i ?l ?c ?k; (case a => k_is); (case i => k_is); (case l => k_is); (case c => k_is); (case k => k_is))
