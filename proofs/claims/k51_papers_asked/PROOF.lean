import PyProof.Rows.All
import Wide.All
import OpenK.AllK
import Wide.FinOn
import Lean
import PyProof.EqAt
import PyProof.EqKinds
import PyProof.TupleCall
import KE.KSortTup
import KE.KRevIter
import PySem.Challenge.RW_turnery_k51_papers_asked
noncomputable section
set_option Elab.async false
set_option linter.all false
set_option maxRecDepth 100000
namespace L2
open PySem PySem.Spec PyProof.Rows
abbrev Key := Sum Int Str
def keyIs : Key → Value → Bool
  | .inl k, v => Value.isInt k v
  | .inr x, v => Value.isStrOf x v
def keyH (w : World) : Key → Int
  | .inl k => hashInt k
  | .inr x => hashStr w x
theorem keyIs_shape : ∀ {k : Key} {v : Value}, keyIs k v = true → (∃ i t, k = Sum.inl i ∧ v = Value.int i t) ∨ (∃ x t, k = Sum.inr x ∧ v = Value.str x t)
  | .inl i, v, h => by
    obtain ⟨t, e⟩ := Value.isInt_shape (k := i) (v := v) h
    exact .inl ⟨i, t, rfl, e⟩
  | .inr x, v, h => by
    obtain ⟨t, e⟩ := Value.isStrOf_shape (x := x) (v := v) h
    exact .inr ⟨x, t, rfl, e⟩
theorem key_ll (a b : Int) : decide ((Sum.inl a : Key) = Sum.inl b) = (a == b) := by
  by_cases e : a = b
  · subst e; simp
  · have h : ¬ (Sum.inl a : Key) = Sum.inl b := fun q => e (Sum.inl.inj q)
    rw [decide_eq_false h]
    exact (beq_eq_false_iff_ne.mpr e).symm
theorem key_rr (a b : Str) : decide ((Sum.inr a : Key) = Sum.inr b) = decide (a = b) := by
  by_cases e : a = b
  · subst e; simp
  · have h : ¬ (Sum.inr a : Key) = Sum.inr b := fun q => e (Sum.inr.inj q)
    rw [decide_eq_false h, decide_eq_false e]
theorem key_lr (a : Int) (b : Str) : decide ((Sum.inl a : Key) = Sum.inr b) = false := decide_eq_false (fun q => nomatch q)
theorem key_rl (a : Str) (b : Int) : decide ((Sum.inr a : Key) = Sum.inl b) = false := decide_eq_false (fun q => nomatch q)
def mixKind (prog : Program) (w : World) : PySem.KeyKind prog w Key where
  is := keyIs
  hash := keyH w
  inj := fun v a b ha hb => by
    rcases keyIs_shape ha with ⟨i, t, rfl, rfl⟩ | ⟨x, t, rfl, rfl⟩
    · rcases keyIs_shape hb with ⟨j, u, rfl, e⟩ | ⟨y, u, rfl, e⟩
      · injection e with e1 _; rw [e1]
      · exact nomatch e
    · rcases keyIs_shape hb with ⟨j, u, rfl, e⟩ | ⟨y, u, rfl, e⟩
      · exact nomatch e
      · injection e with e1 _; rw [e1]
  byValue := fun k v h => by
    rcases keyIs_shape h with ⟨i, t, rfl, rfl⟩ | ⟨x, t, rfl, rfl⟩ <;> rfl
  pyHash := fun hv h => by
    rcases keyIs_shape hv with ⟨i, t, rfl, rfl⟩ | ⟨x, t, rfl, rfl⟩
    · exact wpAny_pyHash_int h
    · exact wpAny_pyHash_str h
  eqBool := fun hu hv h => by
    rcases keyIs_shape hu with ⟨i, t, rfl, rfl⟩ | ⟨x, t, rfl, rfl⟩
    · rcases keyIs_shape hv with ⟨j, u, rfl, rfl⟩ | ⟨y, u, rfl, rfl⟩
      · rw [key_ll] at h; exact wpAny_eqBool_int h
      · rw [key_lr] at h; exact SeqAt.EqAt.int_str i t y u _ _ _ _ h
    · rcases keyIs_shape hv with ⟨j, u, rfl, rfl⟩ | ⟨y, u, rfl, rfl⟩
      · rw [key_rl] at h; exact SeqAt.EqAt.str_int x t j u _ _ _ _ h
      · rw [key_rr] at h; exact wpAny_eqBool_str h
  «strs» := fun k x t v h => by
    rcases keyIs_shape h with ⟨i, u, rfl, e⟩ | ⟨y, u, rfl, e⟩
    · exact nomatch e
    · injection e with e1 _
      subst e1
      cases v <;> rfl
end L2
namespace L2
open PySem PySem.Spec PyProof.Rows
inductive V where
  | non | bl (b : Bool) | int (i : Int) | str (x : Str) | byt (b : Array UInt8) | flt (b : UInt64) | ref (a : Addr) | ty (n : String)
  deriving DecidableEq
def RelV : V → Value → Prop
  | .non, u => u = Value.none
  | .bl b, u => u = Value.bool b
  | .int i, u => ∃ t, u = Value.int i t
  | .str x, u => ∃ t, u = Value.str x t
  | .byt b, u => ∃ t, u = Value.bytes b t
  | .flt b, u => ∃ t, u = Value.float b t
  | .ref a, u => u = Value.ref a
  | .ty n, u => u = Value.type n
abbrev Vals : List V → List Value → Prop := Paired RelV
theorem Vals.length {xs : List V} {us : List Value} (r : Vals xs us) : xs.length = us.length := Paired.length r
theorem Vals.get : ∀ {xs : List V} {us : List Value} {i : Nat} {x : V}, Vals xs us → xs[i]? = some x → ∃ u, us[i]? = some u ∧ RelV x u
  | _, _, _, _, .nil, e => by simp at e
  | _, _, 0, _, .cons r _, e => by simp at e; subst e; exact ⟨_, rfl, r⟩
  | _, _, i + 1, x, .cons _ t, e => by
    obtain ⟨u, h1, h2⟩ := Vals.get (i := i) (x := x) t (by simpa using e)
    exact ⟨u, by simpa using h1, h2⟩
theorem Vals.set {x : V} {u : Value} (r : RelV x u) : ∀ {xs : List V} {us : List Value} (i : Nat), Vals xs us → Vals (xs.set i x) (us.set i u)
  | _, _, _, .nil => .nil
  | _, _, 0, .cons _ t => .cons r t
  | _, _, i + 1, .cons q t => .cons q (Vals.set r i t)
theorem Vals.append : ∀ {xs ys : List V} {us ws : List Value}, Vals xs us → Vals ys ws → Vals (xs ++ ys) (us ++ ws)
  | _, _, _, _, .nil, s => s
  | _, _, _, _, .cons r t, s => .cons r (Vals.append t s)
theorem Vals.take : ∀ {xs : List V} {us : List Value} (n : Nat), Vals xs us → Vals (xs.take n) (us.take n)
  | _, _, 0, _ => .nil
  | _, _, _ + 1, .nil => .nil
  | _, _, n + 1, .cons r t => .cons r (Vals.take n t)
theorem Vals.drop : ∀ {xs : List V} {us : List Value} (n : Nat), Vals xs us → Vals (xs.drop n) (us.drop n)
  | _, _, 0, r => r
  | _, _, _ + 1, .nil => .nil
  | _, _, n + 1, .cons _ t => Vals.drop n t
def RelO : Option V → Option Value → Prop
  | some v, some u => RelV v u
  | none, none => True
  | _, _ => False
def KV {κ : Type} : List (κ × V) → List (κ × Value) → Prop := Paired fun (p : κ × V) (q : κ × Value) => p.1 = q.1 ∧ RelV p.2 q.2
def kV : Key → V
  | .inl i => .int i
  | .inr x => .str x
inductive HO where
  /-- a list -/
  | lst (xs : List V)
  /-- a tuple (never changes) -/
  | tup (xs : List V)
  /-- a dict whose keys are ints and texts; one whose keys are tuples of ints and texts (the empty one is both) -/
  | dK (kvs : List (Key × V)) | dT (kvs : List (List Key × V))
  /-- a set of ints: its members, its size -/
  | set (S : Int → Bool) (n : Nat)
  /-- an instance of the class at C, its dict at dx, its attributes -/
  | ins (C dx : Addr) (fs : List (Str × V))
  /-- the dict of the instance at x -/
  | own (x : Addr)
  /-- the dict of an exception -/
  | xd (fs : List (Str × V))
  /-- a bound method, f of x -/
  | met (f x : Addr)
  /-- a range object lo, lo + 1, .. below hi -/
  | rng (lo hi : Int)
  /-- a thing that is known to the object (the script; a dict while a loop walks it): read, never written while it is so -/
  | frz (o : Obj) (u : HO)
  /-- a code object's table -/
  | tbl (ps : Array Value)
  /-- any other thing, by what is true of its one object (a def of one's own: SetO a S n := HO.ext fun h => ..) -/
  | ext (φ : Heap → Prop)
abbrev Hp := Addr → Option HO
def upd (H : Hp) (a : Addr) (o : HO) : Hp := fun b => if b = a then some o else H b
theorem upd_same {H : Hp} {a : Addr} {o : HO} : upd H a o a = some o := by unfold upd; rw [if_pos rfl]
theorem upd_ne {H : Hp} {a b : Addr} {o : HO} (h : b ≠ a) : upd H a o b = H b := by unfold upd; rw [if_neg h]
theorem ne_of {H : Hp} {a b : Addr} {o u : HO} (h : H a = some o) (h' : H b = some u) (d : o ≠ u) : a ≠ b := by
  intro e; subst e; rw [h] at h'; exact d (Option.some.inj h')
theorem ne_of_none {H : Hp} {a b : Addr} {o : HO} (h : H a = some o) (h' : H b = none) : a ≠ b := by
  intro e; subst e; rw [h] at h'; cases h'
section
variable (P : Program) (w : World)
def ObjOk (H : Hp) (h : Heap) (a : Addr) : HO → Prop
  | .lst xs => xs.length ≤ sizeLine ∧ ∃ (its : List Value) (n : Nat), Vals xs its ∧ h.get? a = some { cls := .type "list", data := .seq its.toArray n }
  | .tup xs => xs.length ≤ sizeLine ∧ ∃ its : List Value, Vals xs its ∧ IsTup h a its.toArray
  | .dK kvs => kvs.length ≤ sizeLine ∧ (a == sysModules) = false ∧ ∃ vs, KV kvs vs ∧ h.DictOf (mixKind P w) a vs
  | .dT kvs => kvs.length ≤ sizeLine ∧ (a == sysModules) = false ∧ ∃ xs : List (List Key × Addr × Value),
      Paired (fun (p : List Key × V) (q : List Key × Addr × Value) => p.1 = q.1 ∧ H q.2.1 = some (.tup (p.1.map kV)) ∧ RelV p.2 q.2.2) kvs xs ∧
      ∃ o es ep, h.get? a = some o ∧ o.ExactDict ∧ o.data = .dict es ep ∧ es.toList = xs.map (entryOfKey (tupleKind (mixKind P w))) ∧ (xs.map (·.1)).Nodup
  | .set S n => h.SetOf (intKind P w) a S n
  | .ins C dx fs => H dx = some (.own a) ∧ fs.length ≤ 1000 ∧ dx ≠ a ∧ h.get? a = some (PySem.W.instObj C dx) ∧
      ∃ mA, h.Ns1 dx mA ∧ (∀ f, RelO (fs.lookup f) (mA f)) ∧ PySem.Within mA (fs.map (·.1))
  | .own _ => ∃ o, h.get? a = some o
  | .xd fs => ∃ mA, h.Ns1 a mA ∧ ∀ f, RelO (fs.lookup f) (mA f)
  | .rng lo hi => ∃ t u v, h.get? a = some { cls := .type "range", data := .fields #[.int lo t, .int hi u, .int 1 v] }
  | .frz o u => h.get? a = some o ∧ ObjOk H h a u
  | .tbl ps => h.get? a = some { cls := .none, data := .fields ps }
  | .met f x => h.get? a = some (PySem.W.methodObj (.ref f) (.ref x))
  | .ext φ => φ h ∧ (∃ o, h.get? a = some o) ∧ ∀ h1 h2 : Heap, φ h1 → (∀ o, h1.get? a = some o → h2.get? a = some o) → φ h2
def HOk (H : Hp) (h : Heap) : Prop := ∀ a o, H a = some o → ObjOk P w H h a o
end
section
variable {P : Program} {w : World} {H H' : Hp} {h h' : Heap} {a : Addr} {o : HO}
theorem ObjOk.lt (x : ObjOk P w H h a o) : a < h.objs.size := by
  cases o with
  | lst xs => obtain ⟨_, _, _, _, e⟩ := x; exact Heap.lt_size e
  | tup xs => obtain ⟨_, _, _, p⟩ := x; exact p.lt
  | dK kvs => obtain ⟨_, _, _, _, o, _, _, e, _⟩ := x; exact Heap.lt_size e
  | dT kvs => obtain ⟨_, _, _, _, o, _, _, e, _⟩ := x; exact Heap.lt_size e
  | set S n => obtain ⟨o, _, _, _, e, _⟩ := x; exact Heap.lt_size e
  | ins C dx fs => obtain ⟨_, _, _, e, _⟩ := x; exact Heap.lt_size e
  | own y => obtain ⟨_, e⟩ := x; exact Heap.lt_size e
  | xd fs => obtain ⟨_, ⟨_, _, _, e, _⟩, _⟩ := x; exact Heap.lt_size e
  | rng lo hi => obtain ⟨_, _, _, e⟩ := x; exact Heap.lt_size e
  | frz ob u => obtain ⟨e, _⟩ := x; exact Heap.lt_size e
  | tbl ps => exact Heap.lt_size (show h.get? a = some _ from x)
  | met f y => exact Heap.lt_size (show h.get? a = some _ from x)
  | ext φ => obtain ⟨_, ⟨_, e⟩, _⟩ := x; exact Heap.lt_size e
theorem Paired.mapP {α β : Type} {F G : α → β → Prop} : ∀ {l₁ : List α} {l₂ : List β}, Paired F l₁ l₂ → (∀ a b, F a b → G a b) → Paired G l₁ l₂
  | _, _, .nil, _ => .nil
  | _, _, .cons r t, f => .cons (f _ _ r) (Paired.mapP t f)
theorem ObjOk.stay (x : ObjOk P w H h a o) (k : ∀ b u, (b = a ∨ H b = some (.own a)) → h.get? b = some u → h'.get? b = some u)
    (ho : ∀ b, H b = some (.own a) → H' b = some (.own a)) (ht : ∀ b xs, H b = some (.tup xs) → H' b = some (.tup xs)) : ObjOk P w H' h' a o := by
  induction o with
  | lst xs => obtain ⟨z, its, n, r, e⟩ := x; exact ⟨z, its, n, r, k _ _ (.inl rfl) e⟩
  | tup xs => obtain ⟨z, its, r, ob, e, c⟩ := x; exact ⟨z, its, r, ob, k _ _ (.inl rfl) e, c⟩
  | dK kvs => obtain ⟨z, y, vs, r, ob, es, ep, e, c⟩ := x; exact ⟨z, y, vs, r, ob, es, ep, k _ _ (.inl rfl) e, c⟩
  | dT kvs =>
    obtain ⟨z, y, xs, r, ob, es, ep, e, c⟩ := x
    exact ⟨z, y, xs, Paired.mapP r fun p q z => ⟨z.1, ht _ _ z.2.1, z.2.2⟩, ob, es, ep, k _ _ (.inl rfl) e, c⟩
  | set S n => obtain ⟨ob, es, ep, t, e, c⟩ := x; exact ⟨ob, es, ep, t, k _ _ (.inl rfl) e, c⟩
  | ins C dx fs =>
    obtain ⟨d, z, ne, e, mA, ⟨od, es, ep, e2, c⟩, r⟩ := x
    exact ⟨ho _ d, z, ne, k _ _ (.inl rfl) e, mA, ⟨od, es, ep, k _ _ (.inr d) e2, c⟩, r⟩
  | own y => obtain ⟨ob, e⟩ := x; exact ⟨ob, k _ _ (.inl rfl) e⟩
  | xd fs => obtain ⟨mA, ⟨od, es, ep, e, c⟩, r⟩ := x; exact ⟨mA, ⟨od, es, ep, k _ _ (.inl rfl) e, c⟩, r⟩
  | rng lo hi => obtain ⟨t, u, v, e⟩ := x; exact ⟨t, u, v, k _ _ (.inl rfl) e⟩
  | frz ob u ih => obtain ⟨e, q⟩ := x; exact ⟨k _ _ (.inl rfl) e, ih q⟩
  | tbl ps =>
    have e : h.get? a = some { cls := .none, data := .fields ps } := x
    show h'.get? a = some { cls := .none, data := .fields ps }
    exact k a _ (.inl rfl) e
  | met f y =>
    have e : h.get? a = some (PySem.W.methodObj (.ref f) (.ref y)) := x
    show h'.get? a = some (PySem.W.methodObj (.ref f) (.ref y))
    exact k a _ (.inl rfl) e
  | ext φ => obtain ⟨p, ⟨o, e⟩, st⟩ := x; exact ⟨st _ _ p fun o q => k _ _ (.inl rfl) q, ⟨o, k _ _ (.inl rfl) e⟩, st⟩
theorem HOk.lt (x : HOk P w H h) (e : H a = some o) : a < h.objs.size := (x a o e).lt
theorem HOk.fresh (x : HOk P w H h) (e : h.objs.size ≤ a) : H a = none := by
  cases q : H a with
  | none => rfl
  | some u => exact absurd (Nat.lt_of_lt_of_le (x.lt q) e) (Nat.lt_irrefl _)
theorem HOk.kept (x : HOk P w H h) (k : ∀ b u, h.get? b = some u → h'.get? b = some u) : HOk P w H h' := fun a o e =>
  (x a o e).stay (fun b u _ q => k b u q) (fun _ q => q) fun _ _ q => q
theorem HOk.laid (x : HOk P w H h) (k : ∀ b u, h.get? b = some u → h'.get? b = some u) (hp : h.objs.size ≤ a) (new : ObjOk P w (upd H a o) h' a o) : HOk P w (upd H a o) h' := fun b u e => by
  have hn := x.fresh hp
  by_cases hb : b = a
  · subst hb; rw [upd_same] at e; cases e; exact new
  · rw [upd_ne hb] at e
    exact (x b u e).stay (fun c v _ q => k c v q) (fun c q => by rw [upd_ne (ne_of_none q hn)]; exact q) fun c xs q => by rw [upd_ne (ne_of_none q hn)]; exact q
end
def Rd (H : Hp) (a : Addr) (u : HO) : Prop := H a = some u ∨ ∃ o, H a = some (.frz o u)
theorem Rd.ok {P : Program} {w : World} {H : Hp} {h : Heap} {a : Addr} {u : HO} (r : Rd H a u) (x : HOk P w H h) : ObjOk P w H h a u := by
  rcases r with r | ⟨o, r⟩
  · exact x a u r
  · obtain ⟨_, q⟩ := x a _ r
    exact q
def Mut : Option HO → Prop
  | some (.lst _) => True
  | some (.dK _) => True
  | some (.dT _) => True
  | some (.set _ _) => True
  | some (.ins _ _ _) => True
  | some (.ext _) => True
  | _ => False
section
variable {P : Program} {w : World} {H : Hp} {h h' : Heap} {x e : Addr} {o' : HO}
theorem HOk.write (ok : HOk P w H h) (mu : Mut (H x)) (he : e = x ∨ H e = some (.own x)) (k : ∀ b u, b ≠ e → h.get? b = some u → h'.get? b = some u) (heo : ∃ u, h'.get? e = some u)
    (new : ObjOk P w (upd H x o') h' x o') : HOk P w (upd H x o') h' := fun b u q => by
  have nown : ∀ c y, H c = some (.own y) → c ≠ x := fun c y r z => by subst z; rw [r] at mu; exact mu
  have ntup : ∀ c xs, H c = some (.tup xs) → c ≠ x := fun c xs r z => by subst z; rw [r] at mu; exact mu
  by_cases hb : b = x
  · subst hb; rw [upd_same] at q; cases q; exact new
  · rw [upd_ne hb] at q
    by_cases hbe : b = e
    · have q' : H b = some (.own x) := by
        rcases he with z | z
        · exact absurd (hbe.trans z) hb
        · rw [hbe]; exact z
      rw [q] at q'; cases q'
      obtain ⟨v, hv⟩ := heo
      exact ⟨v, by rw [hbe]; exact hv⟩
    · refine (ok b u q).stay (fun c v hc r => k c v ?_ r) (fun c r => by rw [upd_ne (nown c b r)]; exact r) fun c xs r => by rw [upd_ne (ntup c xs r)]; exact r
      rcases hc with rfl | hc
      · exact hbe
      · rintro rfl
        rcases he with z | z
        · exact nown c b hc z
        · rw [hc] at z; cases z; exact hb rfl
end
structure Un (fs ex : List Addr) (H H' : Hp) (h h' : Heap) : Prop where
  keep : ∀ b o, h.get? b = some o → H b = none → b ∉ fs → b ∉ ex → h'.get? b = some o
  slot : ∀ b o, h.get? b = some o → H b = none → b ∈ fs → b ∉ ex → ∃ sl, h'.get? b = some { o with slots := sl }
  free : ∀ b o, h.get? b = some o → H b = none → b ∉ ex → H' b = none
  there : ∀ b o, h.get? b = some o → b ∉ ex → ∃ o', h'.get? b = some o'
  tups : ∀ b xs, H b = some (.tup xs) → H' b = some (.tup xs)
  frzs : ∀ b o u, H b = some (.frz o u) → H' b = some (.frz o u)
  tbls : ∀ b ps, H b = some (.tbl ps) → ∃ more, H' b = some (.tbl (ps ++ more))
section
variable {fs fs' ex ex' : List Addr} {H H1 H2 : Hp} {h h1 h2 h' : Heap} {a x e : Addr} {o : HO}
theorem Un.any (u : Un fs ex H H1 h h1) {b : Addr} {ob : Obj} (q : h.get? b = some ob) (n : H b = none) (hx : b ∉ ex) : ∃ sl, h1.get? b = some { ob with slots := sl } := by
  by_cases hb : b ∈ fs
  · exact u.slot b ob q n hb hx
  · exact ⟨ob.slots, u.keep b ob q n hb hx⟩
theorem Un.kept (k : ∀ b u, h.get? b = some u → h'.get? b = some u) : Un fs ex H H h h' :=
  ⟨fun b ob q _ _ _ => k b ob q, fun b ob q _ _ _ => ⟨ob.slots, k b ob q⟩, fun _ _ _ n _ => n, fun b ob q _ => ⟨ob, k b ob q⟩, fun _ _ q => q, fun _ _ _ q => q, fun _ ps q => ⟨#[], by rw [q]; simp⟩⟩
theorem Un.refl : Un fs ex H H h h := Un.kept fun _ _ q => q
theorem Un.laid (k : ∀ b u, h.get? b = some u → h'.get? b = some u) (hp : h.objs.size ≤ a) (hn : H a = none) : Un fs ex H (upd H a o) h h' where
  keep := fun b u q _ _ _ => k b u q
  slot := fun b u q _ _ _ => ⟨u.slots, k b u q⟩
  free := fun b u q n _ => by rw [upd_ne (Nat.ne_of_lt (Nat.lt_of_lt_of_le (Heap.lt_size q) hp))]; exact n
  there := fun b u q _ => ⟨u, k b u q⟩
  tups := fun b xs q => by rw [upd_ne (ne_of_none q hn)]; exact q
  frzs := fun b u xs q => by rw [upd_ne (ne_of_none q hn)]; exact q
  tbls := fun b ps q => ⟨#[], by rw [upd_ne (ne_of_none q hn), q]; simp⟩
theorem Un.write (mu : Mut (H x)) (he : e = x ∨ H e = some (.own x)) (k : ∀ b u, b ≠ e → h.get? b = some u → h'.get? b = some u) (heo : ∃ u, h'.get? e = some u) : Un fs ex H (upd H x o) h h' := by
  have hx : ∀ b, H b = none → b ≠ x := fun b n z => by subst z; rw [n] at mu; exact mu
  have hb : ∀ b, H b = none → b ≠ e := fun b n z => by
    subst z
    rcases he with r | r
    · exact hx b n r
    · rw [n] at r; cases r
  have hm : ∀ b u, H b = some u → ¬ Mut (some u) → b ≠ x := fun b u q nm z => by subst z; rw [q] at mu; exact nm mu
  refine ⟨fun b u q n _ _ => k b u (hb b n) q, fun b u q n _ _ => ⟨u.slots, k b u (hb b n) q⟩, fun b u q n _ => by rw [upd_ne (hx b n)]; exact n, fun b u q _ => ?_,
    fun b xs q => by rw [upd_ne (hm b _ q fun z => z)]; exact q, fun b u xs q => by rw [upd_ne (hm b _ q fun z => z)]; exact q, fun b ps q => ⟨#[], by rw [upd_ne (hm b _ q fun z => z), q]; simp⟩⟩
  by_cases hbe : b = e
  · subst hbe; exact heo
  · exact ⟨u, k b u hbe q⟩
end
def trk (h : Heap) (H : Hp) : List Addr := (List.range h.objs.size).filter fun a => (H a).isSome
def hidT (h : Heap) (H : Hp) : Heap := PySem.W.hideAll h (trk h H)
theorem hidT_size (h : Heap) (H : Hp) : (hidT h H).objs.size = h.objs.size := PySem.W.hideAll_size _ _
theorem hidT_get {h : Heap} {H : Hp} {b : Addr} {o : Obj} (e : h.get? b = some o) (n : H b = none) : (hidT h H).get? b = some o :=
  PySem.W.hideAll_get _ e fun hm => by
    have q : (H b).isSome = true := (List.mem_filter.mp hm).2
    rw [n] at q; simp at q
theorem of_hidT {h : Heap} {H : Hp} {b : Addr} {o : Obj} (e : (hidT h H).get? b = some o) : h.get? b = some o ∧ H b = none := by
  have e' : h.get? b = some o := PySem.W.of_hideAll (trk h H) e
  refine ⟨e', ?_⟩
  cases q : H b with
  | none => rfl
  | some x =>
    have hm : b ∈ trk h H := List.mem_filter.mpr ⟨List.mem_range.mpr (Heap.lt_size e'), by simp [q]⟩
    have z : (hidT h H).get? b = none := PySem.W.hideAll_none (trk h H) hm
    rw [z] at e; cases e
def allNews (g h : Heap) (L : Addr) : List (Addr × Obj) := (List.range h.objs.size).filterMap fun a => if a = L ∨ (g.get? a).isSome = true then none else (h.get? a).map fun o => (a, o)
def rest (g h : Heap) (L d : Addr) : List (Addr × Obj) := (allNews g h L).filter fun p => decide (p.1 ≠ d)
end L2
namespace L2
open PySem PySem.Spec PyProof.Rows
structure Mod (K : PySem.W.Frag) (mg : Str → Option Value) (base : Heap) : Prop where
  kin : K.In base
  glob : base.Ns mainGlobals mg
  blt : ∃ mb, base.Ns builtinsNs mb ∧ ∀ x : Str, x ≠ "__name__" → mb x = bootBuiltins x
  nolimit : base.NoLimit
structure Cx where
  prog : Program
  w : World
  K : PySem.W.Frag
  mg : Str → Option Value
  base : Heap
  A : Around
  N : List Str
  s₀ : Shared
  H₀ : Hp
  env : Env
  outer : List Env
  stack : List Env
  ex : List Addr
  fn : Str → Bool
  calm : Bool
  pn : List (Addr × Obj)
  xe : Value → Shared → Prop
def frs (l : List Env) : List Addr := l.filterMap (·.frame)
abbrev Cx.fs (X : Cx) : List Addr := frs X.outer
def Vis (sc : Scope) (x : Str) : Prop := sc.names.lookup x = some .local ∨ sc.names.lookup x = some .cell ∨ sc.names.lookup x = some .free
def Loc (sc : Scope) (x : Str) : Prop := sc.names.lookup x = some .local ∨ sc.names.lookup x = some .cell
def Look (env : Env) (h : Heap) (m : Str → Option Value) (x : Str) (u : Value) : Prop :=
  (env.kindOf x = some .local ∧ m x = some u) ∨ ((env.kindOf x = some .cell ∨ env.kindOf x = some .free) ∧ ∃ c, env.cells.lookup x = some c ∧ h.IsCell c (some u))
structure Cx.Ok (X : Cx) : Prop where
  mod : Mod X.K X.mg X.base
  kind : X.env.scope.kind = .function
  glob : X.env.globals = mainGlobals
  blt : X.env.builtins = builtinsNs
  above : X.s₀.heap.objs.size ≤ X.env.locals
  inj : ∀ x y c, X.env.cells.lookup x = some c → X.env.cells.lookup y = some c → x = y
  has : ∀ x, (X.env.kindOf x = some .cell ∨ X.env.kindOf x = some .free) → ∃ c, X.env.cells.lookup x = some c
  cab : ∀ x c, X.fn x = true → X.env.cells.lookup x = some c → X.s₀.heap.objs.size ≤ c
  hd : X.calm = true → X.A.handled = none
  frames : X.A.frames = some X.stack
  stk : X.stack = X.outer ∨ (X.stack = X.env :: X.outer ∧ X.env.frame = some X.env.locals)
  exf : ∀ b ∈ X.ex, b ≠ X.env.locals ∧ ∀ x c, X.env.cells.lookup x = some c → c ≠ b
  bs : ∀ b o, X.base.get? b = some o → X.s₀.heap.get? b = some o ∧ X.H₀ b = none
  bsz : X.base.objs.size ≤ X.s₀.heap.objs.size
  noex : ∀ b o, X.base.get? b = some o → b ∉ X.ex
  exfs : ∀ b ∈ X.ex, b ∉ X.fs
  funs : X.s₀.heap.FunFrames X.base X.outer
  frf : ∀ b ∈ X.fs, X.H₀ b = none
structure Inv (X : Cx) (pins : List (Addr × Obj)) (σ : List (Option V)) (H : Hp) (s : Shared) : Prop where
  ok : X.Ok
  os : s.os = X.s₀.os
  bare : AllBare s.gens
  base : Un X.fs X.ex X.H₀ H X.s₀.heap s.heap
  loc : ∃ m, s.heap.Ns X.env.locals m ∧ ∀ (i : Nat) (x : Str) (v : V), X.N[i]? = some x → σ[i]? = some (some v) → Vis X.env.scope x → ∃ u, RelV v u ∧ Look X.env s.heap m x u
  cell : ∀ x c, X.env.cells.lookup x = some c → ∃ v, s.heap.IsCell c v
  free : H X.env.locals = none
  freeC : ∀ x c, X.env.cells.lookup x = some c → H c = none
  pin : ∀ p ∈ X.pn ++ pins, s.heap.get? p.1 = some p.2 ∧ H p.1 = none ∧ p.1 ≠ X.env.locals ∧ p.1 ∉ X.fs ∧ ∀ v, p.2.data ≠ .cell v
  hok : HOk X.prog X.w H s.heap
  len : σ.length = X.N.length
section
variable {X : Cx} {pins : List (Addr × Obj)} {σ : List (Option V)} {H H' : Hp} {s : Shared} {h' : Heap}
theorem Cx.Ok.nofr (ok : X.Ok) {b : Addr} {o : Obj} (e : X.base.get? b = some o) : b ∉ X.fs := fun hb => by
  have := (ok.funs.mem hb).1
  rw [e] at this; cases this
theorem Inv.bs (I : Inv X pins σ H s) : ∀ b o, X.base.get? b = some o → s.heap.get? b = some o ∧ H b = none := fun b o e =>
  ⟨I.base.keep b o (I.ok.bs b o e).1 (I.ok.bs b o e).2 (I.ok.nofr e) (I.ok.noex b o e), I.base.free b o (I.ok.bs b o e).1 (I.ok.bs b o e).2 (I.ok.noex b o e)⟩
theorem Inv.bk (I : Inv X pins σ H s) : ∀ b o, X.base.get? b = some o → s.heap.get? b = some o := fun b o e => (I.bs b o e).1
theorem Inv.mod (I : Inv X pins σ H s) : Mod X.K X.mg X.base := I.ok.mod
theorem Inv.kIn (I : Inv X pins σ H s) : X.K.In s.heap := I.ok.mod.kin.keeps I.bk
theorem Inv.fr (I : Inv X pins σ H s) : ∃ m, Fr X.base X.env.locals s.heap m :=
  let ⟨m, hn, _⟩ := I.loc
  ⟨m, hn, I.bk, Nat.le_trans I.ok.bsz I.ok.above⟩
theorem Inv.lt (I : Inv X pins σ H s) : X.env.locals < s.heap.objs.size := let ⟨_, hn, _⟩ := I.loc; hn.lt
theorem Inv.sz (I : Inv X pins σ H s) : X.s₀.heap.objs.size ≤ s.heap.objs.size := Nat.le_trans I.ok.above (Nat.le_of_lt I.lt)
theorem Inv.nofs (I : Inv X pins σ H s) {a : Addr} (h : s.heap.objs.size ≤ a) : a ∉ X.fs := fun hb => by
  obtain ⟨_, o, ho, _⟩ := I.ok.funs.mem hb
  exact absurd (Nat.lt_of_lt_of_le (Heap.lt_size ho) (Nat.le_trans I.sz h)) (Nat.lt_irrefl _)
theorem Inv.cne (I : Inv X pins σ H s) : ∀ x c, X.env.cells.lookup x = some c → c ≠ X.env.locals := fun x c e z => by
  obtain ⟨v, o, ho, hd⟩ := I.cell x c e
  obtain ⟨m, ⟨o', es, ep, ho', hd', _⟩, _⟩ := I.loc
  rw [z, ho'] at ho; cases ho; rw [hd'] at hd; cases hd
theorem Inv.funs (I : Inv X pins σ H s) : s.heap.FunFrames X.base X.outer := by
  have all : ∀ (l : List Env), (∀ b ∈ frs l, b ∈ X.fs) → X.s₀.heap.FunFrames X.base l → s.heap.FunFrames X.base l := by
    intro l
    induction l with
    | nil => intro _ _; trivial
    | cons env r ih =>
      intro hs hl
      obtain ⟨hk, ⟨L, o, hf, hn, ho, hd⟩, hr⟩ := hl
      have hL : L ∈ X.fs := hs L (by unfold frs; rw [List.filterMap_cons, hf]; exact List.mem_cons_self)
      obtain ⟨sl, e⟩ := I.base.slot L o ho (I.ok.frf L hL) hL fun z => I.ok.exfs L z hL
      exact ⟨hk, ⟨L, _, hf, hn, e, hd⟩, ih (fun b hb => hs b (by unfold frs; rw [List.filterMap_cons, hf]; exact List.mem_cons_of_mem _ hb)) hr⟩
  exact all X.outer (fun _ hb => hb) I.ok.funs
theorem Inv.stack (I : Inv X pins σ H s) : s.heap.FunFrames X.base X.stack := by
  rcases I.ok.stk with e | ⟨e, hf⟩
  · rw [e]; exact I.funs
  · rw [e]
    obtain ⟨m, hn, _⟩ := I.loc
    refine .cons (by rw [I.ok.kind]; decide) hf hn ?_ I.funs
    exact Heap.get?_none_of_le (Nat.le_trans I.ok.bsz I.ok.above)
theorem Inv.stkSub (I : Inv X pins σ H s) : ∀ b ∈ frs X.stack, b ∈ X.env.locals :: X.fs := fun b hb => by
  rcases I.ok.stk with e | ⟨e, hf⟩
  · rw [e] at hb; exact List.mem_cons_of_mem _ hb
  · rw [e] at hb
    unfold frs at hb
    rw [List.filterMap_cons, hf] at hb
    exact hb
theorem Inv.stkFree (I : Inv X pins σ H s) : ∀ b ∈ frs X.stack, H b = none := fun b hb => by
  rcases List.mem_cons.mp (I.stkSub b hb) with e | hb
  · rw [e]; exact I.free
  · obtain ⟨_, o, ho, _⟩ := I.ok.funs.mem hb
    exact I.base.free b o ho (I.ok.frf b hb) fun z => I.ok.exfs b z hb
theorem Inv.step {g' : Array GenState} {t' : Nat} {d' : Drawn} {ch : List Addr} (I : Inv X pins σ H s)
    (hch : ∀ b ∈ ch, (b ∈ X.ex ∨ X.s₀.heap.objs.size ≤ b) ∧ b ≠ X.env.locals ∧ (∀ x c, X.env.cells.lookup x = some c → c ≠ b) ∧ ∀ p ∈ X.pn ++ pins, p.1 ≠ b)
    (keep : ∀ b o, b ≠ X.env.locals → b ∉ X.fs → b ∉ ch → s.heap.get? b = some o → H b = none → h'.get? b = some o)
    (slot : ∀ b o, b ≠ X.env.locals → b ∈ X.fs → b ∉ ch → s.heap.get? b = some o → H b = none → ∃ sl, h'.get? b = some { o with slots := sl }) (free : ∀ b o, b ∉ ch → s.heap.get? b = some o → H b = none → H' b = none)
    (there : ∀ b o, b ∉ ch → s.heap.get? b = some o → ∃ o', h'.get? b = some o')
    (tups : ∀ b xs, H b = some (.tup xs) → H' b = some (.tup xs)) (frzs : ∀ b o u, H b = some (.frz o u) → H' b = some (.frz o u)) (tbls : ∀ b ps, H b = some (.tbl ps) → ∃ more, H' b = some (.tbl (ps ++ more)))
    (ns : ∀ m, s.heap.Ns X.env.locals m → h'.Ns X.env.locals m) (hok : HOk X.prog X.w H' h') (hg : AllBare g') :
    Inv X pins σ H' { s with heap := h', gens := g', drawn := d', toks := t' } := by
  have neL : ∀ b o, X.s₀.heap.get? b = some o → b ≠ X.env.locals := fun b o e => Nat.ne_of_lt (Nat.lt_of_lt_of_le (Heap.lt_size e) I.ok.above)
  have neC : ∀ b o, X.s₀.heap.get? b = some o → b ∉ X.ex → b ∉ ch := fun b o e hx hb => by
    rcases (hch b hb).1 with z | z
    · exact hx z
    · exact absurd (Nat.lt_of_lt_of_le (Heap.lt_size e) z) (Nat.lt_irrefl _)
  have cellK : ∀ x c, X.env.cells.lookup x = some c → ∀ v, s.heap.IsCell c v → h'.IsCell c v := fun x c e v ⟨o, ho, hd⟩ => by
    have nch : c ∉ ch := fun z => (hch c z).2.2.1 x c e rfl
    by_cases hc : c ∈ X.fs
    · obtain ⟨sl, q⟩ := slot c o (I.cne x c e) hc nch ho (I.freeC x c e)
      exact ⟨_, q, hd⟩
    · exact ⟨o, keep c o (I.cne x c e) hc nch ho (I.freeC x c e), hd⟩
  refine ⟨I.ok, I.os, hg, ⟨fun b o e n hb hx => ?_, fun b o e n hb hx => ?_, fun b o e n hx => ?_, fun b o e hx => ?_, fun b xs e => tups b xs (I.base.tups b xs e), fun b o xs e => frzs b o xs (I.base.frzs b o xs e), fun b ps e => ?_⟩, ?_, fun x c e => ?_, ?_, fun x c e => ?_, fun p hp => ?_, hok, I.len⟩
  · exact keep b o (neL b o e) hb (neC b o e hx) (I.base.keep b o e n hb hx) (I.base.free b o e n hx)
  · obtain ⟨sl, e1⟩ := I.base.slot b o e n hb hx
    obtain ⟨sl', e2⟩ := slot b _ (neL b o e) hb (neC b o e hx) e1 (I.base.free b o e n hx)
    exact ⟨sl', e2⟩
  · obtain ⟨o', e1⟩ := I.base.there b o e hx
    exact free b o' (neC b o e hx) e1 (I.base.free b o e n hx)
  · obtain ⟨o', e1⟩ := I.base.there b o e hx
    exact there b o' (neC b o e hx) e1
  · obtain ⟨m1, e1⟩ := I.base.tbls b ps e
    obtain ⟨m2, e2⟩ := tbls b _ e1
    exact ⟨m1 ++ m2, by rw [e2, Array.append_assoc]⟩
  · obtain ⟨m, hn, hl⟩ := I.loc
    refine ⟨m, ns m hn, fun i x v e1 e2 e3 => ?_⟩
    obtain ⟨u, r, l⟩ := hl i x v e1 e2 e3
    refine ⟨u, r, ?_⟩
    rcases l with l | ⟨k, c, e, z⟩
    · exact .inl l
    · exact .inr ⟨k, c, e, cellK x c e _ z⟩
  · obtain ⟨v, z⟩ := I.cell x c e
    exact ⟨v, cellK x c e v z⟩
  · obtain ⟨m, ⟨o, _, _, ho, _⟩, _⟩ := I.loc
    exact free _ o (fun z => (hch _ z).2.1 rfl) ho I.free
  · obtain ⟨v, o, ho, hd⟩ := I.cell x c e
    exact free c o (fun z => (hch c z).2.2.1 x c e rfl) ho (I.freeC x c e)
  · obtain ⟨e, n, ne, nf, d⟩ := I.pin p hp
    have nch : p.1 ∉ ch := fun z => (hch p.1 z).2.2.2 p hp rfl
    exact ⟨keep p.1 p.2 ne nf nch e n, free p.1 p.2 nch e n, ne, nf, d⟩
theorem Inv.un {t' : Nat} (I : Inv X pins σ H s) (u : Un X.fs [] H H' s.heap h') (hok : HOk X.prog X.w H' h') : Inv X pins σ H' { s with heap := h', toks := t' } := by
  obtain ⟨m, ⟨o, es, ep, ho, r⟩, _⟩ := id I.loc
  obtain ⟨sl, hL⟩ := u.any ho I.free (by simp)
  exact I.step (g' := s.gens) (d' := s.drawn) (ch := []) (fun _ z => nomatch z) (fun b o _ hb _ e n => u.keep b o e n hb (by simp)) (fun b o _ hb _ e n => u.slot b o e n hb (by simp)) (fun b o _ e n => u.free b o e n (by simp)) (fun b o _ e => u.there b o e (by simp)) u.tups u.frzs u.tbls (fun m' hm => by
    obtain ⟨o', es', ep', ho', r'⟩ := hm
    rw [ho] at ho'; cases ho'
    exact ⟨_, es', ep', hL, r'⟩) hok I.bare
theorem Inv.call {g' : Array GenState} {t' : Nat} {d' : Drawn} {ch : List Addr} (I : Inv X pins σ H s) (u : Un (frs X.stack) ch H H' s.heap h') (hok : HOk X.prog X.w H' h') (hg : AllBare g')
    (hch : ∀ b ∈ ch, (b ∈ X.ex ∨ X.s₀.heap.objs.size ≤ b) ∧ b ≠ X.env.locals ∧ (∀ x c, X.env.cells.lookup x = some c → c ≠ b) ∧ ∀ p ∈ X.pn ++ pins, p.1 ≠ b) :
    Inv X pins σ H' { s with heap := h', gens := g', drawn := d', toks := t' } := by
  obtain ⟨m, ⟨o, es, ep, ho, r⟩, _⟩ := id I.loc
  obtain ⟨sl, hL⟩ := u.any ho I.free fun z => (hch _ z).2.1 rfl
  exact I.step (ch := ch) hch (fun b o hL hb hc e n => u.keep b o e n (fun z => (List.mem_cons.mp (I.stkSub b z)).elim hL hb) hc) (fun b o _ _ hc e n => u.any e n hc) (fun b o hc e n => u.free b o e n hc) (fun b o hc e => u.there b o e hc) u.tups u.frzs u.tbls (fun m' hm => by
    obtain ⟨o', es', ep', ho', r'⟩ := hm
    rw [ho] at ho'; cases ho'
    exact ⟨_, es', ep', hL, r'⟩) hok hg
theorem Inv.turned {t' : Nat} {it : Addr} (I : Inv X pins σ H s) (k : ∀ b o, b ≠ it → s.heap.get? b = some o → h'.get? b = some o) (hn : H it = none) (hL : it ≠ X.env.locals)
    (h1 : it ∈ X.ex ∨ X.s₀.heap.objs.size ≤ it) (h2 : ∀ x c, X.env.cells.lookup x = some c → c ≠ it) (h3 : ∀ p ∈ X.pn ++ pins, p.1 ≠ it) : Inv X pins σ H { s with heap := h', toks := t' } := by
  have nit : ∀ b u, H b = some u → b ≠ it := fun b u e z => by rw [z, hn] at e; cases e
  refine I.step (g' := s.gens) (d' := s.drawn) (ch := [it]) (fun b hb => ?_) (fun b o _ _ hc e _ => k b o (fun z => hc (by simp [z])) e) (fun b o _ _ hc e _ => ⟨o.slots, k b o (fun z => hc (by simp [z])) e⟩) (fun _ _ _ _ n => n)
    (fun b o hc e => ⟨o, k b o (fun z => hc (by simp [z])) e⟩) (fun _ _ e => e) (fun _ _ _ e => e) (fun b ps e => ⟨#[], by rw [e]; simp⟩) (fun m hm => ?_) (fun b u e => ?_) I.bare
  · have e : b = it := by simpa using hb
    subst e
    exact ⟨h1, hL, h2, h3⟩
  · obtain ⟨o, es, ep, ho, r⟩ := hm
    exact ⟨o, es, ep, k _ o (Ne.symm hL) ho, r⟩
  · refine (I.hok b u e).stay (fun c v hc q => k c v ?_ q) (fun _ q => q) fun _ _ q => q
    rcases hc with z | z
    · rw [z]; exact nit b u e
    · exact nit c _ z
theorem Inv.tok (I : Inv X pins σ H s) (t : Nat) : Inv X pins σ H { s with toks := t } := I.un (h' := s.heap) (t' := t) Un.refl I.hok
theorem Inv.kept {t' : Nat} (I : Inv X pins σ H s) (k : ∀ b u, s.heap.get? b = some u → h'.get? b = some u) : Inv X pins σ H { s with heap := h', toks := t' } := I.un (Un.kept k) (I.hok.kept k)
theorem Inv.laid {a : Addr} {o : HO} {t' : Nat} (I : Inv X pins σ H s) (k : ∀ b u, s.heap.get? b = some u → h'.get? b = some u) (hp : s.heap.objs.size ≤ a) (new : ObjOk X.prog X.w (upd H a o) h' a o) :
    Inv X pins σ (upd H a o) { s with heap := h', toks := t' } := I.un (Un.laid k hp (I.hok.fresh hp)) (I.hok.laid k hp new)
theorem Inv.write {x e : Addr} {o : HO} {t' : Nat} (I : Inv X pins σ H s) (mu : Mut (H x)) (he : e = x ∨ H e = some (.own x)) (k : ∀ b u, b ≠ e → s.heap.get? b = some u → h'.get? b = some u) (heo : ∃ u, h'.get? e = some u)
    (new : ObjOk X.prog X.w (upd H x o) h' x o) : Inv X pins σ (upd H x o) { s with heap := h', toks := t' } := I.un (Un.write mu he k heo) (I.hok.write mu he k heo new)
theorem Inv.pins_of {pins' : List (Addr × Obj)} (I : Inv X pins σ H s) (h : ∀ p ∈ pins', s.heap.get? p.1 = some p.2 ∧ H p.1 = none ∧ p.1 ≠ X.env.locals ∧ p.1 ∉ X.fs ∧ ∀ v, p.2.data ≠ .cell v) : Inv X pins' σ H s :=
  ⟨I.ok, I.os, I.bare, I.base, I.loc, I.cell, I.free, I.freeC, fun p hp => (List.mem_append.mp hp).elim (fun z => I.pin p (List.mem_append_left _ z)) (h p), I.hok, I.len⟩
theorem nodup_ix {N : List Str} (hN : N.Nodup) {i j : Nat} {x : Str} (a : N[i]? = some x) (b : N[j]? = some x) : i = j := by
  obtain ⟨h1, e1⟩ := List.getElem?_eq_some_iff.mp a
  obtain ⟨h2, e2⟩ := List.getElem?_eq_some_iff.mp b
  exact (List.getElem_inj hN).mp (e1.trans e2.symm)
theorem store_ok2 {M : Model} {A : Around} {E : Value → Shared → Prop} {i : Nat} {x : Str} {v : V} {u : Value} {Q : Unit → Shared → Prop} (I : Inv X pins σ H s) (hN : X.N.Nodup) (hi : X.N[i]? = some x) (hx : Loc X.env.scope x) (r : RelV v u)
    (h : ∀ s', Inv X pins (σ.set i (some v)) H s' → (∃ a, Heap.SameBut a s.heap s'.heap ∧ (a = X.env.locals ∨ X.env.cells.lookup x = some a)) → Q () s') (hf : X.fn x = true ∨ X.env.scope.names.lookup x = some .local := by first | exact .inl rfl | exact .inr rfl | assumption) : wpAny M A (storeName X.env x u) Q E s := by
  obtain ⟨m, hn, hl⟩ := id I.loc
  have hcls : (X.env.scope.kind == .class || (X.env.scope.kind == .module && X.env.locals != X.env.globals)) = false := by rw [I.ok.kind]; rfl
  have hiσ : i < σ.length := by rw [I.len]; exact (List.getElem?_eq_some_iff.mp hi).1
  have cne := I.cne
  have tracked : ∀ {a : Addr} {h' : Heap}, (∃ o, s.heap.get? a = some o ∧ H a = none) → Heap.SameBut a s.heap h' → HOk X.prog X.w H h' := fun {a h'} ha hs b ob e => by
    obtain ⟨_, _, hfree⟩ := ha
    refine (I.hok b ob e).stay (fun c w' hc q => (hs.2 c ?_).trans q) (fun _ q => q) fun _ _ q => q
    rintro rfl
    rcases hc with rfl | hc
    · rw [hfree] at e; cases e
    · rw [hfree] at hc; cases hc
  rcases hx with hk | hk
  · refine wpAny_storeName_local hk hn (fun h' hn' hs => ?_) hcls
    obtain ⟨oL, _, _, hoL, _⟩ := id hn
    refine h _ ⟨I.ok, I.os, I.bare, ⟨fun b o e n hb hx => ?_, fun b o e n hb hx => ?_, I.base.free, fun b o e hx => ?_, I.base.tups, I.base.frzs, I.base.tbls⟩, ⟨_, hn', fun j y v' e1 e2 e3 => ?_⟩, fun y c e => ?_, I.free, I.freeC, fun p hp => ?_, tracked ⟨oL, hoL, I.free⟩ hs, by simpa using I.len⟩ ⟨_, hs, .inl rfl⟩
    · exact (hs.2 b (Nat.ne_of_lt (Nat.lt_of_lt_of_le (Heap.lt_size e) I.ok.above))).trans (I.base.keep b o e n hb hx)
    · obtain ⟨sl, e1⟩ := I.base.slot b o e n hb hx
      exact ⟨sl, (hs.2 b (Nat.ne_of_lt (Nat.lt_of_lt_of_le (Heap.lt_size e) I.ok.above))).trans e1⟩
    · obtain ⟨o', e1⟩ := I.base.there b o e hx
      exact ⟨o', (hs.2 b (Nat.ne_of_lt (Nat.lt_of_lt_of_le (Heap.lt_size e) I.ok.above))).trans e1⟩
    · by_cases hj : j = i
      · subst hj
        rw [hi] at e1; cases e1
        rw [List.getElem?_set_self hiσ] at e2
        cases e2
        exact ⟨u, r, .inl ⟨hk, by simp⟩⟩
      · rw [List.getElem?_set_ne (Ne.symm hj)] at e2
        obtain ⟨u', r', q⟩ := hl j y v' e1 e2 e3
        refine ⟨u', r', ?_⟩
        rcases q with ⟨k, e⟩ | ⟨k, c, e, z⟩
        · refine .inl ⟨k, ?_⟩
          have : y ≠ x := fun e => hj (nodup_ix hN e1 (e ▸ hi))
          simp [this, e]
        · exact .inr ⟨k, c, e, z.sameBut hs (cne y c e)⟩
    · obtain ⟨w', z⟩ := I.cell y c e
      exact ⟨w', z.sameBut hs (cne y c e)⟩
    · obtain ⟨e, n, ne, nf, d⟩ := I.pin p hp
      exact ⟨(hs.2 p.1 ne).trans e, n, ne, nf, d⟩
  · have hfn : X.fn x = true := by
      rcases hf with z | z
      · exact z
      · rw [z] at hk; cases hk
    obtain ⟨c, hc⟩ := I.ok.has x (.inl hk)
    obtain ⟨w', z⟩ := I.cell x c hc
    refine wpAny_storeName_cell I.ok.kind hk hc z (fun h' hc' hs => ?_)
    obtain ⟨oc, hoc, hocd⟩ := id z
    refine h { s with heap := h' } ⟨I.ok, I.os, I.bare, ⟨fun b o e n hb hx => ?_, fun b o e n hb hx => ?_, I.base.free, fun b o e hx => ?_, I.base.tups, I.base.frzs, I.base.tbls⟩, ⟨m, hn.sameBut hs (Ne.symm (cne x c hc)), fun j y v' e1 e2 e3 => ?_⟩, fun y c' e => ?_, I.free, I.freeC, fun p hp => ?_, tracked ⟨oc, hoc, I.freeC x c hc⟩ hs, by simpa using I.len⟩ ⟨c, hs, .inr hc⟩
    · exact (hs.2 b (Nat.ne_of_lt (Nat.lt_of_lt_of_le (Heap.lt_size e) (I.ok.cab x c hfn hc)))).trans (I.base.keep b o e n hb hx)
    · obtain ⟨sl, e1⟩ := I.base.slot b o e n hb hx
      exact ⟨sl, (hs.2 b (Nat.ne_of_lt (Nat.lt_of_lt_of_le (Heap.lt_size e) (I.ok.cab x c hfn hc)))).trans e1⟩
    · obtain ⟨o', e1⟩ := I.base.there b o e hx
      exact ⟨o', (hs.2 b (Nat.ne_of_lt (Nat.lt_of_lt_of_le (Heap.lt_size e) (I.ok.cab x c hfn hc)))).trans e1⟩
    · by_cases hj : j = i
      · subst hj
        rw [hi] at e1; cases e1
        rw [List.getElem?_set_self hiσ] at e2
        cases e2
        exact ⟨u, r, .inr ⟨.inl hk, c, hc, hc'⟩⟩
      · rw [List.getElem?_set_ne (Ne.symm hj)] at e2
        obtain ⟨u', r', q⟩ := hl j y v' e1 e2 e3
        refine ⟨u', r', ?_⟩
        rcases q with q | ⟨k, c', e, z'⟩
        · exact .inl q
        · refine .inr ⟨k, c', e, z'.sameBut hs ?_⟩
          rintro rfl
          exact hj (nodup_ix hN e1 (I.ok.inj _ _ _ e hc ▸ hi))
    · by_cases hcc : c' = c
      · subst hcc; exact ⟨_, hc'⟩
      · obtain ⟨w2, z2⟩ := I.cell y c' e
        exact ⟨w2, z2.sameBut hs hcc⟩
    · obtain ⟨e, n, ne, nf, d⟩ := I.pin p hp
      refine ⟨(hs.2 p.1 ?_).trans e, n, ne, nf, d⟩
      intro q
      rw [q, hoc] at e
      have q' : oc = p.2 := Option.some.inj e
      exact d w' (by rw [← q']; exact hocd)
theorem store_ok {M : Model} {A : Around} {E : Value → Shared → Prop} {i : Nat} {x : Str} {v : V} {u : Value} {Q : Unit → Shared → Prop} (I : Inv X pins σ H s) (hN : X.N.Nodup) (hi : X.N[i]? = some x) (hx : Loc X.env.scope x) (r : RelV v u)
    (h : ∀ s', Inv X pins (σ.set i (some v)) H s' → Q () s') (hf : X.fn x = true ∨ X.env.scope.names.lookup x = some .local := by first | exact .inl rfl | exact .inr rfl | assumption) : wpAny M A (storeName X.env x u) Q E s :=
  store_ok2 I hN hi hx r (fun s' I' _ => h s' I') hf
theorem Inv.call' {s' : Shared} {ch : List Addr} (I : Inv X pins σ H s) (ho : s'.os = s.os) (u : Un (frs X.stack) ch H H' s.heap s'.heap) (hok : HOk X.prog X.w H' s'.heap) (hg : AllBare s'.gens)
    (hch : ∀ b ∈ ch, (b ∈ X.ex ∨ X.s₀.heap.objs.size ≤ b) ∧ b ≠ X.env.locals ∧ (∀ x c, X.env.cells.lookup x = some c → c ≠ b) ∧ ∀ p ∈ X.pn ++ pins, p.1 ≠ b) : Inv X pins σ H' s' := by
  obtain ⟨h', g', d', t', o'⟩ := s'
  have e : o' = s.os := ho
  subst e
  exact I.call (g' := g') (t' := t') (d' := d') u hok hg hch
end
abbrev XK := Value → Option Addr → Hp → Prop
abbrev St := List (Option V)
abbrev VK := V → Hp → Prop
abbrev TE := St → Hp → VK → Prop
abbrev TT := St → Hp → (Bool → Hp → Prop) → Prop
abbrev TA := St → Hp → (List V → Hp → Prop) → Prop
structure Ends where
  nx : St → Hp → Prop
  rt : VK
  bk : St → Hp → Prop := fun _ _ => False
  ct : St → Hp → Prop := fun _ _ => False
abbrev TS := Ends → St → Hp → Prop
def EP (X : Cx) (pins : List (Addr × Obj)) (σ : St) (Q : VK) (u : Value) (s' : Shared) : Prop := ∃ v H', Inv X pins σ H' s' ∧ RelV v u ∧ Q v H'
def TP (X : Cx) (pins : List (Addr × Obj)) (σ : St) (Q : Bool → Hp → Prop) (b : Bool) (s' : Shared) : Prop := ∃ H', Inv X pins σ H' s' ∧ Q b H'
def AP (X : Cx) (pins : List (Addr × Obj)) (σ : St) (Q : List V → Hp → Prop) (us : List Value) (s' : Shared) : Prop := ∃ vs H', Inv X pins σ H' s' ∧ Vals vs us ∧ Q vs H'
def SP (X : Cx) (pins : List (Addr × Obj)) (D : Ends) (f : Flow) (s' : Shared) : Prop :=
  match f with
  | .next => ∃ σ' H', Inv X pins σ' H' s' ∧ D.nx σ' H'
  | .brk => ∃ σ' H', Inv X pins σ' H' s' ∧ D.bk σ' H'
  | .cont => ∃ σ' H', Inv X pins σ' H' s' ∧ D.ct σ' H'
  | .ret u => ∃ v σ' H', Inv X pins σ' H' s' ∧ RelV v u ∧ D.rt v H'
def PE (X : Cx) (e : Expr) (t : TE) : Prop :=
  ∀ (pins : List (Addr × Obj)) (s : Shared) (σ : St) (H : Hp) (Q : VK), Inv X pins σ H s → t σ H Q → wpAny (model X.prog X.w) X.A (eval e X.env) (EP X pins σ Q) X.xe s
def PT (X : Cx) (e : Expr) (t : TT) : Prop :=
  ∀ (pins : List (Addr × Obj)) (s : Shared) (σ : St) (H : Hp) (Q : Bool → Hp → Prop), Inv X pins σ H s → t σ H Q → wpAny (model X.prog X.w) X.A (isTrue e X.env (eval e X.env)) (TP X pins σ Q) X.xe s
def PW (X : Cx) (e : Expr) (t : TT) : Prop :=
  ∀ (whole : Sem Value) (pins : List (Addr × Obj)) (s : Shared) (σ : St) (H : Hp) (Q : Bool → Hp → Prop), Inv X pins σ H s → t σ H Q → wpAny (model X.prog X.w) X.A (isTrue e X.env whole) (TP X pins σ Q) X.xe s
theorem PW.pt {X : Cx} {e : Expr} {t : TT} (h : PW X e t) : PT X e t := h _
def PA (X : Cx) (es : List Expr) (t : TA) : Prop :=
  ∀ (pos : Pos) (pins : List (Addr × Obj)) (s : Shared) (σ : St) (H : Hp) (Q : List V → Hp → Prop), Inv X pins σ H s → t σ H Q → wpAny (model X.prog X.w) X.A (spliced (backTo pos (starEach es X.env))) (AP X pins σ Q) X.xe s
def PS (X : Cx) (st : Stmt) (t : TS) : Prop :=
  ∀ (pins : List (Addr × Obj)) (s : Shared) (σ : St) (H : Hp) (D : Ends), Inv X pins σ H s → t D σ H → wpAny (model X.prog X.w) X.A (exec st X.env) (SP X pins D) X.xe s
def PSs (X : Cx) (st : List Stmt) (t : TS) : Prop :=
  ∀ (pins : List (Addr × Obj)) (s : Shared) (σ : St) (H : Hp) (D : Ends), Inv X pins σ H s → t D σ H → wpAny (model X.prog X.w) X.A (execs st X.env) (SP X pins D) X.xe s
theorem thn {α : Type} {t : Sem α} {Q Q' : α → Shared → Prop} {M : Model} {A : Around} {E : Value → Shared → Prop} {s : Shared} (h : wpAny M A t Q E s) (hQ : ∀ a s, Q a s → Q' a s) : wpAny M A t Q' E s := wpAny_mono h hQ fun _ _ x => x
end L2
namespace L2
open PySem PySem.Spec PyProof.Rows
section
variable {X : Cx}
def tVar (i : Nat) : TE := fun σ H Q => ∃ v, σ[i]? = some (some v) ∧ Q v H
def tC (v : V) : TE := fun _ H Q => Q v H
theorem pe_var {i : Nat} {x : Str} {pos : Pos} (hN : X.N[i]? = some x) (hv : Vis X.env.scope x) (hd : (x == ("__debug__" : Str)) = false := by decide) (hcd : (x == ("__classdict__" : Str)) = false := by decide) : PE X (.Name x pos) (tVar i) := by
  intro pins s σ H Q I h
  obtain ⟨v, e, h⟩ := h
  obtain ⟨m, hn, hl⟩ := I.loc
  obtain ⟨u, r, l⟩ := hl i x v hN e hv
  have fin : EP X pins σ Q u s := ⟨v, H, I, r, h⟩
  rcases l with ⟨hk, hm⟩ | ⟨hk, c, hc, hcell⟩
  · exact wpAny_Name (wpAny_loadName_local I.ok.kind hk hn hm fin) hd
  · rcases hk with hk | hk
    · exact wpAny_Name (wpAny_loadName_cell I.ok.kind hk hc hcell fin) hd
    · exact wpAny_Name (wpAny_loadName_free I.ok.kind hk hc hcell fin hcd) hd
theorem pe_int {i j pos} : PE X (.Constant (.int i) j pos) (tC (.int i)) := fun _ _ _ H _ I h => wpAny_Constant_int ⟨.int i, H, I.tok _, ⟨_, rfl⟩, h⟩
theorem pe_bl {b j pos} : PE X (.Constant (.bool b) j pos) (tC (.bl b)) := fun _ _ _ H _ I h => Constant_bool ⟨.bl b, H, I, rfl, h⟩
theorem pe_non {j pos} : PE X (.Constant .none j pos) (tC .non) := fun _ _ _ H _ I h => Constant_none ⟨.non, H, I, rfl, h⟩
theorem pe_str {x j pos} : PE X (.Constant (.str x) j pos) (tC (.str x)) := fun _ _ _ H _ I h => Calls.Constant_str ⟨.str x, H, I.tok _, ⟨_, rfl⟩, h⟩
def Gl (X : Cx) (x : Str) : Prop := X.env.kindOf x = some .globalImplicit
theorem ld_glob {E : Value → Shared → Prop} {pins : List (Addr × Obj)} {s : Shared} {σ : St} {H : Hp} {x : Str} {u : Value} {pos : Pos} {Q : Value → Shared → Prop} (I : Inv X pins σ H s) (hg : Gl X x) (hm : X.mg x = some u) (h : Q u s)
    (hd : (x == ("__debug__" : Str)) = false := by decide) : wpAny (model X.prog X.w) X.A (eval (.Name x pos) X.env) Q E s :=
  Calls.Name_function_global I.ok.kind hg (Calls.loadGlobal_global (by rw [I.ok.glob]; exact I.mod.glob.keeps I.bk) hm h) hd
theorem ld_blt {E : Value → Shared → Prop} {pins : List (Addr × Obj)} {s : Shared} {σ : St} {H : Hp} {x : Str} {u : Value} {pos : Pos} {Q : Value → Shared → Prop} (I : Inv X pins σ H s) (hg : Gl X x) (hm : X.mg x = none) (hv : bootBuiltins x = some u) (h : Q u s)
    (hn : x ≠ "__name__" := by decide) (hd : (x == ("__debug__" : Str)) = false := by decide) : wpAny (model X.prog X.w) X.A (eval (.Name x pos) X.env) Q E s := by
  obtain ⟨mb, h1, h2⟩ := I.mod.blt
  exact Calls.Name_function_global I.ok.kind hg (Calls.loadGlobal_builtin (by rw [I.ok.glob]; exact I.mod.glob.keeps I.bk) hm (by rw [I.ok.blt]; exact h1.keeps I.bk) ((h2 x hn).trans hv) h) hd
theorem pe_bltn {x : Str} {v : V} {u : Value} {pos : Pos} (hg : Gl X x) (hm : X.mg x = none) (hv : bootBuiltins x = some u) (r : RelV v u) (hn : x ≠ "__name__" := by decide) (hd : (x == ("__debug__" : Str)) = false := by decide) : PE X (.Name x pos) (tC v) :=
  fun _ _ _ H _ I h => ld_blt I hg hm hv ⟨v, H, I, r, h⟩ hn hd
variable {a b : Expr} {ta tb : TE} {pos : Pos}
def tB (t : TE) : TT := fun σ H Q => t σ H fun x H1 => ∃ c, x = .bl c ∧ Q c H1
theorem pt_val {e : Expr} {t : TE} (h : PE X e t) (he : ∀ whole, isTrue e X.env whole = (do let v ← whole; standAt e.pos; holding [v] (truthy v)) := by intro _; rfl) : PT X e (tB t) := by
  intro pins s σ H Q I hw
  refine isTrue_plain (thn (h pins s σ H _ I hw) fun v s1 ⟨x, H1, I1, r1, q1⟩ => ?_) (he _)
  obtain ⟨d, rfl, q⟩ := q1
  cases r1
  exact wpAny_truthy_bool ⟨H1, I1, q⟩
variable {tA tB' : TT} {rest : List Expr}
def tAnd (t u : TT) : TT := fun σ H Q => t σ H fun c H1 => if c = true then u σ H1 Q else Q false H1
def tOr (t u : TT) : TT := fun σ H Q => t σ H fun c H1 => if c = true then Q true H1 else u σ H1 Q
def tNot (t : TT) : TT := fun σ H Q => t σ H fun c H1 => Q (!c) H1
theorem pw_and1 (ha : PT X a tA) : PW X (.BoolOp .And [a] pos) tA := by
  intro wh pins s σ H Q I h
  refine isTrue_and (thn (ha pins s σ H Q I h) fun c s1 e => ?_)
  cases c with
  | true => exact isTrue_and_nil e
  | false => exact e
theorem pw_or1 (ha : PT X a tA) : PW X (.BoolOp .Or [a] pos) tA := by
  intro wh pins s σ H Q I h
  refine isTrue_or (thn (ha pins s σ H Q I h) fun c s1 e => ?_)
  cases c with
  | false => exact isTrue_or_nil e
  | true => exact e
theorem pw_and (ha : PT X a tA) (hb : PW X (.BoolOp .And (b :: rest) pos) tB') : PW X (.BoolOp .And (a :: b :: rest) pos) (tAnd tA tB') := by
  intro wh pins s σ H Q I h
  refine isTrue_and (thn (ha pins s σ H _ I h) fun c s1 ⟨H1, I1, q1⟩ => ?_)
  cases c with
  | true => exact hb wh pins s1 σ H1 Q I1 q1
  | false => exact ⟨H1, I1, q1⟩
theorem pw_or (ha : PT X a tA) (hb : PW X (.BoolOp .Or (b :: rest) pos) tB') : PW X (.BoolOp .Or (a :: b :: rest) pos) (tOr tA tB') := by
  intro wh pins s σ H Q I h
  refine isTrue_or (thn (ha pins s σ H _ I h) fun c s1 ⟨H1, I1, q1⟩ => ?_)
  cases c with
  | true => exact ⟨H1, I1, q1⟩
  | false => exact hb wh pins s1 σ H1 Q I1 q1
theorem pt_not (ha : PT X a tA) : PT X (.UnaryOp .Not a pos) (tNot tA) := by
  intro pins s σ H Q I h
  exact isTrue_not (ha pins s σ H (fun c H1 => Q (!c) H1) I h)
def tAndV (ta tb : TE) : TE := fun σ H Q => ta σ H fun x H1 => ∃ c, x = .bl c ∧ if c = true then tb σ H1 Q else Q (.bl false) H1
def tOrV (ta tb : TE) : TE := fun σ H Q => ta σ H fun x H1 => ∃ c, x = .bl c ∧ if c = true then Q (.bl true) H1 else tb σ H1 Q
def tNotV (ta : TE) : TE := fun σ H Q => ta σ H fun x H1 => ∃ c, x = .bl c ∧ Q (.bl (!c)) H1
theorem pe_one {op} {t : TE} (h : PE X a t) : PE X (.BoolOp op [a] pos) t := fun pins s σ H Q I hw => BoolOp_one (h pins s σ H Q I hw)
theorem pe_and (ha : PE X a ta) (hb : PE X (.BoolOp .And (b :: rest) pos) tb) : PE X (.BoolOp .And (a :: b :: rest) pos) (tAndV ta tb) := by
  intro pins s σ H Q I h
  refine BoolOp_and (thn (ha pins s σ H _ I h) fun v s1 ⟨x, H1, I1, r1, q1⟩ => ?_)
  obtain ⟨c, rfl, q1⟩ := q1
  cases r1
  refine wpAny_truthy_bool ?_
  cases c with
  | true => exact hb pins s1 σ H1 Q I1 q1
  | false => exact ⟨.bl false, H1, I1, rfl, q1⟩
theorem pe_or (ha : PE X a ta) (hb : PE X (.BoolOp .Or (b :: rest) pos) tb) : PE X (.BoolOp .Or (a :: b :: rest) pos) (tOrV ta tb) := by
  intro pins s σ H Q I h
  refine BoolOp_or (thn (ha pins s σ H _ I h) fun v s1 ⟨x, H1, I1, r1, q1⟩ => ?_)
  obtain ⟨c, rfl, q1⟩ := q1
  cases r1
  refine wpAny_truthy_bool ?_
  cases c with
  | false => exact hb pins s1 σ H1 Q I1 q1
  | true => exact ⟨.bl true, H1, I1, rfl, q1⟩
theorem pe_not (ha : PE X a ta) : PE X (.UnaryOp .Not a pos) (tNotV ta) := by
  intro pins s σ H Q I h
  refine UnaryOp_ (thn (ha pins s σ H _ I h) fun v s1 ⟨x, H1, I1, r1, q1⟩ => ?_)
  obtain ⟨c, rfl, q1⟩ := q1
  cases r1
  exact not_of (wpAny_truthy_bool ⟨.bl (!c), H1, I1, rfl, q1⟩)
def tIf (t : TT) (ta tb : TE) : TE := fun σ H Q => t σ H fun c H1 => if c = true then ta σ H1 Q else tb σ H1 Q
theorem pe_ifExp {c : Expr} (hc : PT X c tA) (ha : PE X a ta) (hb : PE X b tb) : PE X (.IfExp c a b pos) (tIf tA ta tb) := by
  intro pins s σ H Q I h
  refine wpAny_IfExp (thn (hc pins s σ H _ I h) fun d s1 ⟨H1, I1, q1⟩ => ?_)
  cases d with
  | true => exact ha pins s1 σ H1 Q I1 q1
  | false => exact hb pins s1 σ H1 Q I1 q1
end
end L2
namespace L2
open PySem PySem.Spec PyProof.Rows
def SqL (K : PySem.W.Frag) (H : Hp) (a : Addr) (xs : List V) : Prop :=
  Rd H a (.lst xs) ∨
    ∃ (o : Obj) (its : Array Value) (n : Nat), K.lookup a = some o ∧ o.cls = .type "list" ∧ o.dict = none ∧ o.data = .seq its n ∧ its.size ≤ sizeLine ∧ Vals xs its.toList
def SqT (K : PySem.W.Frag) (H : Hp) (a : Addr) (xs : List V) : Prop :=
  Rd H a (.tup xs) ∨
    ∃ (o : Obj) (its : Array Value) (n : Nat), K.lookup a = some o ∧ o.cls = .type "tuple" ∧ o.data = .seq its n ∧ its.size ≤ sizeLine ∧ Vals xs its.toList
def absV : Value → Option V
  | .none => some .non
  | .bool b => some (.bl b)
  | .int i _ => some (.int i)
  | .str x _ => some (.str x)
  | .bytes b _ => some (.byt b)
  | .float b _ => some (.flt b)
  | .ref a => some (.ref a)
  | .type n => some (.ty n)
  | _ => none
theorem RelV.abs {x : V} {u : Value} (r : RelV x u) : absV u = some x := by
  cases x with
  | non => cases r; rfl
  | bl _ => cases r; rfl
  | int _ => obtain ⟨t, rfl⟩ := r; rfl
  | str _ => obtain ⟨t, rfl⟩ := r; rfl
  | byt _ => obtain ⟨t, rfl⟩ := r; rfl
  | flt _ => obtain ⟨t, rfl⟩ := r; rfl
  | ref _ => cases r; rfl
  | ty _ => cases r; rfl
theorem RelV.inj {x y : V} {u : Value} (r : RelV x u) (q : RelV y u) : x = y := Option.some.inj (r.abs.symm.trans q.abs)
theorem Vals.inj : ∀ {xs ys : List V} {us : List Value}, Vals xs us → Vals ys us → xs = ys
  | _, _, _, .nil, .nil => rfl
  | _, _, _, .cons r t, .cons r' t' => by rw [r.inj r', Vals.inj t t']
section
variable {X : Cx} {pins : List (Addr × Obj)} {σ : St} {H : Hp} {s : Shared} {a : Addr} {xs ys : List V}
theorem SqL.of {K : PySem.W.Frag} (h : H a = some (.lst xs)) : SqL K H a xs := .inl (.inl h)
theorem SqT.of {K : PySem.W.Frag} (h : H a = some (.tup xs)) : SqT K H a xs := .inl (.inl h)
theorem Inv.list (I : Inv X pins σ H s) (h : SqL X.K H a xs) : ∃ its : List Value, Vals xs its ∧ PlainL s.heap a its.toArray ∧ xs.length ≤ sizeLine := by
  rcases h with h | ⟨o, its, n, hk, hc, hd, hs, hz, r⟩
  · obtain ⟨z, its, n, r, e⟩ := h.ok I.hok
    exact ⟨its, r, ⟨_, n, e, rfl, rfl, rfl⟩, z⟩
  · refine ⟨its.toList, r, ⟨o, n, I.kIn a o hk, hc, hd, by simpa using hs⟩, ?_⟩
    have e := r.length
    simp only [Array.length_toList] at e
    omega
theorem Inv.tuple (I : Inv X pins σ H s) (h : SqT X.K H a xs) : ∃ its : List Value, Vals xs its ∧ IsTup s.heap a its.toArray ∧ xs.length ≤ sizeLine := by
  rcases h with h | ⟨o, its, n, hk, hc, hs, hz, r⟩
  · obtain ⟨z, its, r, p⟩ := h.ok I.hok
    exact ⟨its, r, p, z⟩
  · refine ⟨its.toList, r, ⟨o, I.kIn a o hk, hc, n, by simpa using hs⟩, ?_⟩
    have e := r.length
    simp only [Array.length_toList] at e
    omega
theorem Inv.list_inj (I : Inv X pins σ H s) (h : SqL X.K H a xs) (h' : SqL X.K H a ys) : xs = ys := by
  obtain ⟨its, r, ⟨o, n, e, _, _, d⟩, _⟩ := I.list h
  obtain ⟨its', r', ⟨o', n', e', _, _, d'⟩, _⟩ := I.list h'
  rw [e] at e'; cases e'
  rw [d] at d'
  injection d' with d1 _
  have : its = its' := by simpa using congrArg Array.toList d1
  subst this
  exact r.inj r'
theorem Inv.tuple_inj (I : Inv X pins σ H s) (h : SqT X.K H a xs) (h' : SqT X.K H a ys) : xs = ys := by
  obtain ⟨its, r, ⟨o, e, _, n, d⟩, _⟩ := I.tuple h
  obtain ⟨its', r', ⟨o', e', _, n', d'⟩, _⟩ := I.tuple h'
  rw [e] at e'; cases e'
  rw [d] at d'
  injection d' with d1 _
  have : its = its' := by simpa using congrArg Array.toList d1
  subst this
  exact r.inj r'
end
abbrev Cx.wish (X : Cx) (E : Value → Shared → Prop) : Cx := { X with xe := E }
abbrev Cx.nox (X : Cx) : Cx := X.wish fun _ _ => False
theorem Cx.Ok.wish {X : Cx} (ok : X.Ok) (E : Value → Shared → Prop) : (X.wish E).Ok :=
  ⟨ok.mod, ok.kind, ok.glob, ok.blt, ok.above, ok.inj, ok.has, ok.cab, ok.hd, ok.frames, ok.stk, ok.exf, ok.bs, ok.bsz, ok.noex, ok.exfs, ok.funs, ok.frf⟩
theorem Cx.Ok.unwish {X : Cx} {E : Value → Shared → Prop} (ok : (X.wish E).Ok) : X.Ok :=
  ⟨ok.mod, ok.kind, ok.glob, ok.blt, ok.above, ok.inj, ok.has, ok.cab, ok.hd, ok.frames, ok.stk, ok.exf, ok.bs, ok.bsz, ok.noex, ok.exfs, ok.funs, ok.frf⟩
section
variable {X : Cx} {pins : List (Addr × Obj)} {σ : St} {H : Hp} {s : Shared} {E : Value → Shared → Prop}
theorem Inv.wish (I : Inv X pins σ H s) (E : Value → Shared → Prop) : Inv (X.wish E) pins σ H s := ⟨I.ok.wish E, I.os, I.bare, I.base, I.loc, I.cell, I.free, I.freeC, I.pin, I.hok, I.len⟩
theorem Inv.unwish (I : Inv (X.wish E) pins σ H s) : Inv X pins σ H s := ⟨I.ok.unwish, I.os, I.bare, I.base, I.loc, I.cell, I.free, I.freeC, I.pin, I.hok, I.len⟩
theorem SP.unwish {D : Ends} {f : Flow} {s' : Shared} (h : SP (X.wish E) pins D f s') : SP X pins D f s' := by
  cases f with
  | next => obtain ⟨σ', H', I, q⟩ := h; exact ⟨σ', H', I.unwish, q⟩
  | brk => obtain ⟨σ', H', I, q⟩ := h; exact ⟨σ', H', I.unwish, q⟩
  | cont => obtain ⟨σ', H', I, q⟩ := h; exact ⟨σ', H', I.unwish, q⟩
  | ret u => obtain ⟨v, σ', H', I, r, q⟩ := h; exact ⟨v, σ', H', I.unwish, r, q⟩
theorem PSs.nox {st : List Stmt} {t : TS} (h : PSs X.nox st t) : PSs X st t := fun pins s σ H D I hw =>
  wpAny_mono (h pins s σ H D (I.wish _) hw) (fun _ _ q => q.unwish) fun _ _ z => False.elim z
end
section
variable {X : Cx} {st : Stmt} {rest : List Stmt} {t u : TS} {e : Expr} {te : TE} {pos : Pos}
def tNext : TS := fun D σ H => D.nx σ H
def tSeq (t u : TS) : TS := fun D σ H => t { D with nx := u D } σ H
theorem pss_nil : PSs X [] tNext := fun _ _ σ H _ I h => wpAny_execs_nil ⟨σ, H, I, h⟩
theorem pss_cons (h1 : PS X st t) (h2 : PSs X rest u) : PSs X (st :: rest) (tSeq t u) := by
  intro pins s σ H D I h
  refine wpAny_execs_cons (thn (h1 pins s σ H { D with nx := u D } I h) fun f s1 q => ?_)
  cases f with
  | next =>
    obtain ⟨σ', H', I', q⟩ := q
    exact h2 pins s1 σ' H' D I' q
  | ret v => exact q
  | brk => exact q
  | cont => exact q
theorem pss_one (h1 : PS X st t) : PSs X [st] t := by
  intro pins s σ H D I h
  refine wpAny_execs_cons (thn (h1 pins s σ H D I h) fun f s1 q => ?_)
  cases f with
  | next => exact wpAny_execs_nil q
  | ret v => exact q
  | brk => exact q
  | cont => exact q
theorem Inv.quiet {pins : List (Addr × Obj)} {σ : St} {H : Hp} {s : Shared} (I : Inv X pins σ H s) : interactive X.env = false := by simp [interactive, I.ok.kind]
def tDrop (te : TE) : TS := fun D σ H => te σ H fun _ H1 => D.nx σ H1
theorem ps_expr (he : PE X e te) (hs : swapsWith e none pos.line X.env = pure false := by rfl) : PS X (.Expr e pos) (tDrop te) := by
  intro pins s σ H D I h
  exact wpAny_Expr_any (thn (he pins s σ H _ I h) fun v s1 ⟨x, H1, I1, r1, q1⟩ => ⟨σ, H1, I1, q1⟩) I.quiet hs
def tRet (te : TE) : TS := fun D σ H => te σ H D.rt
theorem ps_ret (he : PE X e te) : PS X (.Return (some e) pos) (tRet te) := by
  intro pins s σ H D I h
  exact wpAny_Return_some (thn (he pins s σ H _ I h) fun v s1 ⟨x, H1, I1, r1, q1⟩ => ⟨x, σ, H1, I1, r1, q1⟩)
def tIfS (c : TT) (t u : TS) : TS := fun D σ H => c σ H fun b H1 => if b = true then t D σ H1 else u D σ H1
theorem ps_if {c : Expr} {a b : List Stmt} {tc : TT} (hc : PT X c tc) (ha : PSs X a t) (hb : PSs X b u) : PS X (.If c a b pos) (tIfS tc t u) := by
  intro pins s σ H D I h
  refine wpAny_If (thn (hc pins s σ H _ I h) fun d s1 ⟨H1, I1, q1⟩ => ?_)
  cases d with
  | true => exact ha pins s1 σ H1 D I1 q1
  | false => exact hb pins s1 σ H1 D I1 q1
def tNever : TS := fun _ _ _ => False
theorem ps_never : PS X st tNever := fun _ _ _ _ _ _ h => h.elim
end
abbrev TG := V → St → Hp → (St → Hp → Prop) → Prop
abbrev TGs := List V → St → Hp → (St → Hp → Prop) → Prop
def PG (X : Cx) (target : Expr) (t : TG) : Prop :=
  ∀ (pins : List (Addr × Obj)) (s : Shared) (σ : St) (H : Hp) (v : V) (u : Value) (Q : St → Hp → Prop), Inv X pins σ H s → RelV v u → t v σ H Q →
    wpAny (model X.prog X.w) X.A (assign target X.env u) (fun _ s' => ∃ σ' H', Inv X pins σ' H' s' ∧ Q σ' H') X.xe s
def PGs (X : Cx) (ts : List Expr) (t : TGs) : Prop :=
  ∀ (pins : List (Addr × Obj)) (s : Shared) (σ : St) (H : Hp) (vs : List V) (us : List Value) (Q : St → Hp → Prop), Inv X pins σ H s → Vals vs us → t vs σ H Q →
    wpAny (model X.prog X.w) X.A (assignInOrder ((assignEach ts X.env).map (·.2)) us) (fun _ s' => ∃ σ' H', Inv X pins σ' H' s' ∧ Q σ' H') X.xe s
abbrev TSet := V → V → V → Hp → (Hp → Prop) → Prop
def PSet (X : Cx) (t : TSet) : Prop :=
  ∀ (pins : List (Addr × Obj)) (s : Shared) (σ : St) (H : Hp) (o i v : V) (ov iv u : Value) (Q : Hp → Prop), Inv X pins σ H s → RelV o ov → RelV i iv → RelV v u → t o i v H Q →
    wpAny (model X.prog X.w) X.A (setItem ov iv u) (fun _ s' => ∃ H', Inv X pins σ H' s' ∧ Q H') X.xe s
section
variable {X : Cx} {pos : Pos}
def gName (i : Nat) : TG := fun v σ H Q => Q (σ.set i (some v)) H
theorem pg_name {i : Nat} {x : Str} (hN : X.N.Nodup) (hi : X.N[i]? = some x) (hx : Loc X.env.scope x) (hf : X.fn x = true ∨ X.env.scope.names.lookup x = some .local := by first | exact .inl rfl | exact .inr rfl | assumption) : PG X (.Name x pos) (gName i) := by
  intro pins s σ H v u Q I r h
  exact wpAny_assign_Name (store_ok I hN hi hx r (fun s' I' => ⟨_, H, I', h⟩) hf)
def gNil : TGs := fun vs σ H Q => vs = [] ∧ Q σ H
def gCons (t : TG) (u : TGs) : TGs := fun vs σ H Q => ∃ v r, vs = v :: r ∧ t v σ H fun σ' H' => u r σ' H' Q
theorem pgs_nil : PGs X [] gNil := by
  intro pins s σ H vs us Q I r h
  obtain ⟨e, h⟩ := h
  subst e
  cases r
  exact assignInOrder_nil ⟨σ, H, I, h⟩
theorem pgs_cons {e : Expr} {es : List Expr} {t : TG} {u : TGs} (h1 : PG X e t) (h2 : PGs X es u)
    (hs : (assignEach (e :: es) X.env).map (·.2) = assign e X.env :: (assignEach es X.env).map (·.2) := by rfl) : PGs X (e :: es) (gCons t u) := by
  intro pins s σ H vs us Q I r h
  obtain ⟨v, vr, e1, h⟩ := h
  subst e1
  cases r with
  | cons r rr =>
    rw [hs]
    refine assignInOrder_cons (thn (h1 pins s σ H _ _ _ I r h) fun _ s1 ⟨σ1, H1, I1, q1⟩ => ?_)
    exact h2 pins s1 σ1 H1 _ _ Q I1 rr q1
def gTup (K : PySem.W.Frag) (n : Nat) (t : TGs) : TG := fun v σ H Q => ∃ a xs, v = .ref a ∧ SqT K H a xs ∧ xs.length = n ∧ t xs σ H Q
theorem pg_tup {es : List Expr} {k : Nat} {t : TGs} {n : Nat} (hc : X.calm = true) (h : PGs X es t)
    (hn : (assignEach es X.env).length = n := by rfl) (hst : (assignEach es X.env).findIdx? (·.1) = none := by rfl) : PG X (.Tuple es k pos) (gTup X.K n t) := by
  intro pins s σ H v u Q I r hw
  obtain ⟨a, xs, e1, hq, hl, hw⟩ := hw
  subst e1
  cases r
  obtain ⟨its, rv, ht, hz⟩ := I.tuple hq
  refine assign_Tuple_tuple (I.ok.hd hc) ht (by simp [hn, ← hl, rv.length]) hst fun h' hx => ?_
  have I1 : Inv X pins σ H { s with heap := h' } := I.kept (t' := s.toks) fun b o e => hx b o (Nat.ne_of_lt (Heap.lt_size e)) e
  exact h pins _ σ H xs _ Q I1 (by simpa using rv) hw
def gSub (to ti : TE) (t : TSet) : TG := fun v σ H Q => to σ H fun o H1 => ti σ H1 fun i H2 => t o i v H2 fun H3 => Q σ H3
theorem pg_sub {o i : Expr} {to ti : TE} {t : TSet} (ho : PE X o to) (hi : PE X i ti) (hs : PSet X t)
    (ha : ∀ v, assign (.Subscript o i pos) X.env v = (do
      let ov ← holding [v] (eval o X.env)
      let iv ← holding [v, ov] (eval i X.env)
      standAt pos
      holding [v, ov, iv] (setItem ov iv v)
      release [v, ov, iv] []) := by intro _; rfl) : PG X (.Subscript o i pos) (gSub to ti t) := by
  intro pins s σ H v u Q I r h
  rw [ha]
  refine wpAny_bind (wpAny_holding (thn (ho pins s σ H _ I h) fun ov s1 ⟨x, H1, I1, r1, q1⟩ => ?_))
  refine wpAny_bind (wpAny_holding (thn (hi pins s1 σ H1 _ I1 q1) fun iv s2 ⟨y, H2, I2, r2, q2⟩ => ?_))
  refine wpAny_bind (wpAny_standAt (wpAny_bind (wpAny_holding (thn (hs pins s2 σ H2 x y v ov iv u _ I2 r1 r2 r q2) fun _ s3 ⟨H3, I3, q3⟩ => ?_))))
  exact wpAny_release ⟨σ, H3, I3, q3⟩
def tAsg (te : TE) (g : TG) : TS := fun D σ H => te σ H fun x H1 => g x σ H1 D.nx
theorem ps_asg {tg e : Expr} {te : TE} {g : TG} (he : PE X e te) (hg : PG X tg g) (hs : swapsWithSole [tg] e pos.line X.env = pure false := by rfl) (hw : swappedStores [tg] e X.env = pure none := by rfl)
    (h1 : (assignEach [tg] X.env).map (·.2) = [assign tg X.env] := by rfl) : PS X (.Assign [tg] e pos) (tAsg te g) := by
  intro pins s σ H D I h
  refine wpAny_Assign_stores (thn (he pins s σ H _ I h) fun v s1 ⟨x, H1, I1, r1, q1⟩ => ?_) hs hw
  rw [h1]
  exact thn (hg pins s1 σ H1 x v _ I1 r1 q1) fun _ s2 q => q
theorem ps_set {i : Nat} {x : Str} {e : Expr} {te : TE} {pos' : Pos} (hN : X.N.Nodup) (hi : X.N[i]? = some x) (hx : Loc X.env.scope x) (he : PE X e te) (hs : swapsWith e (some (.Name x pos')) pos.line X.env = pure false := by rfl) (hf : X.fn x = true ∨ X.env.scope.names.lookup x = some .local := by first | exact .inl rfl | exact .inr rfl | assumption) :
    PS X (.Assign [.Name x pos'] e pos) (tAsg te (gName i)) := by
  intro pins s σ H D I h
  refine wpAny_Assign_Name (thn (he pins s σ H _ I h) fun v s1 ⟨y, H1, I1, r1, q1⟩ => ?_) hs
  exact store_ok I1 hN hi hx r1 (fun s2 I2 => ⟨_, H1, I2, q1⟩) hf
end
section
variable {X : Cx} {pos : Pos}
end
structure It where
  go : Nat → Hp → Prop
  yld : Nat → Hp → V → Hp → Prop
  stop : Nat → Hp → Prop
def FpOk (X : Cx) (pins : List (Addr × Obj)) (H : Hp) (b : Addr) : Prop :=
  H b = none ∧ b ≠ X.env.locals ∧ b ∉ X.fs ∧ (b ∈ X.ex ∨ X.s₀.heap.objs.size ≤ b) ∧ (∀ x c, X.env.cells.lookup x = some c → c ≠ b) ∧ ∀ p ∈ X.pn ++ pins, p.1 ≠ b
theorem Inv.fpOk {X : Cx} {pins : List (Addr × Obj)} {σ : St} {H H' : Hp} {s : Shared} {b : Addr} (I : Inv X pins σ H s) (hb : s.heap.objs.size ≤ b) (hn : H' b = none) : FpOk X pins H' b := by
  refine ⟨hn, Nat.ne_of_gt (Nat.lt_of_lt_of_le I.lt hb), I.nofs hb, .inr (Nat.le_trans I.sz hb), fun x c e z => ?_, fun p hp z => ?_⟩
  · obtain ⟨v, q⟩ := I.cell x c e
    exact absurd (Nat.lt_of_lt_of_le q.lt (by rw [z]; exact hb)) (Nat.lt_irrefl _)
  · exact absurd (Nat.lt_of_lt_of_le (Heap.lt_size (I.pin p hp).1) (by rw [z]; exact hb)) (Nat.lt_irrefl _)
structure Turn (P : Program) (w : World) (K : PySem.W.Frag) (tg : Expr) (J : It) (fp : List Addr) (it : Addr) (tn : Nat → Heap → Prop) : Prop where
  mem : it ∈ fp
  obj : ∀ i h, tn i h → ∀ b ∈ fp, ∃ o, h.get? b = some o ∧ ∀ v, o.data ≠ .cell v
  keep : ∀ i h h', tn i h → (∀ b ∈ fp, ∀ o, h.get? b = some o → h'.get? b = some o) → tn i h'
  item : ∀ (X : Cx), X.prog = P → X.w = w → X.K = K → X.calm = true → ∀ (i : Nat) (pins : List (Addr × Obj)) (s : Shared) (σ : St) (H : Hp) (E : Value → Shared → Prop), Inv X pins σ H s → (∀ b ∈ fp, FpOk X pins H b) → tn i s.heap → J.go i H →
    wpAny (model P w) X.A (pyNext (.ref it)) (fun r s1 => ∃ u, r = some u ∧
      wpAny (model P w) X.A (letOwnedTupleGo tg (.ref it) u) (fun _ s2 => ∃ x H', Inv X pins σ H' s2 ∧ RelV x u ∧ J.yld i H x H' ∧ tn (i + 1) s2.heap ∧ ∀ b ∈ fp, H' b = none) E s1) E s
  done : ∀ (X : Cx), X.prog = P → X.w = w → X.K = K → X.calm = true → ∀ (i : Nat) (pins : List (Addr × Obj)) (s : Shared) (σ : St) (H : Hp) (E : Value → Shared → Prop), Inv X pins σ H s → (∀ b ∈ fp, FpOk X pins H b) → tn i s.heap → J.stop i H →
    wpAny (model P w) X.A (pyNext (.ref it)) (fun r s1 => r = none ∧ Inv X pins σ H s1) E s
  self : ∀ (A : Around) (i : Nat) (s : Shared) (Q : Value → Shared → Prop) (E : Value → Shared → Prop), tn i s.heap → Q (.ref it) s → wpAny (model P w) A (pyIter (.ref it)) Q E s
abbrev TI := St → Hp → (It → Hp → Prop) → Prop
def PIE (X : Cx) (pins : List (Addr × Obj)) (σ : St) (tg : Expr) (R : It → Hp → Prop) (itv : Value) (s2 : Shared) : Prop :=
  ∃ (it : Addr) (fp : List Addr) (tn : Nat → Heap → Prop) (J : It) (H' : Hp), itv = .ref it ∧ Inv X pins σ H' s2 ∧ Turn X.prog X.w X.K tg J fp it tn ∧ tn 0 s2.heap ∧ (∀ b ∈ fp, FpOk X pins H' b) ∧ R J H'
def PI (X : Cx) (tg iter : Expr) (wi : TI) : Prop :=
  ∀ (pins : List (Addr × Obj)) (s : Shared) (σ : St) (H : Hp) (R : It → Hp → Prop), Inv X pins σ H s → wi σ H R →
    wpAny (model X.prog X.w) X.A (eval iter X.env) (fun v s1 => wpAny (model X.prog X.w) X.A (pyIter v) (PIE X pins σ tg R) X.xe s1) X.xe s
theorem go_of {M : Model} {A : Around} {E : Value → Shared → Prop} {s : Shared} {tg : Expr} {it : Addr} {u : Value} {o : Obj} {n : String} {vs : Array Value} {Q : Unit → Shared → Prop} (ho : s.heap.get? it = some o) (hc : o.cls = .type n) (hd : o.data = .fields vs)
    (hn : ["enumerate", "zip", "dict_itemiterator", "dict_reverseitemiterator", "odict_iterator", "itertools.zip_longest", "itertools.pairwise"].contains n = false) (hQ : Q () s) : wpAny M A (letOwnedTupleGo tg (.ref it) u) Q E s := by
  unfold letOwnedTupleGo
  cases tg <;> first
    | exact wpAny_pure hQ
    | (cases u <;> first
        | exact wpAny_pure hQ
        | (refine wpAny_bind (wpAny_load ho ?_)
           rw [hc, hd]
           show wpAny M A (if (["enumerate", "zip", "dict_itemiterator", "dict_reverseitemiterator", "odict_iterator", "itertools.zip_longest", "itertools.pairwise"].contains n && vs[0]? == some (rawInt _)) = true then _ else _) Q E s
           rw [if_neg (by intro h; rw [hn, Bool.false_and] at h; cases h)]
           exact wpAny_pure hQ))
def Itl (K : PySem.W.Frag) (a : Addr) : It :=
  ⟨fun i H => ∃ xs x, SqL K H a xs ∧ xs[i]? = some x, fun i H x H' => H' = H ∧ ∀ xs, SqL K H a xs → xs[i]? = some x, fun i H => ∃ xs, SqL K H a xs ∧ xs.length ≤ i⟩
def Itt (K : PySem.W.Frag) (a : Addr) : It :=
  ⟨fun i H => ∃ xs x, SqT K H a xs ∧ xs[i]? = some x, fun i H x H' => H' = H ∧ ∀ xs, SqT K H a xs → xs[i]? = some x, fun i H => ∃ xs, SqT K H a xs ∧ xs.length ≤ i⟩
def Itr (lo : Int) (n : Nat) : It := ⟨fun i _ => i < n, fun i H x H' => H' = H ∧ x = .int (lo + i), fun i _ => n ≤ i⟩
theorem turn_list {P : Program} {w : World} {K : PySem.W.Frag} {tg : Expr} (a it : Addr) : Turn P w K tg (Itl K a) [it] it (fun i h => h.IsListIter it a i) where
  mem := by simp
  obj := fun i h st b hb => by
    have e : b = it := by simpa using hb
    subst e
    obtain ⟨o, e, c, d⟩ := st
    exact ⟨o, e, fun v z => by rw [d] at z; cases z⟩
  keep := fun i h h' st k => st.at fun o e => k it (by simp) o e
  item := by
    intro X hP hw hK hc i pins s σ H E I hf st hg
    subst hP hw hK
    obtain ⟨xs, x, hq, hx⟩ := hg
    obtain ⟨its, rv, p, hz⟩ := I.list hq
    obtain ⟨u, hu, ru⟩ := rv.get hx
    obtain ⟨f0, f1, f2, f3, f4, f5⟩ := hf it (by simp)
    refine wpAny_pyNext_list_item st p.isList (x := u) (by simpa using hu) fun h' st' sb => ?_
    have I1 : Inv X pins σ H { s with heap := h' } := I.turned (t' := s.toks) (fun b o hb e => (sb.2 b hb).trans e) f0 f1 f3 f4 f5
    obtain ⟨o, e, c, d⟩ := id st'
    exact ⟨u, rfl, go_of (s := { s with heap := h' }) e c d (by decide) ⟨x, H, I1, ru, ⟨rfl, fun ys hy => by rw [I.list_inj hy hq]; exact hx⟩, st', fun b hb => (hf b hb).1⟩⟩
  done := by
    intro X hP hw hK hc i pins s σ H E I hf st hg
    subst hP hw hK
    obtain ⟨xs, hq, hx⟩ := hg
    obtain ⟨its, rv, p, hz⟩ := I.list hq
    obtain ⟨f0, f1, f2, f3, f4, f5⟩ := hf it (by simp)
    have hl := rv.length
    exact wpAny_pyNext_list_end (I.ok.hd hc) st p.isList (by simp; omega) fun h' eb => ⟨rfl, I.turned (t' := s.toks) (fun b o hb e => eb b o hb e) f0 f1 f3 f4 f5⟩
  self := fun _ _ _ _ _ st h => wpAny_pyIter_listiter st h
theorem turn_tuple {P : Program} {w : World} {K : PySem.W.Frag} {tg : Expr} (a it : Addr) : Turn P w K tg (Itt K a) [it] it (fun i h => h.IsTupleIter it a i) where
  mem := by simp
  obj := fun i h st b hb => by
    have e : b = it := by simpa using hb
    subst e
    obtain ⟨o, e, c, d⟩ := st
    exact ⟨o, e, fun v z => by rw [d] at z; cases z⟩
  keep := fun i h h' st k => st.at fun o e => k it (by simp) o e
  item := by
    intro X hP hw hK hc i pins s σ H E I hf st hg
    subst hP hw hK
    obtain ⟨xs, x, hq, hx⟩ := hg
    obtain ⟨its, rv, p, hz⟩ := I.tuple hq
    obtain ⟨u, hu, ru⟩ := rv.get hx
    obtain ⟨f0, f1, f2, f3, f4, f5⟩ := hf it (by simp)
    refine wpAny_pyNext_tuple_item st (show s.heap.IsTuple a its.toArray from p) (x := u) (by simpa using hu) fun h' st' sb => ?_
    have I1 : Inv X pins σ H { s with heap := h' } := I.turned (t' := s.toks) (fun b o hb e => (sb.2 b hb).trans e) f0 f1 f3 f4 f5
    obtain ⟨o, e, c, d⟩ := id st'
    exact ⟨u, rfl, go_of (s := { s with heap := h' }) e c d (by decide) ⟨x, H, I1, ru, ⟨rfl, fun ys hy => by rw [I.tuple_inj hy hq]; exact hx⟩, st', fun b hb => (hf b hb).1⟩⟩
  done := by
    intro X hP hw hK hc i pins s σ H E I hf st hg
    subst hP hw hK
    obtain ⟨xs, hq, hx⟩ := hg
    obtain ⟨its, rv, p, hz⟩ := I.tuple hq
    obtain ⟨f0, f1, f2, f3, f4, f5⟩ := hf it (by simp)
    have hl := rv.length
    exact wpAny_pyNext_tuple_end (I.ok.hd hc) st (show s.heap.IsTuple a its.toArray from p) (by simp; omega) fun h' eb => ⟨rfl, I.turned (t' := s.toks) (fun b o hb e => eb b o hb e) f0 f1 f3 f4 f5⟩
  self := fun _ _ _ _ _ st h => wpAny_pyIter_tupleiter st h
theorem turn_range {P : Program} {w : World} {K : PySem.W.Frag} {tg : Expr} (it : Addr) (lo : Int) (n : Nat) : Turn P w K tg (Itr lo n) [it] it (fun i h => IsRangeIter h it (lo + (i : Nat) * 1) ((n : Int) - (i : Nat)) 1) where
  mem := by simp
  obj := fun i h st b hb => by
    have e : b = it := by simpa using hb
    subst e
    exact ⟨_, st, fun v z => by
      have z' : Data.fields _ = Data.cell v := z
      cases z'⟩
  keep := fun i h h' st k => k it (by simp) _ st
  item := by
    intro X hP hw hK hc i pins s σ H E I hf st hg
    subst hP hw hK
    obtain ⟨f0, f1, f2, f3, f4, f5⟩ := hf it (by simp)
    have W := Walks.range (prog := X.prog) (w := X.w) (I.ok.hd hc) it lo 1 n
    refine W.item i s _ _ hg st fun v h' tk hv st' kk => ?_
    obtain ⟨t, rfl⟩ := hv
    have I1 : Inv X pins σ H { s with heap := h', toks := tk } := I.turned (fun b o hb e => kk b o (by simpa using hb) e) f0 f1 f3 f4 f5
    refine ⟨_, rfl, go_of (s := { s with heap := h', toks := tk }) (n := "range_iterator") st' rfl rfl (by decide) ⟨.int (lo + i), H, I1, ⟨t, ?_⟩, ⟨rfl, rfl⟩, st', fun b hb => (hf b hb).1⟩⟩
    rw [Int.mul_one]
  done := by
    intro X hP hw hK hc i pins s σ H E I hf st hg
    subst hP hw hK
    obtain ⟨f0, f1, f2, f3, f4, f5⟩ := hf it (by simp)
    exact wpAny_pyNext_range_end (I.ok.hd hc) st (by have : n ≤ i := hg; omega) fun h' eb => ⟨rfl, I.turned (t' := s.toks) (fun b o hb e => eb b o hb e) f0 f1 f3 f4 f5⟩
  self := fun _ _ _ _ _ st h => wpAny_pyIter_rangeiter st h
end L2
namespace L2
open PySem PySem.Spec PyProof.Rows
section
variable {X : Cx} {tg : Expr}
def iList (K : PySem.W.Frag) (tl : TE) : TI := fun σ H R => tl σ H fun x H1 => ∃ a, x = .ref a ∧ (∃ xs, SqL K H1 a xs) ∧ R (Itl K a) H1
def iTup (K : PySem.W.Frag) (tl : TE) : TI := fun σ H R => tl σ H fun x H1 => ∃ a, x = .ref a ∧ (∃ xs, SqT K H1 a xs) ∧ R (Itt K a) H1
theorem pi_list {l : Expr} {tl : TE} (hl : PE X l tl) : PI X tg l (iList X.K tl) := by
  intro pins s σ H R I h
  refine thn (hl pins s σ H _ I h) fun v s1 ⟨x, H1, I1, r1, q1⟩ => ?_
  obtain ⟨a, e, ⟨xs, hq⟩, q⟩ := q1
  subst e
  cases r1
  obtain ⟨its, rv, p, hz⟩ := I1.list hq
  refine wpAny_pyIter_list p.isList ?_
  refine ⟨s1.heap.objs.size, [s1.heap.objs.size], _, _, H1, rfl, I1.kept (t' := s1.toks) fun b o e => Heap.get?_push_of_some _ e, turn_list a _, ⟨_, Heap.get?_push_size _ rfl, rfl, rfl⟩, fun b hb => ?_, q⟩
  have e : b = s1.heap.objs.size := by simpa using hb
  subst e
  exact I1.fpOk (Nat.le_refl _) (I1.hok.fresh (Nat.le_refl _))
theorem pi_tup {l : Expr} {tl : TE} (hl : PE X l tl) : PI X tg l (iTup X.K tl) := by
  intro pins s σ H R I h
  refine thn (hl pins s σ H _ I h) fun v s1 ⟨x, H1, I1, r1, q1⟩ => ?_
  obtain ⟨a, e, ⟨xs, hq⟩, q⟩ := q1
  subst e
  cases r1
  obtain ⟨its, rv, p, hz⟩ := I1.tuple hq
  refine wpAny_pyIter_tuple (show s1.heap.IsTuple a its.toArray from p) ?_
  refine ⟨s1.heap.objs.size, [s1.heap.objs.size], _, _, H1, rfl, I1.kept (t' := s1.toks) fun b o e => Heap.get?_push_of_some _ e, turn_tuple a _, ⟨_, Heap.get?_push_size _ rfl, rfl, rfl⟩, fun b hb => ?_, q⟩
  have e : b = s1.heap.objs.size := by simpa using hb
  subst e
  exact I1.fpOk (Nat.le_refl _) (I1.hok.fresh (Nat.le_refl _))
theorem range_it {pins : List (Addr × Obj)} {σ : St} {H : Hp} {s : Shared} {R : It → Hp → Prop} {E : Value → Shared → Prop} {lo hi : Int} {t u v : Tok} {tk : Nat} (I : Inv X pins σ H s) (h1 : -(2 ^ 62) ≤ lo) (h2 : lo < 2 ^ 62) (h3 : -(2 ^ 62) ≤ hi) (h4 : hi < 2 ^ 62)
    (q : R (Itr lo (hi - lo).toNat) H) : wpAny (model X.prog X.w) X.A (pyIter (.ref s.heap.objs.size)) (PIE X pins σ tg R) E { s with heap := s.heap.push { cls := .type "range", data := .fields #[.int lo t, .int hi u, .int 1 v] }, toks := tk } := by
  refine wpAny_pyIter_range (IsRange.new ..) (small_one h1 h2 h3 h4) ?_
  have I1 : Inv X pins σ H { s with heap := s.heap.push { cls := .type "range", data := .fields #[.int lo t, .int hi u, .int 1 v] }, toks := tk } := I.kept fun b o e => Heap.get?_push_of_some _ e
  refine ⟨(s.heap.push { cls := .type "range", data := .fields #[.int lo t, .int hi u, .int 1 v] }).objs.size, [(s.heap.push { cls := .type "range", data := .fields #[.int lo t, .int hi u, .int 1 v] }).objs.size], _, _, H, rfl,
    I1.kept (t' := tk) fun b o e => Heap.get?_push_of_some _ e, turn_range _ lo (hi - lo).toNat, ?_, fun b hb => ?_, q⟩
  · have e1 : lo + ((0 : Nat) : Int) * 1 = lo := by simp
    have e2 : (((hi - lo).toNat : Nat) : Int) - ((0 : Nat) : Int) = Builtin.Range.rangeSize lo hi 1 := by rw [rangeSize_one]; split <;> omega
    show IsRangeIter _ _ (lo + ((0 : Nat) : Int) * 1) ((((hi - lo).toNat : Nat) : Int) - ((0 : Nat) : Int)) 1
    rw [e1, e2]
    exact Heap.get?_push_size _ rfl
  · have e : b = (s.heap.push { cls := .type "range", data := .fields #[.int lo t, .int hi u, .int 1 v] }).objs.size := by simpa using hb
    subst e
    exact I1.fpOk (Nat.le_refl _) (I1.hok.fresh (Nat.le_refl _))
def iRng1 (ta : TA) : TI := fun σ H R => ta σ H fun vs H1 => ∃ j : Int, vs = [.int j] ∧ -(2 ^ 62) ≤ j ∧ j < 2 ^ 62 ∧ R (Itr 0 j.toNat) H1
theorem pi_range1 {a : Expr} {ta : TA} {p pos : Pos} (hg : Gl X "range") (hm : X.mg "range" = none) (ha : PA X [a] ta) (hs : starEach [a] X.env = [(false, eval a X.env)] := by rfl) : PI X tg (.Call (.Name "range" p) [a] [] pos) (iRng1 ta) := by
  intro pins s σ H R I h
  refine Call_ (ld_blt I hg hm boot_range (PyProof.Rows.callWith_type1 (thn (ha pos pins s σ H _ I h) fun us s1 ⟨vs, H1, I1, r1, q1⟩ => ?_) hs rfl))
  obtain ⟨j, e, q1, q2, q⟩ := q1
  subst e
  cases r1 with
  | cons r rr =>
    cases rr
    obtain ⟨t, rfl⟩ := r
    exact call_range_1 (range_it I1 (by omega) (by omega) q1 q2 (by simpa using q))
def tFor (wi : TI) (g : TG) (tb : TS) : TS := fun D σ H => wi σ H fun J H1 => ∃ W : Nat → Nat → St → Hp → Prop, (∃ m, W 0 m σ H1) ∧ ∀ i m σ H, W i m σ H →
  (J.stop i H ∧ D.nx σ H) ∨ (J.go i H ∧ ∃ N : St → Hp → Prop, (∀ σ' H', N σ' H' → ∃ m', m' < m ∧ W (i + 1) m' σ' H') ∧ ∀ x H', J.yld i H x H' → g x σ H' fun σ2 H2 => tb { D with nx := N, ct := N, bk := D.nx } σ2 H2)
def pinsAt (fp : List Addr) (h : Heap) : List (Addr × Obj) := fp.filterMap fun b => (h.get? b).map fun o => (b, o)
theorem mem_pinsAt {fp : List Addr} {h : Heap} {b : Addr} {o : Obj} (hb : b ∈ fp) (e : h.get? b = some o) : (b, o) ∈ pinsAt fp h := List.mem_filterMap.mpr ⟨b, hb, by rw [e]; rfl⟩
theorem of_pinsAt {fp : List Addr} {h : Heap} {p : Addr × Obj} (hp : p ∈ pinsAt fp h) : p.1 ∈ fp ∧ h.get? p.1 = some p.2 := by
  obtain ⟨b, hb, e⟩ := List.mem_filterMap.mp hp
  cases q : h.get? b with
  | none => rw [q] at e; cases e
  | some o =>
    rw [q] at e
    have e' : (b, o) = p := Option.some.inj e
    subst e'
    exact ⟨hb, q⟩
theorem Inv.pinned {pins : List (Addr × Obj)} {σ : St} {H : Hp} {s : Shared} {fp : List Addr} (I : Inv X pins σ H s) (hf : ∀ b ∈ fp, FpOk X pins H b) (ho : ∀ b ∈ fp, ∃ o, s.heap.get? b = some o ∧ ∀ v, o.data ≠ .cell v) : Inv X (pins ++ pinsAt fp s.heap) σ H s :=
  I.pins_of fun p hp => (List.mem_append.mp hp).elim (fun z => I.pin p (List.mem_append_right _ z)) fun z => by
    obtain ⟨hb, e⟩ := of_pinsAt z
    obtain ⟨f0, f1, f2, _⟩ := hf p.1 hb
    obtain ⟨o, e', d⟩ := ho p.1 hb
    rw [e] at e'; cases e'
    exact ⟨e, f0, f1, f2, d⟩
theorem Inv.unpinned {pins pl : List (Addr × Obj)} {σ : St} {H : Hp} {s : Shared} (I : Inv X (pins ++ pl) σ H s) : Inv X pins σ H s := I.pins_of fun p hp => I.pin p (List.mem_append_right _ (List.mem_append_left _ hp))
theorem ps_for {iter : Expr} {body : List Stmt} {wi : TI} {g : TG} {tb : TS} {pos : Pos} (hp : PassesOwn (model X.prog X.w) X.A X.env X.xe) (hc : X.calm = true) (hi : PI X tg iter wi) (hg : PG X tg g) (hb : PSs X body tb)
    (hs : ∀ x, foldedSetIterable iter X.env x = pure x := by intro _; rfl) : PS X (.For tg iter body [] pos) (tFor wi g tb) := by
  intro pins s σ H D I h
  refine wpAny_For (thn (hi pins s σ H _ I h) fun v s1 h1 => thn h1 fun itv s2 h2 => ?_) hs
  obtain ⟨it, fp, tn, J, H2, e, I2, T, st2, f2, W, ⟨m0, w0⟩, turn⟩ := h2
  subst e
  have stat : ∀ {H' : Hp}, (∀ b ∈ fp, H' b = none) → ∀ b ∈ fp, FpOk X pins H' b := fun hn b hb => ⟨hn b hb, (f2 b hb).2⟩
  refine codeAny_forLoop_any (fun n s' => ∃ i σ' H', Inv X pins σ' H' s' ∧ tn i s'.heap ∧ (∀ b ∈ fp, H' b = none) ∧ W i n σ' H') ?_ m0 ⟨0, σ, H2, I2, st2, fun b hb => (f2 b hb).1, w0⟩
  rintro n s3 ⟨i, σ3, H3, I3, st3, fr3, w3⟩
  rcases turn i n σ3 H3 w3 with ⟨stop, qn⟩ | ⟨go, N, hN, step⟩
  · refine wpAny_passesOwn hp (thn (T.done X rfl rfl rfl hc i pins s3 σ3 H3 X.xe I3 (stat fr3) st3 stop) fun r s4 ⟨hr, I4⟩ => ?_)
    subst hr
    exact wpAny_execs_nil ⟨σ3, H3, I4, qn⟩
  · refine wpAny_passesOwn hp (thn (T.item X rfl rfl rfl hc i pins s3 σ3 H3 X.xe I3 (stat fr3) st3 go) fun r s4 ⟨u, hr, h4⟩ => ?_)
    subst hr
    refine wpAny_passesOwn hp (thn h4 fun _ s5 ⟨x, H5, I5, r5, y5, st5, fr5⟩ => ?_)
    have I5' := I5.pinned (stat fr5) (T.obj _ _ st5)
    refine wpAny_passesOwn hp (thn (hg _ s5 σ3 H5 x u _ I5' r5 (step x H5 y5)) fun _ s6 ⟨σ6, H6, I6, q6⟩ => ?_)
    refine wpAny_passesOwn hp (thn (hb _ s6 σ6 H6 _ I6 q6) fun f s7 q7 => ?_)
    have again : ∀ {σ7 : St} {H7 : Hp}, Inv X (pins ++ pinsAt fp s5.heap) σ7 H7 s7 → N σ7 H7 → ∃ m, m < n ∧ ∃ i σ' H', Inv X pins σ' H' s7 ∧ tn i s7.heap ∧ (∀ b ∈ fp, H' b = none) ∧ W i m σ' H' := fun {σ7 H7} I7 n7 => by
      obtain ⟨m', hm, w7⟩ := hN σ7 H7 n7
      refine ⟨m', hm, i + 1, σ7, H7, I7.unpinned, T.keep _ _ _ st5 fun b hb o e => (I7.pin (b, o) (List.mem_append_right _ (List.mem_append_right _ (mem_pinsAt hb e)))).1, fun b hb => ?_, w7⟩
      obtain ⟨o, e, d⟩ := T.obj _ _ st5 b hb
      exact (I7.pin (b, o) (List.mem_append_right _ (List.mem_append_right _ (mem_pinsAt hb e)))).2.1
    cases f with
    | next => obtain ⟨σ7, H7, I7, n7⟩ := q7; exact again I7 n7
    | cont => obtain ⟨σ7, H7, I7, n7⟩ := q7; exact again I7 n7
    | brk => obtain ⟨σ7, H7, I7, q7⟩ := q7; exact ⟨σ7, H7, I7.unpinned, q7⟩
    | ret v => obtain ⟨x7, σ7, H7, I7, r7, q7⟩ := q7; exact ⟨x7, σ7, H7, I7.unpinned, r7, q7⟩
end
theorem for_list {K : PySem.W.Frag} {a : Addr} {xs : List V} {g : TG} {tb : TS} {D : Ends} {σ : St} {H : Hp} (Pv : Nat → St → Hp → Prop) (h0 : Pv 0 σ H) (hl : ∀ i σ H, i ≤ xs.length → Pv i σ H → SqL K H a xs)
    (hs : ∀ i x σ H, xs[i]? = some x → Pv i σ H → g x σ H fun σ2 H2 => tb { D with nx := Pv (i + 1), ct := Pv (i + 1), bk := D.nx } σ2 H2) (hd : ∀ σ H, Pv xs.length σ H → D.nx σ H) :
    ∃ W : Nat → Nat → St → Hp → Prop, (∃ m, W 0 m σ H) ∧ ∀ i m σ H, W i m σ H →
      ((Itl K a).stop i H ∧ D.nx σ H) ∨ ((Itl K a).go i H ∧ ∃ N : St → Hp → Prop, (∀ σ' H', N σ' H' → ∃ m', m' < m ∧ W (i + 1) m' σ' H') ∧ ∀ x H', (Itl K a).yld i H x H' → g x σ H' fun σ2 H2 => tb { D with nx := N, ct := N, bk := D.nx } σ2 H2) := by
  refine ⟨fun i m σ H => m = xs.length - i ∧ i ≤ xs.length ∧ Pv i σ H, ⟨xs.length, by simp, Nat.zero_le _, h0⟩, ?_⟩
  rintro i m σ H ⟨rfl, hi, p⟩
  have q := hl i σ H hi p
  by_cases hlt : i < xs.length
  · refine .inr ⟨⟨xs, xs[i], q, by simp [hlt]⟩, Pv (i + 1), fun σ' H' p' => ⟨xs.length - (i + 1), by omega, rfl, hlt, p'⟩, fun x H' y => ?_⟩
    obtain ⟨e, y⟩ := y
    subst e
    exact hs i x σ _ (y xs q) p
  · have e : i = xs.length := by omega
    subst e
    exact .inl ⟨⟨xs, q, Nat.le_refl _⟩, hd σ H p⟩
theorem for_tup {K : PySem.W.Frag} {a : Addr} {xs : List V} {g : TG} {tb : TS} {D : Ends} {σ : St} {H : Hp} (Pv : Nat → St → Hp → Prop) (h0 : Pv 0 σ H) (hl : ∀ i σ H, i ≤ xs.length → Pv i σ H → SqT K H a xs)
    (hs : ∀ i x σ H, xs[i]? = some x → Pv i σ H → g x σ H fun σ2 H2 => tb { D with nx := Pv (i + 1), ct := Pv (i + 1), bk := D.nx } σ2 H2) (hd : ∀ σ H, Pv xs.length σ H → D.nx σ H) :
    ∃ W : Nat → Nat → St → Hp → Prop, (∃ m, W 0 m σ H) ∧ ∀ i m σ H, W i m σ H →
      ((Itt K a).stop i H ∧ D.nx σ H) ∨ ((Itt K a).go i H ∧ ∃ N : St → Hp → Prop, (∀ σ' H', N σ' H' → ∃ m', m' < m ∧ W (i + 1) m' σ' H') ∧ ∀ x H', (Itt K a).yld i H x H' → g x σ H' fun σ2 H2 => tb { D with nx := N, ct := N, bk := D.nx } σ2 H2) := by
  refine ⟨fun i m σ H => m = xs.length - i ∧ i ≤ xs.length ∧ Pv i σ H, ⟨xs.length, by simp, Nat.zero_le _, h0⟩, ?_⟩
  rintro i m σ H ⟨rfl, hi, p⟩
  have q := hl i σ H hi p
  by_cases hlt : i < xs.length
  · refine .inr ⟨⟨xs, xs[i], q, by simp [hlt]⟩, Pv (i + 1), fun σ' H' p' => ⟨xs.length - (i + 1), by omega, rfl, hlt, p'⟩, fun x H' y => ?_⟩
    obtain ⟨e, y⟩ := y
    subst e
    exact hs i x σ _ (y xs q) p
  · have e : i = xs.length := by omega
    subst e
    exact .inl ⟨⟨xs, q, Nat.le_refl _⟩, hd σ H p⟩
theorem for_range {lo : Int} {n : Nat} {g : TG} {tb : TS} {D : Ends} {σ : St} {H : Hp} (Pv : Nat → St → Hp → Prop) (h0 : Pv 0 σ H)
    (hs : ∀ i σ H, i < n → Pv i σ H → g (.int (lo + i)) σ H fun σ2 H2 => tb { D with nx := Pv (i + 1), ct := Pv (i + 1), bk := D.nx } σ2 H2) (hd : ∀ σ H, Pv n σ H → D.nx σ H) :
    ∃ W : Nat → Nat → St → Hp → Prop, (∃ m, W 0 m σ H) ∧ ∀ i m σ H, W i m σ H →
      ((Itr lo n).stop i H ∧ D.nx σ H) ∨ ((Itr lo n).go i H ∧ ∃ N : St → Hp → Prop, (∀ σ' H', N σ' H' → ∃ m', m' < m ∧ W (i + 1) m' σ' H') ∧ ∀ x H', (Itr lo n).yld i H x H' → g x σ H' fun σ2 H2 => tb { D with nx := N, ct := N, bk := D.nx } σ2 H2) := by
  refine ⟨fun i m σ H => m = n - i ∧ i ≤ n ∧ Pv i σ H, ⟨n, by simp, Nat.zero_le _, h0⟩, ?_⟩
  rintro i m σ H ⟨rfl, hi, p⟩
  by_cases hlt : i < n
  · refine .inr ⟨hlt, Pv (i + 1), fun σ' H' p' => ⟨n - (i + 1), by omega, rfl, hlt, p'⟩, fun x H' y => ?_⟩
    obtain ⟨e, y⟩ := y
    subst e y
    exact hs i σ _ hlt p
  · have e : i = n := by omega
    subst e
    exact .inl ⟨Nat.le_refl _, hd σ H p⟩
end L2
namespace L2
open PySem PySem.Spec PyProof.Rows
abbrev R2 := V → V → Hp → VK → Prop
def OpR (X : Cx) (f : Value → Value → Sem Value) (r : R2) : Prop :=
  ∀ (pins : List (Addr × Obj)) (s : Shared) (σ : St) (H : Hp) (x y : V) (v u : Value) (Q : VK), Inv X pins σ H s → RelV x v → RelV y u → r x y H Q →
    wpAny (model X.prog X.w) X.A (f v u) (EP X pins σ Q) X.xe s
def CallR (X : Cx) (f : Value) (r : List V → Hp → VK → Prop) : Prop :=
  ∀ (pins : List (Addr × Obj)) (s : Shared) (σ : St) (H : Hp) (xs : List V) (us : List Value) (Q : VK), Inv X pins σ H s → Vals xs us → r xs H Q →
    wpAny (model X.prog X.w) X.A (call f us) (EP X pins σ Q) X.xe s
def tOp (r : R2) (ta tb : TE) : TE := fun σ H Q => ta σ H fun x H1 => tb σ H1 fun y H2 => r x y H2 Q
def rI (C : Int → Int → Prop) (g : Int → Int → V) : R2 := fun x y H Q => ∃ i j, x = .int i ∧ y = .int j ∧ C i j ∧ Q (g i j) H
def rI0 (g : Int → Int → V) : R2 := fun x y H Q => ∃ i j, x = .int i ∧ y = .int j ∧ Q (g i j) H
def rU (g : Int → V) : V → Hp → VK → Prop := fun x H Q => ∃ i, x = .int i ∧ Q (g i) H
section
variable {X : Cx} {a b c : Expr} {ta tb tc : TE} {pos : Pos}
theorem binT (ha : PE X a ta) (hb : PE X b tb) {pins : List (Addr × Obj)} {s : Shared} {σ : St} {H : Hp} {R : V → V → Hp → Prop} (I : Inv X pins σ H s)
    (h : ta σ H fun x H1 => tb σ H1 fun y H2 => R x y H2) {Q : Value → Shared → Prop} {f : Value → Value → Sem Value}
    (hf : ∀ v u s2 x y H2, Inv X pins σ H2 s2 → RelV x v → RelV y u → R x y H2 → wpAny (model X.prog X.w) X.A (f v u) Q X.xe s2) :
    wpAny (model X.prog X.w) X.A (eval a X.env) (fun v s₁ => wpAny (model X.prog X.w) X.A (eval b X.env) (fun u s₂ => wpAny (model X.prog X.w) X.A (f v u) Q X.xe s₂) X.xe s₁) X.xe s := by
  refine thn (ha pins s σ H _ I h) fun v s1 ⟨x, H1, I1, r1, q1⟩ => ?_
  refine thn (hb pins s1 σ H1 _ I1 q1) fun u s2 ⟨y, H2, I2, r2, q2⟩ => ?_
  exact hf v u s2 x y H2 I2 r1 r2 q2
theorem pe_op {op : Operator} {r : R2} (ho : OpR X (binaryOp op) r) (ha : PE X a ta) (hb : PE X b tb) : PE X (.BinOp a op b pos) (tOp r ta tb) := by
  intro pins s σ H Q I h
  exact wpAny_BinOp (binT ha hb I h fun v u s2 x y H2 I2 rx ry q => ho pins s2 σ H2 x y v u Q I2 rx ry q)
theorem opI {f : Value → Value → Sem Value} {C : Int → Int → Prop} {g : Int → Int → Int}
    (rule : ∀ (i j : Int) (t u : Tok) (s : Shared) (Q : Value → Shared → Prop) (E : Value → Shared → Prop), C i j → Q (.int (g i j) s.toks) { s with toks := s.toks + 1 } → wpAny (model X.prog X.w) X.A (f (.int i t) (.int j u)) Q E s) :
    OpR X f (rI C fun i j => .int (g i j)) := by
  intro pins s σ H x y v u Q I rx ry h
  obtain ⟨i, j, rfl, rfl, hc, q⟩ := h
  obtain ⟨t, rfl⟩ := rx
  obtain ⟨t', rfl⟩ := ry
  exact rule i j t t' s _ _ hc ⟨.int (g i j), H, I.tok _, ⟨_, rfl⟩, q⟩
theorem opI0 {f : Value → Value → Sem Value} {g : Int → Int → Int}
    (rule : ∀ (i j : Int) (t u : Tok) (s : Shared) (Q : Value → Shared → Prop) (E : Value → Shared → Prop), Q (.int (g i j) s.toks) { s with toks := s.toks + 1 } → wpAny (model X.prog X.w) X.A (f (.int i t) (.int j u)) Q E s) :
    OpR X f (rI0 fun i j => .int (g i j)) := by
  intro pins s σ H x y v u Q I rx ry h
  obtain ⟨i, j, rfl, rfl, q⟩ := h
  obtain ⟨t, rfl⟩ := rx
  obtain ⟨t', rfl⟩ := ry
  exact rule i j t t' s _ _ ⟨.int (g i j), H, I.tok _, ⟨_, rfl⟩, q⟩
theorem opB0 {f : Value → Value → Sem Value} {g : Int → Int → Bool}
    (rule : ∀ (i j : Int) (t u : Tok) (s : Shared) (Q : Value → Shared → Prop) (E : Value → Shared → Prop), Q (.bool (g i j)) s → wpAny (model X.prog X.w) X.A (f (.int i t) (.int j u)) Q E s) :
    OpR X f (rI0 fun i j => .bl (g i j)) := by
  intro pins s σ H x y v u Q I rx ry h
  obtain ⟨i, j, rfl, rfl, q⟩ := h
  obtain ⟨t, rfl⟩ := rx
  obtain ⟨t', rfl⟩ := ry
  exact rule i j t t' s _ _ ⟨.bl (g i j), H, I, rfl, q⟩
def CDiv (i j : Int) : Prop := 0 < j ∧ j < 1073741824
def CPow (i j : Int) : Prop := 0 ≤ j ∧ j ≤ 1000000 ∧ i.natAbs < 2 ^ 64
def CMul (i j : Int) : Prop := (-(2 ^ 64) < i ∧ i < 2 ^ 64) ∨ (-(2 ^ 64) < j ∧ j < 2 ^ 64)
theorem CMul.ok {i j : Int} (h : CMul i j) : IntMulOk i j := by
  rcases h with ⟨h1, h2⟩ | ⟨h1, h2⟩
  · exact .of_left (intBits_le_64 h1 h2)
  · exact .of_right (intBits_le_64 h1 h2)
theorem op_add : OpR X (binaryOp .Add) (rI0 fun i j => .int (i + j)) := opI0 fun _ _ _ _ _ _ _ q => add_int q
theorem op_sub : OpR X (binaryOp .Sub) (rI0 fun i j => .int (i - j)) := opI0 fun _ _ _ _ _ _ _ q => sub_int q
theorem op_mul : OpR X (binaryOp .Mult) (rI CMul fun i j => .int (i * j)) := opI fun _ _ _ _ _ _ _ hc q => mul_int q hc.ok
theorem op_fdiv : OpR X (binaryOp .FloorDiv) (rI CDiv fun i j => .int (i / j)) := opI fun i j _ _ _ _ _ hc q => by
  have h1 : (0 : Int) < j := hc.1
  have h2 : j < 1073741824 := hc.2
  exact floordiv_int (by omega) (by rw [Int.fdiv_eq_ediv_of_nonneg i (by omega)]; exact q) (.inl (PyProof.noPylong_small (by omega)))
theorem op_mod : OpR X (binaryOp .Mod) (rI (fun _ j => 0 < j) fun i j => .int (i % j)) := opI fun i j _ _ _ _ _ hc q => by
  have h1 : (0 : Int) < j := hc
  exact mod_int' (by omega) (by rw [Int.fmod_eq_emod_of_nonneg i (by omega)]; exact q)
theorem op_pow : OpR X (binaryOp .Pow) (rI CPow fun i j => .int (i ^ j.toNat)) := opI fun _ _ _ _ _ _ _ hc q => pow_int_small hc.1 hc.2.1 hc.2.2 q
end
def scal : V → V → Bool
  | .non, .non => true | .non, .int _ => true | .int _, .non => true | .non, .bl _ => true | .bl _, .non => true | .non, .str _ => true | .str _, .non => true
  | .int _, .int _ => true | .bl _, .bl _ => true | .str _, .str _ => true | .byt _, .byt _ => true
  | .int _, .str _ => true | .str _, .int _ => true | .bl _, .str _ => true | .str _, .bl _ => true
  | _, _ => false
def rEq : R2 := fun x y H Q => scal x y = true ∧ Q (.bl (decide (x = y))) H
def rNe : R2 := fun x y H Q => scal x y = true ∧ Q (.bl (!decide (x = y))) H
theorem dec_int {i j : Int} : decide (V.int i = V.int j) = (i == j) := by
  rw [Bool.eq_iff_iff]
  simp
theorem dec_bl {i j : Bool} : decide (V.bl i = V.bl j) = (i == j) := by
  rw [Bool.eq_iff_iff]
  simp
theorem dec_str {i j : Str} : decide (V.str i = V.str j) = (i == j) := by
  rw [Bool.eq_iff_iff]
  simp
theorem dec_byt {i j : Array UInt8} : decide (V.byt i = V.byt j) = (i.toList == j.toList) := by
  rw [Bool.eq_iff_iff]
  cases i
  cases j
  simp
section
variable {X : Cx} {a b c : Expr} {ta tb tc : TE} {pos : Pos}
theorem fin_bl {pins : List (Addr × Obj)} {σ : St} {H : Hp} {s : Shared} {Q : VK} {k k' : Bool} (I : Inv X pins σ H s) (q : Q (.bl k) H) (e : k = k') : EP X pins σ Q (.bool k') s := by
  subst e
  exact ⟨.bl k, H, I, rfl, q⟩
theorem op_eq : OpR X (compareOp .Eq) rEq := by
  intro pins s σ H x y v u Q I rx ry h
  obtain ⟨hs, q⟩ := h
  cases x with
  | non =>
    cases rx
    cases y with
    | non => cases ry; exact PySem.EqNone.eq_none_none (fin_bl I q (by simp))
    | bl j => cases ry; exact PySem.EqNone.eq_none_bool (fin_bl I q (by simp))
    | int j => obtain ⟨t', rfl⟩ := ry; exact PySem.EqNone.eq_none_int (fin_bl I q (by simp))
    | str j => obtain ⟨t', rfl⟩ := ry; exact PySem.EqNone.eq_none_str (fin_bl I q (by simp))
    | _ => exact absurd (show false = true from hs) Bool.false_ne_true
  | bl i =>
    cases rx
    cases y with
    | non => cases ry; exact PySem.EqNone.eq_bool_none (fin_bl I q (by simp))
    | bl j => cases ry; exact eq_bool (fin_bl I q dec_bl)
    | str j => obtain ⟨t', rfl⟩ := ry; exact PySem.EqMixed.eq_bool_str (fin_bl I q (by simp))
    | _ => exact absurd (show false = true from hs) Bool.false_ne_true
  | int i =>
    obtain ⟨t, rfl⟩ := rx
    cases y with
    | non => cases ry; exact PySem.EqNone.eq_int_none (fin_bl I q (by simp))
    | int j => obtain ⟨t', rfl⟩ := ry; exact eq_int (fin_bl I q dec_int)
    | str j => obtain ⟨t', rfl⟩ := ry; exact PySem.EqMixed.eq_int_str (fin_bl I q (by simp))
    | _ => exact absurd (show false = true from hs) Bool.false_ne_true
  | str i =>
    obtain ⟨t, rfl⟩ := rx
    cases y with
    | non => cases ry; exact PySem.EqNone.eq_str_none (fin_bl I q (by simp))
    | bl j => cases ry; exact PySem.EqMixed.eq_str_bool (fin_bl I q (by simp))
    | int j => obtain ⟨t', rfl⟩ := ry; exact PySem.EqMixed.eq_str_int (fin_bl I q (by simp))
    | str j => obtain ⟨t', rfl⟩ := ry; exact eq_str (fin_bl I q dec_str)
    | _ => exact absurd (show false = true from hs) Bool.false_ne_true
  | byt i =>
    obtain ⟨t, rfl⟩ := rx
    cases y with
    | byt j => obtain ⟨t', rfl⟩ := ry; exact PySem.W.eq_bytes (fin_bl I q dec_byt)
    | _ => exact absurd (show false = true from hs) Bool.false_ne_true
  | _ => cases y <;> exact absurd (show false = true from hs) Bool.false_ne_true
theorem op_ne : OpR X (compareOp .NotEq) rNe := by
  intro pins s σ H x y v u Q I rx ry h
  obtain ⟨hs, q⟩ := h
  cases x with
  | non =>
    cases rx
    cases y with
    | non => cases ry; exact PySem.EqNone.ne_none_none (fin_bl I q (by simp))
    | bl j => cases ry; exact PySem.EqNone.ne_none_bool (fin_bl I q (by simp))
    | int j => obtain ⟨t', rfl⟩ := ry; exact PySem.EqNone.ne_none_int (fin_bl I q (by simp))
    | str j => obtain ⟨t', rfl⟩ := ry; exact PySem.EqNone.ne_none_str (fin_bl I q (by simp))
    | _ => exact absurd (show false = true from hs) Bool.false_ne_true
  | bl i =>
    cases rx
    cases y with
    | non => cases ry; exact PySem.EqNone.ne_bool_none (fin_bl I q (by simp))
    | bl j => cases ry; exact ne_bool (fin_bl I q (congrArg not dec_bl))
    | str j => obtain ⟨t', rfl⟩ := ry; exact PySem.EqMixed.ne_bool_str (fin_bl I q (by simp))
    | _ => exact absurd (show false = true from hs) Bool.false_ne_true
  | int i =>
    obtain ⟨t, rfl⟩ := rx
    cases y with
    | non => cases ry; exact PySem.EqNone.ne_int_none (fin_bl I q (by simp))
    | int j => obtain ⟨t', rfl⟩ := ry; exact ne_int (fin_bl I q (congrArg not dec_int))
    | str j => obtain ⟨t', rfl⟩ := ry; exact PySem.EqMixed.ne_int_str (fin_bl I q (by simp))
    | _ => exact absurd (show false = true from hs) Bool.false_ne_true
  | str i =>
    obtain ⟨t, rfl⟩ := rx
    cases y with
    | non => cases ry; exact PySem.EqNone.ne_str_none (fin_bl I q (by simp))
    | bl j => cases ry; exact PySem.EqMixed.ne_str_bool (fin_bl I q (by simp))
    | int j => obtain ⟨t', rfl⟩ := ry; exact PySem.EqMixed.ne_str_int (fin_bl I q (by simp))
    | str j => obtain ⟨t', rfl⟩ := ry; exact ne_str (fin_bl I q (congrArg not dec_str))
    | _ => exact absurd (show false = true from hs) Bool.false_ne_true
  | byt i =>
    obtain ⟨t, rfl⟩ := rx
    cases y with
    | byt j => obtain ⟨t', rfl⟩ := ry; exact PySem.W.ne_bytes (fin_bl I q (congrArg not dec_byt))
    | _ => exact absurd (show false = true from hs) Bool.false_ne_true
  | _ => cases y <;> exact absurd (show false = true from hs) Bool.false_ne_true
theorem op_lt : OpR X (compareOp .Lt) (rI0 fun i j => .bl (decide (i < j))) := opB0 fun _ _ _ _ _ _ _ q => lt_int q
theorem op_le : OpR X (compareOp .LtE) (rI0 fun i j => .bl (decide (i ≤ j))) := opB0 fun _ _ _ _ _ _ _ q => le_int q
theorem op_gt : OpR X (compareOp .Gt) (rI0 fun i j => .bl (decide (j < i))) := opB0 fun _ _ _ _ _ _ _ q => gt_int q
theorem op_isN : OpR X (compareOp .Is) (fun x y H Q => y = .non ∧ Q (.bl (decide (x = .non))) H) := by
  intro pins s σ H x y v u Q I rx ry h
  obtain ⟨rfl, q⟩ := h
  cases ry
  refine is_none_gen (fin_bl I q ?_)
  cases x <;> first
    | (cases rx; rfl)
    | (obtain ⟨t, rfl⟩ := rx; rfl)
theorem op_notN : OpR X (compareOp .IsNot) (fun x y H Q => y = .non ∧ Q (.bl (!decide (x = .non))) H) := by
  intro pins s σ H x y v u Q I rx ry h
  obtain ⟨rfl, q⟩ := h
  cases ry
  refine isnot_none_gen (fin_bl I q ?_)
  cases x <;> first
    | (cases rx; rfl)
    | (obtain ⟨t, rfl⟩ := rx; rfl)
theorem nomark (b : Expr) {op : CmpOp} (h : op ≠ .In := by decide) (h2 : op ≠ .NotIn := by decide) : behindInMarks op b = false := by
  have e1 : (op == CmpOp.In) = false := by cases op <;> first | rfl | exact absurd rfl h
  have e2 : (op == CmpOp.NotIn) = false := by cases op <;> first | rfl | exact absurd rfl h2
  cases b <;> simp [behindInMarks, e1, e2]
theorem pe_cmpR {op : CmpOp} {r : R2} (ho : OpR X (compareOp op) r) (ha : PE X a ta) (hb : PE X b tb) (hm : behindInMarks op b = false) : PE X (.Compare a [op] [b] pos) (tOp r ta tb) := by
  intro pins s σ H Q I h
  exact wpAny_Compare1 (binT ha hb I h fun v u s2 x y H2 I2 rx ry q => ho pins s2 σ H2 x y v u Q I2 rx ry q) hm
def tTest (t : TE) : TT := fun σ H Q => t σ H fun x H' => ∃ k, x = .bl k ∧ Q k H'
theorem pt_cmpR {op : CmpOp} {r : R2} (ho : OpR X (compareOp op) r) (ha : PE X a ta) (hb : PE X b tb) (hm : behindInMarks op b = false) : PT X (.Compare a [op] [b] pos) (tTest (tOp r ta tb)) := by
  intro pins s σ H Q I h
  refine wpAny_isTrue_Compare1 (thn (ha pins s σ H _ I h) fun v s1 ⟨x, H1, I1, r1, q1⟩ => thn (hb pins s1 σ H1 _ I1 q1) fun u s2 ⟨y, H2, I2, r2, q2⟩ =>
    thn (ho pins s2 σ H2 x y v u _ I2 r1 r2 q2) fun c s3 ⟨z, H3, I3, r3, k, e, q3⟩ => ?_) hm
  subst e
  cases r3
  exact wpAny_truthy_bool ⟨H3, I3, q3⟩
def tChain (r r' : R2) (ta tb tc : TE) : TE := fun σ H Q => ta σ H fun x H1 => tb σ H1 fun y H2 => r x y H2 fun z H3 => ∃ k, z = .bl k ∧
  (if k = true then tc σ H3 fun w' H4 => r' y w' H4 Q else Q (.bl false) H3)
theorem pt_chain {op op' : CmpOp} {r r' : R2} (ho : OpR X (compareOp op) r) (ho' : OpR X (compareOp op') r') (ha : PE X a ta) (hb : PE X b tb) (hc : PE X c tc)
    (hm : lastMarks [op, op'] [b, c] = false := by with_unfolding_all rfl) : PT X (.Compare a [op, op'] [b, c] pos) (tTest (tChain r r' ta tb tc)) := by
  intro pins s σ H Q I h
  refine isTrue_chain (thn (ha pins s σ H _ I h) fun v s1 ⟨x, H1, I1, r1, q1⟩ => test_link (thn (hb pins s1 σ H1 _ I1 q1) fun u s2 ⟨y, H2, I2, r2, q2⟩ =>
    thn (ho pins s2 σ H2 x y v u _ I2 r1 r2 q2) fun d s3 ⟨z, H3, I3, r3, k, e, q3⟩ => ?_)) hm
  subst e
  cases r3
  refine wpAny_truthy_bool ?_
  cases k with
  | false =>
    obtain ⟨k', e', q'⟩ := q3
    cases e'
    exact ite_ff ⟨H3, I3, q'⟩
  | true =>
    refine ite_tt (test_last (thn (hc pins s3 σ H3 _ I3 q3) fun w' s4 ⟨z', H4, I4, r4, q4⟩ => thn (ho' pins s4 σ H4 y z' u w' _ I4 r2 r4 q4) fun d' s5 ⟨z2, H5, I5, r5, k2, e2, q5⟩ => ?_))
    subst e2
    cases r5
    exact wpAny_truthy_bool ⟨H5, I5, q5⟩
theorem line63 : (sizeLine : Nat) < 2 ^ 63 := by rw [sizeLine_eq]; decide
theorem op_add_str : OpR X (binaryOp .Add) (fun x y H Q => ∃ i j, x = .str i ∧ y = .str j ∧ i.length + j.length ≤ sizeLine ∧ Q (.str (i ++ j)) H) := by
  intro pins s σ H x y v u Q I rx ry h
  obtain ⟨i, j, rfl, rfl, hz, q⟩ := h
  obtain ⟨t, rfl⟩ := rx
  obtain ⟨t', rfl⟩ := ry
  exact add_str (fun t' tk => ⟨.str (i ++ j), H, I.tok _, ⟨_, rfl⟩, q⟩) hz
theorem vals1 {x : V} {us : List Value} (r : Vals [x] us) : ∃ u, us = [u] ∧ RelV x u := by
  cases r with
  | cons r1 r2 => cases r2; exact ⟨_, rfl, r1⟩
theorem vals2 {x y : V} {us : List Value} (r : Vals [x, y] us) : ∃ u w', us = [u, w'] ∧ RelV x u ∧ RelV y w' := by
  cases r with
  | cons r1 r2 =>
    cases r2 with
    | cons r3 r4 => cases r4; exact ⟨_, _, rfl, r1, r3⟩
end
end L2
namespace L2
open PySem PySem.Spec PyProof.Rows
structure ObjM (h : Heap) (x dx C : Addr) (mA : Str → Option Value) : Prop where
  obj : h.get? x = some (PySem.W.instObj C dx)
  ns : h.Ns1 dx mA
  ne : dx ≠ x
theorem lookIn_ns {h : Heap} {dx : Addr} {mA : Str → Option Value} (n : h.Ns1 dx mA) : ∃ od, h.get? dx = some od ∧ ∀ name, PySem.W.lookIn name od = some (mA name) := by
  obtain ⟨o, es, ep, ho, hd, hk, _, hm⟩ := n
  refine ⟨o, ho, fun name => ?_⟩
  have e := hm name
  unfold nsFind findBy at e
  rw [← Array.find?_toList] at e
  unfold PySem.W.lookIn
  rw [hd]
  dsimp only
  split
  · rename_i y q
    rw [q] at e
    exact congrArg some e
  · rename_i q
    rw [q] at e
    have a : es.toList.any (·.refKey) = false := by
      rw [List.any_eq_false]
      intro y hy
      obtain ⟨z, t, hkey⟩ := hk y (Array.mem_toList_iff.mp hy)
      simp [DictEntry.refKey, hkey]
    have a' : ¬ es.toList.any (·.refKey) = true := by rw [a]; exact Bool.false_ne_true
    rw [if_neg a']
    exact congrArg some e
theorem ObjM.look {h : Heap} {x dx C : Addr} {mA : Str → Option Value} (I : ObjM h x dx C mA) : ∃ od, PySem.W.InstAt h x (PySem.W.instObj C dx) C (some od) ∧ ∀ name, PySem.W.lookIn name od = some (mA name) :=
  let ⟨od, ho, hl⟩ := lookIn_ns I.ns
  ⟨od, ⟨I.obj, rfl, rfl, ho⟩, hl⟩
section
variable {prog : Program} {w : World} {A : Around} {E : Value → Shared → Prop} {s : Shared} {K : PySem.W.Frag} {x dx C f : Addr} {mA : Str → Option Value} {name : Str} {v : Value}
end
section
variable {P : Program} {w : World} {H H' : Hp} {h h' : Heap} {a C dx : Addr} {fs fs' : List (Str × V)}
theorem ins_get (hok : HOk P w H h) (e : H a = some (.ins C dx fs)) : ∃ mA, ObjM h a dx C mA ∧ (∀ f, RelO (fs.lookup f) (mA f)) ∧ PySem.Within mA (fs.map (·.1)) ∧ fs.length ≤ 1000 ∧ H dx = some (.own a) := by
  obtain ⟨d, z, ne, ob, mA, n, r, q⟩ := (show ObjOk P w H h a (.ins C dx fs) from hok a _ e)
  exact ⟨mA, ⟨ob, n, ne⟩, r, q, z, d⟩
end
structure Cls (K : PySem.W.Frag) (C : Addr) : Prop where
  pg : PySem.W.plainGet K C Str.empty = true
  hd : PySem.W.hasDictIn K C = true
  po : PySem.W.plainOver K C = true
  sa : PySem.W.findIn K (.ref C) "__setattr__" = some (some (.builtin "object.__setattr__"))
theorem Cls.get {K : PySem.W.Frag} {C : Addr} (c : Cls K C) (f : Str) : PySem.W.plainGet K C f = true := c.pg
structure Con (K : PySem.W.Frag) (C : Addr) (f : Str) (v : V) (u : Value) : Prop where
  at_ : PySem.W.findIn K (.ref C) f = some (some u)
  rel : RelV v u
  get : PySem.W.specialIn K u "__get__" = some none
  cp : PySem.W.copiedNames.contains f = false
structure Meth (K : PySem.W.Frag) (C : Addr) (m : Str) (f : Addr) : Prop where
  at_ : PySem.W.findIn K (.ref C) m = some (some (.ref f))
  fn : PySem.W.isFn K (.ref f) = true
  kp : PySem.W.keepIn K (.ref f) = true
section
variable {X : Cx} {pins : List (Addr × Obj)} {σ : St} {H : Hp} {s : Shared} {a C dx : Addr} {fs : List (Str × V)} {f : Str} {v : V} {A : Around} {E : Value → Shared → Prop}
end
section
variable {X : Cx} {o e value : Expr} {f : Str} {pos pos' tpos : Pos} {ta tv : TE}
end
section
variable {X : Cx} {pins : List (Addr × Obj)} {σ : St} {H : Hp} {s : Shared} {A : Around} {E : Value → Shared → Prop} {Q : Value → Shared → Prop} {c : Value} {b : Bool}
inductive TyOf (K : PySem.W.Frag) (H : Hp) : V → Value → Prop where
  | non : TyOf K H .non (.type "NoneType")
  | bl (x : Bool) : TyOf K H (.bl x) (.type "bool")
  | int (i : Int) : TyOf K H (.int i) (.type "int")
  | str (x : Str) : TyOf K H (.str x) (.type "str")
  | flt (x : UInt64) : TyOf K H (.flt x) (.type "float")
  | lst {a : Addr} {xs : List V} (e : H a = some (.lst xs)) : TyOf K H (.ref a) (.type "list")
  | frz {a : Addr} {o : Obj} {xs : List V} (e : H a = some (.frz o (.lst xs))) : TyOf K H (.ref a) (.type "list")
  | tup {a : Addr} {xs : List V} (e : H a = some (.tup xs)) : TyOf K H (.ref a) (.type "tuple")
  | dK {a : Addr} {kvs : List (Key × V)} (e : H a = some (.dK kvs)) : TyOf K H (.ref a) (.type "dict")
  | dT {a : Addr} {kvs : List (List Key × V)} (e : H a = some (.dT kvs)) : TyOf K H (.ref a) (.type "dict")
  | ins {a C dx : Addr} {fs : List (Str × V)} (e : H a = some (.ins C dx fs)) (cl : Cls K C) (ha : PySem.W.findIn K (.ref C) "__class__" = some (some (.builtin "object.__class__")))
      (hn : PySem.W.specialIn K (.builtin "object.__class__") "__get__" = some (some (.builtin "getset_descriptor.__get__"))) (htk : PySem.W.takesIn K (.builtin "object.__class__") = some true)
      (hm : PySem.W.mroIn K C (.type "object") = some true) : TyOf K H (.ref a) (.ref C)
theorem isinst_ok {x : V} {u t : Value} (I : Inv X pins σ H s) (rx : RelV x u) (ty : TyOf X.K H x t) (e : PySem.W.kitOne X.K t c = some b) (h : ∀ tk, Q (.bool b) { s with toks := tk }) :
    wpAny (model X.prog X.w) A (call (.builtin "isinstance") [u, c]) Q E s := by
  cases ty with
  | non => cases (show u = Value.none from rx); exact PySem.W.kia_one PySem.W.kitx_none I.kIn True.intro e (fun z => nomatch z) h
  | bl y => cases (show u = Value.bool y from rx); exact PySem.W.kia_one PySem.W.kitx_bool I.kIn True.intro e (fun z => nomatch z) h
  | int i => obtain ⟨t, q⟩ := (show ∃ t, u = Value.int i t from rx); cases q; exact PySem.W.kia_one PySem.W.kitx_int I.kIn True.intro e (fun z => nomatch z) h
  | str y => obtain ⟨t, q⟩ := (show ∃ t, u = Value.str y t from rx); cases q; exact PySem.W.kia_one PySem.W.kitx_str I.kIn True.intro e (fun z => nomatch z) h
  | flt y => obtain ⟨t, q⟩ := (show ∃ t, u = Value.float y t from rx); cases q; exact PySem.W.kia_one PySem.W.kitx_float I.kIn True.intro e (fun z => nomatch z) h
  | @lst a xs ea =>
    cases (show u = Value.ref a from rx)
    obtain ⟨_, _, n, _, h1⟩ := (show ObjOk X.prog X.w H s.heap a (.lst xs) from I.hok a _ ea)
    exact PySem.W.kia_one PySem.W.kitx_list I.kIn ⟨_, h1, rfl⟩ e (fun z => nomatch z) h
  | @frz a ob xs ea =>
    cases (show u = Value.ref a from rx)
    obtain ⟨_, _, _, n, _, h1⟩ := (show ObjOk X.prog X.w H s.heap a (.frz ob (.lst xs)) from I.hok a _ ea)
    exact PySem.W.kia_one PySem.W.kitx_list I.kIn ⟨_, h1, rfl⟩ e (fun z => nomatch z) h
  | @tup a xs ea =>
    cases (show u = Value.ref a from rx)
    obtain ⟨_, _, _, p⟩ := (show ObjOk X.prog X.w H s.heap a (.tup xs) from I.hok a _ ea)
    obtain ⟨o, h1, h2, _⟩ := p
    exact PySem.W.kia_one PySem.W.kitx_tuple I.kIn ⟨o, h1, h2⟩ e (fun z => nomatch z) h
  | @dK a kvs ea =>
    cases (show u = Value.ref a from rx)
    obtain ⟨_, _, vs, _, p⟩ := (show ObjOk X.prog X.w H s.heap a (.dK kvs) from I.hok a _ ea)
    obtain ⟨o, es, ep, h1, h2, _⟩ := p
    exact PySem.W.kia_one PySem.W.kitx_dict I.kIn ⟨o, h1, h2.1⟩ e (fun z => nomatch z) h
  | @dT a kvs ea =>
    cases (show u = Value.ref a from rx)
    obtain ⟨_, _, xs, _, o, es, ep, h1, h2, _⟩ := (show ObjOk X.prog X.w H s.heap a (.dT kvs) from I.hok a _ ea)
    exact PySem.W.kia_one PySem.W.kitx_dict I.kIn ⟨o, h1, h2.1⟩ e (fun z => nomatch z) h
  | @ins a C dx fs ea cl ha hn htk hm =>
    cases (show u = Value.ref a from rx)
    obtain ⟨mA, O, _⟩ := ins_get I.hok ea
    obtain ⟨od, J, _⟩ := O.look
    exact PySem.W.kia_one (PySem.W.kitx_own (cl.get _) cl.hd ha hn htk hm) I.kIn J e (fun z => nomatch z) h
end
end L2
namespace L2
open PySem PySem.Spec PyProof.Rows
structure Room (k : Nat) (A : Around) : Prop where
  hd : A.handled = none
  dp : A.depth + 3 * k + 5 < recursionLimit
  un : A.units + 16 * k + 200 < cLine
theorem Room.mono {j k : Nat} {A : Around} (r : Room k A) (h : j ≤ k) : Room j A := ⟨r.hd, by have := r.dp; omega, by have := r.un; omega⟩
theorem Room.deeper {k : Nat} {A : Around} (r : Room (k + 1) A) (env : Env) : Room k (A.deeper env) :=
  ⟨r.hd, by have := r.dp; show A.depth + 1 + 3 * k + 5 < _; omega, by have := r.un; show A.units + 3 + 16 * k + 200 < _; omega⟩
theorem Room.depth {k : Nat} {A : Around} (r : Room k A) : A.depth < recursionLimit := by have := r.dp; omega
theorem Room.units {k : Nat} {A : Around} (r : Room k A) : A.units + 64 < cLine := by have := r.un; omega
def tNil : TA := fun _ H Q => Q [] H
def tCons (ta : TE) (tr : TA) : TA := fun σ H Q => ta σ H fun x H1 => tr σ H1 fun xs H2 => Q (x :: xs) H2
section
variable {X : Cx} {e : Expr} {es : List Expr} {te : TE} {t : TA} {pos : Pos}
theorem pa_nil : PA X [] tNil := fun _ _ _ _ H Q I h => Calls.spliced_nil ⟨[], H, I, .nil, h⟩
theorem pa_cons (ha : PE X e te) (hr : PA X es t) (hs : starEach (e :: es) X.env = (false, eval e X.env) :: starEach es X.env := by rfl) : PA X (e :: es) (tCons te t) := by
  intro pos pins s σ H Q I h
  rw [hs]
  show wpAny _ _ (spliced ((false, eval e X.env) :: backTo pos (starEach es X.env))) _ _ s
  refine Calls.spliced_cons (thn (ha pins s σ H _ I h) fun u s1 ⟨x, H1, I1, r1, q1⟩ => ?_)
  exact thn (hr pos pins s1 σ H1 _ I1 q1) fun us s2 ⟨xs, H2, I2, r2, q2⟩ => ⟨x :: xs, H2, I2, .cons r1 r2, q2⟩
def tTup (t : TA) : TE := fun σ H Q => t σ H fun xs H1 => xs.length ≤ sizeLine ∧ ∀ p, H1 p = none → Q (.ref p) (upd H1 p (.tup xs))
def tLst (t : TA) : TE := fun σ H Q => t σ H fun xs H1 => xs.length ≤ sizeLine ∧ ∀ p, H1 p = none → Q (.ref p) (upd H1 p (.lst xs))
theorem pe_tup {x1} (h : PA X es t) : PE X (.Tuple es x1 pos) (tTup t) := by
  intro pins s σ H Q I hq
  refine wpAny_Tuple_spliced (thn (h pos pins s σ H _ I hq) fun us s1 ⟨xs, H1, I1, r, z, q⟩ => ⟨by rw [← r.length]; exact z, ?_⟩)
  have hf : H1 s1.heap.objs.size = none := I1.hok.fresh (Nat.le_refl _)
  refine ⟨.ref s1.heap.objs.size, upd H1 s1.heap.objs.size (.tup xs), I1.laid (t' := s1.toks) (fun b u e => Heap.get?_push_of_some _ e) (Nat.le_refl _) ?_, rfl, q _ hf⟩
  exact ⟨z, us, r, ⟨_, Heap.get?_push_size _ rfl, rfl, _, rfl⟩⟩
theorem pe_lst (h : PA X es t) : PE X (.List es pos) (tLst t) := by
  intro pins s σ H Q I hq
  refine wpAny_List_spliced (thn (h pos pins s σ H _ I hq) fun us s1 ⟨xs, H1, I1, r, z, q⟩ => ⟨by rw [← r.length]; exact z, ?_⟩)
  have hf : H1 s1.heap.objs.size = none := I1.hok.fresh (Nat.le_refl _)
  refine ⟨.ref s1.heap.objs.size, upd H1 s1.heap.objs.size (.lst xs), I1.laid (t' := s1.toks) (fun b u e => Heap.get?_push_of_some _ e) (Nat.le_refl _) ?_, rfl, q _ hf⟩
  exact ⟨z, us, 0, r, Heap.get?_push_size _ rfl⟩
end
abbrev Sp := List V → Hp → VK → XK → Prop
abbrev CXT := List Env → Hp → Shared → XK → Value → Shared → Prop
structure Env0 (P : Program) (w : World) (K : PySem.W.Frag) (mg : Str → Option Value) (base : Heap) (A : Around) (outer : List Env) (s : Shared) (H : Hp) : Prop where
  frames : A.frames = some outer
  mod : Mod K mg base
  bs : ∀ b o, base.get? b = some o → s.heap.get? b = some o ∧ H b = none
  bsz : base.objs.size ≤ s.heap.objs.size
  funs : s.heap.FunFrames base outer
  frf : ∀ b ∈ frs outer, H b = none
  hok : HOk P w H s.heap
  bare : AllBare s.gens
def CE (outer : List Env) (P : Program) (w : World) (H : Hp) (s : Shared) (Q : VK) (u : Value) (s' : Shared) : Prop :=
  ∃ v H', s'.os = s.os ∧ AllBare s'.gens ∧ Un (frs outer) [] H H' s.heap s'.heap ∧ HOk P w H' s'.heap ∧ RelV v u ∧ Q v H'
def CR (CX : CXT) (outer : List Env) (P : Program) (w : World) (H : Hp) (s : Shared) (Q : VK) (E : XK) (r : Result) (s' : Shared) : Prop :=
  match r with
  | .ok (.ret u) => CE outer P w H s Q u s'
  | .ok _ => False
  | .error e => CX outer H s E e s'
structure FnOk (P : Program) (w : World) (K : PySem.W.Frag) (mg : Str → Option Value) (base : Heap) (CX : CXT) (k : Nat) (f : Addr) (fd : FuncData) (ps : List Str) (sp : Sp) : Prop where
  len : ∀ vs H Q E, sp vs H Q E → vs.length = ps.length
  run : ∀ (A : Around) (outer : List Env) (s : Shared) (H : Hp) (args : Args) (us : List Value) (vs : List V) (Q : VK) (E : XK), Room k A → Env0 P w K mg base A outer s H → BindsTo s fd args (ps.zip us) → Vals vs us → sp vs H Q E →
    codeAny (model P w) A (.call (.ref f) args) (CR CX outer P w H s Q E) s
section
variable {X : Cx} {pins : List (Addr × Obj)} {σ : St} {H : Hp} {s s' : Shared}
theorem Inv.env0 (I : Inv X pins σ H s) : Env0 X.prog X.w X.K X.mg X.base X.A X.stack s H :=
  ⟨I.ok.frames, I.ok.mod, I.bs, Nat.le_trans I.ok.bsz I.sz, I.stack, I.stkFree, I.hok, I.bare⟩
theorem Inv.after {Q : VK} {u : Value} (I : Inv X pins σ H s) (h : CE X.stack X.prog X.w H s Q u s') : EP X pins σ Q u s' := by
  obtain ⟨v, H', os, bare, un, hok, r, q⟩ := h
  obtain ⟨hh, g, d, t, os'⟩ := s'
  obtain rfl : os' = s.os := os
  exact ⟨v, H', I.call (h' := hh) (g' := g) (d' := d) (t' := t) (ch := []) un hok bare (fun b z => absurd z (by simp)), r, q⟩
end
def tCall (sp : Sp) (dvs : List V) (E : XK) (t : TA) : TE := fun σ H Q => t σ H fun vs H1 => sp (vs ++ dvs) H1 Q E
def Binds (K : PySem.W.Frag) (fd : FuncData) (ps : List Str) (ds : List Value) : Prop :=
  ∀ (s : Shared) (us : List Value), K.In s.heap → (us ++ ds).length = ps.length → BindsTo s fd ⟨us, []⟩ (ps.zip (us ++ ds))
theorem Binds.all {K : PySem.W.Frag} {fd : FuncData} {ps : List Str} (h : ∀ us : List Value, us.length = ps.length → bindArgs fd ⟨us, []⟩ = pure (ps.zip us)) : Binds K fd ps [] := fun s us _ hl => by
  rw [List.append_nil] at hl ⊢
  exact .of_eq (h us hl)
def Passes (CX : CXT) (X : Cx) (E : XK) : Prop := ∀ (pins : List (Addr × Obj)) (σ : St) (H : Hp) (s : Shared) (e : Value) (s' : Shared), Inv X pins σ H s → CX X.stack H s E e s' → X.xe e s'
section
variable {X : Cx} {CX : CXT} {k : Nat} {f C : Addr} {fd : FuncData} {ps : List Str} {sp : Sp} {dvs : List V} {ds : List Value} {E : XK} {x m : Str} {p pos apos : Pos} {e o : Expr} {es : List Expr} {ta : TE} {t : TA}
theorem run_fn {pins : List (Addr × Obj)} {σ : St} {H : Hp} {s : Shared} {Q : VK} {us : List Value} {vs : List V} (F : FnOk X.prog X.w X.K X.mg X.base CX k f fd ps sp) (hr : Room k X.A) (hb : Binds X.K fd ps ds) (hd : Vals dvs ds) (hx : Passes CX X E)
    (I : Inv X pins σ H s) (r : Vals vs us) (h : sp (vs ++ dvs) H Q E) : wpAny (model X.prog X.w) X.A (call (.ref f) us) (EP X pins σ Q) X.xe s := by
  have r2 : Vals (vs ++ dvs) (us ++ ds) := r.append hd
  have hl : (us ++ ds).length = ps.length := by rw [← r2.length]; exact F.len _ _ _ _ h
  refine wpAny_call (codeAny_mono (F.run X.A X.stack s H ⟨us, []⟩ (us ++ ds) (vs ++ dvs) Q E hr I.env0 (hb s us I.kIn hl) r2 h) fun r s' hq => ?_)
  cases r with
  | error e => exact hx pins σ H s e s' I hq
  | ok fl =>
    cases fl with
    | ret u => exact I.after hq
    | next => exact False.elim hq
    | brk => exact False.elim hq
    | cont => exact False.elim hq
theorem pe_call (F : FnOk X.prog X.w X.K X.mg X.base CX k f fd ps sp) (hr : Room k X.A) (hg : Gl X x) (hm : X.mg x = some (.ref f)) (hk : PySem.W.keepIn X.K (.ref f) = true) (hb : Binds X.K fd ps ds) (hd : Vals dvs ds) (hx : Passes CX X E)
    (ha : PA X (e :: es) t) (hdb : (x == ("__debug__" : Str)) = false := by decide) (he : starEach (e :: es) X.env = (false, eval e X.env) :: starEach es X.env := by rfl) (hpl : (backTo pos (starEach es X.env)).any (·.1) = false := by rfl) :
    PE X (.Call (.Name x p) (e :: es) [] pos) (tCall sp dvs E t) := by
  intro pins s σ H Q I h
  refine wpAny_Call_Name_kw (ld_glob I hg hm ?_ hdb)
  refine PySem.W.callWith_K (h₀ := X.base) I.ok.mod.kin hk (thn (ha pos pins s σ H _ I h) fun us s1 ⟨vs, H1, I1, r, q⟩ => ⟨I1.kIn, ?_⟩) he hpl
  exact run_fn F hr hb hd hx I1 r q
structure Mk (K : PySem.W.Frag) (C f : Addr) : Prop where
  makes : PySem.W.makesIn K C = true
  init : PySem.W.findIn K (.ref C) "__init__" = some (some (.ref f))
  fn : PySem.W.isFn K (.ref f) = true
  kp : PySem.W.keepIn K (.ref C) = true
end
section
variable {X : Cx} {CX : CXT} {k : Nat} {f C : Addr} {fd : FuncData} {ps ks : List Str} {sp : Sp} {E : XK} {x m : Str} {p pos apos kpos : Pos} {e o : Expr} {es : List Expr} {kws : List Keyword} {te ta : TE} {t tk : TA} {nm : Option Str}
structure KBinds (K : PySem.W.Frag) (fd : FuncData) (ps ks : List Str) (g : List Value → List Value → List Value) (gV : List V → List V → List V) : Prop where
  to : ∀ (s : Shared) (us ws : List Value), K.In s.heap → (g us ws).length = ps.length → BindsTo s fd ⟨us, ks.zip ws⟩ (ps.zip (g us ws))
  rel : ∀ {vs : List V} {us : List Value} {zs : List V} {ws : List Value}, Vals vs us → Vals zs ws → Vals (gV vs zs) (g us ws)
variable {g : List Value → List Value → List Value} {gV : List V → List V → List V}
end
structure FnScope (N P : List Str) (sc : Scope) : Prop where
  kind : sc.kind = .function
  co : sc.isCoroutine = false
  gen : sc.isGenerator = false
  nd : N.Nodup
  pre : N.take P.length = P
  par : ∀ x ∈ P, sc.names.lookup x = some .local ∨ sc.names.lookup x = some .cell
  nofree : ∀ y ∈ sc.names, y.2 ≠ .free
theorem bindL_out {kindOf : Str → Option NameKind} {x : Str} : ∀ {binds : List (Str × Value)} {m : Str → Option Value}, (∀ v, (x, v) ∉ binds) → bindL kindOf binds m x = m x
  | [], _, _ => rfl
  | (n, v) :: r, m, h => by
    unfold bindL
    rw [bindL_out fun w hw => h w (List.mem_cons_of_mem _ hw)]
    split
    · have : x ≠ n := by rintro rfl; exact h v List.mem_cons_self
      simp [this]
    · rfl
theorem bindC_out {kindOf : Str → Option NameKind} {x : Str} : ∀ {binds : List (Str × Value)} {m : Str → Option Value}, (∀ v, (x, v) ∉ binds) → bindC kindOf binds m x = m x
  | [], _, _ => rfl
  | (n, v) :: r, m, h => by
    unfold bindC
    rw [bindC_out fun w hw => h w (List.mem_cons_of_mem _ hw)]
    split
    · rfl
    · have : x ≠ n := by rintro rfl; exact h v List.mem_cons_self
      simp [this]
theorem bindL_get {kindOf : Str → Option NameKind} {x : Str} {v : Value} : ∀ {P : List Str} {vs : List Value} {i : Nat} {m : Str → Option Value}, P.Nodup → P[i]? = some x → vs[i]? = some v → kindOf x = some .local →
    bindL kindOf (P.zip vs) m x = some v
  | [], _, _, _, _, h, _, _ => by simp at h
  | _ :: _, [], _, _, _, _, h, _ => by simp at h
  | p :: P, w :: vs, 0, m, nd, h1, h2, hk => by
    simp at h1 h2; subst h1; subst h2
    show bindL kindOf ((p, w) :: P.zip vs) m p = _
    unfold bindL
    rw [bindL_out fun v hv => (List.nodup_cons.mp nd).1 (List.of_mem_zip hv).1, if_pos hk]
    simp
  | p :: P, w :: vs, i + 1, m, nd, h1, h2, hk => by
    show bindL kindOf ((p, w) :: P.zip vs) m x = _
    unfold bindL
    exact bindL_get (i := i) (List.nodup_cons.mp nd).2 (by simpa using h1) (by simpa using h2) hk
theorem bindC_get {kindOf : Str → Option NameKind} {x : Str} {v : Value} : ∀ {P : List Str} {vs : List Value} {i : Nat} {m : Str → Option Value}, P.Nodup → P[i]? = some x → vs[i]? = some v → kindOf x ≠ some .local →
    bindC kindOf (P.zip vs) m x = some v
  | [], _, _, _, _, h, _, _ => by simp at h
  | _ :: _, [], _, _, _, _, h, _ => by simp at h
  | p :: P, w :: vs, 0, m, nd, h1, h2, hk => by
    simp at h1 h2; subst h1; subst h2
    show bindC kindOf ((p, w) :: P.zip vs) m p = _
    unfold bindC
    rw [bindC_out fun v hv => (List.nodup_cons.mp nd).1 (List.of_mem_zip hv).1, if_neg hk]
    simp
  | p :: P, w :: vs, i + 1, m, nd, h1, h2, hk => by
    show bindC kindOf ((p, w) :: P.zip vs) m x = _
    unfold bindC
    exact bindC_get (i := i) (List.nodup_cons.mp nd).2 (by simpa using h1) (by simpa using h2) hk
def start (N : List Str) (vs : List V) : St := vs.map some ++ List.replicate (N.length - vs.length) none
def cxOf (CX : CXT) (P : Program) (w : World) (K : PySem.W.Frag) (mg : Str → Option Value) (base : Heap) (N : List Str) (qual : Str) (scope : Scope) (f : Addr) (cd : Value) (A : Around) (outer : List Env) (s : Shared) (H : Hp) (E : XK) : Cx where
  prog := P
  w := w
  K := K
  mg := mg
  base := base
  A := A.deeper (envOfC qual scope s.heap.objs.size f cd)
  N := N
  s₀ := s
  H₀ := H
  env := envOfC qual scope s.heap.objs.size f cd
  outer := outer
  stack := envOfC qual scope s.heap.objs.size f cd :: outer
  ex := []
  calm := true
  fn := fun _ => true
  pn := []
  xe := fun e s' => wpAny (model P w) (A.deeper (envOfC qual scope s.heap.objs.size f cd)) (leaving (envOfC qual scope s.heap.objs.size f cd) e) (fun _ s'' => CX outer H s E e s'') (fun e' s'' => CX outer H s E e' s'') s'
theorem cell_has {sc : Scope} {n : Nat} {x : Str} (h : sc.names.lookup x = some .cell) : ∃ c, (cellsFrom n sc.names []).lookup x = some c := by
  have q := PySem.W.cellsFrom_some sc.names n [] (.inl h)
  exact Option.isSome_iff_exists.mp q
theorem inv_start {CX : CXT} {P : Program} {w : World} {K : PySem.W.Frag} {mg : Str → Option Value} {base : Heap} {N ps : List Str} {qual : Str} {scope : Scope} {f : Addr} {cd : Value} {A : Around} {outer : List Env} {s s1 : Shared} {H : Hp} {E : XK} {us : List Value} {vs : List V}
    (S : FnScope N ps scope) (hd : A.handled = none) (e0 : Env0 P w K mg base A outer s H) (hl : vs.length = ps.length) (r : Vals vs us)
    (x : InCallC s s.heap.objs.size (bindL (envOfC qual scope s.heap.objs.size f cd).kindOf (ps.zip us) fun _ => none) (cellsFrom (s.heap.objs.size + 1) scope.names []) (bindC (envOfC qual scope s.heap.objs.size f cd).kindOf (ps.zip us) fun _ => none) s1) :
    Inv (cxOf CX P w K mg base N qual scope f cd A outer s H E) [] (start N vs) H s1 := by
  have hpl : ps.length ≤ N.length := by have := congrArg List.length S.pre; rw [List.length_take] at this; omega
  obtain ⟨h1, tk, rfl, hk⟩ := x.done
  have noA : ∀ b : Addr, b ∉ (cxOf CX P w K mg base N qual scope f cd A outer s H E).ex := fun b z => absurd (show b ∈ ([] : List Addr) from z) (by simp)
  refine ⟨⟨e0.mod, S.kind, rfl, rfl, Nat.le_refl _, fun y z c h1 h2 => ?_, fun y hy => ?_, fun y c _ h => ?_, fun _ => hd, Around.frames_deeper e0.frames, .inr ⟨rfl, rfl⟩, fun b z => absurd z (noA b), e0.bs, e0.bsz, fun b _ _ => noA b, fun b z => absurd z (noA b), e0.funs, e0.frf⟩,
    rfl, e0.bare, Un.kept hk, ⟨_, x.toInCall.ns, fun i y v h1 h2 h3 => ?_⟩, fun y c h => ⟨_, x.cell y c h⟩, e0.hok.fresh (Nat.le_refl _), fun y c h => ?_, fun p hp => absurd (show p ∈ ([] : List (Addr × Obj)) from hp) (by simp), e0.hok.kept hk, ?_⟩
  · exact name_of_addr x.apart (PySem.mem_of_lookup h1) (PySem.mem_of_lookup h2)
  · have hy : scope.names.lookup y = some .cell ∨ scope.names.lookup y = some .free := hy
    rcases hy with hy | hy
    · exact cell_has hy
    · exact absurd rfl (S.nofree _ (PySem.mem_of_lookup hy))
  · exact Nat.le_of_lt (x.above y c (PySem.mem_of_lookup h))
  · have hi : i < vs.length := by
      unfold start at h2
      by_cases hi : i < vs.length
      · exact hi
      · rw [List.getElem?_append_right (by simpa using hi)] at h2
        rw [List.getElem?_replicate] at h2
        split at h2 <;> cases h2
    have ha : vs[i]? = some v := by
      unfold start at h2
      rw [List.getElem?_append_left (by simpa using hi), List.getElem?_map] at h2
      cases e : vs[i]? with
      | none => rw [e] at h2; cases h2
      | some a => rw [e] at h2; cases h2; rfl
    obtain ⟨u, hu, rv⟩ := r.get ha
    have hp : ps[i]? = some y := by
      rw [← S.pre, List.getElem?_take_of_lt (by omega)]; exact h1
    have ndP : ps.Nodup := by rw [← S.pre]; exact S.nd.sublist (List.take_sublist _ _)
    refine ⟨u, rv, ?_⟩
    rcases S.par y (List.mem_of_getElem? hp) with k | k
    · exact .inl ⟨k, bindL_get ndP hp hu k⟩
    · obtain ⟨c, e⟩ := cell_has (n := s.heap.objs.size + 1) k
      refine .inr ⟨.inl k, c, e, ?_⟩
      have q := x.cell y c e
      rw [bindC_get ndP hp hu (by show scope.names.lookup y ≠ _; rw [k]; decide)] at q
      exact q
  · exact e0.hok.fresh (Nat.le_of_lt (x.above y c (PySem.mem_of_lookup h)))
  · unfold start
    show _ = N.length
    rw [List.length_append, List.length_map, List.length_replicate]
    omega
theorem fn_of {CX : CXT} {P : Program} {w : World} {K : PySem.W.Frag} {mg : Str → Option Value} {base : Heap} {k : Nat} {f : Addr} {name qual : Str} {params : Arguments} {body : List Stmt} {scope : Scope} {dV kV doc pm cdv ct oc : Value} {an od : Option Addr}
    {osl : Array (Option Value)} {N ps : List Str} {sp : Sp} (lk : K.lookup f = some ⟨oc, od, .func (PySem.W.fnOf name qual params body scope dV kV doc pm an cdv ct), osl⟩) (hcd : PySem.W.codeIn K cdv qual = true) (S : FnScope N ps scope)
    (len : ∀ vs H Q E, sp vs H Q E → vs.length = ps.length)
    (hbody : ∀ (A : Around) (outer : List Env) (s : Shared) (H : Hp) (vs : List V) (Q : VK) (E : XK), Room k (A.deeper (envOfC qual scope s.heap.objs.size f cdv)) → sp vs H Q E →
      ∃ t, PSs (cxOf CX P w K mg base N qual scope f cdv A outer s H E) body t ∧ t { nx := fun _ H' => Q .non H', rt := Q } (start N vs) H) :
    FnOk P w K mg base CX (k + 1) f (PySem.W.fnOf name qual params body scope dV kV doc pm an cdv ct) ps sp := by
  refine ⟨len, fun A outer s H args us vs Q E hr e0 hb r hsp => ?_⟩
  have hl := len _ _ _ _ hsp
  have KX : K.In s.heap := e0.mod.kin.keeps fun b o e => (e0.bs b o e).1
  have lim : s.heap.NoLimit := e0.mod.nolimit.keeps fun b o e => (e0.bs b o e).1
  have hkind : ∀ y ∈ ps.zip us, scope.names.lookup y.1 = some .local ∨ (scope.names.lookup y.1 = some .cell ∧ ((cellsFrom (s.heap.objs.size + 1) scope.names []).lookup y.1).isSome = true) := fun ⟨n, v⟩ hy => by
    rcases S.par n (List.of_mem_zip hy).1 with q | q
    · exact .inl q
    · exact .inr ⟨q, PySem.W.cellsFrom_some _ _ _ (.inl q)⟩
  refine codeAny_call_function hr.depth (KX _ _ lk) rfl S.co S.gen rfl (PySem.W.codeRec_of KX hcd) (hb _ _ _ _ ?_)
  refine wpAny_newFunctionEnv_cells S.kind hkind fun env he s1 x => ?_
  subst he
  refine ⟨lim.keeps x.toInCall.keep, codeAny_func ?_⟩
  obtain ⟨t, ht, hq⟩ := hbody A outer s H vs Q E (hr.deeper _) hsp
  have I : Inv (cxOf CX P w K mg base N qual scope f cdv A outer s H E) [] (start N vs) H s1 := inv_start S hr.hd e0 hl r x
  refine wpAny_mono (ht [] s1 (start N vs) H _ I hq) (fun fl s' hs => ?_) fun e s' hs => hs
  have fin : ∀ {σ' : St} {H' : Hp} {v : V} {u : Value}, Inv (cxOf CX P w K mg base N qual scope f cdv A outer s H E) [] σ' H' s' → RelV v u → Q v H' → CE outer P w H s Q u s' :=
    fun {σ' H' v u} J rv q => ⟨v, H', J.os, J.bare, J.base, J.hok, rv, q⟩
  cases fl with
  | ret u =>
    obtain ⟨v, σ', H', J, rv, q⟩ := hs
    exact fin J rv q
  | next =>
    obtain ⟨σ', H', J, q⟩ := hs
    exact fin (v := V.non) (u := Value.none) J rfl q
  | brk =>
    obtain ⟨_, _, _, q⟩ := hs
    exact False.elim q
  | cont =>
    obtain ⟨_, _, _, q⟩ := hs
    exact False.elim q
end L2
namespace L2
open PySem PySem.Spec PyProof.Rows
section
variable {X : Cx} {x : Str} {p pos : Pos} {e : Expr} {es : List Expr} {t : TA} {id T : String} {r : List V → Hp → VK → Prop}
def tCB (r : List V → Hp → VK → Prop) (t : TA) : TE := fun σ H Q => t σ H fun vs H1 => r vs H1 Q
theorem pe_callB (hc : CallR X (.builtin id) r) (hg : Gl X x) (hm : X.mg x = none) (hv : bootBuiltins x = some (.builtin id)) (ha : PA X (e :: es) t) (hn : x ≠ "__name__" := by decide) (hdb : (x == ("__debug__" : Str)) = false := by decide)
    (he : starEach (e :: es) X.env = (false, eval e X.env) :: starEach es X.env := by rfl) (hpl : (backTo pos (starEach es X.env)).any (·.1) = false := by rfl) : PE X (.Call (.Name x p) (e :: es) [] pos) (tCB r t) := by
  intro pins s σ H Q I h
  refine wpAny_Call_Name_kw (ld_blt I hg hm hv ?_ hn hdb)
  exact PyProof.Rows.callWith_builtin1 (thn (ha pos pins s σ H _ I h) fun us s1 ⟨vs, H1, I1, r1, q1⟩ => hc pins s1 σ H1 vs us Q I1 r1 q1) he hpl
theorem pe_callTy (hc : CallR X (.type T) r) (hg : Gl X x) (hm : X.mg x = none) (hv : bootBuiltins x = some (.type T)) (ha : PA X (e :: es) t) (hn : x ≠ "__name__" := by decide) (hdb : (x == ("__debug__" : Str)) = false := by decide)
    (he : starEach (e :: es) X.env = (false, eval e X.env) :: starEach es X.env := by rfl) (hpl : (backTo pos (starEach es X.env)).any (·.1) = false := by rfl) : PE X (.Call (.Name x p) (e :: es) [] pos) (tCB r t) := by
  intro pins s σ H Q I h
  refine wpAny_Call_Name_kw (ld_blt I hg hm hv ?_ hn hdb)
  exact PyProof.Rows.callWith_type1 (thn (ha pos pins s σ H _ I h) fun us s1 ⟨vs, H1, I1, r1, q1⟩ => hc pins s1 σ H1 vs us Q I1 r1 q1) he hpl
end
end L2
namespace HT
open PySem PyProof.Rows
def lexLt : List Int → List Int → Bool
  | [], [] => false
  | [], _ :: _ => true
  | _ :: _, [] => false
  | x :: xs, y :: ys => if x = y then lexLt xs ys else decide (x < y)
theorem lexLt_cons (x y : Int) (xs ys : List Int) : lexLt (x :: xs) (y :: ys) = if x = y then lexLt xs ys else decide (x < y) := rfl
section
open PySem.SeqAt
open PySem.AutoSeq1 (wpAny_loadPart')
open PySem.MeetsSeq PySem.MeetsSeq2 PySem.MeetsSeq3
end
section
variable {prog : Program} {w : World} {A : Around} {E : Value → Shared → Prop} {s : Shared}
theorem cat_tup {t b : Addr} {vs ws : List Value} {Q : Value → Shared → Prop} (ht : IsTup s.heap t vs.toArray) (hb : IsTup s.heap b ws.toArray) (hv : vs ≠ [])
    (h1 : ws = [] → Q (.ref t) s) (h2 : ws ≠ [] → Q (.ref s.heap.objs.size) { s with heap := s.heap.push { cls := .type "tuple", data := .seq (vs ++ ws).toArray } })
    (hsz : vs.length + ws.length ≤ sizeLine) : wpAny (model prog w) A (binaryOp .Add (.ref t) (.ref b)) Q E s := by
  obtain ⟨⟨cls, dd, data, sl⟩, ho, hc, n, hd⟩ := id ht
  obtain ⟨⟨cls2, dd2, data2, sl2⟩, ho2, hc2, n2, hd2⟩ := id hb
  simp only at hc hd hc2 hd2
  subst hc hd hc2 hd2
  have e : vs.toArray ++ ws.toArray = (vs ++ ws).toArray := by simp
  by_cases hw : ws = []
  · exact concat_meets ⟨_, ho, rfl⟩ ⟨_, ho2, rfl⟩ noFill_tuple_add seq_tuple_add PySem.F.slot_tuple_add PySem.F.entry_tuple_add (PySem.F.args_tuple_add_2 _ _)
      (tuple_addW1 t b vs.toArray ws.toArray n n2 dd dd2 sl sl2 (by simpa using hv) (by simp [hw])) ⟨ho, ho2, h1 hw⟩
  · refine concat_meets ⟨_, ho, rfl⟩ ⟨_, ho2, rfl⟩ noFill_tuple_add seq_tuple_add PySem.F.slot_tuple_add PySem.F.entry_tuple_add (PySem.F.args_tuple_add_2 _ _)
      (tuple_addW2 t b vs.toArray ws.toArray n n2 dd dd2 sl sl2 (by simpa using hv) (by simpa using hw) (by rw [List.size_toArray, List.size_toArray]; exact hsz)) ⟨ho, ho2, ?_⟩
    rw [e]
    exact h2 hw
def sIx (n d : Nat) : Option Int → Nat
  | none => d
  | some v => if v < 0 then (v + (n : Int)).toNat else min v.toNat n
theorem sIx_none (n d : Nat) : sIx n d none = d := rfl
theorem sIx_nat (n d k : Nat) : sIx n d (some (k : Int)) = min k n := by
  show (if (k : Int) < 0 then ((k : Int) + (n : Int)).toNat else min (k : Int).toNat n) = min k n
  rw [if_neg (by omega), Int.toNat_natCast]
theorem sIx_le (n d : Nat) (hd : d ≤ n) (o : Option Int) : sIx n d o ≤ n := by
  cases o with
  | none => exact hd
  | some v =>
    show (if v < 0 then (v + (n : Int)).toNat else min v.toNat n) ≤ n
    by_cases hv : v < 0
    · rw [if_pos hv]; omega
    · rw [if_neg hv]; exact Nat.min_le_right _ _
theorem clip_eq (v : Int) (n d : Nat) : (if v < 0 then max (v + (n : Int)) 0 else min v (n : Int)) = ((sIx n d (some v) : Nat) : Int) := by
  show (if v < 0 then max (v + (n : Int)) 0 else min v (n : Int)) = (((if v < 0 then (v + (n : Int)).toNat else min v.toNat n) : Nat) : Int)
  by_cases hv : v < 0
  · simp only [if_pos hv]; omega
  · simp only [if_neg hv]; omega
theorem adjust_gen (lo hi : Option Int) (n : Nat) : Builtin.Slice.sliceAdjust lo hi 1 (n : Int) = (((sIx n 0 lo : Nat) : Int), ((sIx n n hi : Nat) : Int)) := by
  have h1 : ¬ ((1 : Int) < 0) := by omega
  unfold Builtin.Slice.sliceAdjust
  simp only [h1, if_false]
  refine Prod.ext ?_ ?_
  · cases lo with
    | none => rfl
    | some v => exact clip_eq v n 0
  · cases hi with
    | none => rfl
    | some v => exact clip_eq v n n
theorem places_gen (i j : Nat) : Builtin.Slice.slicePlaces (i : Int) (j : Int) 1 = j - i := by
  unfold Builtin.Slice.slicePlaces
  have h1 : (1 : Int) > 0 := by omega
  simp only [h1, if_true, Int.ediv_one]
  split <;> omega
theorem slicePart_ {v : Value} {o : Option Int} {Q : Option Int → Shared → Prop} (p : IsPart v o) (h : Q o s) : wpAny (model prog w) A (Builtin.Slice.slicePartIndex v) Q E s := by
  cases p with
  | none => exact slicePart_none h
  | int i t => exact slicePart_int h
theorem sliceApplied_gen {sl : Addr} {vl vu : Value} {lo hi : Option Int} {n : Nat} {Q : Int × Int × Nat → Shared → Prop} (hs : s.heap.IsSliceOf sl vl vu .none) (pl : IsPart vl lo) (pu : IsPart vu hi)
    (h : Q (((sIx n 0 lo : Nat) : Int), 1, sIx n n hi - sIx n 0 lo) s) : wpAny (model prog w) A (Builtin.Slice.sliceApplied (.ref sl) (pure (n : Int))) Q E s := by
  obtain ⟨os, hos, hcs, hds⟩ := id hs
  unfold Builtin.Slice.sliceApplied Builtin.Slice.sliceFields
  refine wpAny_bind (wpAny_bind (wpAny_field hos hds (x := vl) rfl (wpAny_bind (wpAny_field hos hds (x := vu) rfl (wpAny_bind (wpAny_field hos hds (x := .none) rfl (wpAny_pure ?_)))))))
  refine wpAny_bind (slicePart_none ?_)
  show wpAny _ _ (if ((1 : Int) == 0) = true then _ else _) _ _ s
  rw [if_neg (by decide)]
  refine wpAny_bind (slicePart_ pl (wpAny_bind (slicePart_ pu (wpAny_bind (wpAny_pure ?_)))))
  show wpAny _ _ (match Builtin.Slice.sliceAdjust lo hi 1 (n : Int) with | (lo, hi) => pure (lo, (1 : Int), Builtin.Slice.slicePlaces lo hi 1)) _ _ s
  rw [adjust_gen lo hi n]
  show wpAny _ _ (pure (((sIx n 0 lo : Nat) : Int), (1 : Int), Builtin.Slice.slicePlaces ((sIx n 0 lo : Nat) : Int) ((sIx n n hi : Nat) : Int) 1)) _ _ s
  rw [places_gen]
  exact wpAny_pure h
theorem pick_gen (xs : Array Value) (i k : Nat) : ((List.range k).filterMap fun (m : Nat) => xs[((i : Int) + (m : Int) * 1).toNat]?).toArray = ((xs.toList.drop i).take k).toArray := by
  have e : (fun (m : Nat) => xs[((i : Int) + (m : Int) * 1).toNat]?) = fun m => xs[i + m]? := by
    funext m
    have : ((i : Int) + (m : Int) * 1).toNat = i + m := by omega
    rw [this]
  rw [e]
  have := pick_run xs i k
  rw [List.filterMap_map] at this
  have e2 : ((fun x => xs[x]?) ∘ fun x => i + x) = fun m => xs[i + m]? := rfl
  rw [e2] at this
  rw [this]
theorem getItem_tuple_cut {t sl : Addr} {items : Array Value} {vl vu : Value} {lo hi : Option Int} {Q : Value → Shared → Prop} (ht : IsTup s.heap t items) (hs : s.heap.IsSliceOf sl vl vu .none) (pl : IsPart vl lo) (pu : IsPart vu hi)
    (hw : ¬ (sIx items.size 0 lo = 0 ∧ sIx items.size items.size hi = items.size))
    (h : Q (.ref s.heap.objs.size) { s with heap := s.heap.push { cls := .type "tuple", data := .seq ((items.toList.drop (sIx items.size 0 lo)).take (sIx items.size items.size hi - sIx items.size 0 lo)).toArray } })
    (hsz : items.size ≤ sizeLine) : wpAny (model prog w) A (getItem (.ref t) (.ref sl)) Q E s := by
  have htake : sizeOk (.seq ((items.toList.drop (sIx items.size 0 lo)).take (sIx items.size items.size hi - sIx items.size 0 lo)).toArray) := by
    show ((items.toList.drop (sIx items.size 0 lo)).take (sIx items.size items.size hi - sIx items.size 0 lo)).toArray.size ≤ sizeLine
    rw [List.size_toArray, List.length_take, List.length_drop, Array.length_toList]
    omega
  have hj : sIx items.size items.size hi ≤ items.size := sIx_le _ _ (Nat.le_refl _) hi
  obtain ⟨os, hos, hcs, hds⟩ := id hs
  have hTs : s.TypeIs (.ref sl) "slice" := ⟨os, hos, hcs⟩
  unfold getItem
  try with_reducible refine wpAny_holding ?_
  first | refine wpAny_bind (wpAny_pure ?_) | skip
  refine wpAny_bind (wpAny_sequenceKey ht.typeIs (by decide) ?_)
  refine wpAny_bind (wpAny_callSpecial?_slot (name := Str.ofString "__getitem__") ht.typeIs PyProof.Rows.slot_tuple_getitem
    (wpAny_call_entry PyProof.Rows.slot_tuple_getitem ht.typeIs entry_tuple_getitem ?_ (args_tuple_getitem _ _)))
  show wpAny _ _ (Builtin.Tuple.tupleItemsOf (.ref t) >>= _) _ _ s
  refine wpAny_bind (tupleItemsOf_ ht ?_)
  refine wpAny_bind (wpAny_typeOf hTs ?_)
  rw [if_pos (by decide)]
  refine wpAny_bind (sliceApplied_gen hs pl pu ?_)
  have hno : ¬ ((((sIx items.size 0 lo : Nat) : Int) == 0 && (1 : Int) == 1 && (sIx items.size items.size hi - sIx items.size 0 lo) == items.size) = true) := by
    intro q
    rw [Bool.and_eq_true, Bool.and_eq_true] at q
    have q1 : ((sIx items.size 0 lo : Nat) : Int) = 0 := eq_of_beq q.1.1
    have q2 : sIx items.size items.size hi - sIx items.size 0 lo = items.size := eq_of_beq q.2
    exact hw ⟨by omega, by omega⟩
  show wpAny _ _ (if (((sIx items.size 0 lo : Nat) : Int) == 0 && (1 : Int) == 1 && (sIx items.size items.size hi - sIx items.size 0 lo) == items.size) = true then _ else _) _ _ s
  rw [if_neg hno, pick_gen]
  first
    | exact wpAny_bind (m := Builtin.Tuple.tupleExact _) (wpAny_newObj_type (wpAny_pure ⟨_, rfl, wpAny_pure h⟩) htake)
    | exact wpAny_bind (m := Builtin.Tuple.tupleExact _) (wpAny_newObj_type (wpAny_bind (wpAny_pure (wpAny_pure ⟨_, rfl, wpAny_pure h⟩))) htake)
    | exact wpAny_bind (wpAny_bind (m := Builtin.Tuple.tupleExact _) (wpAny_newObj_type (wpAny_pure (wpAny_pure ⟨_, rfl, wpAny_pure h⟩)) htake))
    | exact wpAny_bind (wpAny_bind (m := Builtin.Tuple.tupleExact _) (wpAny_newObj_type (wpAny_pure ⟨_, rfl, wpAny_pure h⟩) htake))
end
end HT
namespace L2
open PySem PySem.Spec PyProof.Rows
abbrev TO := St → Hp → (Option Int → Hp → Prop) → Prop
def PO (X : Cx) (e : Option Expr) (t : TO) : Prop :=
  ∀ (pins : List (Addr × Obj)) (s : Shared) (σ : St) (H : Hp) (Q : Option Int → Hp → Prop), Inv X pins σ H s → t σ H Q →
    wpAny (model X.prog X.w) X.A (evalPart e X.env) (fun u s' => ∃ o H', Inv X pins σ H' s' ∧ IsPart u o ∧ Q o H') X.xe s
def tNoPart : TO := fun _ H Q => Q none H
def tPart (t : TE) : TO := fun σ H Q => t σ H fun x H1 => ∃ i, x = .int i ∧ Q (some i) H1
section
variable {X : Cx} {e : Expr} {te : TE} {lo hi : Option Expr} {tl th : TO} {pos p2 : Pos}
theorem po_none : PO X none tNoPart := by
  intro pins s σ H Q I h
  rw [evalPart_none]
  exact wpAny_pure ⟨none, H, I, .none, h⟩
theorem po_some (h : PE X e te) : PO X (some e) (tPart te) := by
  intro pins s σ H Q I hw
  rw [evalPart_some]
  refine thn (h pins s σ H _ I hw) fun u s1 ⟨x, H1, I1, r1, q1⟩ => ?_
  obtain ⟨i, rfl, q⟩ := q1
  obtain ⟨t, rfl⟩ := r1
  exact ⟨some i, H1, I1, .int i t, q⟩
def SlR (X : Cx) (r : V → Option Int → Option Int → Hp → VK → Prop) : Prop :=
  ∀ (pins : List (Addr × Obj)) (s : Shared) (σ : St) (H : Hp) (x : V) (v vl vu : Value) (lo hi : Option Int) (sl : Addr) (Q : VK), Inv X pins σ H s → RelV x v → s.heap.IsSliceOf sl vl vu .none → IsPart vl lo → IsPart vu hi → r x lo hi H Q →
    ∃ T id, typeLookup (.type T) "__getitem__" = pure (some (.builtin id)) ∧ s.TypeIs v T ∧ wpAny (model X.prog X.w) X.A (getItem v (.ref sl)) (EP X pins σ Q) X.xe s
def tSl (r : V → Option Int → Option Int → Hp → VK → Prop) (te : TE) (tl th : TO) : TE := fun σ H Q => te σ H fun x H1 => tl σ H1 fun l H2 => th σ H2 fun u H3 => r x l u H3 Q
theorem pe_slice {r : V → Option Int → Option Int → Hp → VK → Prop} (hr : SlR X r) (he : PE X e te) (hl : PO X lo tl) (hu : PO X hi th) : PE X (.Subscript e (.Slice lo hi none p2) pos) (tSl r te tl th) := by
  intro pins s σ H Q I h
  refine Subscript_ (thn (he pins s σ H _ I h) fun v s1 ⟨x, H1, I1, r1, q1⟩ => ?_)
  refine wpAny_Slice (thn (hl pins s1 σ H1 _ I1 q1) fun vl s2 ⟨l, H2, I2, pl, q2⟩ => thn (hu pins s2 σ H2 _ I2 q2) fun vu s3 ⟨u, H3, I3, pu, q3⟩ => ?_)
  rw [evalPart_none]
  refine wpAny_pure ?_
  have I4 : Inv X pins σ H3 { s3 with heap := s3.heap.push { cls := .type "slice", data := .fields #[vl, vu, .none] } } := I3.kept (t' := s3.toks) fun b ob q => Heap.get?_push_of_some _ q
  obtain ⟨T, id, hT, ht, hg⟩ := hr pins { s3 with heap := s3.heap.push { cls := .type "slice", data := .fields #[vl, vu, .none] } } σ H3 x v vl vu l u s3.heap.objs.size Q I4 r1 (Heap.IsSliceOf.new ..) pl pu q3
  show wpAny (model X.prog X.w) X.A (subscriptTail e (.Slice lo hi none p2) v (.ref s3.heap.objs.size)) (EP X pins σ Q) X.xe { s3 with heap := s3.heap.push { cls := .type "slice", data := .fields #[vl, vu, .none] } }
  exact tail_any (ops := [.ref s3.heap.objs.size, v]) ht hT hg (by with_unfolding_all rfl)
def cutV (xs : List V) (lo hi : Option Int) : List V := (xs.drop (HT.sIx xs.length 0 lo)).take (HT.sIx xs.length xs.length hi - HT.sIx xs.length 0 lo)
theorem cutV_length (xs : List V) (lo hi : Option Int) : (cutV xs lo hi).length ≤ xs.length := by
  unfold cutV
  rw [List.length_take, List.length_drop]
  omega
def rSlT (K : PySem.W.Frag) : V → Option Int → Option Int → Hp → VK → Prop := fun x lo hi H Q => ∃ a xs, x = .ref a ∧ SqT K H a xs ∧
  ¬ (HT.sIx xs.length 0 lo = 0 ∧ HT.sIx xs.length xs.length hi = xs.length) ∧ ∀ p, H p = none → Q (.ref p) (upd H p (.tup (cutV xs lo hi)))
theorem sl_tup : SlR X (rSlT X.K) := by
  intro pins s σ H x v vl vu lo hi sl Q I rx hs pl pu h
  obtain ⟨a, xs, rfl, hx, hw, q⟩ := h
  cases rx
  obtain ⟨its, r, ht, hz⟩ := I.tuple hx
  have hlen : its.toArray.size = xs.length := by rw [List.size_toArray]; exact r.length.symm
  refine ⟨"tuple", _, PyProof.Rows.slot_tuple_getitem.lookup, ht.typeIs, ?_⟩
  refine HT.getItem_tuple_cut ht hs pl pu (by rw [hlen]; exact hw) ?_ (by rw [hlen]; exact hz)
  rw [hlen]
  refine ⟨.ref s.heap.objs.size, _, I.laid (t' := s.toks) (o := .tup (cutV xs lo hi)) (fun b ob q => Heap.get?_push_of_some _ q) (Nat.le_refl _) ?_, rfl, q _ (I.hok.fresh (Nat.le_refl _))⟩
  exact ⟨Nat.le_trans (cutV_length xs lo hi) hz, _, (r.drop (HT.sIx xs.length 0 lo)).take (HT.sIx xs.length xs.length hi - HT.sIx xs.length 0 lo), IsTup.new _ _⟩
def rCatT (K : PySem.W.Frag) : R2 := fun x y H Q => ∃ a b xs ys, x = .ref a ∧ y = .ref b ∧ SqT K H a xs ∧ SqT K H b ys ∧ xs ≠ [] ∧ xs.length + ys.length ≤ sizeLine ∧
  (ys = [] → Q (.ref a) H) ∧ (ys ≠ [] → ∀ p, H p = none → Q (.ref p) (upd H p (.tup (xs ++ ys))))
theorem Vals.nil_iff {xs : List V} {us : List Value} (r : Vals xs us) : us = [] ↔ xs = [] := by
  cases r with
  | nil => simp
  | cons _ _ => simp
theorem op_catT : OpR X (binaryOp .Add) (rCatT X.K) := by
  intro pins s σ H x y v u Q I rx ry h
  obtain ⟨a, b, xs, ys, rfl, rfl, ha, hb, hx, hz, q1, q2⟩ := h
  cases rx
  cases ry
  obtain ⟨its, r1, p1, _⟩ := I.tuple ha
  obtain ⟨its2, r2, p2, _⟩ := I.tuple hb
  refine HT.cat_tup p1 p2 (fun z => hx (r1.nil_iff.mp z)) (fun z => ⟨.ref a, H, I, rfl, q1 (r2.nil_iff.mp z)⟩) (fun z => ?_) (by rw [← r1.length, ← r2.length]; exact hz)
  refine ⟨.ref s.heap.objs.size, _, I.laid (t' := s.toks) (o := .tup (xs ++ ys)) (fun b ob q => Heap.get?_push_of_some _ q) (Nat.le_refl _) ?_, rfl, q2 (fun w => z (r2.nil_iff.mpr w)) _ (I.hok.fresh (Nat.le_refl _))⟩
  exact ⟨by rw [List.length_append]; exact hz, _, r1.append r2, IsTup.new _ _⟩
end
end L2
namespace L2
open PySem PySem.Spec PyProof.Rows
def ixN (n : Nat) (i : Int) : Option Nat := if 0 ≤ i then (if i < n then some i.toNat else none) else if -(n : Int) ≤ i then some (i + n).toNat else none
def atI {α : Type} (xs : List α) (i : Int) : Option α := (ixN xs.length i).bind fun j => xs[j]?
theorem ixN_seq {n : Nat} {i : Int} {j : Nat} (h : ixN n i = some j) : seqIndex? i n = some j ∧ j < n ∧ -(n : Int) ≤ i ∧ i < n := by
  unfold ixN at h
  by_cases h0 : 0 ≤ i
  · rw [if_pos h0] at h
    by_cases h1 : i < n
    · rw [if_pos h1] at h
      have e : i.toNat = j := Option.some.inj h
      exact ⟨by rw [seqIndex_of h0 h1, e], by omega, by omega, h1⟩
    · rw [if_neg h1] at h; cases h
  · rw [if_neg h0] at h
    by_cases h1 : -(n : Int) ≤ i
    · rw [if_pos h1] at h
      have e : (i + n).toNat = j := Option.some.inj h
      exact ⟨by rw [seqIndex_neg (by omega) h1, e], by omega, h1, by omega⟩
    · rw [if_neg h1] at h; cases h
theorem atI_get {α : Type} {xs : List α} {i : Int} {v : α} (h : atI xs i = some v) : ∃ j, seqIndex? i xs.length = some j ∧ xs[j]? = some v ∧ j < xs.length ∧ -(xs.length : Int) ≤ i ∧ i < xs.length := by
  unfold atI at h
  cases e : ixN xs.length i with
  | none => rw [e] at h; cases h
  | some j =>
    rw [e] at h
    obtain ⟨h1, h2, h3, h4⟩ := ixN_seq e
    exact ⟨j, h1, h, h2, h3, h4⟩
theorem atI_nat {α : Type} {xs : List α} {j : Nat} {v : α} (h : xs[j]? = some v) : atI xs (j : Int) = some v := by
  have hj : j < xs.length := (List.getElem?_eq_some_iff.mp h).1
  have e : ixN xs.length (j : Int) = some j := by
    unfold ixN
    rw [if_pos (by omega), if_pos (by omega)]; simp
  unfold atI; rw [e]; exact h
def PlainIx (b : Expr) : Prop := ∀ o i, subscripted b false o i = operate [o, i] (getItem o i)
def IxR (X : Cx) (r : R2) : Prop :=
  ∀ (value slice : Expr) (pins : List (Addr × Obj)) (s : Shared) (σ : St) (H : Hp) (x y : V) (v u : Value) (Q : VK), Inv X pins σ H s → RelV x v → RelV y u → r x y H Q →
    subscripted slice false v u = operate [v, u] (getItem v u) → wpAny (model X.prog X.w) X.A (subscriptTail value slice v u) (EP X pins σ Q) X.xe s
def MtR (X : Cx) (id : String) (r : V → List V → Hp → VK → Prop) : Prop :=
  ∀ (pins : List (Addr × Obj)) (s : Shared) (σ : St) (H : Hp) (x : V) (xs : List V) (v : Value) (us : List Value) (Q : VK), Inv X pins σ H s → RelV x v → Vals xs us → r x xs H Q →
    wpAny (model X.prog X.w) X.A (call (.builtin id) (v :: us)) (EP X pins σ Q) X.xe s
section
variable {X : Cx} {a b : Expr} {ta tb : TE} {pos : Pos}
theorem pe_ix {r : R2} (hr : IxR X r) (ha : PE X a ta) (hb : PE X b tb) (hs : PlainIx b) : PE X (.Subscript a b pos) (tOp r ta tb) := by
  intro pins s σ H Q I h
  exact Subscript_ (binT ha hb I h fun v u s2 x y H2 I2 rx ry q => hr a b pins s2 σ H2 x y v u Q I2 rx ry q (hs _ _))
def rIxL (K : PySem.W.Frag) : R2 := fun x y H Q => ∃ p xs i v, x = .ref p ∧ y = .int i ∧ SqL K H p xs ∧ atI xs i = some v ∧ Q v H
def rIxT (K : PySem.W.Frag) : R2 := fun x y H Q => ∃ p xs i v, x = .ref p ∧ y = .int i ∧ SqT K H p xs ∧ atI xs i = some v ∧ Q v H
def rIxS : R2 := fun x y H Q => ∃ z i c, x = .str z ∧ y = .int i ∧ z.length ≤ sizeLine ∧ atI z.cps.toList i = some c ∧ Q (.str ⟨#[c]⟩) H
theorem ix_list : IxR X (rIxL X.K) := by
  intro value slice pins s σ H x y v u Q I rx ry h hs
  obtain ⟨p, xs, i, z, rfl, rfl, hq, he, q⟩ := h
  cases rx
  obtain ⟨t, rfl⟩ := ry
  obtain ⟨its, r, pl, hz⟩ := I.list hq
  obtain ⟨j, h1, h2, h3, h4, h5⟩ := atI_get he
  obtain ⟨w, ew, rw'⟩ := r.get h2
  have hl := r.length
  have hn := line63
  have fin : EP X pins σ Q w s := ⟨z, H, I, rw', q⟩
  by_cases h0 : 0 ≤ i
  · have hj : i.toNat = j := by
      rw [seqIndex_of h0 h5] at h1
      exact Option.some.inj h1
    exact item_listR pl.isList h0 (by omega) (by rw [hj]; simpa using ew) fin hs
  · have hj : (i + (its.toArray.size : Int)).toNat = j := by
      rw [seqIndex_neg (by omega) h4] at h1
      rw [List.size_toArray, ← hl]
      exact Option.some.inj h1
    exact subscriptTail_builtinR (x := w) pl.isList.typeIs slot_list_getitem.lookup
      (wpAny_getItem_list_neg (Q := fun r s' => r = w ∧ EP X pins σ Q r s') pl.isList (by omega) (by rw [List.size_toArray] <;> omega) (by omega) (by rw [hj]; simpa using ew) ⟨rfl, fin⟩) hs
theorem ix_tup : IxR X (rIxT X.K) := by
  intro value slice pins s σ H x y v u Q I rx ry h hs
  obtain ⟨p, xs, i, z, rfl, rfl, hq, he, q⟩ := h
  cases rx
  obtain ⟨t, rfl⟩ := ry
  obtain ⟨its, r, pl, hz⟩ := I.tuple hq
  obtain ⟨j, h1, h2, h3, h4, h5⟩ := atI_get he
  obtain ⟨w, ew, rw'⟩ := r.get h2
  have hl := r.length
  have hn := line63
  have fin : EP X pins σ Q w s := ⟨z, H, I, rw', q⟩
  exact subscriptTail_builtinR (x := w) pl.typeIs slot_tuple_getitem.lookup
    (getItem_tuple (j := j) (Q := fun r s' => r = w ∧ EP X pins σ Q r s') pl (by omega) (by omega) (by rw [List.size_toArray, ← hl]; exact h1) (by simpa using ew) ⟨rfl, fin⟩) hs
theorem ix_str : IxR X rIxS := by
  intro value slice pins s σ H x y v u Q I rx ry h hs
  obtain ⟨z, i, c, rfl, rfl, hz, he, q⟩ := h
  obtain ⟨t, rfl⟩ := rx
  obtain ⟨t', rfl⟩ := ry
  obtain ⟨j, h1, h2, h3, h4, h5⟩ := atI_get he
  have hl : z.cps.toList.length = z.length := by simp [Str.length]
  rw [hl] at h1 h4 h5
  have hn := line63
  exact tail_any (typeIs_str s z t) slot_str_getitem.lookup (getItem_str (c := c) (by
    have e1 : decide (i < -(2 ^ 63 : Int)) = false := decide_eq_false (by omega)
    have e2 : decide (i ≥ 2 ^ 63) = false := decide_eq_false (by omega)
    rw [e1, e2, Bool.or_false]) (by rw [h1]; simpa using h2) ⟨.str ⟨#[c]⟩, H, I.tok _, ⟨_, rfl⟩, q⟩) hs
theorem mapSeq_set (its : List Value) (n j : Nat) (u : Value) : Obj.mapSeq (·.setIfInBounds j u) { cls := .type "list", data := .seq its.toArray n } = { cls := .type "list", data := .seq (its.set j u).toArray n } := by
  simp [Obj.mapSeq]
theorem Inv.lst {pins : List (Addr × Obj)} {σ : St} {H : Hp} {s : Shared} {p : Addr} {xs : List V} (I : Inv X pins σ H s) (h : H p = some (.lst xs)) :
    ∃ (its : List Value) (n : Nat), Vals xs its ∧ s.heap.get? p = some { cls := .type "list", data := .seq its.toArray n } ∧ xs.length ≤ sizeLine := by
  obtain ⟨z, its, n, r, e⟩ := I.hok p _ h
  exact ⟨its, n, r, e, z⟩
theorem Inv.lstUpd {pins : List (Addr × Obj)} {σ : St} {H : Hp} {s : Shared} {p : Addr} {xs ys : List V} {its its' : List Value} {n n' : Nat} {f : Obj → Obj} (I : Inv X pins σ H s) (h : H p = some (.lst xs))
    (ho : s.heap.get? p = some { cls := .type "list", data := .seq its.toArray n }) (hf : f { cls := .type "list", data := .seq its.toArray n } = { cls := .type "list", data := .seq its'.toArray n' }) (r : Vals ys its') (hz : ys.length ≤ sizeLine) (t : Nat) :
    Inv X pins σ (upd H p (.lst ys)) { s with heap := s.heap.update p f, toks := t } := by
  have e : (s.heap.update p f).get? p = some { cls := .type "list", data := .seq its'.toArray n' } := by
    rw [Heap.get?_update_self f ho (by rw [hf] <;> rfl), hf]
  refine I.write (x := p) (e := p) (by rw [h]; trivial) (.inl rfl) (fun b u hb q => (Heap.get?_update_other _ _ (Ne.symm hb)).trans q) ⟨_, e⟩ ?_
  exact ⟨hz, its', n', r, e⟩
def rSetL : V → V → V → Hp → (Hp → Prop) → Prop := fun o i v H Q => ∃ p xs k j, o = .ref p ∧ i = .int k ∧ H p = some (.lst xs) ∧ ixN xs.length k = some j ∧ Q (upd H p (.lst (xs.set j v)))
theorem set_list : PSet X rSetL := by
  intro pins s σ H o i v ov iv u Q I ro ri rv h
  obtain ⟨p, xs, k, j, rfl, rfl, hp, hj, q⟩ := h
  cases ro
  obtain ⟨t, rfl⟩ := ri
  obtain ⟨its, n, r, ho, hz⟩ := I.lst hp
  obtain ⟨h1, h2, h3, h4⟩ := ixN_seq hj
  have hl := r.length
  have hn := line63
  have I' : Inv X pins σ (upd H p (.lst (xs.set j v))) { s with heap := s.heap.update p (Obj.mapSeq (·.setIfInBounds j u)) } :=
    I.lstUpd hp ho (mapSeq_set its n j u) (r.set rv j) (by rw [List.length_set]; exact hz) s.toks
  by_cases h0 : 0 ≤ k
  · have hk : k.toNat = j := by
      rw [seqIndex_of h0 h4] at h1
      exact Option.some.inj h1
    exact PySem.W.ki_setAt ho h0 (by omega) (by rw [List.size_toArray, ← hl]; exact h4) (by rw [hk]; exact ⟨_, I', q⟩)
  · have hk : (k + (its.toArray.size : Int)).toNat = j := by
      rw [seqIndex_neg (by omega) h3] at h1
      rw [List.size_toArray, ← hl]
      exact Option.some.inj h1
    exact PySem.W.ki_setBack ho (by omega) (by rw [List.size_toArray, ← hl]; exact h3) (by omega) (by rw [hk]; exact ⟨_, I', q⟩)
theorem slice_bounds (lo hi : Option Int) (n : Nat) : (sliceBounds lo hi none n).1 = ((HT.sIx n 0 lo : Nat) : Int) ∧ (sliceBounds lo hi none n).2.1 = ((HT.sIx n n hi : Nat) : Int) ∧ (sliceBounds lo hi none n).2.2 = 1 := by
  refine ⟨?_, ?_, rfl⟩
  · cases lo with
    | none => simp [sliceBounds, HT.sIx]
    | some i =>
      simp only [sliceBounds, HT.sIx, Option.getD_none, show (1 : Int) > 0 by decide, if_true]
      by_cases h : i < 0
      · simp only [h, if_true] <;> omega
      · simp only [h, if_false] <;> omega
  · cases hi with
    | none => simp [sliceBounds, HT.sIx]
    | some i =>
      simp only [sliceBounds, HT.sIx, Option.getD_none, show (1 : Int) > 0 by decide, if_true]
      by_cases h : i < 0
      · simp only [h, if_true] <;> omega
      · simp only [h, if_false] <;> omega
theorem slicePick_cut (its : List Value) (lo hi : Option Int) : slicePick its.toArray lo hi none = ((its.drop (HT.sIx its.length 0 lo)).take (HT.sIx its.length its.length hi - HT.sIx its.length 0 lo)).toArray := by
  obtain ⟨h1, h2, h3⟩ := slice_bounds lo hi its.toArray.size
  unfold slicePick
  rw [h1, h2, h3]
  simp only [sliceRange_one, pick_run, List.size_toArray] <;> rfl
def rSlL (K : PySem.W.Frag) : V → Option Int → Option Int → Hp → VK → Prop := fun x lo hi H Q => ∃ a xs, x = .ref a ∧ SqL K H a xs ∧ ∀ p, H p = none → Q (.ref p) (upd H p (.lst (cutV xs lo hi)))
theorem sl_list : SlR X (rSlL X.K) := by
  intro pins s σ H x v vl vu lo hi sl Q I rx hs pl pu h
  obtain ⟨a, xs, rfl, hx, q⟩ := h
  cases rx
  obtain ⟨its, r, ht, hz⟩ := I.list hx
  have hlen := r.length
  refine ⟨"list", _, slot_list_getitem.lookup, ht.isList.typeIs, ?_⟩
  refine wpAny_getItem_list_slice ht.isList hs pl pu .none (by simp) ?_ (by rw [List.size_toArray] <;> omega)
  rw [slicePick_cut, ← hlen]
  refine ⟨.ref s.heap.objs.size, _, I.laid (t' := s.toks) (o := .lst (cutV xs lo hi)) (fun b ob q => Heap.get?_push_of_some _ q) (Nat.le_refl _) ?_, rfl, q _ (I.hok.fresh (Nat.le_refl _))⟩
  exact ⟨Nat.le_trans (cutV_length xs lo hi) hz, _, 0, (r.drop (HT.sIx xs.length 0 lo)).take (HT.sIx xs.length xs.length hi - HT.sIx xs.length 0 lo), Heap.get?_push_size _ rfl⟩
theorem call_len_seq : CallR X (.builtin "len") (fun xs H Q => ∃ p ys, xs = [.ref p] ∧ (SqL X.K H p ys ∨ SqT X.K H p ys) ∧ Q (.int ys.length) H) := by
  intro pins s σ H xs us Q I r h
  obtain ⟨p, ys, rfl, hq, q⟩ := h
  obtain ⟨u, rfl, rx⟩ := vals1 r
  cases rx
  have hn := line63
  rcases hq with hq | hq
  · obtain ⟨its, r', pl, hz⟩ := I.list hq
    have hlen := r'.length
    exact Calls.call_len_list pl.isList (by simp only [List.size_toArray] <;> omega) ⟨.int ys.length, H, I.tok _, ⟨s.toks + 1, by rw [List.size_toArray, hlen]⟩, q⟩
  · obtain ⟨its, r', pl, hz⟩ := I.tuple hq
    have hlen := r'.length
    exact len_tuple pl (by simp only [List.size_toArray] <;> omega) ⟨.int ys.length, H, I.tok _, ⟨s.toks + 1, by rw [List.size_toArray, hlen]⟩, q⟩
theorem call_list_of : CallR X (.type "list") (fun xs H Q => ∃ p ys, xs = [.ref p] ∧ (SqL X.K H p ys ∨ SqT X.K H p ys) ∧ ∀ l, H l = none → Q (.ref l) (upd H l (.lst ys))) := by
  intro pins s σ H xs us Q I r h
  obtain ⟨p, ys, rfl, hq, q⟩ := h
  obtain ⟨u, rfl, rx⟩ := vals1 r
  cases rx
  have fin : ∀ (its : List Value), Vals ys its → ys.length ≤ sizeLine → ∀ (h' : Heap) (c' : Nat), (∀ b o', s.heap.get? b = some o' → h'.get? b = some o') →
      h'.get? s.heap.objs.size = some { cls := .type "list", dict := none, data := .seq its.toArray c', slots := #[] } → EP X pins σ Q (.ref s.heap.objs.size) { s with heap := h' } := fun its r' hz h' c' kp e =>
    ⟨.ref s.heap.objs.size, _, I.laid (t' := s.toks) kp (Nat.le_refl _) (show ObjOk X.prog X.w _ h' _ (.lst ys) from ⟨hz, its, c', r', e⟩), rfl, q _ (I.hok.fresh (Nat.le_refl _))⟩
  rcases hq with hq | hq
  · obtain ⟨its, r', pl, hz⟩ := I.list hq
    have hlen := r'.length
    obtain ⟨o, ho, hc, n, hd⟩ := pl.isList
    exact call_list_seq p (.inl rfl) ho hc hd (fun h' c' kp e => fin its r' hz h' c' kp e) (by simp only [List.size_toArray] <;> omega)
  · obtain ⟨its, r', pl, hz⟩ := I.tuple hq
    have hlen := r'.length
    obtain ⟨o, ho, hc, n, hd⟩ := pl
    exact call_list_seq p (.inr rfl) ho hc hd (fun h' c' kp e => fin its r' hz h' c' kp e) (by simp only [List.size_toArray] <;> omega)
theorem call_tuple_of : CallR X (.type "tuple") (fun xs H Q => ∃ p ys, xs = [.ref p] ∧ ((SqL X.K H p ys ∧ ∀ l, H l = none → Q (.ref l) (upd H l (.tup ys))) ∨ (SqT X.K H p ys ∧ Q (.ref p) H))) := by
  intro pins s σ H xs us Q I r h
  obtain ⟨p, ys, rfl, h⟩ := h
  obtain ⟨u, rfl, rx⟩ := vals1 r
  cases rx
  rcases h with ⟨hq, q⟩ | ⟨hq, q⟩
  · obtain ⟨its, r', pl, hz⟩ := I.list hq
    have hlen := r'.length
    refine call_tuple_list pl.isList (fun h' kp => ?_) (by simp only [List.size_toArray] <;> omega)
    have I1 : Inv X pins σ H { s with heap := h' } := I.kept (t' := s.toks) kp
    have I2 : Inv X pins σ (upd H h'.objs.size (.tup ys)) { s with heap := h'.push { cls := .type "tuple", data := .seq its.toArray } } :=
      I1.laid (t' := s.toks) (fun b o e => Heap.get?_push_of_some _ e) (Nat.le_refl _) (show ObjOk X.prog X.w _ _ _ (.tup ys) from ⟨hz, its, r', IsTup.new _ _⟩)
    exact ⟨.ref h'.objs.size, _, I2, rfl, q _ (I1.hok.fresh (Nat.le_refl _))⟩
  · obtain ⟨its, r', pl, hz⟩ := I.tuple hq
    exact call_tuple_same pl ⟨.ref p, H, I, rfl, q⟩
def tyV (K : PySem.W.Frag) (T : String) (x : V) (H : Hp) : Prop := match x with
  | .str _ => T = "str"
  | .int _ => T = "int"
  | .ref p => (T = "list" ∧ ∃ xs, SqL K H p xs) ∨ (T = "tuple" ∧ ∃ o, K.lookup p = some o ∧ o.cls = .type "tuple" ∧ o.dict = none) ∨
      (T = "dict" ∧ ((∃ kvs, H p = some (.dK kvs)) ∨ ∃ kvs, H p = some (.dT kvs))) ∨ (T = "set" ∧ ∃ S n, H p = some (.set S n))
  | _ => False
theorem tyV_is {pins : List (Addr × Obj)} {σ : St} {H : Hp} {s : Shared} {T : String} {x : V} {v : Value} (I : Inv X pins σ H s) (r : RelV x v) (ty : tyV X.K T x H) :
    s.TypeIs v T ∧ ∀ a, v = .ref a → ∃ ob, s.heap.get? a = some ob ∧ ob.dict = none := by
  cases x with
  | str z =>
    obtain ⟨t, rfl⟩ := r
    cases (show T = "str" from ty)
    exact ⟨typeIs_str s z t, fun _ e => nomatch e⟩
  | int i =>
    obtain ⟨t, rfl⟩ := r
    cases (show T = "int" from ty)
    exact ⟨typeIs_int s i t, fun _ e => nomatch e⟩
  | ref p =>
    cases r
    rcases ty with ⟨rfl, xs, hq⟩ | ⟨rfl, o, hk, hc, hd⟩ | ⟨rfl, hk⟩ | ⟨rfl, S, n, hk⟩
    · obtain ⟨its, _, pl, _⟩ := I.list hq
      refine ⟨pl.isList.typeIs, fun a e => ?_⟩
      cases e
      obtain ⟨o, n, e, c, hd, _⟩ := pl
      exact ⟨o, e, hd⟩
    · refine ⟨⟨o, I.kIn p o hk, hc⟩, fun a e => ?_⟩
      cases e
      exact ⟨o, I.kIn _ o hk, hd⟩
    · have z : ∃ o, s.heap.get? p = some o ∧ o.ExactDict := by
        rcases hk with ⟨kvs, hk⟩ | ⟨kvs, hk⟩
        · obtain ⟨_, _, _, _, o, _, _, e, ex, _⟩ := I.hok p _ hk
          exact ⟨o, e, ex⟩
        · obtain ⟨_, _, _, _, o, _, _, e, ex, _⟩ := I.hok p _ hk
          exact ⟨o, e, ex⟩
      obtain ⟨o, e, ex⟩ := z
      refine ⟨⟨o, e, ex.1⟩, fun a e2 => ?_⟩
      cases e2
      exact ⟨o, e, ex.2.1⟩
    · obtain ⟨o, _, _, _, e, ex, _⟩ := I.hok p _ hk
      refine ⟨⟨o, e, ex.1⟩, fun a e2 => ?_⟩
      cases e2
      exact ⟨o, e, ex.2.1⟩
  | _ => exact False.elim ty
def tBM0 (K : PySem.W.Frag) (T : String) (r : V → List V → Hp → VK → Prop) (to : TE) : TE := fun σ H Q => to σ H fun x H1 => tyV K T x H1 ∧ r x [] H1 Q
def tBM (K : PySem.W.Frag) (T : String) (r : V → List V → Hp → VK → Prop) (to : TE) (t : TA) : TE := fun σ H Q => to σ H fun x H1 => tyV K T x H1 ∧ t σ H1 fun xs H2 => r x xs H2 Q
variable {o e : Expr} {es : List Expr} {to : TE} {t : TA} {name : Str} {apos cpos : Pos} {T id : String} {r : V → List V → Hp → VK → Prop}
theorem pe_bm0 (pa : PlainAttrs T) (slot : Slot T name id) (hty : typeOf (.builtin id) = pure (.type "method_descriptor")) (hm : MtR X id r) (ho : PE X o to)
    (hbase : attributeBase o name X.env (eval o X.env) = eval o X.env := by rfl) (hline : (apos.endLine == cpos.line) = true := by rfl) : PE X (.Call (.Attribute o name apos) [] [] cpos) (tBM0 X.K T r to) := by
  intro pins s σ H Q I h
  refine wpAny_Call_method0_late hbase hline (thn (ho pins s σ H _ I h) fun v s1 ⟨x, H1, I1, r1, ty, q1⟩ => ?_)
  obtain ⟨h1, h2⟩ := tyV_is I1 r1 ty
  exact ⟨T, id, pa, slot, hty, h1, h2, Calls.callWith_builtin rfl (PySem.evalArgs_none (hm pins s1 σ H1 x [] v [] Q I1 r1 .nil q1))⟩
theorem pe_bm (pa : PlainAttrs T) (slot : Slot T name id) (hty : typeOf (.builtin id) = pure (.type "method_descriptor")) (hm : MtR X id r) (ho : PE X o to) (ha : PA X (e :: es) t)
    (hbase : attributeBase o name X.env (eval o X.env) = eval o X.env := by rfl)
    (hfew : ((backTo cpos (starEach (e :: es) X.env)).all (fun x => !x.1) && (backToKw cpos (keywordEach [] X.env)).all (fun x => x.1.isSome)
      && decide ((e :: es).length + ([] : List Keyword).length + (if ([] : List Keyword).isEmpty then 0 else 1) < 30)) = true := by rfl)
    (hline : (apos.endLine == cpos.line) = true := by rfl) (hs : starEach (e :: es) X.env = (false, eval e X.env) :: starEach es X.env := by rfl) (hplain : (backTo cpos (starEach es X.env)).any (·.1) = false := by rfl) :
    PE X (.Call (.Attribute o name apos) (e :: es) [] cpos) (tBM X.K T r to t) := by
  intro pins s σ H Q I h
  refine wpAny_Call_method_late hbase hfew hline rfl (thn (ho pins s σ H _ I h) fun v s1 ⟨x, H1, I1, r1, ty, q1⟩ => ?_)
  obtain ⟨h1, h2⟩ := tyV_is I1 r1 ty
  refine ⟨T, id, pa, slot, hty, h1, h2, ?_⟩
  have hA := ha cpos pins s1 σ H1 _ I1 q1
  rw [hs] at hA ⊢
  refine Calls.callWith_builtin (by show (false || (backTo cpos (starEach es X.env)).any (·.1)) = false; rw [hplain] <;> rfl) (Calls.evalArgs_plain ?_)
  exact thn hA fun us s2 ⟨vs, H2, I2, r2, q2⟩ => hm pins s2 σ H2 x vs v us Q I2 r1 r2 q2
/- xs.append(e), list.index on a module's tuple .. are MtR facts of 06m -/
end
end L2
namespace L2
open PySem PySem.Spec PyProof.Rows
def MtM (X : Cx) (id : String) (r : V → List V → Hp → VK → Prop) : Prop :=
  ∀ (pins : List (Addr × Obj)) (s : Shared) (σ : St) (H : Hp) (x : V) (xs : List V) (v : Value) (us : List Value) (Q : VK), Inv X pins σ H s → RelV x v → Vals xs us → r x xs H Q →
    wpAny (model X.prog X.w) X.A (call (.builtin id) (v :: us)) (EP X pins σ Q) X.xe s
theorem Vals.one : ∀ {x : V} {us : List Value}, Vals [x] us → ∃ u, us = [u] ∧ RelV x u
  | _, _, .cons r .nil => ⟨_, rfl, r⟩
theorem Vals.two : ∀ {x y : V} {us : List Value}, Vals [x, y] us → ∃ u v, us = [u, v] ∧ RelV x u ∧ RelV y v
  | _, _, _, .cons r (.cons q .nil) => ⟨_, _, rfl, r, q⟩
theorem Vals.zero : ∀ {us : List Value}, Vals [] us → us = []
  | _, .nil => rfl
theorem Vals.dropLast {xs : List V} {us : List Value} (h : Vals xs us) : Vals xs.dropLast us.dropLast := by
  induction h with
  | nil => exact .nil
  | cons r t ih =>
    cases t with
    | nil => exact .nil
    | cons q t' => exact .cons r ih
theorem erase_last {α : Type} (l : List α) : l.eraseIdx (l.length - 1) = l.dropLast := by
  induction l with
  | nil => rfl
  | cons a r ih =>
    cases r with
    | nil => rfl
    | cons b r =>
      have e : (a :: b :: r).length - 1 = ((b :: r).length - 1) + 1 := by
        have h1 : (a :: b :: r).length = r.length + 2 := rfl
        have h2 : (b :: r).length = r.length + 1 := rfl
        omega
      rw [e, List.eraseIdx_cons_succ, ih]
      all_goals rfl
section
variable {X : Cx} {pins : List (Addr × Obj)} {σ : St} {H : Hp} {s : Shared} {l b : Addr} {xs ys zs : List V}
theorem Inv.lset {its its' : List Value} {n : Nat} {f : Array Value → Array Value} {t' : Nat} (I : Inv X pins σ H s) (hH : H l = some (.lst xs))
    (e : s.heap.get? l = some { cls := .type "list", data := .seq its.toArray n }) (hf : f its.toArray = its'.toArray) (hv : Vals ys its') (hz : ys.length ≤ sizeLine) :
    Inv X pins σ (upd H l (.lst ys)) { s with heap := s.heap.update l (Obj.mapSeq f), toks := t' } := by
  have q := PySem.IsL.update e f
  rw [hf] at q
  refine I.write (x := l) (e := l) (by rw [hH]; exact trivial) (.inl rfl) (fun b' u hb hu => (Heap.get?_update_other s.heap (Obj.mapSeq f) (Ne.symm hb)).trans hu) ⟨_, q⟩ ?_
  exact ⟨hz, its', _, hv, q⟩
theorem Inv.lnew {its : List Value} {t' : Nat} (I : Inv X pins σ H s) (hv : Vals ys its) (hz : ys.length ≤ sizeLine) :
    Inv X pins σ (upd H s.heap.objs.size (.lst ys)) { s with heap := s.heap.push { cls := .type "list", data := .seq its.toArray }, toks := t' } :=
  I.laid (fun _ _ q => Heap.get?_push_of_some _ q) (Nat.le_refl _) ⟨hz, its, 0, hv, Heap.get?_push_size _ rfl⟩
theorem Inv.fresh (I : Inv X pins σ H s) : H s.heap.objs.size = none := I.hok.fresh (Nat.le_refl _)
theorem Inv.lstM (I : Inv X pins σ H s) (hH : H l = some (.lst xs)) : xs.length ≤ sizeLine ∧ ∃ (its : List Value) (n : Nat), Vals xs its ∧ xs.length = its.length ∧ s.heap.get? l = some { cls := .type "list", data := .seq its.toArray n } := by
  obtain ⟨z, its, n, r, e⟩ := I.hok l _ hH
  exact ⟨z, its, n, r, r.length, e⟩
theorem notLongL {n : Nat} (h : n ≤ sizeLine) : Builtin.List.listTooLong n = false := by
  unfold Builtin.List.listTooLong
  exact decide_eq_false (by omega)
end
section
variable {X : Cx}
def rAppend : V → List V → Hp → VK → Prop := fun x vs H Q => ∃ l xs y, x = .ref l ∧ vs = [y] ∧ H l = some (.lst xs) ∧ xs.length < sizeLine ∧ Q .non (upd H l (.lst (xs ++ [y])))
theorem mt_append : MtM X "list.append" rAppend := by
  intro pins s σ H x vs v us Q I rx rv h
  obtain ⟨l, xs, y, rfl, rfl, hH, hz, q⟩ := h
  cases rx
  obtain ⟨u, rfl, ru⟩ := rv.one
  obtain ⟨z, its, n, r, hl, e⟩ := I.lstM hH
  refine call_meets F.slot_list_append ⟨_, e, rfl⟩ F.entry_list_append (F.args_list_append_2 _ _) (PySem.list_append l its.toArray n u (by rw [List.size_toArray]; omega)) ⟨e, ?_⟩
  refine ⟨.non, _, I.lset (its' := its ++ [u]) hH e (by simp) (r.append (.cons ru .nil)) ?_, rfl, q⟩
  rw [List.length_append, List.length_singleton]
  omega
def rExtend : V → List V → Hp → VK → Prop := fun x vs H Q => ∃ l b xs zs, x = .ref l ∧ vs = [.ref b] ∧ H l = some (.lst xs) ∧ H b = some (.lst zs) ∧ xs.length + zs.length ≤ sizeLine ∧ Q .non (upd H l (.lst (xs ++ zs)))
theorem mt_extend : MtM X "list.extend" rExtend := by
  intro pins s σ H x vs v us Q I rx rv h
  obtain ⟨l, b, xs, zs, rfl, rfl, hH, hB, hz, q⟩ := h
  cases rx
  obtain ⟨u, rfl, ru⟩ := rv.one
  cases ru
  obtain ⟨z, its, n, r, hl, e⟩ := I.lstM hH
  obtain ⟨z2, its2, n2, r2, hl2, e2⟩ := I.lstM hB
  have hsz : its.toArray.size + its2.toArray.size ≤ sizeLine := by rw [List.size_toArray, List.size_toArray]; omega
  have hlong : ¬ (!its.toArray.isEmpty && Builtin.List.listTooLong (its.toArray.size + its2.toArray.size)) = true := by
    rw [notLongL hsz, Bool.and_false]
    exact Bool.false_ne_true
  refine call_meets F.slot_list_extend ⟨_, e, rfl⟩ F.entry_list_extend (F.args_list_extend_2 _ _)
    (AutoSeq1.list_extend_list_list_0 l its.toArray n b its2.toArray n2 hlong (by rw [List.size_toArray]; omega) (by omega)) ⟨e, e2, ?_⟩
  refine ⟨.non, _, I.lset (its' := its ++ its2) hH e (by simp) (r.append r2) ?_, rfl, q⟩
  rw [List.length_append]
  omega
def rPop : V → List V → Hp → VK → Prop := fun x vs H Q => ∃ l xs y, x = .ref l ∧ vs = [] ∧ H l = some (.lst xs) ∧ xs[xs.length - 1]? = some y ∧ Q y (upd H l (.lst xs.dropLast))
theorem mt_pop : MtM X "list.pop" rPop := by
  intro pins s σ H x vs v us Q I rx rv h
  obtain ⟨l, xs, y, rfl, rfl, hH, hy, q⟩ := h
  cases rx
  have hus := rv.zero
  subst hus
  obtain ⟨z, its, n, r, hl, e⟩ := I.lstM hH
  obtain ⟨u, hu, ru⟩ := r.get hy
  have hy' : its.toArray[its.toArray.size - 1]? = some u := by
    show its.toArray[its.length - 1]? = some u
    rw [← Array.getElem?_toList, ← hl]
    exact hu
  refine call_meets F.slot_list_pop ⟨_, e, rfl⟩ F.entry_list_pop (F.args_list_pop_1 _) (MeetsSeq.list_pop_last l its.toArray n u hy' (by rw [List.size_toArray]; omega)) ⟨e, ?_⟩
  refine ⟨y, _, I.lset (its' := its.dropLast) hH e ?_ r.dropLast ?_, ru, q⟩
  · show its.toArray.eraseIdxIfInBounds (its.toArray.size - 1) = its.dropLast.toArray
    rw [List.size_toArray, List.eraseIdxIfInBounds_toArray, erase_last]
  · rw [List.length_dropLast]
    omega
end
section
variable {prog : Program} {w : World} {A : Around} {E : Value → Shared → Prop} {s : Shared}
set_option maxRecDepth 100000 in
end
section
variable {X : Cx}
end
end L2
namespace Att
open PySem PySem.W PySem.Calls PyProof.Rows
theorem ints_of_wellAll {P : Params} {h : Heap} : ∀ (ns : List Int) (vs : List Value), WellAll P h vs (ns.map WData.int) → IntsAre vs ns := by
  intro ns
  induction ns with
  | nil =>
    intro vs w
    rw [List.map_nil] at w
    cases w
    exact .nil
  | cons n ns ih =>
    intro vs w
    rw [List.map_cons] at w
    cases w with
    | cons a b =>
      cases a
      exact .cons _ _ (ih _ b)
theorem script_of {l : OpenLaw} {n : Nat} (hn : l.most = some n) {P : Params} {h : Heap} {args : List WData} {vals : List Value}
    (hpre : l.row.toRowW.claim.pre args = true) (hwl : WellAll P h vals args) :
    ∃ a vs ns, vals = [Value.ref a] ∧ args = [WData.list (ns.map WData.int)] ∧ h.get? a = some { cls := .type "list", data := .seq vs.toArray } ∧ IntsAre vs ns ∧ ns.length ≤ n := by
  have hsh : WShape.hasAll [] args [.list .int] = true := (pre_splitW hpre).1
  have hc : l.pre.holds [] { args := args } = true := (pre_splitW hpre).2
  obtain ⟨d, r, rfl, h1, h2⟩ := hasAllW_cons hsh
  obtain rfl := hasAllW_nil h2
  obtain ⟨xs, rfl, h3⟩ := hasW_list h1
  obtain ⟨ns, rfl⟩ := items_int h3
  have hlen : ns.length ≤ n := by
    unfold OpenLaw.pre at hc
    have h4 : (WTm.not (.lt (.lit (.int (n : Int))) (.len (.arg 0)))).holds [] { args := [.list (ns.map .int)] } = true := by
      have h4 := (holds_andW hc).1
      rw [hn] at h4
      exact h4
    have h5 := condW_of h4 (w_not (w_lt w_lit (w_len_list (w_arg rfl))))
    rw [List.length_map] at h5
    refine Nat.le_of_not_lt fun q => ?_
    have q' : (n : Int) < ((ns.length : Nat) : Int) := by omega
    first
      | (rw [decide_eq_true q'] at h5; exact absurd h5 (by decide))
      | (simp at h5; omega)
  cases hwl with
  | cons w1 w2 =>
    cases w2
    cases w1 with
    | list ho hall => exact ⟨_, _, ns, rfl, rfl, ho, ints_of_wellAll ns _ hall, hlen⟩
theorem post_true (l : OpenLaw) (args : List WData) : l.row.toRowW.claim.post args (.bool true) args = true :=
  postW_of (r := l.row.toRowW) (X := (true == true))
    (show WShape.has [] (.bool true) .bool = true by first | rfl | decide | simp [WShape.has, WShape.arms, WShape.armsAll])
    (show (WTm.eq .res (.lit (.bool true))).value [] { args := args, res := some (.bool true), after := args } = some (.bool (true == true)) from w_eq_bool (w_res rfl) w_lit) rfl
theorem attach_call {l : OpenLaw} {n : Nat} {q : Program} {loose : List Str} {XP : (Str → Option Value) → Heap → Prop} {YP : World → Heap → Prop} {d : DefRec}
    (hn : l.most = some n) (hdf : d.params.defaults = [])
    (call : ∀ (w : World) (s₀ s₁ : Shared) (mg mb : Str → Option Value) (fa : Addr) (o : Obj) (pm cd doc : Value) (a : Addr) (vs : List Value) (ns : List Int),
      Ground q loose [] XP w s₀ mg mb s₁.heap → YP w s₁.heap →
      s₁.heap.get? fa = some o → o.data = .func (docDef d.name d.params d.body d.scope pm cd doc) → s₁.heap.CodeRec cd d.name → mg d.name = some (.ref fa) →
      s₁.heap.get? a = some { cls := .type "list", data := .seq vs.toArray } → IntsAre vs ns → ns.length ≤ n → s₁.gens = #[] →
      codeAny (model l.prog w) callerA (.call (.ref fa) ⟨[.ref a], []⟩) (fun r s' => r = .ok (.ret (.bool true)) ∧ OldK s₁.heap s'.heap ∧ s'.os = s₁.os ∧ AllBare s'.gens) s₁) :
    WalkO q loose XP YP l.row.toRowW d [] (fun f vs => PySem.call f vs) := by
  intro w s₀ s₁ mg mb G Y fa o pm cd doc dV kV ho hd hcd hD hmg hg args vals as hpre hlay hrd hwl hlo
  obtain rfl : dV = .none := Dflts.none hD hdf
  obtain rfl : kV = .none := Dflts.noKw hD
  obtain ⟨a, vs, ns, rfl, rfl, hobj, hints, hlen⟩ := script_of hn hpre hwl
  refine enter_call (codeAny_mono (call w s₀ s₁ mg mb fa o pm cd doc a vs ns G Y ho (fd_plain hd) hcd hmg hobj hints hlen hg) fun r s' hq => ?_)
  obtain ⟨rfl, h2, h3, h4⟩ := hq
  exact ⟨.inl ⟨.bool true, .bool true, [], rfl, fun _ => rfl, .bool true, post_true l _, fun _ => ⟨List.Pairwise.nil, fun _ hm => (nomatch hm)⟩⟩, h2, h3, h4⟩
section
variable {prog : Program} {w : World} {A : Around} {E : Value → Shared → Prop} {s : Shared} {K : Frag}
def ledger (h : Heap) (L d : Addr) : List (Addr × Obj) := (List.range h.objs.size).filterMap fun a => if a = L ∨ a = d then none else (h.get? a).map fun o => (a, o)
end
end Att
namespace L2
open PySem PySem.Spec PyProof.Rows
theorem vals_ints : ∀ {vs : List Value} {ns : List Int}, IntsAre vs ns → Vals (ns.map V.int) vs
  | _, _, .nil => .nil
  | _, _, .cons n t h => .cons ⟨t, rfl⟩ (vals_ints h)
def Only (H : Hp) : Prop := ∀ b, H b = none ∨ ∃ o xs, H b = some (.frz o (.lst xs))
theorem law_call {P : Program} {w : World} {K : PySem.W.Frag} {mg mb : Str → Option Value} {CX : CXT} {k : Nat} {fa a : Addr} {fd : FuncData} {x : Str} {sp : Sp} {s₁ : Shared} {vs : List Value} {ns : List Int}
    (KX : K.In s₁.heap) (hns : s₁.heap.Ns mainGlobals mg) (hb : s₁.heap.Ns builtinsNs mb) (hbb : ∀ x : Str, x ≠ "__name__" → mb x = bootBuiltins x) (hlim : s₁.heap.NoLimit) (hg : s₁.gens = #[])
    (ha : s₁.heap.get? a = some { cls := .type "list", data := .seq vs.toArray }) (hi : IntsAre vs ns) (hl : ns.length ≤ sizeLine) (hr : Room k callerA)
    (F : ∀ base : Heap, K.In base → base.Ns mainGlobals mg → FnOk P w K mg base CX k fa fd [x] sp) (hbind : ∀ (s : Shared) (u : Value), BindsTo s fd ⟨[u], []⟩ [(x, u)])
    (hsp : ∀ H : Hp, Only H → SqL K H a (ns.map V.int) → sp [.ref a] H (fun v _ => v = .bl true) fun _ _ _ => False)
    (hCX : ∀ H e s', CX [] H s₁ (fun _ _ _ => False) e s' → False) :
    codeAny (model P w) callerA (.call (.ref fa) ⟨[.ref a], []⟩) (fun r s' => r = .ok (.ret (.bool true)) ∧ OldK s₁.heap s'.heap ∧ s'.os = s₁.os ∧ AllBare s'.gens) s₁ := by
  have rv := vals_ints hi
  have lenV := hi.length
  have core : ∀ H : Hp, Only H → SqL K H a (ns.map V.int) → HOk P w H s₁.heap → (∀ b, H b ≠ none → b = a) → (H a ≠ none → K.lookup a = none) →
      codeAny (model P w) callerA (.call (.ref fa) ⟨[.ref a], []⟩) (fun r s' => r = .ok (.ret (.bool true)) ∧ OldK s₁.heap s'.heap ∧ s'.os = s₁.os ∧ AllBare s'.gens) s₁ := by
    intro H hO hS hok hA hK
    have base_of : ∀ {b : Addr} {o : Obj}, s₁.heap.get? b = some o → H b = none → (hidT s₁.heap H).get? b = some o := fun e n => hidT_get e n
    have noA : ∀ {b : Addr} {o : Obj} {es : Array DictEntry} {ep : Nat}, s₁.heap.get? b = some o → o.data = .dict es ep → H b = none := fun {b o es ep} e d => by
      cases q : H b with
      | none => rfl
      | some u =>
        have e' : b = a := hA b (by rw [q]; simp)
        subst e'
        rw [ha] at e; cases e
        have d' : Data.seq vs.toArray _ = Data.dict es ep := d
        cases d'
    have nsK : ∀ {b : Addr} {m : Str → Option Value}, s₁.heap.Ns b m → (hidT s₁.heap H).Ns b m := fun {b m} ⟨o, es, ep, e, d, r⟩ => ⟨o, es, ep, base_of e (noA e d), d, r⟩
    have hKb : K.In (hidT s₁.heap H) := fun b o e => base_of (KX b o e) (by
      cases q : H b with
      | none => rfl
      | some u =>
        have e' : b = a := hA b (by rw [q]; simp)
        subst e'
        rw [hK (by rw [q]; simp)] at e; cases e)
    have hM : Mod K mg (hidT s₁.heap H) := ⟨hKb, nsK hns, ⟨mb, nsK hb, hbb⟩, let ⟨mc, h1, h2⟩ := hlim; ⟨mc, nsK h1, h2⟩⟩
    have e0 : Env0 P w K mg (hidT s₁.heap H) callerA [] s₁ H := ⟨rfl, hM, fun b o e => of_hidT e, Nat.le_of_eq (hidT_size _ _), trivial, fun b hb => absurd (show b ∈ ([] : List Addr) from hb) (by simp), hok, .of_eq hg⟩
    refine codeAny_mono ((F _ hKb (nsK hns)).run callerA [] s₁ H ⟨[.ref a], []⟩ [.ref a] [.ref a] _ _ hr e0 (hbind s₁ (.ref a)) (.cons rfl .nil) (hsp H hO hS)) fun r s' h => ?_
    cases r with
    | error e => exact (hCX H e s' h).elim
    | ok fl =>
      cases fl with
      | next => exact False.elim h
      | brk => exact False.elim h
      | cont => exact False.elim h
      | ret u =>
        obtain ⟨v, H', os, bare, un, hok', r', q⟩ := h
        have q' : v = .bl true := q
        subst q'
        obtain rfl : u = Value.bool true := r'
        refine ⟨rfl, OldK.of_keep fun b o e => ?_, os, bare⟩
        cases q : H b with
        | none => exact un.keep b o e q (by intro z; exact absurd (show b ∈ ([] : List Addr) from z) (by simp)) (by simp)
        | some u =>
          rcases hO b with z | ⟨ob, xs, z⟩
          · rw [q] at z; cases z
          · have z2 := un.frzs b ob _ z
            obtain ⟨e1, _⟩ := hok b _ z
            obtain ⟨e2, _⟩ := hok' b _ z2
            rw [e] at e1; cases e1
            exact e2
  cases hk : K.lookup a with
  | some o =>
    have e := KX a o hk
    rw [ha] at e
    cases e
    refine core (fun _ => none) (fun _ => .inl rfl) (.inr ⟨_, vs.toArray, _, hk, rfl, rfl, rfl, by rw [List.size_toArray, lenV]; exact hl, by simpa using rv⟩) (fun b u z => by have z' : (none : Option HO) = some u := z; cases z') (fun b z => absurd rfl z) fun z => absurd rfl z
  | none =>
    refine core (fun b => if b = a then some (.frz { cls := .type "list", data := .seq vs.toArray } (.lst (ns.map V.int))) else none) (fun b => ?_) (.inl (.inr ⟨{ cls := .type "list", data := .seq vs.toArray }, if_pos rfl⟩)) (fun b u z => ?_) (fun b z => ?_) fun _ => hk
    · by_cases hb : b = a
      · exact .inr ⟨_, _, if_pos hb⟩
      · exact .inl (if_neg hb)
    · by_cases hb : b = a
      · have z' := (if_pos hb).symm.trans z
        cases z'
        subst hb
        exact ⟨ha, by rw [List.length_map]; exact hl, vs, _, rv, ha⟩
      · have z' := (if_neg hb).symm.trans z
        cases z'
    · by_cases hb : b = a
      · exact hb
      · exact absurd (if_neg hb) z
end L2
namespace L2
open PySem PySem.Spec PyProof.Rows
abbrev KOf {K : PySem.W.Frag} {h : Heap} (_ : K.In h) : PySem.W.Frag := K
theorem walk_of {l : PySem.W.OpenLaw} {n k : Nat} {q : Program} {loose : List Str} {XP : (Str → Option Value) → Heap → Prop} {YP : World → Heap → Prop} {d : DefRec} {K : Params → PySem.W.Frag} {CX : World → CXT} {sp : World → Sp} {x : Str}
    (hn : l.most = some n) (hn2 : n ≤ sizeLine) (hdf : d.params.defaults = []) (hr : Room k callerA)
    (hY : ∀ (w : World) (h : Heap), YP w h → (K w.params).In h)
    (F : ∀ (w : World) (mg : Str → Option Value) (fa : Addr) (h : Heap), (K w.params).In h → h.Ns mainGlobals mg → mg d.name = some (.ref fa) →
      ∃ fd : FuncData, (∀ (s : Shared) (u : Value), BindsTo s fd ⟨[u], []⟩ [(x, u)]) ∧
        ∀ base : Heap, (K w.params).In base → base.Ns mainGlobals mg → FnOk l.prog w (K w.params) mg base (CX w) k fa fd [x] (sp w))
    (hsp : ∀ (w : World) (H : Hp) (a : Addr) (ns : List Int), ns.length ≤ n → Only H → SqL (K w.params) H a (ns.map V.int) → sp w [.ref a] H (fun v _ => v = .bl true) fun _ _ _ => False)
    (hCX : ∀ (w : World) (H : Hp) (s : Shared) (e : Value) (s' : Shared), CX w [] H s (fun _ _ _ => False) e s' → False) :
    PySem.W.WalkO q loose XP YP l.row.toRowW d [] (fun f vs => PySem.call f vs) := by
  refine Att.attach_call hn hdf fun w s₀ s₁ mg mb fa o pm cd doc a vs ns G Y ho hd hcd hmg hobj hints hlen hg => ?_
  have KX := hY w _ Y
  obtain ⟨fd, hb, hF⟩ := F w mg fa _ KX G.T.g hmg
  exact law_call KX G.T.g G.T.b G.T.builtins G.T.nolimit hg hobj hints (Nat.le_trans hlen hn2) hr hF hb (fun H hO hS => hsp w H a ns hlen hO hS) fun H e s' => hCX w H s₁ e s'
end L2
/- THE LAST THEOREM (shape; LID, My.* are yours):
   My.Adr: a structure of the addresses that your layer names (classes, functions); My.Txt K t: a structure (Prop) of the equations over K;
   My.txt_mk : {K} {implicit addresses ..} (e1 : nsIn K mainGlobals "law" = some (some (.ref f))) (e2 : K.lookup f = some ⟨oc, od, .func (fnOf "law" "law" params body scope dV kV doc pm an cdv ct), sl⟩) (e3 : codeIn K cdv "law" = true) .. : ∃ t, My.Txt K t
set_option maxRecDepth 100000 in
set_option maxHeartbeats 0 in
theorem PySem.Challenge.cw_LID_holds : PySem.Challenge.rw_LID.Holds := by
  w_on; o_law; k_head; (case hw => w_witness2)
  k_fill
  refine L2.walk_of (l := PySem.Challenge.rw_LID) (n := 63) (k := 40) (x := "script") (CX := fun w => ..) (sp := fun _ => My.sp_law) rfl (by decide) rfl ⟨rfl, by decide, by decide⟩ (fun w h Y => PySem.W.kIn_of Y) ?F ?S ?C
  case F =>
    intro w mg fa h KX G hmg
    have T : ∃ t, My.Txt (L2.KOf KX) t := by
      dsimp only [L2.KOf]                          -- K must stand as «<heap const> w.params» for k_is
      refine' My.txt_mk ?e1 ?e2 ?e3 ..
      (case e1 => PySem.W.k_is)                    -- in the order: a name -> its address -> its object -> its parts
      (case e2 => PySem.W.k_is)
      ..
    obtain ⟨t, T⟩ := T
    have e0 := hmg.symm.trans (PySem.W.mg_of KX G T.law)
    cases e0                                       -- fa is the law's own address
    exact ⟨_, fun s u => .of_eq rfl, fun base kb nb => My.law_fn T kb nb⟩     -- if «.of_eq rfl» comes too early: refine' ⟨_, ?b, fun base kb nb => My.law_fn T kb nb⟩; exact fun s u => .of_eq rfl
  case S => exact fun w H a ns hl hO hS => ..
  case C => exact ..
(the tactic k_is has no namespace: write k_is) -/
namespace L2
open PySem PySem.Spec PyProof.Rows
def defArgs (s : Stmt) : Arguments := match s with
  | .FunctionDef _ a _ _ _ _ _ _ _ _ => a
  | _ => { posonlyargs := [], args := [], vararg := none, kwonlyargs := [], kw_defaults := [], kwarg := none, defaults := [] }
def defBody (s : Stmt) : List Stmt := match s with
  | .FunctionDef _ _ b _ _ _ _ _ _ _ => b
  | _ => []
def defScope (s : Stmt) : Scope := match s with
  | .FunctionDef _ _ _ _ _ _ sc _ _ _ => sc
  | _ => { kind := .function, names := [], isGenerator := false, isCoroutine := false }
abbrev CX0 : CXT := fun _ _ _ _ _ _ => False
abbrev E0 : XK := fun _ _ _ => False
theorem pass0 {X : Cx} : Passes CX0 X E0 := fun _ _ _ _ _ _ _ h => h.elim
structure Fun (K : PySem.W.Frag) (x qual : Str) (st : Stmt) (f : Addr) (fd : FuncData) : Prop where
  ex : ∃ (oc : Value) (od : Option Addr) (kV doc pm : Value) (an : Option Addr) (cdv ct : Value) (osl : Array (Option Value)),
    fd = PySem.W.fnOf x qual (defArgs st) (defBody st) (defScope st) .none kV doc pm an cdv ct ∧ K.lookup f = some ⟨oc, od, .func fd, osl⟩ ∧ PySem.W.codeIn K cdv qual = true
  kp : PySem.W.keepIn K (.ref f) = true
section
variable {P : Program} {w : World} {K : PySem.W.Frag} {mg : Str → Option Value} {base : Heap}
theorem Fun.ok {x qual : Str} {st : Stmt} {f : Addr} {fd : FuncData} {N ps : List Str} {k : Nat} {sp : Sp} (F : Fun K x qual st f fd) (S : FnScope N ps (defScope st)) (len : ∀ vs H Q E, sp vs H Q E → vs.length = ps.length)
    (hbody : ∀ (cdv : Value) (A : Around) (outer : List Env) (s : Shared) (H : Hp) (vs : List V) (Q : VK) (E : XK), Room k (A.deeper (envOfC qual (defScope st) s.heap.objs.size f cdv)) → sp vs H Q E →
      ∃ t, PSs (cxOf CX0 P w K mg base N qual (defScope st) f cdv A outer s H E).nox (defBody st) t ∧ t { nx := fun _ H' => Q .non H', rt := Q } (start N vs) H) : FnOk P w K mg base CX0 (k + 1) f fd ps sp := by
  obtain ⟨oc, od, kV, doc, pm, an, cdv, ct, osl, rfl, lk, hcd⟩ := F.ex
  refine fn_of lk hcd S len fun A outer s H vs Q E hr hsp => ?_
  obtain ⟨t, h, q⟩ := hbody cdv A outer s H vs Q E hr hsp
  exact ⟨t, h.nox, q⟩
theorem Fun.binds {x qual : Str} {st : Stmt} {f : Addr} {fd : FuncData} {ps : List Str} (F : Fun K x qual st f fd)
    (h : ∀ (kV doc pm : Value) (an : Option Addr) (cdv ct : Value) (us : List Value), us.length = ps.length → bindArgs (PySem.W.fnOf x qual (defArgs st) (defBody st) (defScope st) .none kV doc pm an cdv ct) ⟨us, []⟩ = pure (ps.zip us)) : Binds K fd ps [] := by
  obtain ⟨oc, od, kV, doc, pm, an, cdv, ct, osl, rfl, lk, hcd⟩ := F.ex
  exact .all (h kV doc pm an cdv ct)
theorem fun_mk {x qual : Str} {st : Stmt} {f : Addr} {oc : Value} {od an : Option Addr} {osl : Array (Option Value)} {kV doc pm cdv ct : Value} (l : K.lookup f = some ⟨oc, od, .func (PySem.W.fnOf x qual (defArgs st) (defBody st) (defScope st) .none kV doc pm an cdv ct), osl⟩)
    (c : PySem.W.codeIn K cdv qual = true) (k : PySem.W.keepIn K (.ref f) = true) : Fun K x qual st f (PySem.W.fnOf x qual (defArgs st) (defBody st) (defScope st) .none kV doc pm an cdv ct) := ⟨⟨oc, od, kV, doc, pm, an, cdv, ct, osl, rfl, l, c⟩, k⟩
end
section
variable {X : Cx}
theorem pv (i : Nat) {x : Str} {pos : Pos} (hN : X.N[i]? = some x := by rfl) (hv : Vis X.env.scope x := by first | exact Or.inl rfl | exact Or.inr (Or.inl rfl) | exact Or.inr (Or.inr rfl)) (hd : (x == ("__debug__" : Str)) = false := by decide)
    (hcd : (x == ("__classdict__" : Str)) = false := by decide) : PE X (.Name x pos) (tVar i) := pe_var hN hv hd hcd
end
theorem iteF {A B : Prop} (h : B) : if false = true then A else B := by
  rw [if_neg Bool.false_ne_true]
  exact h
theorem iteT {A B : Prop} (h : A) : if true = true then A else B := by
  rw [if_pos rfl]
  exact h
theorem ite2 {c A B : Prop} [Decidable c] (h1 : c → A) (h2 : ¬ c → B) : if c then A else B := by
  by_cases h : c
  · rw [if_pos h]
    exact h1 h
  · rw [if_neg h]
    exact h2 h
theorem iteNS {c A B : Prop} [Decidable c] (hc : c) (h : B) : if (!decide c) = true then A else B := by
  rw [decide_eq_true hc]
  exact iteF h
def Same (H H' : Hp) : Prop := ∀ b o, H b = some o → H' b = some o
theorem Same.refl (H : Hp) : Same H H := fun _ _ h => h
theorem Same.trans {H H1 H2 : Hp} (a : Same H H1) (b : Same H1 H2) : Same H H2 := fun c o h => b c o (a c o h)
theorem Same.free {H H' : Hp} (e : Same H H') {l : Addr} (h : H' l = Option.none) : H l = Option.none := by
  cases q : H l with
  | none => rfl
  | some o =>
    rw [e l o q] at h
    cases h
theorem Same.seq {K : PySem.W.Frag} {H H' : Hp} {a : Addr} {xs : List V} (e : Same H H') (h : SqL K H a xs) : SqL K H' a xs := by
  rcases h with (h | ⟨o, h⟩) | h
  · exact .inl (.inl (e _ _ h))
  · exact .inl (.inr ⟨o, e _ _ h⟩)
  · exact .inr h
end L2
set_option maxHeartbeats 4000000
namespace L2
open PySem PySem.Spec PyProof.Rows
section
variable {X : Cx}
theorem call_isinst : CallR X (.builtin "isinstance") (fun xs H Q => ∃ x T t b, xs = [x, .ty T] ∧ TyOf X.K H x t ∧ PySem.W.kitOne X.K t (.type T) = some b ∧ Q (.bl b) H) := by
  intro pins s σ H xs us Q I r h
  obtain ⟨x, T, t, b, rfl, ty, e, q⟩ := h
  obtain ⟨u, c, rfl, rx, rc⟩ := vals2 r
  cases (show c = Value.type T from rc)
  exact isinst_ok I rx ty e fun tk => ⟨.bl b, H, I.tok tk, rfl, q⟩
end
section
variable {X : Cx}
def cutS (z : Str) (lo hi : Option Int) : Str := ⟨((z.cps.toList.drop (HT.sIx z.length 0 lo)).take (HT.sIx z.length z.length hi - HT.sIx z.length 0 lo)).toArray⟩
end
mutual
inductive RdV (K : PySem.W.Frag) (H : Hp) : V → PyData → Prop where
  | non : RdV K H .non .none
  | bl (b : Bool) : RdV K H (.bl b) (.bool b)
  | int (i : Int) : RdV K H (.int i) (.int i)
  | str (x : Str) : RdV K H (.str x) (.str x)
  | lst {a : Addr} {xs : List V} {ds : List PyData} : SqL K H a xs → RdAll K H xs ds → RdV K H (.ref a) (.list ds)
  | tup {a : Addr} {xs : List V} {ds : List PyData} : SqT K H a xs → RdAll K H xs ds → RdV K H (.ref a) (.tuple ds)
inductive RdAll (K : PySem.W.Frag) (H : Hp) : List V → List PyData → Prop where
  | nil : RdAll K H [] []
  | cons {v : V} {vs : List V} {d : PyData} {ds : List PyData} : RdV K H v d → RdAll K H vs ds → RdAll K H (v :: vs) (d :: ds)
end
section
variable {X : Cx} {pins : List (Addr × Obj)} {σ : St} {H : Hp} {s : Shared}
mutual
theorem RdV.reads (I : Inv X pins σ H s) : ∀ {v : V} {d : PyData} {u : Value}, RdV X.K H v d → RelV v u → ∃ as, Reads s.heap u d as
  | _, _, u, .non, r => by cases (show u = Value.none from r); exact ⟨_, .none⟩
  | _, _, u, .bl b, r => by cases (show u = Value.bool b from r); exact ⟨_, .bool b⟩
  | _, _, u, .int i, r => by obtain ⟨t, e⟩ := (show ∃ t, u = Value.int i t from r); cases e; exact ⟨_, .int i t⟩
  | _, _, u, .str x, r => by obtain ⟨t, e⟩ := (show ∃ t, u = Value.str x t from r); cases e; exact ⟨_, .str x t⟩
  | _, _, u, @RdV.lst _ _ a xs ds hq hr, r => by
    cases (show u = Value.ref a from r)
    obtain ⟨its, rv, ⟨o, n, e, c, _, dt⟩, _⟩ := I.list hq
    obtain ⟨as, q⟩ := RdAll.reads I hr rv
    exact ⟨_, .list e c dt (by simpa using q)⟩
  | _, _, u, @RdV.tup _ _ a xs ds hq hr, r => by
    cases (show u = Value.ref a from r)
    obtain ⟨its, rv, ⟨o, e, c, n, dt⟩, _⟩ := I.tuple hq
    obtain ⟨as, q⟩ := RdAll.reads I hr rv
    exact ⟨_, .tuple e c dt (by simpa using q)⟩
theorem RdAll.reads (I : Inv X pins σ H s) : ∀ {vs : List V} {ds : List PyData} {us : List Value}, RdAll X.K H vs ds → Vals vs us → ∃ as, ReadsAll s.heap us ds as
  | _, _, _, .nil, r => by cases r; exact ⟨_, .nil⟩
  | _, _, _, .cons h t, r => by
    cases r with
    | cons r1 r2 =>
      obtain ⟨as, q⟩ := RdV.reads I h r1
      obtain ⟨bs, q2⟩ := RdAll.reads I t r2
      exact ⟨_, .cons q q2⟩
end
end
section
variable {X : Cx}
def rEqD (K : PySem.W.Frag) (A : Around) (neg : Bool) : R2 := fun x y H Q => ∃ d e : PyData, RdV K H x d ∧ RdV K H y e ∧ d.canLay0 = true ∧ e.canLay0 = true ∧ A.units + min d.depth e.depth < cLine ∧ Q (.bl (if neg then !PyData.eqv d e else PyData.eqv d e)) H
theorem op_eqD : OpR X (compareOp .Eq) (rEqD X.K X.A false) := by
  intro pins s σ H x y v u Q I rx ry h
  obtain ⟨d, e, hd, he, cd, ce, hu, q⟩ := h
  obtain ⟨as, q1⟩ := hd.reads I rx
  obtain ⟨bs, q2⟩ := he.reads I ry
  exact SeqAt.compareEq_reads q1 q2 cd ce hu ⟨.bl _, H, I, rfl, q⟩
theorem op_neD : OpR X (compareOp .NotEq) (rEqD X.K X.A true) := by
  intro pins s σ H x y v u Q I rx ry h
  obtain ⟨d, e, hd, he, cd, ce, hu, q⟩ := h
  obtain ⟨as, q1⟩ := hd.reads I rx
  obtain ⟨bs, q2⟩ := he.reads I ry
  exact SeqAt.compareNe_reads q1 q2 cd ce hu ⟨.bl _, H, I, rfl, q⟩
end
mutual
theorem eqv_self : ∀ d : PyData, d.canLay0 = true → PyData.eqv d d = true
  | .none, _ => by simp [PyData.eqv]
  | .bool _, _ => by simp [PyData.eqv]
  | .int _, _ => by simp [PyData.eqv]
  | .str _, _ => by simp [PyData.eqv]
  | .list xs, h => by
    simp only [PyData.eqv]
    exact eqvAll_self xs (by simpa [PyData.canLay0] using h)
  | .tuple xs, h => by
    simp only [PyData.eqv]
    exact eqvAll_self xs (by simpa [PyData.canLay0] using h)
  | .dict _, h => by simp [PyData.canLay0] at h
theorem eqvAll_self : ∀ ds : List PyData, PyData.canLayAll0 ds = true → PyData.eqvAll ds ds = true
  | [], _ => by simp [PyData.eqvAll]
  | d :: ds, h => by
    simp only [PyData.canLayAll0, Bool.and_eq_true] at h
    simp only [PyData.eqvAll, Bool.and_eq_true]
    exact ⟨eqv_self d h.1, eqvAll_self ds h.2⟩
end
end L2
namespace L2
open PySem PySem.Spec PyProof.Rows
structure Fn (P : Program) (w : World) (K : PySem.W.Frag) (mg : Str → Option Value) (base : Heap) (k : Nat) (x : Str) (ps : List Str) (sp : Sp) : Prop where
  ex : ∃ (f : Addr) (fd : FuncData), FnOk P w K mg base CX0 k f fd ps sp ∧ Binds K fd ps [] ∧ PySem.W.keepIn K (.ref f) = true ∧ mg x = some (.ref f)
theorem pe_fn {X : Cx} {k k' : Nat} {x : Str} {ps : List Str} {sp : Sp} {p pos : Pos} {e : Expr} {es : List Expr} {t : TA} (F : Fn X.prog X.w X.K X.mg X.base k x ps sp) (hr : Room k' X.A) (ha : PA X (e :: es) t) (hk : k ≤ k' := by decide) (hg : Gl X x := by rfl)
    (hdb : (x == ("__debug__" : Str)) = false := by decide) (he : starEach (e :: es) X.env = (false, eval e X.env) :: starEach es X.env := by rfl) (hpl : (backTo pos (starEach es X.env)).any (·.1) = false := by rfl) :
    PE X (.Call (.Name x p) (e :: es) [] pos) (tCall sp [] E0 t) := by
  obtain ⟨f, fd, h1, h2, h3, h4⟩ := F.ex
  exact pe_call h1 (hr.mono hk) hg h4 h3 h2 .nil pass0 ha hdb he hpl
theorem iteP {c A B : Prop} [Decidable c] (hc : c) (h : A) : if decide c = true then A else B := by
  rw [decide_eq_true hc]
  exact iteT h
theorem iteN {c A B : Prop} [Decidable c] (hc : ¬ c) (h : B) : if decide c = true then A else B := by
  rw [decide_eq_false hc]
  exact iteF h
theorem iteB {b : Bool} {A B : Prop} (h1 : b = true → A) (h2 : b = false → B) : if b = true then A else B := by
  cases b with
  | true => exact iteT (h1 rfl)
  | false => exact iteF (h2 rfl)
theorem same_new {H : Hp} {p : Addr} (h : H p = Option.none) (o : HO) : Same H (upd H p o) := fun b u q => by rw [upd_ne (ne_of_none q h)]; exact q
def S (l : List Nat) : Str := ⟨l.toArray⟩
theorem S_list (l : List Nat) : (S l).cps.toList = l := by simp [S]
theorem S_len (l : List Nat) : (S l).length = l.length := by simp [S, Str.length]
theorem S_inj {a b : List Nat} (h : S a = S b) : a = b := by
  have := congrArg (fun z : Str => z.cps.toList) h
  simpa [S_list] using this
theorem S_app (a b : List Nat) : S a ++ S b = S (a ++ b) := by
  show Str.append (S a) (S b) = S (a ++ b)
  simp [Str.append, S]
end L2
namespace L2
open PySem PySem.Spec PyProof.Rows
def tCut (t : TS) : TS := fun D σ H => ∃ R : St → Hp → Prop, t { D with nx := R } σ H ∧ ∀ σ' H', R σ' H' → D.nx σ' H'
theorem ps_cut {X : Cx} {st : Stmt} {t : TS} (h : PS X st t) : PS X st (tCut t) := by
  intro pins s σ H D I hw
  obtain ⟨R, h1, h2⟩ := hw
  refine thn (h pins s σ H { D with nx := R } I h1) fun f s1 q => ?_
  cases f with
  | next =>
    obtain ⟨σ', H', I', q⟩ := q
    exact ⟨σ', H', I', h2 _ _ q⟩
  | brk => exact q
  | cont => exact q
  | ret v => exact q
theorem depth_strs : ∀ xs : List Str, PyData.depthAll (xs.map PyData.str) = 0
  | [] => by simp [PyData.depthAll]
  | x :: r => by simp [PyData.depthAll, PyData.depth, depth_strs r]
end L2
namespace L2
open PySem PySem.Spec PyProof.Rows
structure DefAt (K : PySem.W.Frag) (x : Str) (st : Stmt) : Prop where
  ex : ∃ (f : Addr) (oc : Value) (od : Option Addr) (kV doc pm : Value) (an : Option Addr) (cdv ct : Value) (osl : Array (Option Value)),
    PySem.W.nsIn K mainGlobals x = some (some (.ref f)) ∧ K.lookup f = some ⟨oc, od, .func (PySem.W.fnOf x x (defArgs st) (defBody st) (defScope st) .none kV doc pm an cdv ct), osl⟩ ∧ PySem.W.codeIn K cdv x = true ∧ PySem.W.keepIn K (.ref f) = true
theorem DefAt.mk' {K : PySem.W.Frag} {x : Str} {st : Stmt} {f : Addr} {oc : Value} {od : Option Addr} {kV doc pm : Value} {an : Option Addr} {cdv ct : Value} {osl : Array (Option Value)}
    (a : PySem.W.nsIn K mainGlobals x = some (some (.ref f))) (l : K.lookup f = some ⟨oc, od, .func (PySem.W.fnOf x x (defArgs st) (defBody st) (defScope st) .none kV doc pm an cdv ct), osl⟩) (c : PySem.W.codeIn K cdv x = true) (k : PySem.W.keepIn K (.ref f) = true) : DefAt K x st :=
  ⟨f, oc, od, kV, doc, pm, an, cdv, ct, osl, a, l, c, k⟩
theorem DefAt.fn {P : Program} {w : World} {K : PySem.W.Frag} {mg : Str → Option Value} {base h : Heap} {k : Nat} {x : Str} {st : Stmt} {ps : List Str} {sp : Sp} (D : DefAt K x st) (X : K.In h) (G : h.Ns mainGlobals mg)
    (ok : ∀ (f : Addr) (fd : FuncData), Fun K x x st f fd → FnOk P w K mg base CX0 k f fd ps sp)
    (hb : ∀ (kV doc pm : Value) (an : Option Addr) (cdv ct : Value) (us : List Value), us.length = ps.length → bindArgs (PySem.W.fnOf x x (defArgs st) (defBody st) (defScope st) .none kV doc pm an cdv ct) ⟨us, []⟩ = pure (ps.zip us)) : Fn P w K mg base k x ps sp := by
  obtain ⟨f, oc, od, kV, doc, pm, an, cdv, ct, osl, a, l, c, kp⟩ := D.ex
  have F := fun_mk (st := st) l c kp
  exact ⟨f, _, ok f _ F, F.binds hb, kp, PySem.W.mg_of X G a⟩
end L2
namespace L2
open PySem PySem.Spec PyProof.Rows
section
variable {X : Cx}
def rCatG (K : PySem.W.Frag) : R2 := fun x y H Q => ∃ a b xs ys, x = .ref a ∧ y = .ref b ∧ SqT K H a xs ∧ SqT K H b ys ∧ xs.length + ys.length ≤ sizeLine ∧
  ∀ p H', Same H H' → SqT K H' p (xs ++ ys) → Q (.ref p) H'
theorem op_catG : OpR X (binaryOp .Add) (rCatG X.K) := by
  intro pins s σ H x y v u Q I rx ry h
  obtain ⟨a, b, xs, ys, e1, e2, ha, hb, hz, q⟩ := h
  by_cases hx : xs = []
  · subst e1; subst e2; subst hx
    cases (show v = Value.ref a from rx)
    cases (show u = Value.ref b from ry)
    obtain ⟨its, r1, p1, _⟩ := I.tuple ha
    obtain ⟨its2, r2, p2, _⟩ := I.tuple hb
    cases r1
    obtain ⟨⟨cls, dd, data, sl⟩, ho, hc, n, hd⟩ := id p1
    obtain ⟨⟨cls2, dd2, data2, sl2⟩, ho2, hc2, n2, hd2⟩ := id p2
    simp only at hc hd hc2 hd2
    subst hc hd hc2 hd2
    exact concat_meets ⟨_, ho, rfl⟩ ⟨_, ho2, rfl⟩ noFill_tuple_add seq_tuple_add PySem.F.slot_tuple_add PySem.F.entry_tuple_add (PySem.F.args_tuple_add_2 _ _)
      (tuple_addW0 a b _ its2.toArray n n2 dd dd2 sl sl2 rfl) ⟨ho, ho2, ⟨.ref b, H, I, rfl, q b H (Same.refl H) (by simpa using hb)⟩⟩
  · refine op_catT pins s σ H x y v u Q I rx ry ⟨a, b, xs, ys, e1, e2, ha, hb, hx, hz, fun hy => ?_, fun hy p hp => ?_⟩
    · subst hy
      exact q a H (Same.refl H) (by simpa using ha)
    · exact q p _ (same_new hp _) (SqT.of upd_same)
theorem Same.seqT {K : PySem.W.Frag} {H H' : Hp} {a : Addr} {xs : List V} (e : Same H H') (h : SqT K H a xs) : SqT K H' a xs := by
  rcases h with (h | ⟨o, h⟩) | h
  · exact .inl (.inl (e _ _ h))
  · exact .inl (.inr ⟨o, e _ _ h⟩)
  · exact .inr h
end
section
variable {X : Cx} {tg : Expr}
end
end L2
namespace L2
open PySem PySem.Spec PyProof.Rows
def rCatL (K : PySem.W.Frag) : R2 := fun x y H Q => ∃ l b xs zs, x = .ref l ∧ y = .ref b ∧ SqL K H l xs ∧ SqL K H b zs ∧ xs.length + zs.length ≤ sizeLine ∧ ∀ p, H p = none → Q (.ref p) (upd H p (.lst (xs ++ zs)))
theorem op_catL {X : Cx} : OpR X (binaryOp .Add) (rCatL X.K) := by
  intro pins s σ H x y v u Q I rx ry h
  obtain ⟨l, b, xs, zs, rfl, rfl, ha, hb, hz, q⟩ := h
  cases rx
  cases ry
  obtain ⟨its, r1, ⟨⟨c1, d1, t1, s1⟩, n1, g1, e1, f1, k1⟩, _⟩ := I.list ha
  obtain ⟨its2, r2, ⟨⟨c2, d2, t2, s2⟩, n2, g2, e2, f2, k2⟩, _⟩ := I.list hb
  simp only at e1 f1 k1 e2 f2 k2
  subst e1 f1 k1 e2 f2 k2
  have l1 := r1.length
  have l2 := r2.length
  refine concat_meets ⟨_, g1, rfl⟩ ⟨_, g2, rfl⟩ noFill_list_add seq_list_add PySem.F.slot_list_add PySem.F.entry_list_add (PySem.F.args_list_add_2 _ _) (list_addW l b _ _ n1 n2 none none s1 s2 (by rw [List.size_toArray, List.size_toArray]; omega)) ⟨g1, g2, ?_⟩
  have ea : its.toArray ++ its2.toArray = (its ++ its2).toArray := by simp
  rw [ea]
  exact ⟨.ref _, _, I.lnew (t' := s.toks) (r1.append r2) (by rw [List.length_append]; omega), rfl, q _ I.fresh⟩
theorem cutTo (xs : List V) (k : Nat) : cutV xs none (some (k : Int)) = xs.take k := by
  unfold cutV
  rw [HT.sIx_none, HT.sIx_nat, List.drop_zero, Nat.sub_zero]
  by_cases h : k ≤ xs.length
  · rw [Nat.min_eq_left h]
  · rw [Nat.min_eq_right (by omega), List.take_of_length_le (Nat.le_refl _), List.take_of_length_le (by omega)]
theorem ixN_nat {n k : Nat} (h : k < n) : ixN n (k : Int) = some k := by
  unfold ixN
  rw [if_pos (by omega), if_pos (by omega)]; simp
theorem size_line : sizeLine = 16777216 := by decide
theorem line_of {n : Nat} (h : n ≤ 5000) : n ≤ sizeLine := by rw [size_line]; omega
end L2
namespace L2
open PySem PySem.Spec PyProof.Rows
def compX (X : Cx) (N' : List Str) (scope : Scope) (cl : List (Str × Addr)) (C : Addr) (fp : List Addr) (s₀ : Shared) (H₀ : Hp) : Cx :=
  { X with N := N', s₀ := s₀, H₀ := H₀, env := compEnvC scope cl C X.env, outer := X.stack, ex := fp, fn := fun _ => false, pn := [], xe := fun _ _ => False }
def PF (X : Cx) (ifs : List Expr) (t : TT) : Prop :=
  ∀ (pins : List (Addr × Obj)) (s : Shared) (σ : St) (H : Hp) (Q : Bool → Hp → Prop), Inv X pins σ H s → t σ H Q →
    wpAny (model X.prog X.w) X.A (forIn ifs true fun c r => if r = true then do let ok ← isTrue c X.env (eval c X.env); pure (ForInStep.yield ok) else pure (ForInStep.yield r)) (TP X pins σ Q) X.xe s
theorem pf_nil {X : Cx} : PF X [] (fun _ H Q => Q true H) := by
  intro pins s σ H Q I h
  rw [List.forIn_nil]
  exact wpAny_pure ⟨H, I, h⟩
theorem pf_one {X : Cx} {c : Expr} {t : TT} (hc : PT X c t) : PF X [c] t := by
  intro pins s σ H Q I h
  rw [List.forIn_cons]
  refine wpAny_bind ?_
  rw [if_pos rfl]
  refine wpAny_bind (thn (hc pins s σ H Q I h) fun ok s1 q => wpAny_pure ?_)
  dsimp only
  rw [List.forIn_nil]
  exact wpAny_pure q
def tComp (wi : TI) (cap : List Nat) (tt : TT) (te : TE) : TE := fun σ H Q => wi σ H fun J H1 => ∀ acc, H1 acc = none → ∃ W : Nat → Nat → Hp → Prop, (∃ m, W 0 m (upd H1 acc (.lst []))) ∧ ∀ i m H2, W i m H2 →
  (J.stop i H2 ∧ Q (.ref acc) H2) ∨ (J.go i H2 ∧ ∀ x H3, J.yld i H2 x H3 → tt (some x :: cap.map fun j => (σ[j]?).getD none) H3 fun ok H4 => if ok = true then
    te (some x :: cap.map fun j => (σ[j]?).getD none) H4 (fun y H5 => ∃ ys, H5 acc = some (.lst ys) ∧ ys.length < sizeLine ∧ ∃ m', m' < m ∧ W (i + 1) m' (upd H5 acc (.lst (ys ++ [y]))))
    else ∃ m', m' < m ∧ W (i + 1) m' H4)
structure CompOk (X : Cx) (x : Str) (caps : List Str) (cap : List Nat) (scope : Scope) (cl : List (Str × Addr)) : Prop where
  clos : closureFor scope X.env = pure cl
  cell : ∀ y ∈ scope.names, y.2 ≠ .cell
  kind : scope.kind = .function
  names : ∀ y ∈ scope.names, y.2 = .local → scope.names.lookup y.1 = some .local
  lx : scope.names.lookup x = some .local
  nd : (x :: caps).Nodup
  from_ : ∀ y c, cl.lookup y = some c → X.env.cells.lookup y = some c
  has : ∀ y, ((relabel scope X.env).names.lookup y = some .cell ∨ (relabel scope X.env).names.lookup y = some .free) → ∃ c, cl.lookup y = some c
  len : cap.length = caps.length
  cps : ∀ (i : Nat) (y : Str), caps[i]? = some y → ∃ j, cap[i]? = some j ∧ X.N[j]? = some y ∧ X.env.scope.names.lookup y = some .cell ∧ (relabel scope X.env).names.lookup y = some .cell
structure OwnAt (X : Cx) (pins : List (Addr × Obj)) (H : Hp) (s : Shared) (C : Addr) : Prop where
  ns : ∃ m, s.heap.Ns C m
  free : H C = none
  loc : C ≠ X.env.locals
  above : X.s₀.heap.objs.size ≤ C
  cells : ∀ x c, X.env.cells.lookup x = some c → c ≠ C
  pins : ∀ p ∈ X.pn ++ pins, p.1 ≠ C
theorem comp_core {X : Cx} {elt iter : Expr} {x : Str} {px : Pos} {ifs : List Expr} {scope : Scope} {pos pos' : Pos} {wi : TI} {tt : TT} {te : TE} {cl : List (Str × Addr)} {caps : List Str} {cap : List Nat}
    (O : CompOk X x caps cap scope cl) (hc : X.calm = true) (hi : PI X (.Name x px) iter wi)
    (ht : ∀ C fp s₀ H₀, PF (compX X (x :: caps) scope cl C fp s₀ H₀) ifs tt) (he : ∀ C fp s₀ H₀, PE (compX X (x :: caps) scope cl C fp s₀ H₀) elt te)
    (hs : ∀ x, foldedSetIterable iter X.env x = pure x) {pins : List (Addr × Obj)} {s : Shared} {σ : St} {H : Hp} {Q : VK} {use : Option (Value → Sem Unit)} {QQ : Value → Shared → Prop} (I : Inv X pins σ H s)
    (h : tComp wi cap tt te σ H Q)
    (hfin : ∀ D C H' s', Inv X pins σ H' s' → OwnAt X pins H' s' C → Q (.ref D) H' → compPost (model X.prog X.w) X.A X.xe use QQ (.ref D) C (.ok .next) s') :
    wpAny (model X.prog X.w) X.A (comprehension (.ListComp elt [⟨.Name x px, iter, ifs, 0⟩] scope pos) scope X.env pos' (newList []) false (eval iter X.env) use) QQ X.xe s := by
  refine wpAny_comprehension_free rfl hs O.clos O.kind O.names (thn (hi pins s σ H _ I h) fun v s1 h1 => thn h1 fun itv s2 h2 => ?_)
  obtain ⟨it, fp, tn, J, H1, e, I2, T, t0, f2, hR⟩ := h2
  subst e
  refine wpAny_newObj_type (wpAny_newFunctionEnv O.cell (by intro y hy; simp at hy) (fun h₁ hns hsb => ?_) O.kind)
  have hacc : H1 s2.heap.objs.size = none := I2.fresh
  obtain ⟨W, ⟨m0, w0⟩, turn⟩ := hR s2.heap.objs.size hacc
  have I3 : Inv X pins σ (upd H1 s2.heap.objs.size (.lst [])) { s2 with heap := s2.heap.push { cls := .type "list", data := .seq ([] : List Value).toArray } } := I2.lnew (t' := s2.toks) (ys := []) (its := []) .nil (Nat.zero_le _)
  generalize hs3 : ({ s2 with heap := s2.heap.push { cls := .type "list", data := .seq ([] : List Value).toArray } } : Shared) = s3 at hns hsb I3 ⊢
  generalize hD : s2.heap.objs.size = D at I3 w0 turn hacc ⊢
  generalize hH3 : upd H1 D (.lst []) = H3 at I3 w0
  have keep3 : ∀ b o, s3.heap.get? b = some o → h₁.get? b = some o := fun b o e => (hsb.2 b (Nat.ne_of_lt (Heap.lt_size e))).trans (Heap.get?_push_of_some _ e)
  have hfp3 : ∀ b ∈ fp, H3 b = none := fun b hb => by
    rw [← hH3, upd_ne]
    · exact (f2 b hb).1
    · intro z
      obtain ⟨o, e, _⟩ := T.obj _ _ t0 b hb
      exact absurd (Heap.lt_size e) (by rw [z, hD]; exact Nat.lt_irrefl _)
  have hCfresh : H3 s3.heap.objs.size = none := I3.fresh
  have hCfp : ∀ b ∈ fp, b ≠ s3.heap.objs.size := fun b hb z => by
    obtain ⟨o, e, _⟩ := T.obj _ _ t0 b hb
    have h2 : s3.heap.objs.size = s2.heap.objs.size + 1 := by rw [← hs3]; exact Heap.size_push ..
    exact absurd (Heap.lt_size e) (by rw [z, h2]; exact Nat.not_lt.mpr (Nat.le_succ _))
  have t3 : tn 0 h₁ := T.keep _ _ _ t0 fun b hb o e => keep3 b o (by rw [← hs3]; exact Heap.get?_push_of_some _ e)
  have ok' : (compX X (x :: caps) scope cl s3.heap.objs.size fp s3 H3).Ok := by
    refine ⟨I3.ok.mod, O.kind, I3.ok.glob, I3.ok.blt, Nat.le_refl _, fun y z c e1 e2 => I3.ok.inj y z c (O.from_ y c e1) (O.from_ z c e2), fun y hy => O.has y hy, fun y c z _ => (nomatch z), I3.ok.hd, I3.ok.frames, .inl rfl, fun b hb => ⟨hCfp b hb, fun y c e => ?_⟩, I3.bs, Nat.le_trans I3.ok.bsz I3.sz, fun b o e hb => ?_, fun b hb z => ?_, I3.stack, I3.stkFree⟩
    · exact (f2 b hb).2.2.2.2.1 y c (O.from_ y c e)
    · rcases (f2 b hb).2.2.2.1 with q | q
      · exact I3.ok.noex b o e q
      · exact absurd (Nat.lt_of_lt_of_le (Heap.lt_size e) (Nat.le_trans I3.ok.bsz q)) (Nat.lt_irrefl _)
    · rcases List.mem_cons.mp (I3.stkSub b z) with q | q
      · exact (f2 b hb).2.1 q
      · exact (f2 b hb).2.2.1 q
  have I4 : Inv (compX X (x :: caps) scope cl s3.heap.objs.size fp s3 H3) [] (none :: cap.map fun j => (σ[j]?).getD none) H3 { s3 with heap := h₁, toks := s3.toks + ([] : List (Str × Value)).length } := by
    obtain ⟨m, hn, hl⟩ := id I3.loc
    refine ⟨ok', rfl, I3.bare, Un.kept keep3, ⟨_, hns, fun i y v e1 e2 e3 => ?_⟩, fun y c e => ?_, hCfresh, fun y c e => I3.freeC y c (O.from_ y c e), fun p hp => (nomatch hp), I3.hok.kept keep3, ?_⟩
    · cases i with
      | zero => simp at e2
      | succ i =>
        have e1' : caps[i]? = some y := by
          have e1'' : (x :: caps)[i + 1]? = some y := e1
          simpa using e1''
        obtain ⟨j, hj, hN, hk, hk'⟩ := O.cps i y e1'
        have e2' : (σ[j]?).getD none = some v := by simpa [hj] using e2
        have e2'' : σ[j]? = some (some v) := by
          cases q : σ[j]? with
          | none => rw [q] at e2'; cases e2'
          | some a => rw [q] at e2'; exact congrArg some e2'
        obtain ⟨u, r, l⟩ := hl j y v hN e2'' (.inr (.inl hk))
        refine ⟨u, r, ?_⟩
        rcases l with ⟨k, _⟩ | ⟨k, c, e, z⟩
        · have k' : X.env.scope.names.lookup y = some .local := k
          rw [hk] at k'; cases k'
        · obtain ⟨c', hc'⟩ := O.has y (.inl hk')
          have : c' = c := Option.some.inj ((O.from_ y c' hc').symm.trans e)
          subst this
          refine .inr ⟨.inl hk', c', hc', ?_⟩
          obtain ⟨o, ho, hd⟩ := z
          exact ⟨o, keep3 _ _ ho, hd⟩
    · obtain ⟨v, o, ho, hd⟩ := I3.cell y c (O.from_ y c e)
      exact ⟨v, o, keep3 _ _ ho, hd⟩
    · show (none :: cap.map _).length = (x :: caps).length
      simp [O.len]
  have fin : ∀ (H' : Hp) (σ' : St) (s' : Shared), Inv (compX X (x :: caps) scope cl s3.heap.objs.size fp s3 H3) [] σ' H' s' → Q (.ref D) H' →
      compPost (model X.prog X.w) X.A X.xe use QQ (.ref D) s3.heap.objs.size (.ok .next) s' := fun H' σ' s' I' q => by
    obtain ⟨m, hn, _⟩ := id I'.loc
    have hU : Un (frs X.stack) fp H3 H' s3.heap s'.heap := I'.base
    have hok2 : HOk X.prog X.w H' s'.heap := I'.hok
    have os' : s'.os = s3.os := I'.os
    have I6 : Inv X pins σ H' s' := I3.call' (ch := fp) os' hU hok2 I'.bare (fun b hb => ⟨(f2 b hb).2.2.2.1, (f2 b hb).2.1, (f2 b hb).2.2.2.2⟩)
    refine hfin D _ H' s' I6 ⟨⟨m, hn⟩, I'.free, Nat.ne_of_gt I3.lt, I3.sz, fun y c e z => ?_, fun p hp z => ?_⟩ q
    · obtain ⟨v, hv⟩ := I3.cell y c e
      exact absurd hv.lt (by rw [z]; exact Nat.lt_irrefl _)
    · exact absurd (Heap.lt_size (I3.pin p hp).1) (by rw [z]; exact Nat.lt_irrefl _)
  have stat : ∀ {H' : Hp}, (∀ b ∈ fp, H' b = none) → ∀ b ∈ fp, FpOk (compX X (x :: caps) scope cl s3.heap.objs.size fp s3 H3) [] H' b := fun hn b hb =>
    ⟨hn b hb, hCfp b hb, ok'.exfs b hb, .inl hb, fun y c e => (f2 b hb).2.2.2.2.1 y c (O.from_ y c e), fun p hp => (nomatch hp)⟩
  have loop : codeAny (model X.prog X.w) X.A (.compLoop (.ListComp elt [⟨.Name x px, iter, ifs, 0⟩] scope pos) 0 (.ref it) (.ref D) (compEnvC scope cl s3.heap.objs.size X.env))
      (compPost (model X.prog X.w) X.A X.xe use QQ (.ref D) s3.heap.objs.size) { s3 with heap := h₁, toks := s3.toks + ([] : List (Str × Value)).length } := by
    refine codeAny_loop rfl (fun n s' => ∃ i a H', Inv (compX X (x :: caps) scope cl s3.heap.objs.size fp s3 H3) [] (a :: cap.map fun j => (σ[j]?).getD none) H' s' ∧ tn i s'.heap ∧ (∀ b ∈ fp, H' b = none) ∧ W i n H') ?_ m0 ⟨0, none, H3, I4, t3, hfp3, w0⟩
    rintro n s5 ⟨i, a, H5, I5, st5, fr5, w5⟩
    show wpAny _ _ ((compTurn (.ListComp elt [⟨.Name x px, iter, ifs, 0⟩] scope pos) 0 (.ref it) (.ref D) (compEnvC scope cl s3.heap.objs.size X.env)).onRaise (fun x => do noteFrame x (compEnvC scope cl s3.heap.objs.size X.env); theTreesLotGoes x)) _ _ s5
    refine wpAny_noted ?_
    rw [compTurn_list]
    refine wpAny_bind (wpAny_standAt (wpAny_bind ?_))
    have bad : ∀ {M : Model} {A : Around} {α : Type} {t : Sem α} {P : α → Shared → Prop} {E' : Value → Shared → Prop} {s' : Shared}, wpAny M A t P (fun _ _ => False) s' → wpAny M A t P E' s' := fun h => wpAny_mono h (fun _ _ q => q) fun _ _ z => z.elim
    rcases turn i n H5 w5 with ⟨stop, qn⟩ | ⟨go, step⟩
    · refine bad (thn (T.done (compX X (x :: caps) scope cl s3.heap.objs.size fp s3 H3) rfl rfl rfl hc i [] s5 _ H5 (fun _ _ => False) I5 (stat fr5) st5 stop) fun r s6 ⟨hr, I6⟩ => ?_)
      subst hr
      exact wpAny_pure (fin H5 _ s6 I6 qn)
    · refine bad (thn (T.item (compX X (x :: caps) scope cl s3.heap.objs.size fp s3 H3) rfl rfl rfl hc i [] s5 _ H5 (fun _ _ => False) I5 (stat fr5) st5 go) fun r s6 ⟨u, hr, h6⟩ => ?_)
      subst hr
      refine wpAny_bind (bad (thn h6 fun _ s7 ⟨y, H7, I7, r7, y7, st7, fr7⟩ => ?_))
      have I7' := I7.pinned (stat fr7) (T.obj _ _ st7)
      have goal := step y H7 y7
      have hxl : Loc (compX X (x :: caps) scope cl s3.heap.objs.size fp s3 H3).env.scope x := .inl (lookup_relabel_local O.lx)
      refine wpAny_bind (wpAny_assign_Name (store_ok (i := 0) I7' O.nd rfl hxl r7 (fun s8 I8 => ?_) (.inr (lookup_relabel_local O.lx))))
      have I8' : Inv (compX X (x :: caps) scope cl s3.heap.objs.size fp s3 H3) ([] ++ pinsAt fp s7.heap) (some y :: cap.map fun j => (σ[j]?).getD none) H7 s8 := I8
      refine wpAny_bind (bad (thn (ht s3.heap.objs.size fp s3 H3 _ s8 _ H7 _ I8' goal) fun okb s9 ⟨H9, I9, q9⟩ => ?_))
      have again : ∀ {H10 : Hp} {s10 : Shared} {m' : Nat}, Inv (compX X (x :: caps) scope cl s3.heap.objs.size fp s3 H3) ([] ++ pinsAt fp s7.heap) (some y :: cap.map fun j => (σ[j]?).getD none) H10 s10 → m' < n → W (i + 1) m' H10 →
          ∃ m, m < n ∧ ∃ i a H', Inv (compX X (x :: caps) scope cl s3.heap.objs.size fp s3 H3) [] (a :: cap.map fun j => (σ[j]?).getD none) H' s10 ∧ tn i s10.heap ∧ (∀ b ∈ fp, H' b = none) ∧ W i m H' := fun {H10 s10 m'} I10 hm w10 => by
        refine ⟨m', hm, i + 1, some y, H10, I10.unpinned, T.keep _ _ _ st7 fun b hb o e => (I10.pin (b, o) (List.mem_append_right _ (List.mem_append_right _ (mem_pinsAt hb e)))).1, fun b hb => ?_, w10⟩
        obtain ⟨o, e, d⟩ := T.obj _ _ st7 b hb
        exact (I10.pin (b, o) (List.mem_append_right _ (List.mem_append_right _ (mem_pinsAt hb e)))).2.1
      cases okb with
      | false =>
        rw [if_neg Bool.false_ne_true] at q9
        obtain ⟨m', hm, w9⟩ := q9
        exact wpAny_pure ⟨rfl, again I9 hm w9⟩
      | true =>
        rw [if_pos rfl] at q9
        refine wpAny_bind (wpAny_bind (bad (thn (he s3.heap.objs.size fp s3 H3 _ s9 _ H9 _ I9 q9) fun yv s10 ⟨yy, H10, I10, r10, ys, hys, hlen, m', hm, w10⟩ => ?_)))
        refine wpAny_bind (bad (thn (mt_append (X := compX X (x :: caps) scope cl s3.heap.objs.size fp s3 H3) _ s10 _ H10 (.ref D) [yy] (.ref D) [yv] (fun _ H11 => W (i + 1) m' H11) I10 rfl (.cons r10 .nil) ⟨D, ys, yy, rfl, rfl, hys, hlen, w10⟩) fun _ s11 ⟨_, H11, I11, _, q11⟩ => ?_))
        exact wpAny_pure (wpAny_pure ⟨rfl, again I11 hm q11⟩)
  refine codeAny_compStart_list loop (T.self _ 0 _ _ _ t3 loop)
theorem OwnAt.go {X : Cx} {pins : List (Addr × Obj)} {σ : St} {H : Hp} {s : Shared} {C : Addr} {h' : Heap} (I : Inv X pins σ H s) (o : OwnAt X pins H s C) (hb : Heap.SameBut C s.heap h') : Inv X pins σ H { s with heap := h' } :=
  I.turned (t' := s.toks) (fun b u hb' e => (hb.2 b hb').trans e) o.free o.loc (.inr o.above) o.cells o.pins
theorem pe_lcomp {X : Cx} {elt iter : Expr} {x : Str} {px : Pos} {ifs : List Expr} {scope : Scope} {pos : Pos} {wi : TI} {tt : TT} {te : TE} {cl : List (Str × Addr)} {caps : List Str} {cap : List Nat}
    (O : CompOk X x caps cap scope cl) (hc : X.calm = true) (hi : PI X (.Name x px) iter wi)
    (ht : ∀ C fp s₀ H₀, PF (compX X (x :: caps) scope cl C fp s₀ H₀) ifs tt) (he : ∀ C fp s₀ H₀, PE (compX X (x :: caps) scope cl C fp s₀ H₀) elt te)
    (hs : ∀ x, foldedSetIterable iter X.env x = pure x := by intro _; rfl) :
    PE X (.ListComp elt [⟨.Name x px, iter, ifs, 0⟩] scope pos) (tComp wi cap tt te) := by
  intro pins s σ H Q I h
  rw [eval_ListComp]
  exact comp_core (use := none) O hc hi ht he hs I h fun D C H' s' I' o q => by
    obtain ⟨m, hn⟩ := o.ns
    exact ⟨m, hn, fun h' hb => ⟨.ref D, H', o.go I' hb, rfl, q⟩⟩
def compW (n : Nat) (Pv : Nat → List V → Hp → Prop) : Nat → Nat → Hp → Prop := fun i m H => m = n - i ∧ i ≤ n ∧ ∃ ys, Pv i ys H
def compN (n : Nat) (Pv : Nat → List V → Hp → Prop) (acc : Addr) (i m : Nat) : VK := fun y H5 => ∃ ys, H5 acc = some (.lst ys) ∧ ys.length < sizeLine ∧ ∃ m', m' < m ∧ compW n Pv (i + 1) m' (upd H5 acc (.lst (ys ++ [y])))
theorem comp_next {n : Nat} {Pv : Nat → List V → Hp → Prop} {acc : Addr} {i : Nat} {y : V} {H5 : Hp} {ys : List V} (hi : i < n) (hacc : H5 acc = some (.lst ys)) (hl : ys.length < 5000) (hP : Pv (i + 1) (ys ++ [y]) (upd H5 acc (.lst (ys ++ [y])))) : compN n Pv acc i (n - i) y H5 :=
  ⟨ys, hacc, Nat.lt_trans hl (by decide), n - (i + 1), by omega, rfl, hi, _, hP⟩
theorem comp_skip {n : Nat} {Pv : Nat → List V → Hp → Prop} {i : Nat} {H : Hp} {ys : List V} (hi : i < n) (hP : Pv (i + 1) ys H) : ∃ m', m' < n - i ∧ compW n Pv (i + 1) m' H := ⟨n - (i + 1), by omega, rfl, hi, ys, hP⟩
end L2
namespace L2
open PySem PySem.Spec PyProof.Rows
theorem lookup_mem {k : NameKind} {y : Str} : ∀ {l : List (Str × NameKind)}, l.lookup y = some k → ∃ z ∈ l, z.2 = k
  | [], h => by simp at h
  | (n, j) :: r, h => by
    cases hx : y == n with
    | true =>
      simp only [List.lookup_cons, hx] at h
      exact ⟨(n, j), List.mem_cons_self, by cases h; rfl⟩
    | false =>
      simp only [List.lookup_cons, hx] at h
      obtain ⟨z, h1, h2⟩ := lookup_mem h
      exact ⟨z, List.mem_cons_of_mem _ h1, h2⟩
theorem CompOk.plain {X : Cx} {x : Str} {scope : Scope} (hk : scope.kind = .function) (hn : ∀ z ∈ scope.names, z.2 ≠ .cell ∧ z.2 ≠ .free) (hl : ∀ y ∈ scope.names, y.2 = .local → scope.names.lookup y.1 = some .local) (hx : scope.names.lookup x = some .local) :
    CompOk X x [] [] scope [] := by
  have e : (relabel scope X.env).names = scope.names := map_eq_self fun z hz => by
    obtain ⟨n, k⟩ := z
    have : (k == NameKind.free) = false := by simpa using (hn _ hz).2
    simp [this]
  refine ⟨closureFor_none fun z hz => (hn z hz).2, fun z hz => (hn z hz).1, hk, hl, hx, by simp, fun y c h => (nomatch h), fun y hy => ?_, rfl, fun i y h => by simp at h⟩
  rw [e] at hy
  rcases hy with h | h
  · obtain ⟨z, h1, h2⟩ := lookup_mem h
    exact absurd h2 (hn z h1).1
  · obtain ⟨z, h1, h2⟩ := lookup_mem h
    exact absurd h2 (hn z h1).2
end L2
namespace L2
open PySem PySem.Spec PyProof.Rows
section
variable {X : Cx}
def tCutT (t : TT) : TT := fun σ H Q => ∃ R : Bool → Hp → Prop, t σ H R ∧ ∀ b H', R b H' → Q b H'
theorem pt_cut {e : Expr} {t : TT} (h : PT X e t) : PT X e (tCutT t) := by
  intro pins s σ H Q I hw
  obtain ⟨R, h1, h2⟩ := hw
  refine thn (h pins s σ H R I h1) fun b s1 q => ?_
  obtain ⟨H', I', q⟩ := q
  exact ⟨H', I', h2 _ _ q⟩
end
end L2
namespace L2
open PySem PySem.Spec PyProof.Rows
section
variable {X : Cx} {pins : List (Addr × Obj)} {σ : St} {H : Hp} {s : Shared} {h' : Heap}
theorem Inv.turnedL {ch : List Addr} {t' : Nat} (I : Inv X pins σ H s) (k : ∀ b o, b ∉ ch → s.heap.get? b = some o → h'.get? b = some o) (hf : ∀ b ∈ ch, FpOk X pins H b) : Inv X pins σ H { s with heap := h', toks := t' } := by
  have nch : ∀ b u, H b = some u → b ∉ ch := fun b u e z => by rw [(hf b z).1] at e; cases e
  refine I.step (g' := s.gens) (d' := s.drawn) (ch := ch) (fun b hb => ?_) (fun b o _ _ hc e _ => k b o hc e) (fun b o _ _ hc e _ => ⟨o.slots, k b o hc e⟩) (fun _ _ _ _ n => n)
    (fun b o hc e => ⟨o, k b o hc e⟩) (fun _ _ e => e) (fun _ _ _ e => e) (fun b ps e => ⟨#[], by rw [e]; simp⟩) (fun m hm => ?_) (fun b u e => ?_) I.bare
  · obtain ⟨f0, f1, f2, f3, f4, f5⟩ := hf b hb
    exact ⟨f3, f1, f4, f5⟩
  · obtain ⟨o, es, ep, ho, r⟩ := hm
    exact ⟨o, es, ep, k _ o (fun z => (hf _ z).2.1 rfl) ho, r⟩
  · refine (I.hok b u e).stay (fun c v hc q => k c v ?_ q) (fun _ q => q) fun _ _ q => q
    rcases hc with z | z
    · rw [z]; exact nch b u e
    · exact nch c _ z
theorem Inv.turnedNew {ch : List Addr} {t' : Nat} {a : Addr} {o : HO} (I : Inv X pins σ H s) (k : ∀ b o, b ∉ ch → s.heap.get? b = some o → h'.get? b = some o) (hf : ∀ b ∈ ch, FpOk X pins H b)
    (hp : s.heap.objs.size ≤ a) (new : ObjOk X.prog X.w (upd H a o) h' a o) : Inv X pins σ (upd H a o) { s with heap := h', toks := t' } := by
  have hn : H a = none := I.hok.fresh hp
  have nch : ∀ b u, H b = some u → b ∉ ch := fun b u e z => by rw [(hf b z).1] at e; cases e
  have lt : ∀ b u, s.heap.get? b = some u → b ≠ a := fun b u e => Nat.ne_of_lt (Nat.lt_of_lt_of_le (Heap.lt_size e) hp)
  refine I.step (g' := s.gens) (d' := s.drawn) (ch := ch) (fun b hb => ?_) (fun b o _ _ hc e _ => k b o hc e) (fun b o _ _ hc e _ => ⟨o.slots, k b o hc e⟩) (fun b u _ e n => by rw [upd_ne (lt b u e)]; exact n)
    (fun b o hc e => ⟨o, k b o hc e⟩) (fun b xs e => by rw [upd_ne (ne_of_none e hn)]; exact e) (fun b u xs e => by rw [upd_ne (ne_of_none e hn)]; exact e) (fun b ps e => ⟨#[], by rw [upd_ne (ne_of_none e hn), e]; simp⟩) (fun m hm => ?_) (fun b u e => ?_) I.bare
  · obtain ⟨f0, f1, f2, f3, f4, f5⟩ := hf b hb
    exact ⟨f3, f1, f4, f5⟩
  · obtain ⟨o, es, ep, ho, r⟩ := hm
    exact ⟨o, es, ep, k _ o (fun z => (hf _ z).2.1 rfl) ho, r⟩
  · by_cases hb : b = a
    · subst hb
      rw [upd_same] at e; cases e
      exact new
    · rw [upd_ne hb] at e
      refine (I.hok b u e).stay (fun c v hc q => k c v ?_ q) (fun c q => by rw [upd_ne (ne_of_none q hn)]; exact q) fun c xs q => by rw [upd_ne (ne_of_none q hn)]; exact q
      rcases hc with z | z
      · rw [z]; exact nch b u e
      · exact nch c _ z
end
def Itz (K : PySem.W.Frag) (a b : Addr) (xs ys : List V) : It :=
  ⟨fun i H => SqL K H a xs ∧ SqL K H b ys ∧ i < xs.length ∧ i < ys.length,
   fun i H x H' => ∃ p u v, H p = none ∧ x = .ref p ∧ H' = upd H p (.tup [u, v]) ∧ xs[i]? = some u ∧ ys[i]? = some v,
   fun i H => SqL K H a xs ∧ SqL K H b ys ∧ (xs.length ≤ i ∨ ys.length ≤ i)⟩
theorem turn_zip {P : Program} {w : World} {K : PySem.W.Frag} {elts : List Expr} {k1 : Nat} {pos : Pos} (a b z : Addr) (xs ys : List V) (TI TO i1 i2 : Addr) (Ap : ZipApart z TI TO i1 i2 a b) :
    Turn P w K (.Tuple elts k1 pos) (Itz K a b xs ys) [z, TI, TO, i1, i2] z (fun i h => IsZip h z TI TO .none ∧ IsPair h TI (.ref i1) (.ref i2) ∧ (∃ u v, IsPair h TO u v) ∧ h.IsListIter i1 a i ∧ h.IsListIter i2 b i) where
  mem := by simp
  obj := fun i h st c hc => by
    obtain ⟨hz, hTI, ⟨u, v, hTO⟩, h1, h2⟩ := st
    simp only [List.mem_cons, List.mem_nil_iff, or_false] at hc
    rcases hc with rfl | rfl | rfl | rfl | rfl
    · exact ⟨_, hz, fun v z => by have z' : Data.fields _ = Data.cell v := z; cases z'⟩
    · exact ⟨_, hTI, fun v z => by have z' : Data.seq _ _ = Data.cell v := z; cases z'⟩
    · exact ⟨_, hTO, fun v z => by have z' : Data.seq _ _ = Data.cell v := z; cases z'⟩
    · obtain ⟨o, e, c, d⟩ := h1; exact ⟨o, e, fun v z => by rw [d] at z; cases z⟩
    · obtain ⟨o, e, c, d⟩ := h2; exact ⟨o, e, fun v z => by rw [d] at z; cases z⟩
  keep := fun i h h' st k => by
    obtain ⟨hz, hTI, ⟨u, v, hTO⟩, h1, h2⟩ := st
    exact ⟨k z (by simp) _ hz, k TI (by simp) _ hTI, ⟨u, v, k TO (by simp) _ hTO⟩, h1.at fun o e => k i1 (by simp) o e, h2.at fun o e => k i2 (by simp) o e⟩
  item := by
    intro X hP hw hK hc i pins s σ H E I hf st hg
    subst hP hw hK
    obtain ⟨hz, hTI, ⟨u0, v0, hTO⟩, h1, h2⟩ := st
    obtain ⟨qa, qb, lx, ly⟩ := hg
    obtain ⟨its, rv, p, _⟩ := I.list qa
    obtain ⟨its2, rv2, p2, _⟩ := I.list qb
    have ex : xs[i]? = some xs[i] := List.getElem?_eq_getElem lx
    have ey : ys[i]? = some ys[i] := List.getElem?_eq_getElem ly
    obtain ⟨u, hu, ru⟩ := rv.get ex
    obtain ⟨v, hv, rv'⟩ := rv2.get ey
    refine wpAny_pyNext_zip_item Ap hz hTI hTO h1 h2 p.isList p2.isList (x := u) (y := v) (by simpa using hu) (by simpa using hv) fun h' a1 a2 a3 a4 a5 a6 hk => ?_
    refine ⟨.ref s.heap.objs.size, rfl, wpAny_letOwnedTupleGo_zip (s := { s with heap := h' }) a1 fun h'' hz' hs' => ?_⟩
    have lt : ∀ {c o}, s.heap.get? c = some o → c ≠ s.heap.objs.size := fun e => Nat.ne_of_lt (Heap.lt_size e)
    have e5 : IsPair h'' s.heap.objs.size u v := (hs'.2 _ (Ne.symm (lt hz))).trans a5
    have hch : ∀ c ∈ [z, TO, i1, i2], FpOk X pins H c := fun c hc => hf c (by
      simp only [List.mem_cons, List.mem_nil_iff, or_false] at hc ⊢
      rcases hc with rfl | rfl | rfl | rfl <;> simp)
    have I2 : Inv X pins σ (upd H s.heap.objs.size (.tup [xs[i], ys[i]])) { s with heap := h'', toks := s.toks } := by
      refine I.turnedNew (ch := [z, TO, i1, i2]) (fun c o hc e => ?_) hch (Nat.le_refl _) ⟨by show 2 ≤ sizeLine; decide, [u, v], .cons ru (.cons rv' .nil), ⟨_, e5, rfl, _, rfl⟩⟩
      simp only [List.mem_cons, List.mem_nil_iff, or_false, not_or] at hc
      exact (hs'.2 c hc.1).trans (hk c o hc.1 hc.2.1 hc.2.2.1 hc.2.2.2 e)
    have hfr : ∀ c ∈ [z, TI, TO, i1, i2], upd H s.heap.objs.size (.tup [xs[i], ys[i]]) c = none := fun c hc => by
      have hc2 := hf c hc
      have : c ≠ s.heap.objs.size := by
        simp only [List.mem_cons, List.mem_nil_iff, or_false] at hc
        rcases hc with rfl | rfl | rfl | rfl | rfl
        · exact lt hz
        · exact lt hTI
        · exact lt hTO
        · obtain ⟨o, e, _⟩ := h1; exact lt e
        · obtain ⟨o, e, _⟩ := h2; exact lt e
      rw [upd_ne this]; exact hc2.1
    exact ⟨.ref s.heap.objs.size, _, I2, rfl, ⟨s.heap.objs.size, _, _, I.fresh, rfl, rfl, ex, ey⟩, ⟨hz', hs'.extBut _ _ Ap.TIz (hk _ _ Ap.TIz Ap.TITO Ap.TIi1 Ap.TIi2 hTI), ⟨_, _, hs'.extBut _ _ Ap.TOz a2⟩, a3.extBut hs'.extBut Ap.i1z, a4.extBut hs'.extBut Ap.i2z⟩, hfr⟩
  done := by
    intro X hP hw hK hc i pins s σ H E I hf st hg
    subst hP hw hK
    obtain ⟨hz, hTI, ⟨u0, v0, hTO⟩, h1, h2⟩ := st
    obtain ⟨qa, qb, hl⟩ := hg
    obtain ⟨its, rv, p, _⟩ := I.list qa
    obtain ⟨its2, rv2, p2, _⟩ := I.list qb
    have l1 := rv.length
    have l2 := rv2.length
    have hch : ∀ c ∈ [z, TO, i1, i2], FpOk X pins H c := fun c hc => hf c (by
      simp only [List.mem_cons, List.mem_nil_iff, or_false] at hc ⊢
      rcases hc with rfl | rfl | rfl | rfl <;> simp)
    refine wpAny_pyNext_zip_end (I.ok.hd hc) Ap hz hTI hTO h1 h2 p.isList p2.isList ?_ fun h' hk => ⟨rfl, I.turnedL (t' := s.toks) (ch := [z, TO, i1, i2]) (fun c o hc e => ?_) hch⟩
    · rcases hl with q | q
      · exact .inl (by simp; omega)
      · exact .inr (by simp; omega)
    · simp only [List.mem_cons, List.mem_nil_iff, or_false, not_or] at hc
      exact hk c o hc.1 hc.2.1 hc.2.2.1 hc.2.2.2 e
  self := fun _ _ _ _ _ st h => wpAny_pyIter_zip st.1 h
theorem nne {x y : Nat} (h : x < y ∨ y < x) : x ≠ y := by omega
section
variable {X : Cx} {elts : List Expr} {k1 : Nat} {tpos : Pos}
def iZip (K : PySem.W.Frag) (ta : TA) : TI := fun σ H R => ta σ H fun vs H1 => ∃ a b xs ys, vs = [.ref a, .ref b] ∧ SqL K H1 a xs ∧ SqL K H1 b ys ∧ R (Itz K a b xs ys) H1
theorem pi_zip {e1 e2 : Expr} {ta : TA} {p pos : Pos} (hg : Gl X "zip") (hm : X.mg "zip" = none) (ha : PA X [e1, e2] ta) (hs : starEach [e1, e2] X.env = [(false, eval e1 X.env), (false, eval e2 X.env)] := by rfl) (hs2 : starEach [e2] X.env = [(false, eval e2 X.env)] := by rfl) :
    PI X (.Tuple elts k1 tpos) (.Call (.Name "zip" p) [e1, e2] [] pos) (iZip X.K ta) := by
  intro pins s σ H R I h
  refine Call_ (ld_blt I hg hm PyProof.Rows.boot_zip (PyProof.Rows.callWith_type1 (thn (ha pos pins s σ H _ I h) fun us s1 ⟨vs, H1, I1, r1, q1⟩ => ?_) (by rw [hs, hs2]) (by rw [hs2]; rfl)))
  obtain ⟨a, b, xs, ys, e, qa, qb, q⟩ := q1
  subst e
  obtain ⟨u1, u2, e3, r3, r4⟩ := r1.two
  subst e3
  cases (show u1 = Value.ref a from r3)
  cases (show u2 = Value.ref b from r4)
  obtain ⟨its, rv, pl, _⟩ := I1.list qa
  obtain ⟨its2, rv2, pl2, _⟩ := I1.list qb
  have la : @LT.lt Nat _ a s1.heap.objs.size := by obtain ⟨o, n, e, _⟩ := pl; exact Heap.lt_size e
  have lb : @LT.lt Nat _ b s1.heap.objs.size := by obtain ⟨o, n, e, _⟩ := pl2; exact Heap.lt_size e
  refine call_zip_2 pl.isList pl2.isList fun h' hz hTI hTO h1 h2 hsz hk => ?_
  refine wpAny_pyIter_zip hz ?_
  have I2 : Inv X pins σ H1 { s1 with heap := h' } := I1.kept (t' := s1.toks) hk
  refine ⟨s1.heap.objs.size + 4, [s1.heap.objs.size + 4, s1.heap.objs.size + 2, s1.heap.objs.size + 3, s1.heap.objs.size, s1.heap.objs.size + 1], _, _, H1, rfl, I2,
    turn_zip a b (s1.heap.objs.size + 4) xs ys (s1.heap.objs.size + 2) (s1.heap.objs.size + 3) s1.heap.objs.size (s1.heap.objs.size + 1) ?_, ⟨hz, hTI, ⟨_, _, hTO⟩, h1, h2⟩, fun c hc => ?_, q⟩
  · constructor <;> (refine nne ?_; omega)
  · have hle : @LE.le Nat _ s1.heap.objs.size c := by
      simp only [List.mem_cons, List.mem_nil_iff, or_false] at hc
      rcases hc with rfl | rfl | rfl | rfl | rfl <;> omega
    exact I1.fpOk hle (I1.hok.fresh hle)
end
end L2
namespace L2
open PySem PySem.Spec PyProof.Rows
theorem vals_items : ∀ {ns : List Int} {us : List Value}, Vals (ns.map V.int) us → ∃ xs : List (Int × Tok), us = xs.map (fun p => Value.int p.1 p.2) ∧ xs.map (·.1) = ns
  | [], _, .nil => ⟨[], rfl, rfl⟩
  | n :: ns, _, .cons r rr => by
    obtain ⟨t, e⟩ := r
    obtain ⟨xs, e1, e2⟩ := vals_items rr
    exact ⟨(n, t) :: xs, by rw [e, e1]; rfl, by rw [List.map_cons, e2]⟩
theorem items_arr (xs : List (Int × Tok)) : intItems xs.toArray = (xs.map (fun p => Value.int p.1 p.2)).toArray := by
  simp [intItems]
theorem pre_sum (xs : List (Int × Tok)) (j : Nat) : preSum (numAt xs.toArray) j = ((xs.map (·.1)).take j).sum := by rw [preSum_eq]
section
variable {X : Cx}
end
section
variable {prog : Program} {w : World} {A : Around} {R : Result → Shared → Prop} {I : Addr} {fp wr : List Addr} {n : Nat} {P : Nat → Value → Prop} {St : Nat → Heap → Prop}
end
section
variable {prog : Program} {w : World} {A : Around} {E : Value → Shared → Prop} {s : Shared}
end
end L2
namespace L2
open PySem PySem.Spec PyProof.Rows
section
variable {X : Cx} {x : Str} {p pos : Pos} {e : Expr} {es : List Expr} {kws : List Keyword} {t tk : TA} {id : String} {ks : List Str} {r : List V → List V → Hp → VK → Prop}
theorem comp_tup {K : PySem.W.Frag} {a acc : Addr} {xs : List V} {tt : TT} {te : TE} {cs : List (Option V)} {H1 : Hp} {Q : Hp → Prop} (Pv : Nat → List V → Hp → Prop) (h0 : Pv 0 [] (upd H1 acc (.lst [])))
    (hl : ∀ i ys H, i ≤ xs.length → Pv i ys H → SqT K H a xs)
    (hs : ∀ i x ys H, i < xs.length → xs[i]? = some x → Pv i ys H → tt (some x :: cs) H fun ok H4 => if ok = true then te (some x :: cs) H4 (compN xs.length Pv acc i (xs.length - i)) else ∃ m', m' < xs.length - i ∧ compW xs.length Pv (i + 1) m' H4)
    (hd : ∀ ys H, Pv xs.length ys H → Q H) :
    ∃ W : Nat → Nat → Hp → Prop, (∃ m, W 0 m (upd H1 acc (.lst []))) ∧ ∀ i m H2, W i m H2 →
      ((Itt K a).stop i H2 ∧ Q H2) ∨ ((Itt K a).go i H2 ∧ ∀ x H3, (Itt K a).yld i H2 x H3 → tt (some x :: cs) H3 fun ok H4 => if ok = true then
        te (some x :: cs) H4 (fun y H5 => ∃ ys, H5 acc = some (.lst ys) ∧ ys.length < sizeLine ∧ ∃ m', m' < m ∧ W (i + 1) m' (upd H5 acc (.lst (ys ++ [y]))))
        else ∃ m', m' < m ∧ W (i + 1) m' H4) := by
  refine ⟨compW xs.length Pv, ⟨xs.length - 0, rfl, Nat.zero_le _, [], h0⟩, ?_⟩
  rintro i m H2 ⟨rfl, hi, ys, p⟩
  have hq := hl i ys H2 hi p
  by_cases h : i < xs.length
  · refine .inr ⟨⟨xs, xs[i], hq, List.getElem?_eq_getElem h⟩, ?_⟩
    rintro x H3 ⟨rfl, hx⟩
    exact hs i x ys _ h (hx xs hq) p
  · have e : i = xs.length := by omega
    subst e
    exact .inl ⟨⟨xs, hq, Nat.le_refl _⟩, hd ys H2 p⟩
end
end L2
namespace L2
open PySem PySem.Spec PyProof.Rows
structure CompG (X : Cx) (xs caps : List Str) (cap : List Nat) (scope : Scope) (cl : List (Str × Addr)) : Prop where
  clos : closureFor scope X.env = pure cl
  cell : ∀ y ∈ scope.names, y.2 ≠ .cell
  kind : scope.kind = .function
  names : ∀ y ∈ scope.names, y.2 = .local → scope.names.lookup y.1 = some .local
  lx : ∀ x ∈ xs, scope.names.lookup x = some .local
  nd : (xs ++ caps).Nodup
  from_ : ∀ y c, cl.lookup y = some c → X.env.cells.lookup y = some c
  has : ∀ y, ((relabel scope X.env).names.lookup y = some .cell ∨ (relabel scope X.env).names.lookup y = some .free) → ∃ c, cl.lookup y = some c
  len : cap.length = caps.length
  cps : ∀ (i : Nat) (y : Str), caps[i]? = some y → ∃ j, cap[i]? = some j ∧ X.N[j]? = some y ∧ X.env.scope.names.lookup y = some .cell ∧ (relabel scope X.env).names.lookup y = some .cell
def capV (cap : List Nat) (σ : St) : St := cap.map fun j => (σ[j]?).getD none
def tCompG (n : Nat) (wi : TI) (cap : List Nat) (g : TG) (tt : TT) (te : TE) : TE := fun σ H Q => wi σ H fun J H1 => ∀ acc, H1 acc = none → ∃ W : Nat → Nat → Hp → Prop, (∃ m, W 0 m (upd H1 acc (.lst []))) ∧ ∀ i m H2, W i m H2 →
  (J.stop i H2 ∧ Q (.ref acc) H2) ∨ (J.go i H2 ∧ ∀ x H3, J.yld i H2 x H3 → ∀ as : St, as.length = n → g x (as ++ capV cap σ) H3 fun σ4 H4 => (∃ bs : St, bs.length = n ∧ σ4 = bs ++ capV cap σ) ∧ tt σ4 H4 fun ok H5 => if ok = true then
    te σ4 H5 (fun y H6 => ∃ ys, H6 acc = some (.lst ys) ∧ ys.length < sizeLine ∧ ∃ m', m' < m ∧ W (i + 1) m' (upd H6 acc (.lst (ys ++ [y]))))
    else ∃ m', m' < m ∧ W (i + 1) m' H5)
theorem compG_core {X : Cx} {elt iter tg : Expr} {xs : List Str} {ifs : List Expr} {scope : Scope} {pos pos' : Pos} {wi : TI} {g : TG} {tt : TT} {te : TE} {cl : List (Str × Addr)} {caps : List Str} {cap : List Nat}
    (O : CompG X xs caps cap scope cl) (hc : X.calm = true) (hi : PI X tg iter wi) (hg : ∀ C fp s₀ H₀, PG (compX X (xs ++ caps) scope cl C fp s₀ H₀) tg g)
    (ht : ∀ C fp s₀ H₀, PF (compX X (xs ++ caps) scope cl C fp s₀ H₀) ifs tt) (he : ∀ C fp s₀ H₀, PE (compX X (xs ++ caps) scope cl C fp s₀ H₀) elt te)
    (hs : ∀ x, foldedSetIterable iter X.env x = pure x) {pins : List (Addr × Obj)} {s : Shared} {σ : St} {H : Hp} {Q : VK} {use : Option (Value → Sem Unit)} {QQ : Value → Shared → Prop} (I : Inv X pins σ H s)
    (h : tCompG xs.length wi cap g tt te σ H Q)
    (hfin : ∀ D C H' s', Inv X pins σ H' s' → OwnAt X pins H' s' C → Q (.ref D) H' → compPost (model X.prog X.w) X.A X.xe use QQ (.ref D) C (.ok .next) s') :
    wpAny (model X.prog X.w) X.A (comprehension (.ListComp elt [⟨tg, iter, ifs, 0⟩] scope pos) scope X.env pos' (newList []) false (eval iter X.env) use) QQ X.xe s := by
  refine wpAny_comprehension_free rfl hs O.clos O.kind O.names (thn (hi pins s σ H _ I h) fun v s1 h1 => thn h1 fun itv s2 h2 => ?_)
  obtain ⟨it, fp, tn, J, H1, e, I2, T, t0, f2, hR⟩ := h2
  subst e
  refine wpAny_newObj_type (wpAny_newFunctionEnv O.cell (by intro y hy; simp at hy) (fun h₁ hns hsb => ?_) O.kind)
  have hacc : H1 s2.heap.objs.size = none := I2.fresh
  obtain ⟨W, ⟨m0, w0⟩, turn⟩ := hR s2.heap.objs.size hacc
  have I3 : Inv X pins σ (upd H1 s2.heap.objs.size (.lst [])) { s2 with heap := s2.heap.push { cls := .type "list", data := .seq ([] : List Value).toArray } } := I2.lnew (t' := s2.toks) (ys := []) (its := []) .nil (Nat.zero_le _)
  generalize hs3 : ({ s2 with heap := s2.heap.push { cls := .type "list", data := .seq ([] : List Value).toArray } } : Shared) = s3 at hns hsb I3 ⊢
  generalize hD : s2.heap.objs.size = D at I3 w0 turn hacc ⊢
  generalize hH3 : upd H1 D (.lst []) = H3 at I3 w0
  have keep3 : ∀ b o, s3.heap.get? b = some o → h₁.get? b = some o := fun b o e => (hsb.2 b (Nat.ne_of_lt (Heap.lt_size e))).trans (Heap.get?_push_of_some _ e)
  have hfp3 : ∀ b ∈ fp, H3 b = none := fun b hb => by
    rw [← hH3, upd_ne]
    · exact (f2 b hb).1
    · intro z
      obtain ⟨o, e, _⟩ := T.obj _ _ t0 b hb
      exact absurd (Heap.lt_size e) (by rw [z, hD]; exact Nat.lt_irrefl _)
  have hCfresh : H3 s3.heap.objs.size = none := I3.fresh
  have hCfp : ∀ b ∈ fp, b ≠ s3.heap.objs.size := fun b hb z => by
    obtain ⟨o, e, _⟩ := T.obj _ _ t0 b hb
    have h2 : s3.heap.objs.size = s2.heap.objs.size + 1 := by rw [← hs3]; exact Heap.size_push ..
    exact absurd (Heap.lt_size e) (by rw [z, h2]; exact Nat.not_lt.mpr (Nat.le_succ _))
  have t3 : tn 0 h₁ := T.keep _ _ _ t0 fun b hb o e => keep3 b o (by rw [← hs3]; exact Heap.get?_push_of_some _ e)
  have ok' : (compX X (xs ++ caps) scope cl s3.heap.objs.size fp s3 H3).Ok := by
    refine ⟨I3.ok.mod, O.kind, I3.ok.glob, I3.ok.blt, Nat.le_refl _, fun y z c e1 e2 => I3.ok.inj y z c (O.from_ y c e1) (O.from_ z c e2), fun y hy => O.has y hy, fun y c z _ => (nomatch z), I3.ok.hd, I3.ok.frames, .inl rfl, fun b hb => ⟨hCfp b hb, fun y c e => ?_⟩, I3.bs, Nat.le_trans I3.ok.bsz I3.sz, fun b o e hb => ?_, fun b hb z => ?_, I3.stack, I3.stkFree⟩
    · exact (f2 b hb).2.2.2.2.1 y c (O.from_ y c e)
    · rcases (f2 b hb).2.2.2.1 with q | q
      · exact I3.ok.noex b o e q
      · exact absurd (Nat.lt_of_lt_of_le (Heap.lt_size e) (Nat.le_trans I3.ok.bsz q)) (Nat.lt_irrefl _)
    · rcases List.mem_cons.mp (I3.stkSub b z) with q | q
      · exact (f2 b hb).2.1 q
      · exact (f2 b hb).2.2.1 q
  have I4 : Inv (compX X (xs ++ caps) scope cl s3.heap.objs.size fp s3 H3) [] (List.replicate xs.length none ++ capV cap σ) H3 { s3 with heap := h₁, toks := s3.toks + ([] : List (Str × Value)).length } := by
    obtain ⟨m, hn, hl⟩ := id I3.loc
    refine ⟨ok', rfl, I3.bare, Un.kept keep3, ⟨_, hns, fun i y v e1 e2 e3 => ?_⟩, fun y c e => ?_, hCfresh, fun y c e => I3.freeC y c (O.from_ y c e), fun p hp => (nomatch hp), I3.hok.kept keep3, ?_⟩
    · by_cases hix : i < xs.length
      · rw [List.getElem?_append_left (by rw [List.length_replicate]; exact hix), List.getElem?_replicate, if_pos hix] at e2
        cases e2
      · have e1' : caps[i - xs.length]? = some y := by
          have e1'' : (xs ++ caps)[i]? = some y := e1
          rwa [List.getElem?_append_right (by omega)] at e1''
        obtain ⟨j, hj, hN, hk, hk'⟩ := O.cps _ y e1'
        have e2' : (σ[j]?).getD none = some v := by
          rw [List.getElem?_append_right (by rw [List.length_replicate]; omega), List.length_replicate] at e2
          unfold capV at e2
          simpa [hj] using e2
        have e2'' : σ[j]? = some (some v) := by
          cases q : σ[j]? with
          | none => rw [q] at e2'; cases e2'
          | some a => rw [q] at e2'; exact congrArg some e2'
        obtain ⟨u, r, l⟩ := hl j y v hN e2'' (.inr (.inl hk))
        refine ⟨u, r, ?_⟩
        rcases l with ⟨k, _⟩ | ⟨k, c, e, z⟩
        · have k' : X.env.scope.names.lookup y = some .local := k
          rw [hk] at k'; cases k'
        · obtain ⟨c', hc'⟩ := O.has y (.inl hk')
          have : c' = c := Option.some.inj ((O.from_ y c' hc').symm.trans e)
          subst this
          refine .inr ⟨.inl hk', c', hc', ?_⟩
          obtain ⟨o, ho, hd⟩ := z
          exact ⟨o, keep3 _ _ ho, hd⟩
    · obtain ⟨v, o, ho, hd⟩ := I3.cell y c (O.from_ y c e)
      exact ⟨v, o, keep3 _ _ ho, hd⟩
    · show (List.replicate xs.length none ++ capV cap σ).length = (xs ++ caps).length
      simp [capV, O.len]
  have fin : ∀ (H' : Hp) (σ' : St) (s' : Shared), Inv (compX X (xs ++ caps) scope cl s3.heap.objs.size fp s3 H3) [] σ' H' s' → Q (.ref D) H' →
      compPost (model X.prog X.w) X.A X.xe use QQ (.ref D) s3.heap.objs.size (.ok .next) s' := fun H' σ' s' I' q => by
    obtain ⟨m, hn, _⟩ := id I'.loc
    have hU : Un (frs X.stack) fp H3 H' s3.heap s'.heap := I'.base
    have hok2 : HOk X.prog X.w H' s'.heap := I'.hok
    have os' : s'.os = s3.os := I'.os
    have I6 : Inv X pins σ H' s' := I3.call' (ch := fp) os' hU hok2 I'.bare (fun b hb => ⟨(f2 b hb).2.2.2.1, (f2 b hb).2.1, (f2 b hb).2.2.2.2⟩)
    refine hfin D _ H' s' I6 ⟨⟨m, hn⟩, I'.free, Nat.ne_of_gt I3.lt, I3.sz, fun y c e z => ?_, fun p hp z => ?_⟩ q
    · obtain ⟨v, hv⟩ := I3.cell y c e
      exact absurd hv.lt (by rw [z]; exact Nat.lt_irrefl _)
    · exact absurd (Heap.lt_size (I3.pin p hp).1) (by rw [z]; exact Nat.lt_irrefl _)
  have stat : ∀ {H' : Hp}, (∀ b ∈ fp, H' b = none) → ∀ b ∈ fp, FpOk (compX X (xs ++ caps) scope cl s3.heap.objs.size fp s3 H3) [] H' b := fun hn b hb =>
    ⟨hn b hb, hCfp b hb, ok'.exfs b hb, .inl hb, fun y c e => (f2 b hb).2.2.2.2.1 y c (O.from_ y c e), fun p hp => (nomatch hp)⟩
  have loop : codeAny (model X.prog X.w) X.A (.compLoop (.ListComp elt [⟨tg, iter, ifs, 0⟩] scope pos) 0 (.ref it) (.ref D) (compEnvC scope cl s3.heap.objs.size X.env))
      (compPost (model X.prog X.w) X.A X.xe use QQ (.ref D) s3.heap.objs.size) { s3 with heap := h₁, toks := s3.toks + ([] : List (Str × Value)).length } := by
    refine codeAny_loop rfl (fun n s' => ∃ i as H', as.length = xs.length ∧ Inv (compX X (xs ++ caps) scope cl s3.heap.objs.size fp s3 H3) [] (as ++ capV cap σ) H' s' ∧ tn i s'.heap ∧ (∀ b ∈ fp, H' b = none) ∧ W i n H') ?_ m0 ⟨0, _, H3, List.length_replicate, I4, t3, hfp3, w0⟩
    rintro n s5 ⟨i, as, H5, has, I5, st5, fr5, w5⟩
    show wpAny _ _ ((compTurn (.ListComp elt [⟨tg, iter, ifs, 0⟩] scope pos) 0 (.ref it) (.ref D) (compEnvC scope cl s3.heap.objs.size X.env)).onRaise (fun x => do noteFrame x (compEnvC scope cl s3.heap.objs.size X.env); theTreesLotGoes x)) _ _ s5
    refine wpAny_noted ?_
    rw [compTurn_list]
    refine wpAny_bind (wpAny_standAt (wpAny_bind ?_))
    have bad : ∀ {M : Model} {A : Around} {α : Type} {t : Sem α} {P : α → Shared → Prop} {E' : Value → Shared → Prop} {s' : Shared}, wpAny M A t P (fun _ _ => False) s' → wpAny M A t P E' s' := fun h => wpAny_mono h (fun _ _ q => q) fun _ _ z => z.elim
    rcases turn i n H5 w5 with ⟨stop, qn⟩ | ⟨go, step⟩
    · refine bad (thn (T.done (compX X (xs ++ caps) scope cl s3.heap.objs.size fp s3 H3) rfl rfl rfl hc i [] s5 _ H5 (fun _ _ => False) I5 (stat fr5) st5 stop) fun r s6 ⟨hr, I6⟩ => ?_)
      subst hr
      exact wpAny_pure (fin H5 _ s6 I6 qn)
    · refine bad (thn (T.item (compX X (xs ++ caps) scope cl s3.heap.objs.size fp s3 H3) rfl rfl rfl hc i [] s5 _ H5 (fun _ _ => False) I5 (stat fr5) st5 go) fun r s6 ⟨u, hr, h6⟩ => ?_)
      subst hr
      refine wpAny_bind (bad (thn h6 fun _ s7 ⟨y, H7, I7, r7, y7, st7, fr7⟩ => ?_))
      have I7' := I7.pinned (stat fr7) (T.obj _ _ st7)
      have goal := step y H7 y7 as has
      refine wpAny_bind (bad (thn (hg s3.heap.objs.size fp s3 H3 _ s7 _ H7 y _ _ I7' r7 goal) fun _ s8 ⟨σ8, H8, I8, ⟨bs, hbs, eσ⟩, goal8⟩ => ?_))
      subst eσ
      refine wpAny_bind (bad (thn (ht s3.heap.objs.size fp s3 H3 _ s8 _ H8 _ I8 goal8) fun okb s9 ⟨H9, I9, q9⟩ => ?_))
      have again : ∀ {H10 : Hp} {s10 : Shared} {m' : Nat}, Inv (compX X (xs ++ caps) scope cl s3.heap.objs.size fp s3 H3) ([] ++ pinsAt fp s7.heap) (bs ++ capV cap σ) H10 s10 → m' < n → W (i + 1) m' H10 →
          ∃ m, m < n ∧ ∃ i as H', as.length = xs.length ∧ Inv (compX X (xs ++ caps) scope cl s3.heap.objs.size fp s3 H3) [] (as ++ capV cap σ) H' s10 ∧ tn i s10.heap ∧ (∀ b ∈ fp, H' b = none) ∧ W i m H' := fun {H10 s10 m'} I10 hm w10 => by
        refine ⟨m', hm, i + 1, bs, H10, hbs, I10.unpinned, T.keep _ _ _ st7 fun b hb o e => (I10.pin (b, o) (List.mem_append_right _ (List.mem_append_right _ (mem_pinsAt hb e)))).1, fun b hb => ?_, w10⟩
        obtain ⟨o, e, d⟩ := T.obj _ _ st7 b hb
        exact (I10.pin (b, o) (List.mem_append_right _ (List.mem_append_right _ (mem_pinsAt hb e)))).2.1
      cases okb with
      | false =>
        rw [if_neg Bool.false_ne_true] at q9
        obtain ⟨m', hm, w9⟩ := q9
        exact wpAny_pure ⟨rfl, again I9 hm w9⟩
      | true =>
        rw [if_pos rfl] at q9
        refine wpAny_bind (wpAny_bind (bad (thn (he s3.heap.objs.size fp s3 H3 _ s9 _ H9 _ I9 q9) fun yv s10 ⟨yy, H10, I10, r10, ys, hys, hlen, m', hm, w10⟩ => ?_)))
        refine wpAny_bind (bad (thn (mt_append (X := compX X (xs ++ caps) scope cl s3.heap.objs.size fp s3 H3) _ s10 _ H10 (.ref D) [yy] (.ref D) [yv] (fun _ H11 => W (i + 1) m' H11) I10 rfl (.cons r10 .nil) ⟨D, ys, yy, rfl, rfl, hys, hlen, w10⟩) fun _ s11 ⟨_, H11, I11, _, q11⟩ => ?_))
        exact wpAny_pure (wpAny_pure ⟨rfl, again I11 hm q11⟩)
  refine codeAny_compStart_list loop (T.self _ 0 _ _ _ t3 loop)
theorem pe_lcompG {X : Cx} {elt iter tg : Expr} {xs : List Str} {ifs : List Expr} {scope : Scope} {pos : Pos} {wi : TI} {g : TG} {tt : TT} {te : TE} {cl : List (Str × Addr)} {caps : List Str} {cap : List Nat}
    (O : CompG X xs caps cap scope cl) (hc : X.calm = true) (hi : PI X tg iter wi) (hg : ∀ C fp s₀ H₀, PG (compX X (xs ++ caps) scope cl C fp s₀ H₀) tg g)
    (ht : ∀ C fp s₀ H₀, PF (compX X (xs ++ caps) scope cl C fp s₀ H₀) ifs tt) (he : ∀ C fp s₀ H₀, PE (compX X (xs ++ caps) scope cl C fp s₀ H₀) elt te)
    (hs : ∀ x, foldedSetIterable iter X.env x = pure x := by intro _; rfl) :
    PE X (.ListComp elt [⟨tg, iter, ifs, 0⟩] scope pos) (tCompG xs.length wi cap g tt te) := by
  intro pins s σ H Q I h
  rw [eval_ListComp]
  exact compG_core (use := none) O hc hi hg ht he hs I h fun D C H' s' I' o q => by
    obtain ⟨m, hn⟩ := o.ns
    exact ⟨m, hn, fun h' hb => ⟨.ref D, H', o.go I' hb, rfl, q⟩⟩
theorem ps_setG {X : Cx} {elt iter tg : Expr} {xs : List Str} {y : Str} {py : Pos} {ifs : List Expr} {scope : Scope} {pos spos : Pos} {wi : TI} {g : TG} {tt : TT} {te : TE} {cl : List (Str × Addr)} {caps : List Str} {cap : List Nat} {i : Nat}
    (O : CompG X xs caps cap scope cl) (hc : X.calm = true) (hi : PI X tg iter wi) (hg : ∀ C fp s₀ H₀, PG (compX X (xs ++ caps) scope cl C fp s₀ H₀) tg g)
    (ht : ∀ C fp s₀ H₀, PF (compX X (xs ++ caps) scope cl C fp s₀ H₀) ifs tt) (he : ∀ C fp s₀ H₀, PE (compX X (xs ++ caps) scope cl C fp s₀ H₀) elt te)
    (hN : X.N.Nodup) (hy : X.N[i]? = some y) (hl : X.env.scope.names.lookup y = some .local)
    (hsw : swapsWith (.ListComp elt [⟨tg, iter, ifs, 0⟩] scope pos) (some (.Name y py)) spos.line X.env = pure true := by rfl)
    (hs : ∀ x, foldedSetIterable iter X.env x = pure x := by intro _; rfl) :
    PS X (.Assign [.Name y py] (.ListComp elt [⟨tg, iter, ifs, 0⟩] scope pos) spos) (tAsg (tCompG xs.length wi cap g tt te) (gName i)) := by
  intro pins s σ H D I h
  rw [exec_Assign_Name_used _ _ _ _ hsw]
  refine wpAny_bind (wpAny_standAt (wpAny_bind ?_))
  show wpAny _ X.A (do let _ ← comprehension (.ListComp elt [⟨tg, iter, ifs, 0⟩] scope pos) scope X.env _ (newList []) false (eval iter X.env) (some (assign (.Name y py) X.env))) _ _ s
  refine wpAny_bind (thn (compG_core (use := some (assign (.Name y py) X.env)) (QQ := fun _ s' => SP X pins D .next s') O hc hi hg ht he hs I h fun Dd C H' s' I' o q => ?_) fun _ s' hq => wpAny_pure (wpAny_pure hq))
  obtain ⟨m, hn⟩ := o.ns
  show wpAny _ X.A (assign (.Name y py) X.env (.ref Dd)) _ _ s'
  refine wpAny_assign_Name (store_ok2 (v := .ref Dd) I' hN hy (.inl hl) rfl (fun s2 I2 sb => ?_) (.inr hl))
  obtain ⟨a, sb, ha⟩ := sb
  have hCa : C ≠ a := by
    rcases ha with z | z
    · rw [z]; exact o.loc
    · exact Ne.symm (o.cells y a z)
  have o2 : OwnAt X pins H' s2 C := ⟨⟨m, hn.sameBut sb hCa⟩, o.free, o.loc, o.above, o.cells, o.pins⟩
  refine ⟨m, hn.sameBut sb hCa, fun h' hb => ?_⟩
  exact ⟨_, H', o2.go I2 hb, q⟩
section
variable {X : Cx} {xs caps : List Str} {cap : List Nat} {scope : Scope} {cl : List (Str × Addr)}
theorem pg_c1 {x : Str} {px : Pos} (O : CompG X [x] caps cap scope cl) : ∀ C fp s₀ H₀, PG (compX X ([x] ++ caps) scope cl C fp s₀ H₀) (.Name x px) (gName 0) := fun C fp s₀ H₀ =>
  pg_name (X := compX X ([x] ++ caps) scope cl C fp s₀ H₀) (i := 0) O.nd rfl (.inl (lookup_relabel_local (O.lx x (by simp)))) (.inr (lookup_relabel_local (O.lx x (by simp))))
theorem pg_c2 {x y : Str} {px py pos : Pos} {k : Nat} (O : CompG X [x, y] caps cap scope cl) (hc : X.calm = true) : ∀ C fp s₀ H₀, PG (compX X ([x, y] ++ caps) scope cl C fp s₀ H₀) (.Tuple [.Name x px, .Name y py] k pos) (gTup X.K 2 (gCons (gName 0) (gCons (gName 1) gNil))) := fun C fp s₀ H₀ =>
  pg_tup (X := compX X ([x, y] ++ caps) scope cl C fp s₀ H₀) hc (pgs_cons (pg_name (i := 0) O.nd rfl (.inl (lookup_relabel_local (O.lx x (by simp)))) (.inr (lookup_relabel_local (O.lx x (by simp)))))
    (pgs_cons (pg_name (i := 1) O.nd rfl (.inl (lookup_relabel_local (O.lx y (by simp)))) (.inr (lookup_relabel_local (O.lx y (by simp))))) pgs_nil))
end
theorem lookup_in {k : NameKind} {y : Str} : ∀ {l : List (Str × NameKind)}, l.lookup y = some k → (y, k) ∈ l
  | [], h => by simp at h
  | (n, j) :: r, h => by
    cases hx : y == n with
    | true =>
      simp only [List.lookup_cons, hx] at h
      have : y = n := by simpa using hx
      cases h
      rw [this]; exact List.mem_cons_self
    | false =>
      simp only [List.lookup_cons, hx] at h
      exact List.mem_cons_of_mem _ (lookup_in h)
theorem lookupA_in {y : Str} {c : Addr} : ∀ {l : List (Str × Addr)}, l.lookup y = some c → (y, c) ∈ l
  | [], h => by simp at h
  | (n, j) :: r, h => by
    cases hx : y == n with
    | true =>
      simp only [List.lookup_cons, hx] at h
      have : y = n := by simpa using hx
      cases h
      rw [this]; exact List.mem_cons_self
    | false =>
      simp only [List.lookup_cons, hx] at h
      exact List.mem_cons_of_mem _ (lookupA_in h)
theorem in_lookupA {y : Str} {c : Addr} : ∀ {l : List (Str × Addr)}, (y, c) ∈ l → ∃ c', l.lookup y = some c'
  | [], h => by cases h
  | (n, j) :: r, h => by
    cases hx : y == n with
    | true => exact ⟨j, by simp only [List.lookup_cons, hx]⟩
    | false =>
      simp only [List.lookup_cons, hx]
      rcases List.mem_cons.mp h with z | z
      · have : y = n := congrArg Prod.fst z
        rw [this] at hx
        simp at hx
      · exact in_lookupA z
theorem relabel_free {env : Env} {y : Str} (hf : env.scope.kind = .function) (hy : env.kindOf y = some .cell) : ∀ {names : List (Str × NameKind)}, names.lookup y = some .free →
    (names.map fun (n, k) => if (k == NameKind.free && env.scope.kind == .function && env.kindOf n == some .cell) then (n, NameKind.cell) else (n, k)).lookup y = some .cell
  | [], h => by simp at h
  | (n, k) :: r, h => by
    show List.lookup y ((if (k == NameKind.free && env.scope.kind == .function && env.kindOf n == some .cell) = true then (n, NameKind.cell) else (n, k)) :: _) = _
    cases hx : y == n with
    | true =>
      simp only [List.lookup_cons, hx] at h
      have e : y = n := by simpa using hx
      cases h
      rw [← e, hf, hy]
      simp
    | false =>
      simp only [List.lookup_cons, hx] at h
      have ih := relabel_free hf hy h
      split
      · simp only [List.lookup_cons, hx]; exact ih
      · simp only [List.lookup_cons, hx]; exact ih
def frees (names : List (Str × NameKind)) : List Str := names.filterMap fun z => if z.2 == NameKind.free then some z.1 else none
theorem closure_go {env : Env} : ∀ (names : List (Str × NameKind)) (caps : List Str) (cs : List Addr) (acc : List (Str × Addr)), frees names = caps → caps.map (fun y => env.cells.lookup y) = cs.map some →
    (forIn names acc fun (x : Str × NameKind) (r : List (Str × Addr)) => (if (x.2 == NameKind.free) = true then do let a ← cellOf env x.1; pure (ForInStep.yield ((x.1, a) :: r)) else pure (ForInStep.yield r) : Sem (ForInStep (List (Str × Addr))))) = (pure ((caps.zip cs).reverse ++ acc) : Sem (List (Str × Addr)))
  | [], caps, cs, acc, h1, h2 => by
    have : caps = [] := h1.symm
    subst this
    simp
  | (n, k) :: r, caps, cs, acc, h1, h2 => by
    rw [List.forIn_cons]
    by_cases hk : (k == NameKind.free) = true
    · have e1 : caps = n :: frees r := by
        rw [← h1]; unfold frees
        rw [List.filterMap_cons]
        simp only [hk, if_true]
      subst e1
      cases cs with
      | nil => simp at h2
      | cons c cs =>
        simp only [List.map_cons, List.cons.injEq] at h2
        have hcell : cellOf env n = pure c := by unfold cellOf; rw [h2.1]
        simp only [hk, if_true, hcell, pure_bind]
        rw [closure_go r _ cs ((n, c) :: acc) rfl h2.2]
        simp
    · have e1 : caps = frees r := by
        rw [← h1]; unfold frees
        rw [List.filterMap_cons]
        simp only [hk]
        rfl
      subst e1
      simp only [hk, if_false, pure_bind]
      exact closure_go r _ cs acc rfl h2
theorem closureFor_many {env : Env} {scope : Scope} {caps : List Str} {cs : List Addr} (hf : frees scope.names = caps) (hc : caps.map (fun y => env.cells.lookup y) = cs.map some) : closureFor scope env = pure (caps.zip cs).reverse := by
  have h := closure_go (env := env) scope.names caps cs [] hf hc
  rw [List.append_nil] at h
  unfold closureFor
  simp only [bind_pure]
  exact h
theorem CompG.many {X : Cx} {xs caps : List Str} {cap : List Nat} {cs : List Addr} {scope : Scope} (hk : scope.kind = .function) (hf : X.env.scope.kind = .function) (hfr : frees scope.names = caps)
    (hnc : ∀ z ∈ scope.names, z.2 ≠ .cell) (hl : ∀ y ∈ scope.names, y.2 = .local → scope.names.lookup y.1 = some .local) (hlx : ∀ x ∈ xs, scope.names.lookup x = some .local) (hnd : (xs ++ caps).Nodup)
    (hfl : ∀ y ∈ caps, scope.names.lookup y = some .free) (hce : caps.map (fun y => X.env.scope.names.lookup y) = caps.map fun _ => some .cell) (hcs : caps.map (fun y => X.env.cells.lookup y) = cs.map some)
    (hN : cap.map (fun j => X.N[j]?) = caps.map some) : CompG X xs caps cap scope (caps.zip cs).reverse := by
  have hlen : caps.length = cs.length := by simpa using congrArg List.length hcs
  have at_cs : ∀ (i : Nat) (y : Str), caps[i]? = some y → ∃ c, cs[i]? = some c ∧ X.env.cells.lookup y = some c := fun i y h => by
    have e := congrArg (fun l => l[i]?) hcs
    simp only [List.getElem?_map, h] at e
    cases q : cs[i]? with
    | none => rw [q] at e; simp at e
    | some c => rw [q] at e; exact ⟨c, rfl, by simpa using e⟩
  refine ⟨closureFor_many hfr hcs, hnc, hk, hl, hlx, hnd, fun y c h => ?_, fun y h => ?_, ?_, fun i y h => ?_⟩
  · have hm := lookupA_in h
    rw [List.mem_reverse] at hm
    obtain ⟨i, hi, e⟩ := List.getElem_of_mem hm
    have hi1 : i < caps.length := by rw [List.length_zip] at hi; omega
    have hi2 : i < cs.length := by rw [List.length_zip] at hi; omega
    rw [List.getElem_zip] at e
    obtain ⟨c', e1, e2⟩ := at_cs i caps[i] (List.getElem?_eq_getElem hi1)
    have e3 : caps[i] = y := congrArg Prod.fst e
    have e4 : cs[i] = c := congrArg Prod.snd e
    rw [List.getElem?_eq_getElem hi2, e4] at e1
    cases e1
    rw [← e3]; exact e2
  · have hm : y ∈ caps := by
      have aux : ∀ k : NameKind, (k = .cell ∨ k = .free) → (relabel scope X.env).names.lookup y = some k → y ∈ caps := fun k hk h => by
        have h1 := lookup_in h
        obtain ⟨z, hz, e⟩ := List.mem_map.mp h1
        obtain ⟨n, kk⟩ := z
        have hfree : kk = .free ∧ n = y := by
          dsimp only at e
          split at e
          · rename_i q
            simp only [Bool.and_eq_true] at q
            exact ⟨by simpa using q.1.1, congrArg Prod.fst e⟩
          · have e2 : kk = k := congrArg Prod.snd e
            refine ⟨?_, congrArg Prod.fst e⟩
            rcases hk with z | z
            · exact absurd (e2.trans z) (hnc _ hz)
            · exact e2.trans z
        rw [← hfr]
        refine List.mem_filterMap.mpr ⟨(n, kk), hz, ?_⟩
        rw [hfree.1, hfree.2]; rfl
      rcases h with h | h
      · exact aux _ (.inl rfl) h
      · exact aux _ (.inr rfl) h
    obtain ⟨i, hi, e⟩ := List.getElem_of_mem hm
    have hi2 : i < cs.length := by omega
    refine in_lookupA (c := cs[i]) ?_
    rw [List.mem_reverse]
    have hiz : i < (caps.zip cs).length := by rw [List.length_zip]; omega
    have := List.getElem_mem hiz
    rw [List.getElem_zip, e] at this
    exact this
  · have := congrArg List.length hN
    simpa using this
  · have e := congrArg (fun l => l[i]?) hN
    simp only [List.getElem?_map, h] at e
    have hm := List.mem_of_getElem? h
    cases q : cap[i]? with
    | none => rw [q] at e; simp at e
    | some j =>
      rw [q] at e
      have hcell : X.env.scope.names.lookup y = some .cell := by
        have e2 := congrArg (fun l => l[i]?) hce
        simpa only [List.getElem?_map, h, Option.map_some, Option.some.injEq] using e2
      exact ⟨j, rfl, by simpa using e, hcell, relabel_free hf hcell (hfl y hm)⟩
theorem compG_drive {J : It} {n N : Nat} {cs : St} {g : TG} {tt : TT} {te : TE} {H1 : Hp} {acc : Addr} {Q : Hp → Prop} (Pv : Nat → List V → Hp → Prop) (h0 : Pv 0 [] (upd H1 acc (.lst [])))
    (hstop : ∀ ys H, Pv N ys H → J.stop N H ∧ Q H)
    (hstep : ∀ i ys H, i < N → Pv i ys H → J.go i H ∧ ∀ x H3, J.yld i H x H3 → ∀ as : St, as.length = n → g x (as ++ cs) H3 fun σ4 H4 => (∃ bs : St, bs.length = n ∧ σ4 = bs ++ cs) ∧ tt σ4 H4 fun ok H5 => if ok = true then te σ4 H5 (compN N Pv acc i (N - i)) else ∃ m', m' < N - i ∧ compW N Pv (i + 1) m' H5) :
    ∃ W : Nat → Nat → Hp → Prop, (∃ m, W 0 m (upd H1 acc (.lst []))) ∧ ∀ i m H2, W i m H2 →
      (J.stop i H2 ∧ Q H2) ∨ (J.go i H2 ∧ ∀ x H3, J.yld i H2 x H3 → ∀ as : St, as.length = n → g x (as ++ cs) H3 fun σ4 H4 => (∃ bs : St, bs.length = n ∧ σ4 = bs ++ cs) ∧ tt σ4 H4 fun ok H5 => if ok = true then
        te σ4 H5 (fun y H6 => ∃ ys, H6 acc = some (.lst ys) ∧ ys.length < sizeLine ∧ ∃ m', m' < m ∧ W (i + 1) m' (upd H6 acc (.lst (ys ++ [y]))))
        else ∃ m', m' < m ∧ W (i + 1) m' H5) := by
  refine ⟨compW N Pv, ⟨N - 0, rfl, Nat.zero_le _, [], h0⟩, ?_⟩
  rintro i m H2 ⟨rfl, hi, ys, p⟩
  by_cases h : i < N
  · exact .inr (hstep i ys H2 h p)
  · have e : i = N := by omega
    subst e
    exact .inl (hstop ys H2 p)
abbrev CKon (N : Nat) (Pv : Nat → List V → Hp → Prop) (acc : Addr) (i : Nat) (te : TE) (σ : St) : Bool → Hp → Prop := fun ok H5 => if ok = true then te σ H5 (compN N Pv acc i (N - i)) else ∃ m', m' < N - i ∧ compW N Pv (i + 1) m' H5
abbrev CGoal (J : It) (n : Nat) (cs : St) (g : TG) (tt : TT) (te : TE) (H1 : Hp) (acc : Addr) (Q : Hp → Prop) : Prop :=
  ∃ W : Nat → Nat → Hp → Prop, (∃ m, W 0 m (upd H1 acc (.lst []))) ∧ ∀ i m H2, W i m H2 →
      (J.stop i H2 ∧ Q H2) ∨ (J.go i H2 ∧ ∀ x H3, J.yld i H2 x H3 → ∀ as : St, as.length = n → g x (as ++ cs) H3 fun σ4 H4 => (∃ bs : St, bs.length = n ∧ σ4 = bs ++ cs) ∧ tt σ4 H4 fun ok H5 => if ok = true then
        te σ4 H5 (fun y H6 => ∃ ys, H6 acc = some (.lst ys) ∧ ys.length < sizeLine ∧ ∃ m', m' < m ∧ W (i + 1) m' (upd H6 acc (.lst (ys ++ [y]))))
        else ∃ m', m' < m ∧ W (i + 1) m' H5)
section
variable {K : PySem.W.Frag} {a b acc : Addr} {xs zs : List V} {tt : TT} {te : TE} {cs : St} {H1 : Hp} {Q : Hp → Prop}
theorem c1_list (Pv : Nat → List V → Hp → Prop) (h0 : Pv 0 [] (upd H1 acc (.lst []))) (hl : ∀ i ys H, i ≤ xs.length → Pv i ys H → SqL K H a xs)
    (hs : ∀ i x ys H, i < xs.length → xs[i]? = some x → Pv i ys H → tt (some x :: cs) H (CKon xs.length Pv acc i te (some x :: cs))) (hd : ∀ ys H, Pv xs.length ys H → Q H) : CGoal (Itl K a) 1 cs (gName 0) tt te H1 acc Q := by
  refine compG_drive Pv h0 (fun ys H p => ⟨⟨xs, hl _ _ _ (Nat.le_refl _) p, Nat.le_refl _⟩, hd ys H p⟩) fun i ys H hi p => ⟨⟨xs, xs[i], hl _ _ _ (Nat.le_of_lt hi) p, List.getElem?_eq_getElem hi⟩, ?_⟩
  rintro x H3 ⟨rfl, hx⟩ as has
  obtain ⟨a0, rfl⟩ : ∃ a0, as = [a0] := List.length_eq_one_iff.mp has
  exact ⟨⟨[some x], rfl, rfl⟩, hs i x ys _ hi (hx xs (hl _ _ _ (Nat.le_of_lt hi) p)) p⟩
theorem c1_tup (Pv : Nat → List V → Hp → Prop) (h0 : Pv 0 [] (upd H1 acc (.lst []))) (hl : ∀ i ys H, i ≤ xs.length → Pv i ys H → SqT K H a xs)
    (hs : ∀ i x ys H, i < xs.length → xs[i]? = some x → Pv i ys H → tt (some x :: cs) H (CKon xs.length Pv acc i te (some x :: cs))) (hd : ∀ ys H, Pv xs.length ys H → Q H) : CGoal (Itt K a) 1 cs (gName 0) tt te H1 acc Q := by
  refine compG_drive Pv h0 (fun ys H p => ⟨⟨xs, hl _ _ _ (Nat.le_refl _) p, Nat.le_refl _⟩, hd ys H p⟩) fun i ys H hi p => ⟨⟨xs, xs[i], hl _ _ _ (Nat.le_of_lt hi) p, List.getElem?_eq_getElem hi⟩, ?_⟩
  rintro x H3 ⟨rfl, hx⟩ as has
  obtain ⟨a0, rfl⟩ : ∃ a0, as = [a0] := List.length_eq_one_iff.mp has
  exact ⟨⟨[some x], rfl, rfl⟩, hs i x ys _ hi (hx xs (hl _ _ _ (Nat.le_of_lt hi) p)) p⟩
theorem c1_range {lo : Int} {n : Nat} (Pv : Nat → List V → Hp → Prop) (h0 : Pv 0 [] (upd H1 acc (.lst [])))
    (hs : ∀ i ys H, i < n → Pv i ys H → tt (some (.int (lo + i)) :: cs) H (CKon n Pv acc i te (some (.int (lo + i)) :: cs))) (hd : ∀ ys H, Pv n ys H → Q H) : CGoal (Itr lo n) 1 cs (gName 0) tt te H1 acc Q := by
  refine compG_drive Pv h0 (fun ys H p => ⟨Nat.le_refl _, hd ys H p⟩) fun i ys H hi p => ⟨hi, ?_⟩
  rintro x H3 ⟨rfl, rfl⟩ as has
  obtain ⟨a0, rfl⟩ : ∃ a0, as = [a0] := List.length_eq_one_iff.mp has
  exact ⟨⟨[some _], rfl, rfl⟩, hs i ys _ hi p⟩
theorem len_two {as : St} (h : as.length = 2) : ∃ a0 a1, as = [a0, a1] := by
  match as, h with
  | [a0, a1], _ => exact ⟨a0, a1, rfl⟩
theorem c2_list (Pv : Nat → List V → Hp → Prop) (h0 : Pv 0 [] (upd H1 acc (.lst []))) (hl : ∀ i ys H, i ≤ xs.length → Pv i ys H → SqL K H a xs)
    (hs : ∀ i x ys H, i < xs.length → xs[i]? = some x → Pv i ys H → ∃ p u v, x = .ref p ∧ SqT K H p [u, v] ∧ tt (some u :: some v :: cs) H (CKon xs.length Pv acc i te (some u :: some v :: cs))) (hd : ∀ ys H, Pv xs.length ys H → Q H) : CGoal (Itl K a) 2 cs (gTup K 2 (gCons (gName 0) (gCons (gName 1) gNil))) tt te H1 acc Q := by
  refine compG_drive Pv h0 (fun ys H p => ⟨⟨xs, hl _ _ _ (Nat.le_refl _) p, Nat.le_refl _⟩, hd ys H p⟩) fun i ys H hi p => ⟨⟨xs, xs[i], hl _ _ _ (Nat.le_of_lt hi) p, List.getElem?_eq_getElem hi⟩, ?_⟩
  rintro x H3 ⟨rfl, hx⟩ as has
  obtain ⟨a0, a1, rfl⟩ := len_two has
  obtain ⟨q, u, v, rfl, hq, h⟩ := hs i x ys _ hi (hx xs (hl _ _ _ (Nat.le_of_lt hi) p)) p
  exact ⟨q, [u, v], rfl, hq, rfl, u, [v], rfl, v, [], rfl, rfl, ⟨[some u, some v], rfl, rfl⟩, h⟩
theorem c2_zip (hlen : xs.length = zs.length) (Pv : Nat → List V → Hp → Prop) (h0 : Pv 0 [] (upd H1 acc (.lst []))) (hl : ∀ i ys H, i ≤ xs.length → Pv i ys H → SqL K H a xs ∧ SqL K H b zs)
    (hs : ∀ i u v p ys H, i < xs.length → xs[i]? = some u → zs[i]? = some v → H p = none → Pv i ys H → tt (some u :: some v :: cs) (upd H p (.tup [u, v])) (CKon xs.length Pv acc i te (some u :: some v :: cs))) (hd : ∀ ys H, Pv xs.length ys H → Q H) : CGoal (Itz K a b xs zs) 2 cs (gTup K 2 (gCons (gName 0) (gCons (gName 1) gNil))) tt te H1 acc Q := by
  refine compG_drive (N := xs.length) Pv h0 (fun ys H p => ?_) fun i ys H hi p => ?_
  · obtain ⟨qa, qb⟩ := hl _ _ _ (Nat.le_refl _) p
    exact ⟨⟨qa, qb, .inl (Nat.le_refl _)⟩, hd ys H p⟩
  · obtain ⟨qa, qb⟩ := hl _ _ _ (Nat.le_of_lt hi) p
    refine ⟨⟨qa, qb, hi, by omega⟩, ?_⟩
    rintro x H3 ⟨q, u, v, hq, rfl, rfl, hu, hv⟩ as has
    obtain ⟨a0, a1, rfl⟩ := len_two has
    exact ⟨q, [u, v], rfl, SqT.of upd_same, rfl, u, [v], rfl, v, [], rfl, rfl, ⟨[some u, some v], rfl, rfl⟩, hs i u v q ys _ hi hu hv hq p⟩
end
end L2
namespace L2
open PySem PySem.Spec PyProof.Rows
section
variable {κ : Type} [DecidableEq κ]
end
section
variable {P : Program} {w : World} {H : Hp} {h : Heap} {a : Addr}
end
section
variable {X : Cx} {pins : List (Addr × Obj)} {σ : St} {H : Hp} {s : Shared} {a : Addr} {y v : V} {u r : Value} {o : Option V} {A : Around} {E : Value → Shared → Prop}
end
section
variable {X : Cx} {pins : List (Addr × Obj)} {σ : St} {H : Hp} {s : Shared} {a : Addr} {kvs : List (Key × V)} {k : Key} {u : Value} {A : Around} {E : Value → Shared → Prop}
end
section
variable {X : Cx} {o i e value : Expr} {pos pos' tpos : Pos} {td ty tv : TE}
end
section
variable {X : Cx} {pos : Pos}
end
structure M1 (X : Cx) (o : Expr) (m : Str) (apos : Pos) (e : Expr) (cpos : Pos) : Prop where
  base : attributeBase o m X.env (eval o X.env) = eval o X.env
  few : ((backTo cpos (starEach [e] X.env)).all (fun x => !x.1) && (backToKw cpos (keywordEach [] X.env)).all (fun x => x.1.isSome)
    && decide (([e] : List Expr).length + ([] : List Keyword).length + (if ([] : List Keyword).isEmpty then 0 else 1) < 30)) = true
  line : (apos.endLine == cpos.line) = true
  trees : backTo cpos (starEach [e] X.env) = [(false, eval e X.env)]
structure M2 (X : Cx) (o : Expr) (m : Str) (apos : Pos) (e f : Expr) (cpos : Pos) : Prop where
  base : attributeBase o m X.env (eval o X.env) = eval o X.env
  few : ((backTo cpos (starEach [e, f] X.env)).all (fun x => !x.1) && (backToKw cpos (keywordEach [] X.env)).all (fun x => x.1.isSome)
    && decide (([e, f] : List Expr).length + ([] : List Keyword).length + (if ([] : List Keyword).isEmpty then 0 else 1) < 30)) = true
  line : (apos.endLine == cpos.line) = true
  trees : backTo cpos (starEach [e, f] X.env) = [(false, eval e X.env), (false, eval f X.env)]
section
variable {X : Cx} {pins : List (Addr × Obj)} {σ : St} {H : Hp} {s : Shared} {a : Addr} {y d : V} {u r : Value} {o : Option V} {A : Around} {E : Value → Shared → Prop}
end
section
variable {X : Cx} {o e f : Expr} {apos cpos : Pos} {td ty tx : TE}
end
section
variable {X : Cx} {pins : List (Addr × Obj)} {σ : St} {H : Hp} {s : Shared} {a : Addr} {kvs : List (Key × V)} {A : Around} {E : Value → Shared → Prop}
end
section
variable {X : Cx} {pins : List (Addr × Obj)} {σ : St} {H : Hp} {s : Shared} {a : Addr} {y : V} {u : Value} {A : Around} {E : Value → Shared → Prop}
end
end L2
namespace Srt
open PySem PySem.W PyProof.Rows
variable {α β : Type} {O : KeyOrd} {key : Nat → O.α} {n : Nat}
def Ok (O : KeyOrd) (key : Nat → O.α) (n : Nat) (Q : α → Prop) : KasT α → Prop
  | .ret a => Q a
  | .ask i j k => i < n ∧ j < n ∧ Ok O key n Q (k (O.blt (key i) (key j)))
theorem Ok.bind {t : KasT α} {f : α → KasT β} {Q : β → Prop} : Ok O key n (fun a => Ok O key n Q (f a)) t → Ok O key n Q (t.bind f) := by
  induction t with
  | ret a => exact id
  | ask i j k ih => exact fun h => ⟨h.1, h.2.1, ih _ h.2.2⟩
theorem Ok.wp {cmp : Nat → Nat → (Bool → Shared → Prop) → Shared → Prop} {s : Shared} (hc : ∀ i j C, i < n → j < n → C (O.blt (key i) (key j)) s → cmp i j C s) {G : α → Shared → Prop} {Q : α → Prop} (hq : ∀ a, Q a → G a s) {t : KasT α} : Ok O key n Q t → t.kasWp cmp G s := by
  induction t with
  | ret a => exact hq a
  | ask i j k ih => exact fun h => hc i j _ h.1 h.2.1 (ih _ h.2.2)
def Pm (n : Nat) (p : Array Nat) : Prop := p.toList.Perm (List.range n)
theorem Pm.size {p : Array Nat} (h : Pm n p) : p.size = n := by
  have := h.length_eq
  simpa using this
theorem Pm.lt {p : Array Nat} (h : Pm n p) {i : Nat} (hi : i < n) : p.getD i 0 < n := by
  have hs : i < p.size := by rw [h.size]; exact hi
  have e : p.getD i 0 = p[i] := by simp [Array.getD, hs]
  rw [e]
  have : p[i] ∈ p.toList := by simp
  exact List.mem_range.mp (h.mem_iff.mp this)
theorem Pm.of {p q : Array Nat} (h : Pm n p) (e : q.Perm p) : Pm n q := (Array.perm_iff_toList_perm.mp e).trans h
variable (key) in
def kk (p : Array Nat) (i : Nat) : O.α := key (p.getD i 0)
theorem kk_congr {p q : Array Nat} {i j : Nat} (h : p[i]? = q[j]?) : kk key p i = kk key q j := by
  unfold kk
  rw [Array.getD_eq_getD_getElem?, Array.getD_eq_getD_getElem?, h]
variable (key) in
def Up (p : Array Nat) (k : Nat) : Prop := ∀ i j, i ≤ j → j < k → O.kle (kk key p i) (kk key p j)
variable (key) in
def Down (p : Array Nat) (k : Nat) : Prop := ∀ i j, i ≤ j → j < k → O.kle (kk key p j) (kk key p i)
theorem rev_kk {p : Array Nat} {i j : Nat} (hj : j ≤ p.size) (k : Nat) : kk key (kas_rev p i j) k = if i ≤ k ∧ k < j then kk key p (i + j - 1 - k) else kk key p k := by
  have e := getElem?_mirror_all (xs := p) (i := i) hj k
  unfold kas_rev
  by_cases h : i ≤ k ∧ k < j
  · rw [if_pos h] at e ⊢; exact kk_congr e
  · rw [if_neg h] at e ⊢; exact kk_congr e
theorem rev_same {p : Array Nat} {i j : Nat} (hj : j ≤ p.size) (heq : ∀ k, i ≤ k → k < j → kk key p k = kk key p (j - 1)) (k : Nat) : kk key (kas_rev p i j) k = kk key p k := by
  rw [rev_kk hj]
  by_cases h : i ≤ k ∧ k < j
  · rw [if_pos h, heq _ (by omega) (by omega), heq k h.1 h.2]
  · rw [if_neg h]
theorem Pm.rev {p : Array Nat} (h : Pm n p) (i j : Nat) : Pm n (kas_rev p i j) := h.of (mirror_perm _ _ _ _)
theorem grow_up {p : Array Nat} {m : Nat} (h1 : 1 ≤ m) (hs : Up key p m) (h : O.kle (kk key p (m - 1)) (kk key p m)) : Up key p (m + 1) := fun i j hij hj => by
  by_cases hjm : j < m
  · exact hs i j hij hjm
  · have : j = m := by omega
    subst this
    by_cases hi : i = j
    · subst hi; exact KeyOrd.kle_refl _
    · exact KeyOrd.kle_trans (hs i (j - 1) (by omega) (by omega)) h
theorem grow_down {p : Array Nat} {m : Nat} (h1 : 1 ≤ m) (hs : Down key p m) (h : O.kle (kk key p m) (kk key p (m - 1))) : Down key p (m + 1) := fun i j hij hj => by
  by_cases hjm : j < m
  · exact hs i j hij hjm
  · have : j = m := by omega
    subst this
    by_cases hi : i = j
    · subst hi; exact KeyOrd.kle_refl _
    · exact KeyOrd.kle_trans h (hs i (j - 1) (by omega) (by omega))
theorem asc_ok {p : Array Nat} (hP : Pm n p) {Q : Nat → Prop} : ∀ (f m : Nat), 1 ≤ m → m + f ≤ n → Up key p m → (∀ m', m ≤ m' → m' ≤ m + f → Up key p m' → (m' = m + f ∨ O.klt (kk key p m') (kk key p (m' - 1))) → Q m') → Ok O key n Q (kas_asc p f m)
  | 0, m, _, _, hs, h => h m (Nat.le_refl _) (Nat.le_refl _) hs (.inl rfl)
  | f + 1, m, h1, hn, hs, h => by
    refine ⟨hP.lt (by omega), hP.lt (by omega), ?_⟩
    show Ok O key n Q (if O.blt (kk key p m) (kk key p (m - 1)) = true then .ret m else kas_asc p f (m + 1))
    cases hb : O.blt (kk key p m) (kk key p (m - 1)) with
    | true =>
      rw [if_pos rfl]
      exact h m (Nat.le_refl _) (by omega) hs (.inr hb)
    | false =>
      rw [if_neg Bool.false_ne_true]
      exact asc_ok hP f (m + 1) (by omega) (by omega) (grow_up h1 hs hb) fun m' a b c d => h m' (by omega) (by omega) c (by rcases d with d | d; exact .inl (by omega); exact .inr d)
variable (key) in
def Tail (p : Array Nat) (m q : Nat) : Prop := q + 1 ≤ m ∧ ∀ i, m - (q + 1) ≤ i → i < m → kk key p i = kk key p (m - 1)
theorem desc_ok {Q : Array Nat × Nat × Nat → Prop} : ∀ (f : Nat) (p : Array Nat) (m q : Nat), Pm n p → 1 ≤ m → m + f ≤ n → Down key p m → Tail key p m q →
    (∀ p' m' q', Pm n p' → m ≤ m' → m' ≤ m + f → Down key p' m' → Tail key p' m' q' → Q (p', m', q')) → Ok O key n Q (kas_desc f p m q)
  | 0, p, m, q, hP, _, _, hs, ht, h => h p m q hP (Nat.le_refl _) (Nat.le_refl _) hs ht
  | f + 1, p, m, q, hP, h1, hn, hs, ht, h => by
    have hsz := hP.size
    refine ⟨hP.lt (by omega), hP.lt (by omega), ?_⟩
    show Ok O key n Q (if O.blt (kk key p m) (kk key p (m - 1)) = true then (if q > 0 then kas_desc f (kas_rev p (m - (q + 1)) m) (m + 1) 0 else kas_desc f p (m + 1) 0)
      else .ask (p.getD (m - 1) 0) (p.getD m 0) fun d => if d = true then .ret (p, m, q) else kas_desc f p (m + 1) (q + 1))
    have one : ∀ p' : Array Nat, Tail key p' (m + 1) 0 := fun p' => ⟨by omega, fun i a b => by congr 1; omega⟩
    cases hb : O.blt (kk key p m) (kk key p (m - 1)) with
    | true =>
      rw [if_pos rfl]
      have hd := grow_down h1 hs (KeyOrd.kle_of_klt hb)
      by_cases hq : q > 0
      · rw [if_pos hq]
        have e := rev_same (key := key) (p := p) (i := m - (q + 1)) (j := m) (by omega) ht.2
        refine desc_ok f _ (m + 1) 0 (hP.rev _ _) (by omega) (by omega) (fun i j a b => by rw [e, e]; exact hd i j a b) (one _) fun p' m' q' a b c d g => h p' m' q' a (by omega) (by omega) d g
      · rw [if_neg hq]
        exact desc_ok f p (m + 1) 0 hP (by omega) (by omega) hd (one _) fun p' m' q' a b c d g => h p' m' q' a (by omega) (by omega) d g
    | false =>
      rw [if_neg Bool.false_ne_true]
      refine ⟨hP.lt (by omega), hP.lt (by omega), ?_⟩
      show Ok O key n Q (if O.blt (kk key p (m - 1)) (kk key p m) = true then .ret (p, m, q) else kas_desc f p (m + 1) (q + 1))
      cases hc : O.blt (kk key p (m - 1)) (kk key p m) with
      | true =>
        rw [if_pos rfl]
        exact h p m q hP (Nat.le_refl _) (by omega) hs ht
      | false =>
        rw [if_neg Bool.false_ne_true]
        have he : kk key p m = kk key p (m - 1) := KeyOrd.kle_antisymm hc hb
        refine desc_ok f p (m + 1) (q + 1) hP (by omega) (by omega) (grow_down h1 hs hc) ⟨by have := ht.1; omega, fun i a b => ?_⟩ fun p' m' q' a b c d g => h p' m' q' a (by omega) (by omega) d g
        rw [Nat.add_sub_cancel]
        by_cases hi : i = m
        · rw [hi]
        · rw [he]; exact ht.2 i (by omega) (by omega)
theorem tail_ok {p : Array Nat} {m : Nat} (hP : Pm n p) (h1 : 1 ≤ m) (hm : m ≤ n) (hs : Down key p m) {Q : Nat × Array Nat → Prop} (h : ∀ m' p', Pm n p' → 1 ≤ m' → m' ≤ n → Up key p' m' → Q (m', p')) : Ok O key n Q (kas_tail3 m n p) := by
  have hsz := hP.size
  refine Ok.bind (asc_ok (hP.rev 0 m) (n - m) m h1 (by omega) (fun i j hij hj => ?_) fun m' a b c _ => h m' _ (hP.rev 0 m) (by omega) (by omega) c)
  rw [rev_kk (by omega), rev_kk (by omega), if_pos (by omega), if_pos (by omega)]
  exact hs _ _ (by omega) (by omega)
theorem descPart_ok {p : Array Nat} {m : Nat} (hP : Pm n p) (h1 : 1 ≤ m) (hm : m + 1 ≤ n) (hs : Down key p (m + 1)) {Q : Nat × Array Nat → Prop} (h : ∀ m' p', Pm n p' → 1 ≤ m' → m' ≤ n → Up key p' m' → Q (m', p')) : Ok O key n Q (kas_descPart m n p) := by
  refine Ok.bind (desc_ok (n - (m + 1)) p (m + 1) 0 hP (by omega) (by omega) hs ⟨by omega, fun i a b => by congr 1; omega⟩ fun p' m' q' a b c d g => ?_)
  have hsz := a.size
  show Ok O key n Q (if q' > 0 then kas_tail3 m' n (kas_rev p' (m' - (q' + 1)) m') else kas_tail3 m' n p')
  by_cases hq : q' > 0
  · rw [if_pos hq]
    have e := rev_same (key := key) (p := p') (i := m' - (q' + 1)) (j := m') (by omega) g.2
    exact tail_ok (a.rev _ _) (by omega) (by omega) (fun i j x y => by rw [e, e]; exact d i j x y) h
  · rw [if_neg hq]
    exact tail_ok a (by omega) (by omega) d h
theorem count_ok {p : Array Nat} (hP : Pm n p) (h1 : 1 ≤ n) {Q : Nat × Array Nat → Prop} (h : ∀ m' p', Pm n p' → 1 ≤ m' → m' ≤ n → Up key p' m' → Q (m', p')) : Ok O key n Q (kas_count n p) := by
  have hsz := hP.size
  refine Ok.bind (asc_ok hP (n - 1) 1 (Nat.le_refl _) (by omega) (fun i j a b => ?_) fun m a b c d => ?_)
  · have : i = j := by omega
    subst this; exact KeyOrd.kle_refl _
  · show Ok O key n Q (if (m == n) = true then .ret (m, p) else if m > 1 then .ask (p.getD 0 0) (p.getD (m - 1) 0) fun c => if c = true then .ret (m, p) else kas_descPart m n (kas_rev p 0 m) else kas_descPart m n p)
    by_cases hm : m = n
    · rw [if_pos (by simpa using hm)]
      exact h m p hP a (by omega) c
    · rw [if_neg (by simpa using hm)]
      have hlt : O.klt (kk key p m) (kk key p (m - 1)) := by
        rcases d with d | d
        · exact absurd (by omega) hm
        · exact d
      by_cases hg : m > 1
      · rw [if_pos hg]
        refine ⟨hP.lt (by omega), hP.lt (by omega), ?_⟩
        show Ok O key n Q (if O.blt (kk key p 0) (kk key p (m - 1)) = true then .ret (m, p) else kas_descPart m n (kas_rev p 0 m))
        cases hb : O.blt (kk key p 0) (kk key p (m - 1)) with
        | true =>
          rw [if_pos rfl]
          exact h m p hP a (by omega) c
        | false =>
          rw [if_neg Bool.false_ne_true]
          have hall : ∀ k, 0 ≤ k → k < m → kk key p k = kk key p (m - 1) := fun k _ hk =>
            KeyOrd.kle_antisymm (c k (m - 1) (by omega) (by omega)) (KeyOrd.kle_trans hb (c 0 k (by omega) hk))
          have e := rev_same (key := key) (p := p) (i := 0) (j := m) (by omega) hall
          refine descPart_ok (hP.rev _ _) (by omega) (by omega) (grow_down (by omega) (fun i j x y => ?_) ?_) h
          · rw [e, e, hall i (by omega) (by omega), hall j (by omega) y]; exact KeyOrd.kle_refl _
          · rw [e, e]; exact KeyOrd.kle_of_klt hlt
      · rw [if_neg hg]
        have : m = 1 := by omega
        subst this
        refine descPart_ok hP (Nat.le_refl _) (by omega) (grow_down (Nat.le_refl _) (fun i j x y => ?_) (KeyOrd.kle_of_klt hlt)) h
        have : i = j := by omega
        subst this; exact KeyOrd.kle_refl _
theorem place_ok {p : Array Nat} {k : Nat} (hP : Pm n p) (hk : k < n) (hs : Up key p k) {Q : Nat → Prop}
    (h : ∀ l, l ≤ k → (∀ i, i < l → O.kle (kk key p i) (kk key p k)) → (∀ i, l ≤ i → i < k → O.klt (kk key p k) (kk key p i)) → Q l) : ∀ (f l r : Nat), l ≤ r → r ≤ k → r - l ≤ f →
      (∀ i, i < l → O.kle (kk key p i) (kk key p k)) → (∀ i, r ≤ i → i < k → O.klt (kk key p k) (kk key p i)) → Ok O key n Q (kas_place p k f l r)
  | 0, l, r, a, b, c, d, e => by
    have : l = r := by omega
    subst this
    exact h l b d e
  | f + 1, l, r, a, b, c, d, e => by
    show Ok O key n Q (if l ≥ r then .ret l else .ask (p.getD k 0) (p.getD ((l + r) / 2) 0) fun c => if c = true then kas_place p k f l ((l + r) / 2) else kas_place p k f ((l + r) / 2 + 1) r)
    by_cases hge : l ≥ r
    · rw [if_pos hge]
      have : l = r := by omega
      subst this
      exact h l b d e
    · rw [if_neg hge]
      refine ⟨hP.lt hk, hP.lt (by omega), ?_⟩
      show Ok O key n Q (if O.blt (kk key p k) (kk key p ((l + r) / 2)) = true then kas_place p k f l ((l + r) / 2) else kas_place p k f ((l + r) / 2 + 1) r)
      cases hb : O.blt (kk key p k) (kk key p ((l + r) / 2)) with
      | true =>
        rw [if_pos rfl]
        exact place_ok hP hk hs h f l ((l + r) / 2) (by omega) (by omega) (by omega) d fun i x y => KeyOrd.klt_of_klt_of_kle hb (hs _ _ x y)
      | false =>
        rw [if_neg Bool.false_ne_true]
        exact place_ok hP hk hs h f ((l + r) / 2 + 1) r (by omega) b (by omega) (fun i x => KeyOrd.kle_trans (hs i ((l + r) / 2) (by omega) (by omega)) hb) e
theorem bubble_kk {p : Array Nat} {k d : Nat} (hs : k < p.size) (hd : d ≤ k) (i : Nat) : kk key (bubble p k d) i = if i = k - d then kk key p k else if k - d < i ∧ i ≤ k then kk key p (i - 1) else kk key p i := by
  have e := getElem?_bubble hs d hd i
  by_cases h1 : i = k - d
  · rw [if_pos h1] at e ⊢; exact kk_congr e
  · rw [if_neg h1] at e ⊢
    by_cases h2 : k - d < i ∧ i ≤ k
    · rw [if_pos h2] at e ⊢; exact kk_congr e
    · rw [if_neg h2] at e ⊢; exact kk_congr e
theorem bin_ok {Q : Array Nat → Prop} : ∀ (f : Nat) (p : Array Nat) (k : Nat), Pm n p → 1 ≤ k → k + f = n → Up key p k → (∀ p', Pm n p' → Up key p' n → Q p') → Ok O key n Q (kas_bin f p k)
  | 0, p, k, hP, _, hn, hs, h => h p hP (by rw [← hn]; exact hs)
  | f + 1, p, k, hP, h1, hn, hs, h => by
    have hsz := hP.size
    have hk : k < n := by omega
    refine Ok.bind (place_ok hP hk hs (fun l a b c => ?_) k 0 k (Nat.zero_le _) (Nat.le_refl _) (by omega) (fun i x => by omega) fun i x y => by omega)
    refine bin_ok f _ (k + 1) (hP.of (bubble_perm _ _ _)) (by omega) (by omega) (fun i j hij hj => ?_) h
    rw [bubble_kk (by omega) (by omega), bubble_kk (by omega) (by omega), show k - (k - l) = l by omega]
    repeat' split
    all_goals first
      | (exfalso; omega)
      | exact KeyOrd.kle_refl _
      | exact b _ (by omega)
      | exact KeyOrd.kle_of_klt (c _ (by omega) (by omega))
      | exact hs _ _ (by omega) (by omega)
theorem sort_ok (h1 : 1 ≤ n) {Q : Array Nat → Prop} (h : ∀ p, Pm n p → Up key p n → Q p) : Ok O key n Q (kas_sort n) := by
  have hP : Pm n (List.toArray (List.range n)) := List.Perm.refl _
  refine Ok.bind (count_ok hP h1 fun m p a b c d => ?_)
  show Ok O key n Q (if m < n then kas_bin (n - max m 1) p (max m 1) else .ret p)
  have hm : max m 1 = m := by omega
  by_cases hlt : m < n
  · rw [if_pos hlt, hm]
    exact bin_ok (n - m) p m a b (by omega) d h
  · rw [if_neg hlt]
    have : m = n := by omega
    subst this
    exact h p a d
end Srt
namespace L2
open PySem PySem.Spec PyProof.Rows PySem.W
section
variable {prog : Program} {w : World} {A : Around} {E : Value → Shared → Prop} {s : Shared}
end
section
variable {X : Cx}
end
end L2
namespace L2
open PySem PySem.Spec PyProof.Rows PySem.W
section
variable {prog : Program} {w : World} {A : Around} {E : Value → Shared → Prop} {s : Shared}
theorem sort_gen {a : Addr} {vs : List Value} {n : Nat} {P : PySem.Fin → Shared → Prop} (O : KeyOrd) (key : Nat → O.α) (κ : SortKind) (ho : s.heap.get? a = some (seqObj "list" vs.toArray n)) (h64 : vs.length < 64)
    (hk : ∀ (s' : Shared) (Q : SortKind → Shared → Prop), (∀ b o, b ≠ a → s.heap.get? b = some o → s'.heap.get? b = some o) → 2 ≤ vs.length → Q κ s' → wpAny (model prog w) A (keyKind' vs.toArray) Q E s')
    (hc : ∀ (s' : Shared) (i j : Nat) (C : Bool → Shared → Prop), (∀ b o, b ≠ a → s.heap.get? b = some o → s'.heap.get? b = some o) → i < vs.length → j < vs.length → C (O.blt (key i) (key j)) s' → wpAny (model prog w) A (keyLt' κ (vs.getD i Value.none) (vs.getD j Value.none)) C (fun _ _ => False) s')
    (h : ∀ p : Array Nat, Srt.Pm vs.length p → Srt.Up (O := O) key p vs.length → P (.done (.ret .none)) { s with heap := sortedHeap s.heap a vs (p.toList.map fun i => vs.getD i Value.none).toArray }) :
    wpAny (model prog w) A (Builtin.«list.sort» ⟨[.ref a], []⟩) P E s := by
  have hal : a < s.heap.objs.size := Heap.lt_size ho
  rw [list_sort_plain]
  refine wpAny_bind (listItems_at ho rfl ?_)
  refine wpAny_bind (listUpdate_at ho rfl ?_ (by rw [List.size_toArray, sizeLine_eq]; omega) (Nat.zero_le _))
  obtain ⟨e1, ho1⟩ : ∃ e1, (s.heap.update a (Obj.mapSeq fun _ => (#[] : Array Value))).get? a = some (seqObj "list" #[] e1) := ⟨_, get?_update_seq ho fun _ => #[]⟩
  refine wpAny_bind (seqEpoch_at ho1 rfl (wpAny_bind (wpAny_newTuple ?_ (by show vs.length ≤ _; rw [sizeLine_eq]; omega))))
  refine wpAny_bind (wpAny_newList (wpAny_holding ?_) (Nat.zero_le _))
  have keep : ∀ b o, b ≠ a → s.heap.get? b = some o → (((s.heap.update a (Obj.mapSeq fun _ => (#[] : Array Value))).push (seqObj "tuple" vs.toArray 0)).push (seqObj "list" #[] 0)).get? b = some o := fun b o hb e =>
    Heap.get?_push_of_some _ (Heap.get?_push_of_some _ ((Heap.get?_update_ne _ _ _ _ hb).trans e))
  have ho6 : (((s.heap.update a (Obj.mapSeq fun _ => (#[] : Array Value))).push (seqObj "tuple" vs.toArray 0)).push (seqObj "list" #[] 0)).get? a = some (seqObj "list" #[] e1) := Heap.get?_push_of_some _ (Heap.get?_push_of_some _ ho1)
  show wpAny (model prog w) A _ P E { s with heap := ((s.heap.update a (Obj.mapSeq fun _ => (#[] : Array Value))).push (seqObj "tuple" vs.toArray 0)).push (seqObj "list" #[] 0) }
  dsimp only
  have hz : vs.toArray.size = vs.length := List.size_toArray
  by_cases h2 : vs.toArray.size < 2
  · rw [if_pos h2, if_pos h2]
    refine wpAny_bind (wpAny_pure ?_)
    rw [StateT.run_pure]
    refine wpAny_bind (wpAny_pure ?_)
    dsimp only
    refine wpAny_bind (seqEpoch_at ho6 rfl ?_)
    have e2 : (arrOf (SortSt.mk' general' (vs.toArray.zip vs.toArray) #[] 7 none)).map (·.2) = vs.toArray := by
      show (vs.toArray.zip vs.toArray).map (·.2) = vs.toArray
      apply Array.toList_inj.mp
      rw [Array.toList_map, Array.toList_zip]
      exact List.map_snd_zip (Nat.le_refl _)
    rw [e2]
    refine wpAny_bind (listUpdate_at ho6 rfl ?_ (hsz2 := by show vs.toArray.size ≤ _; rw [sizeLine_eq]; omega))
    simp only [bne_self_eq_false, Bool.false_eq_true, if_false]
    have := h (List.range vs.length).toArray (List.Perm.refl _) (fun i j hij hj => by
      have : i = j := by omega
      subst this
      exact O.irrefl _)
    have e3 : ((List.range vs.length).toArray.toList.map fun i => vs.getD i Value.none) = vs := by
      apply List.ext_getElem (by simp)
      intro i a b
      simp at a
      simp [a]
    rw [e3] at this
    exact wpAny_pure this
  · rw [if_neg h2, if_neg h2]
    refine wpAny_bind ?_
    refine hk { s with heap := ((s.heap.update a (Obj.mapSeq fun _ => (#[] : Array Value))).push (seqObj "tuple" vs.toArray 0)).push (seqObj "list" #[] 0) } _ keep (by omega) ?_
    refine wpAny_bind (wpAny_mono (kat_run (Q := fun st' s' => ∃ p : Array Nat, Srt.Pm vs.length p ∧ Srt.Up (O := O) key p vs.length ∧ (arrOf st').map (·.2) = (p.toList.map fun i => vs.getD i Value.none).toArray ∧ failedOf st' = none ∧
        s' = { s with heap := ((s.heap.update a (Obj.mapSeq fun _ => (#[] : Array Value))).push (seqObj "tuple" vs.toArray 0)).push (seqObj "list" #[] 0) })
      (G := fun p s' => Srt.Pm vs.length p ∧ Srt.Up (O := O) key p vs.length ∧ s' = { s with heap := ((s.heap.update a (Obj.mapSeq fun _ => (#[] : Array Value))).push (seqObj "tuple" vs.toArray 0)).push (seqObj "list" #[] 0) })
      (vs := vs) (ks := vs) rfl (by omega) (by omega) (fun p st' s' hsz har hfl hg => ?_) ?_) (fun r s' hq => ?_) fun _ _ e => e)
    · obtain ⟨hP, hU, es⟩ := hg
      exact ⟨p, hP, hU, kat_snds rfl har, hfl, es⟩
    · refine Srt.Ok.wp (O := O) (key := key) (n := vs.length) (fun i j C hi hj hC => ?_) (Q := fun p => Srt.Pm vs.length p ∧ Srt.Up (O := O) key p vs.length) (fun p hp => ⟨hp.1, hp.2, rfl⟩) (Srt.sort_ok (by omega) fun p a b => ⟨a, b⟩)
      exact hc { s with heap := ((s.heap.update a (Obj.mapSeq fun _ => (#[] : Array Value))).push (seqObj "tuple" vs.toArray 0)).push (seqObj "list" #[] 0) } i j C keep hi hj hC
    · obtain ⟨p, o1, o2, o3, o4, rfl⟩ := hq
      obtain ⟨⟨⟩, st'⟩ := r
      dsimp only at o3 o4 ⊢
      refine wpAny_bind (seqEpoch_at ho6 rfl ?_)
      rw [o3]
      refine wpAny_bind (listUpdate_at ho6 rfl ?_ (hsz2 := by show (p.toList.map fun i => vs.getD i Value.none).toArray.size ≤ _; rw [List.size_toArray, List.length_map, o1.length_eq, List.length_range, sizeLine_eq]; omega))
      rw [o4]
      simp only [bne_self_eq_false, Bool.false_eq_true, if_false]
      exact wpAny_pure (h p o1 o2)
theorem sorted_gen {l : Addr} {vs : List Value} {Q : Value → Shared → Prop} (O : KeyOrd) (key : Nat → O.α) (κ : SortKind) (hl : s.heap.IsList l vs.toArray) (h64 : vs.length < 64)
    (hk : ∀ (s' : Shared) (E' : Value → Shared → Prop) (Q : SortKind → Shared → Prop), (∀ b o, s.heap.get? b = some o → s'.heap.get? b = some o) → 2 ≤ vs.length → Q κ s' → wpAny (model prog w) A.in1.in1 (keyKind' vs.toArray) Q E' s')
    (hc : ∀ (s' : Shared) (i j : Nat) (C : Bool → Shared → Prop), (∀ b o, s.heap.get? b = some o → s'.heap.get? b = some o) → i < vs.length → j < vs.length → C (O.blt (key i) (key j)) s' → wpAny (model prog w) A.in1.in1 (keyLt' κ (vs.getD i Value.none) (vs.getD j Value.none)) C (fun _ _ => False) s')
    (h : ∀ p : Array Nat, Srt.Pm vs.length p → Srt.Up (O := O) key p vs.length → Q (.ref (s.heap.objs.size + 1)) { s with heap := sortedAll s.heap vs (p.toList.map fun i => vs.getD i Value.none).toArray }) :
    wpAny (model prog w) A (call (.builtin "sorted") [.ref l]) Q E s := by
  refine Calls.call_function_entry kind_sorted plain_sorted entry_sorted (args_sorted1 _) ?_
  unfold Builtin.«sorted»
  refine wpAny_bind (m := checkCount "sorted" 1 1 _) (wpAny_pure ?_)
  refine wpAny_bind (collect_list hl ?_ (by rw [sizeLine_eq]; omega))
  refine wpAny_bind (wpAny_newList ?_ (by rw [sizeLine_eq]; omega))
  have hsz : ((s.heap.push (seqObj "list" #[] 0)).update s.heap.objs.size (Obj.mapSeq (· ++ vs.toArray))).objs.size = s.heap.objs.size + 1 := by rw [Heap.size_update, size_push']
  have hoL : (((s.heap.push (seqObj "list" #[] 0)).update s.heap.objs.size (Obj.mapSeq (· ++ vs.toArray))).push (seqObj "list" vs.toArray 0)).get? (s.heap.objs.size + 1) = some (seqObj "list" vs.toArray 0) := by
    rw [← hsz]; exact Heap.get?_push_size _ rfl
  have keep : ∀ b o, s.heap.get? b = some o → (((s.heap.push (seqObj "list" #[] 0)).update s.heap.objs.size (Obj.mapSeq (· ++ vs.toArray))).push (seqObj "list" vs.toArray 0)).get? b = some o := fun b o e => by
    have hlt : b < s.heap.objs.size := Heap.lt_size e
    exact Heap.get?_push_of_some _ ((Heap.get?_update_ne _ _ _ _ (Nat.ne_of_lt hlt)).trans (Heap.get?_push_of_some _ e))
  show wpAny _ _ _ _ _ { s with heap := ((s.heap.push (seqObj "list" #[] 0)).update s.heap.objs.size (Obj.mapSeq (· ++ vs.toArray))).push (seqObj "list" vs.toArray 0) }
  rw [hsz]
  refine wpAny_bind (wpAny_holding (wpAny_call_entry slot_list_sort ⟨_, hoL, rfl⟩ entry_list_sort ?_ (args_list_sort _)))
  have old : ∀ (s' : Shared), (∀ b o, b ≠ s.heap.objs.size + 1 → (((s.heap.push (seqObj "list" #[] 0)).update s.heap.objs.size (Obj.mapSeq (· ++ vs.toArray))).push (seqObj "list" vs.toArray 0)).get? b = some o → s'.heap.get? b = some o) → ∀ b o, s.heap.get? b = some o → s'.heap.get? b = some o := fun s' h b o e => by
    have hlt : b < s.heap.objs.size := Heap.lt_size e
    exact h b o (fun z => by rw [z] at hlt; exact absurd hlt (Nat.not_lt.mpr (Nat.le_succ _))) (keep b o e)
  refine sort_gen (A := A.in1.in1) O key κ hoL h64 (fun s' Q' hs h2 hq => hk s' _ Q' (old s' hs) h2 hq) (fun s' i j C hs hi hj hC => hc s' i j C (old s' hs) hi hj hC) fun p o1 o2 => ⟨_, rfl, wpAny_pure ⟨_, rfl, h p o1 o2⟩⟩
theorem pair_lt {x y : Addr} {fx sx fy sy : Value} {b : Bool} {C : Bool → Shared → Prop} (hx : s.heap.IsTuple x [fx, sx].toArray) (hy : s.heap.IsTuple y [fy, sy].toArray)
    (hne : x ≠ y → SeqAt.EqAt A s fx fy false ∧ wpAny (model prog w) A (oneLt' b fx fy) C (fun _ _ => False) s) (heq : x = y → SeqAt.EqAt A s fx fx true ∧ SeqAt.EqAt A s sx sx true ∧ C false s) :
    wpAny (model prog w) A (keyLt' (tuples' b) (.ref x) (.ref y)) C E s := by
  obtain ⟨ox, gx, cx, nx, dx⟩ := hx
  obtain ⟨oy, gy, cy, ny, dy⟩ := hy
  refine kat_lt gx dx gy dy ?_
  by_cases h : x = y
  · subst h
    obtain rfl := Option.some.inj (gx.symm.trans gy)
    rw [dx] at dy
    injection dy with e1 e2
    have e3 : [fx, sx] = [fy, sy] := by simpa using congrArg Array.toList e1
    injection e3 with e4 e5
    injection e5 with e6 e7
    subst e4 e6
    obtain ⟨q1, q2, q3⟩ := heq rfl
    show KatLex prog w A b _ C [(fx, fx), (sx, sx)] 0 s
    refine kat_cons (q1 _ _ _ _ (kat_yes (kat_cons (q2 _ _ _ _ (kat_yes (kat_nil ?_))))))
    exact q3
  · obtain ⟨q1, q2⟩ := hne h
    show KatLex prog w A b _ C [(fx, fy), (sx, sy)] 0 s
    refine kat_cons (q1 _ _ _ _ (kat_no ?_))
    have : (b && (0 : Nat) == 0) = b := by simp
    rw [this]
    exact q2
end
theorem out_gen {α : Type} {O : KeyOrd} {ts : List α} {d : α} {key : α → O.α} {p : Array Nat} (hP : Srt.Pm ts.length p) (hU : Srt.Up (O := O) (fun i => key (ts.getD i d)) p ts.length) :
    (p.toList.map fun i => ts.getD i d).Perm ts ∧ (p.toList.map fun i => ts.getD i d).Pairwise fun x y => O.blt (key y) (key x) = false := by
  constructor
  · have h1 := List.Perm.map (fun i => ts.getD i d) hP
    have e : (List.range ts.length).map (fun i => ts.getD i d) = ts := by
      apply List.ext_getElem (by simp)
      intro i a b
      simp at a
      simp [a]
    rwa [e] at h1
  · rw [List.pairwise_iff_getElem]
    intro i j hi hj hij
    have hsz := hP.size
    simp only [List.length_map, Array.length_toList] at hi hj
    have := hU i j (Nat.le_of_lt hij) (by omega)
    unfold KeyOrd.kle Srt.kk at this
    have ei : p.getD i 0 = p[i] := by simp [Array.getD, hi]
    have ej : p.getD j 0 = p[j] := by simp [Array.getD, hj]
    rw [ei, ej] at this
    simpa using this
theorem IsTuple.keeps {h h' : Heap} {a : Addr} {xs : Array Value} (k : ∀ b o, h.get? b = some o → h'.get? b = some o) (x : h.IsTuple a xs) : h'.IsTuple a xs := by
  obtain ⟨o, e, r⟩ := x
  exact ⟨o, k _ _ e, r⟩
section
variable {prog : Program} {w : World} {A : Around} {E : Value → Shared → Prop} {s : Shared}
end
section
variable {X : Cx}
theorem vals_mapF {α : Type} {f : α → Addr} : ∀ {ts : List α} {us : List Value}, Vals (ts.map fun t => V.ref (f t)) us → us = ts.map fun t => Value.ref (f t)
  | [], _, .nil => rfl
  | t :: ts, _, .cons r rr => by
    have e : _ = Value.ref (f t) := r
    rw [List.map_cons, ← vals_mapF rr, ← e]
theorem mapF_vals {α : Type} {f : α → Addr} : ∀ ts : List α, Vals (ts.map fun t => V.ref (f t)) (ts.map fun t => Value.ref (f t))
  | [] => .nil
  | t :: ts => .cons rfl (mapF_vals ts)
end
end L2
namespace L2
open PySem PySem.Spec PyProof.Rows
section
variable {prog : Program} {w : World} {A : Around} {E : Value → Shared → Prop} {s : Shared}
end
section
variable {X : Cx}
theorem vals_bools : ∀ {bs : List Bool} {us : List Value}, Vals (bs.map V.bl) us → us = bs.map Value.bool
  | [], _, .nil => rfl
  | b :: bs, _, .cons r rr => by
    have e : _ = Value.bool b := r
    rw [List.map_cons, ← vals_bools rr, ← e]
theorem call_allB (hc : X.calm = true) : CallR X (.builtin "all") (fun xs H Q => ∃ (l : Addr) (bs : List Bool), xs = [.ref l] ∧ SqL X.K H l (bs.map V.bl) ∧ Q (.bl (bs.all id)) H) := by
  intro pins s σ H xs us Q I r h
  obtain ⟨l, bs, rfl, hl, q⟩ := h
  cases r with
  | cons r rr =>
    cases rr
    obtain rfl : _ = Value.ref l := r
    obtain ⟨its, rv, p, _⟩ := I.list hl
    obtain rfl := vals_bools rv
    have hL := p.isList
    have hlt : l < s.heap.objs.size := by obtain ⟨_, e, _⟩ := hL; exact Heap.lt_size e
    refine call_all_walk (wpAny_pyIter_list hL ?_)
    refine ⟨s.heap.objs.size, [s.heap.objs.size, l], [s.heap.objs.size], (bs.map Value.bool).toArray.size, _, _, fun i => (bs[i]?).getD true, rfl, Walks.list (A := X.A.in1) (I.ok.hd hc) _ l (Nat.ne_of_lt hlt) (bs.map Value.bool).toArray,
      ⟨⟨_, Heap.get?_push_size _ rfl, rfl, rfl⟩, hL.push _⟩, fun i v s' Q' E' hP hQ => ?_, fun h' tk hk => ?_⟩
    · have hP' : (bs.map Value.bool)[i]? = some v := by simpa using hP
      rw [List.getElem?_map] at hP'
      cases eb : bs[i]? with
      | none => rw [eb] at hP'; simp at hP'
      | some b =>
        rw [eb] at hP'
        obtain rfl : Value.bool b = v := by simpa using hP'
        have hQ2 : Q' ((bs[i]?).getD true) s' := hQ
        rw [eb] at hQ2
        exact wpAny_truthy_bool hQ2
    · have e : ((List.range (bs.map Value.bool).toArray.size).all fun i => (bs[i]?).getD true) = bs.all id := by
        rw [List.size_toArray, List.length_map, Bool.eq_iff_iff, List.all_eq_true, List.all_eq_true]
        constructor
        · intro h x hx
          obtain ⟨i, hi, rfl⟩ := List.getElem_of_mem hx
          have := h i (List.mem_range.mpr hi)
          rw [List.getElem?_eq_getElem hi] at this
          exact this
        · intro h i hi
          have hi' := List.mem_range.mp hi
          rw [List.getElem?_eq_getElem hi']
          exact h _ (List.getElem_mem hi')
      rw [e]
      exact ⟨.bl _, H, I.kept (t' := tk) (fun b o eb => hk b o (fun hm => by rw [List.mem_singleton.mp hm] at eb; exact Nat.lt_irrefl _ (Heap.lt_size eb)) (Heap.get?_push_of_some _ eb)), rfl, q⟩
end
end L2
namespace L2
open PySem PySem.Spec PyProof.Rows
section
variable {X : Cx} {tg : Expr}
theorem call_anyB (hc : X.calm = true) : CallR X (.builtin "any") (fun xs H Q => ∃ (l : Addr) (bs : List Bool), xs = [.ref l] ∧ SqL X.K H l (bs.map V.bl) ∧ Q (.bl (bs.any id)) H) := by
  intro pins s σ H xs us Q I r h
  obtain ⟨l, bs, rfl, hl, q⟩ := h
  cases r with
  | cons r rr =>
    cases rr
    obtain rfl : _ = Value.ref l := r
    obtain ⟨its, rv, p, _⟩ := I.list hl
    obtain rfl := vals_bools rv
    have hL := p.isList
    have hlt : l < s.heap.objs.size := by obtain ⟨_, e, _⟩ := hL; exact Heap.lt_size e
    refine call_any_walk (wpAny_pyIter_list hL ?_)
    refine ⟨s.heap.objs.size, [s.heap.objs.size, l], [s.heap.objs.size], (bs.map Value.bool).toArray.size, _, _, fun i => (bs[i]?).getD false, rfl, Walks.list (A := X.A.in1) (I.ok.hd hc) _ l (Nat.ne_of_lt hlt) (bs.map Value.bool).toArray,
      ⟨⟨_, Heap.get?_push_size _ rfl, rfl, rfl⟩, hL.push _⟩, fun i v s' Q' E' hP hQ => ?_, fun h' tk hk => ?_⟩
    · have hP' : (bs.map Value.bool)[i]? = some v := by simpa using hP
      rw [List.getElem?_map] at hP'
      cases eb : bs[i]? with
      | none => rw [eb] at hP'; simp at hP'
      | some b =>
        rw [eb] at hP'
        obtain rfl : Value.bool b = v := by simpa using hP'
        have hQ2 : Q' ((bs[i]?).getD false) s' := hQ
        rw [eb] at hQ2
        exact wpAny_truthy_bool hQ2
    · have e : ((List.range (bs.map Value.bool).toArray.size).any fun i => (bs[i]?).getD false) = bs.any id := by
        rw [List.size_toArray, List.length_map, Bool.eq_iff_iff, List.any_eq_true, List.any_eq_true]
        constructor
        · rintro ⟨i, hi, h⟩
          have hi' := List.mem_range.mp hi
          rw [List.getElem?_eq_getElem hi'] at h
          exact ⟨_, List.getElem_mem hi', h⟩
        · rintro ⟨x, hx, h⟩
          obtain ⟨i, hi, rfl⟩ := List.getElem_of_mem hx
          exact ⟨i, List.mem_range.mpr hi, by rw [List.getElem?_eq_getElem hi]; exact h⟩
      rw [e]
      exact ⟨.bl _, H, I.kept (t' := tk) (fun b o eb => hk b o (fun hm => by rw [List.mem_singleton.mp hm] at eb; exact Nat.lt_irrefl _ (Heap.lt_size eb)) (Heap.get?_push_of_some _ eb)), rfl, q⟩
end
end L2
namespace L2
open PySem PySem.Spec PyProof.Rows PySem.W
section
variable {X : Cx}
end
@[reducible] def strOrd : KeyOrd := ⟨List Nat, fun a b => decide (a < b), fun a => strKind.irrefl a, fun a b c => strKind.trans a b c, fun a b c => strKind.negTrans a b c, fun a b => strKind.total a b⟩
abbrev PNx := Addr × Str × Addr × List Str
def PairN (h : Heap) (t : PNx) : Prop := ∃ (tk : Tok) (as : List Addr), h.IsTuple t.1 [Value.str t.2.1 tk, Value.ref t.2.2.1].toArray ∧ Reads h (.ref t.2.2.1) (.tuple (t.2.2.2.map PyData.str)) as
theorem PairN.keeps {h h' : Heap} {t : PNx} (k : ∀ b o, h.get? b = some o → h'.get? b = some o) (x : PairN h t) : PairN h' t := by
  obtain ⟨tk, as, h1, h2⟩ := x
  exact ⟨tk, as, IsTuple.keeps k h1, Reads.keeps k h2⟩
theorem rd_strs {K : PySem.W.Frag} {H : Hp} : ∀ p : List Str, RdAll K H (p.map V.str) (p.map PyData.str)
  | [] => .nil
  | i :: r => .cons (.str i) (rd_strs r)
theorem lay_strs : ∀ p : List Str, (∀ x ∈ p, PyData.strOk x = true) → PyData.canLayAll0 (p.map PyData.str) = true
  | [], _ => by simp [PyData.canLayAll0]
  | i :: r, h => by simp only [List.map_cons, PyData.canLayAll0, PyData.canLay0, lay_strs r fun x hx => h x (List.mem_cons_of_mem _ hx), h i List.mem_cons_self, Bool.and_self]
theorem pairN_tups {h : Heap} : ∀ {ts : List PNx}, (∀ t ∈ ts, PairN h t) → ∃ fs : List Value, KatTups h (ts.map fun t => Value.ref t.1) fs ∧ (∀ v ∈ fs, ∃ x t, v = Value.str x t) ∧ fs.length = ts.length
  | [], _ => ⟨[], KatTups.nil, fun v hv => (nomatch hv), rfl⟩
  | t :: r, ht => by
    obtain ⟨tk, as, ⟨o, go, gc, n, gd⟩, _⟩ := ht t List.mem_cons_self
    obtain ⟨fs, h1, h2, h3⟩ := pairN_tups fun u hu => ht u (List.mem_cons_of_mem _ hu)
    refine ⟨Value.str t.2.1 tk :: fs, KatTups.cons go gc gd rfl h1, fun v hv => ?_, by simp [h3]⟩
    rcases List.mem_cons.mp hv with rfl | hv
    · exact ⟨_, _, rfl⟩
    · exact h2 v hv
section
variable {prog : Program} {w : World} {A : Around} {E : Value → Shared → Prop} {s : Shared}
theorem pairN_lt {t u : PNx} {C : Bool → Shared → Prop} (ht : PairN s.heap t) (hu : PairN s.heap u) (hok : ∀ x ∈ t.2.2.2, PyData.strOk x = true) (hd : t.1 ≠ u.1 → t.2.1 ≠ u.2.1) (hA : A.units + 2 < cLine) (h : C (decide (t.2.1.cps.toList < u.2.1.cps.toList)) s) : wpAny (model prog w) A (keyLt' (tuples' true) (.ref t.1) (.ref u.1)) C E s := by
  obtain ⟨tk, as, h1, h4⟩ := ht
  obtain ⟨tk2, as2, g1, g4⟩ := hu
  have lay : (PyData.tuple (t.2.2.2.map PyData.str)).canLay0 = true := by simp only [PyData.canLay0]; exact lay_strs _ hok
  have dep : (PyData.tuple (t.2.2.2.map PyData.str)).depth ≤ 1 := by simp only [PyData.depth, depth_strs]; omega
  refine pair_lt h1 g1 (fun hne => ?_) (fun heq => ?_)
  · refine ⟨?_, oneLt_str h⟩
    have e := (eqGives_str t.2.1 u.2.1 tk tk2).at A s
    have : (t.2.1 == u.2.1) = false := by simpa using hd hne
    rw [this] at e
    exact e
  · refine ⟨?_, ?_, ?_⟩
    · have e := (eqGives_str t.2.1 t.2.1 tk tk).at A s
      simpa using e
    · have e := SeqAt.eqAt_reads _ _ A s _ _ _ _ h4 h4 lay lay (by omega)
      rw [eqv_self _ lay] at e
      exact e
    · have e1 : t.2.1 = u.2.1 := by
        obtain ⟨o, e, _, n, d⟩ := h1
        obtain ⟨o2, e2, _, n2, d2⟩ := g1
        rw [heq, e2] at e
        cases e
        rw [d] at d2
        injection d2 with z1 z2
        have z3 : [Value.str t.2.1 tk, Value.ref t.2.2.1] = [Value.str u.2.1 tk2, Value.ref u.2.2.1] := by simpa using congrArg Array.toList z1
        injection z3 with z4 z5
        injection z4
      rw [← e1, decide_eq_false (List.lt_irrefl _)] at h
      exact h
end
section
variable {X : Cx}
theorem call_sortedN (hu : X.A.units + 4 < cLine) : CallR X (.builtin "sorted") (fun xs H Q => ∃ (l : Addr) (ts : List PNx), xs = [.ref l] ∧ SqL X.K H l (ts.map fun t => V.ref t.1) ∧ (∀ t ∈ ts, SqT X.K H t.1 [.str t.2.1, .ref t.2.2.1] ∧ SqT X.K H t.2.2.1 (t.2.2.2.map V.str) ∧ ∀ x ∈ t.2.2.2, PyData.strOk x = true) ∧ (ts.map fun t => t.2.1).Nodup ∧ ts.length < 64 ∧
    ∀ (out : List PNx) p, out.Perm ts → (out.Pairwise fun x y => ¬ y.2.1.cps.toList < x.2.1.cps.toList) → H p = none → Q (.ref p) (upd H p (.lst (out.map fun t => V.ref t.1)))) := by
  intro pins s σ H xs us Q I r h
  obtain ⟨l, ts, rfl, hl, ht, hnd, h64, q⟩ := h
  cases r with
  | cons r rr =>
    cases rr
    obtain rfl : _ = Value.ref l := r
    obtain ⟨its, rv, p, _⟩ := I.list hl
    obtain rfl := vals_mapF rv
    have hP : ∀ t ∈ ts, PairN s.heap t := fun t htm => by
      obtain ⟨h1, h2, _⟩ := ht t htm
      obtain ⟨its1, r1, p1, _⟩ := I.tuple h1
      obtain ⟨u, v, rfl, ru, rv⟩ := r1.two
      cases (show v = Value.ref _ from rv)
      obtain ⟨tk, rfl⟩ := (show ∃ tk, u = Value.str _ tk from ru)
      obtain ⟨as, q4⟩ := (RdV.tup h2 (rd_strs _)).reads I (show RelV (.ref t.2.2.1) (.ref t.2.2.1) from rfl)
      exact ⟨tk, as, p1, q4⟩
    let d : PNx := (0, ⟨#[]⟩, 0, [])
    have gd : ∀ i, i < ts.length → (ts.map fun t => Value.ref t.1).getD i Value.none = .ref (ts.getD i d).1 := fun i hi => by simp [List.getD_eq_getElem?_getD, hi]
    have md : ∀ i, i < ts.length → ts.getD i d ∈ ts := fun i hi => by simp [List.getD_eq_getElem?_getD, hi]
    have ek : (Value.type "str" != Value.type "tuple") = true := by decide +kernel
    refine sorted_gen strOrd (fun i => (ts.getD i d).2.1.cps.toList) (tuples' true) p.isList (by simpa using h64) (fun s' E' Q' hs h2 hq => ?_) (fun s' i j C hs hi hj hC => ?_) fun pp o1 o2 => ?_
    · obtain ⟨fs, f1, f2, f3⟩ := pairN_tups (h := s'.heap) fun t htm => (hP t htm).keeps hs
      refine kat_kind (T := .type "str") f1 (by rw [f3]; rw [List.length_map] at h2; omega) (fun v hv => ?_) (by decide +kernel) (by rw [ek]; exact hq)
      obtain ⟨x, t, rfl⟩ := f2 v hv
      exact .now
    · rw [List.length_map] at hi hj
      rw [gd i hi, gd j hj]
      refine pairN_lt ((hP _ (md i hi)).keeps hs) ((hP _ (md j hj)).keeps hs) (ht _ (md i hi)).2.2 (fun hne he => hne ?_) (by show X.A.units + 1 + 1 + 2 < cLine; omega) hC
      have hij : i = j := by
        have a1 : (ts.map fun t => t.2.1)[i]'(by simpa using hi) = (ts.getD i d).2.1 := by simp [List.getD_eq_getElem?_getD, hi]
        have a2 : (ts.map fun t => t.2.1)[j]'(by simpa using hj) = (ts.getD j d).2.1 := by simp [List.getD_eq_getElem?_getD, hj]
        exact (List.getElem_inj hnd).mp (a1.trans (he.trans a2.symm))
      rw [hij]
    · rw [List.length_map] at o1 o2
      obtain ⟨w1, w2⟩ := out_gen (O := strOrd) (ts := ts) (d := d) (key := fun t => t.2.1.cps.toList) o1 o2
      have em : (pp.toList.map fun i => (ts.map fun t => Value.ref t.1).getD i Value.none) = (pp.toList.map fun i => ts.getD i d).map fun t => Value.ref t.1 := by
        rw [List.map_map]
        refine List.map_congr_left fun i hi => ?_
        exact gd i (List.mem_range.mp (o1.mem_iff.mp hi))
      rw [em]
      generalize pp.toList.map (fun i => ts.getD i d) = out at w1 w2
      obtain ⟨e, he⟩ := sortedAll_at s.heap (ts.map fun t => Value.ref t.1) (out.map fun t => Value.ref t.1).toArray
      have hfr : H (s.heap.objs.size + 1) = none := I.hok.fresh (Nat.le_succ _)
      refine ⟨.ref (s.heap.objs.size + 1), _, I.laid (t' := s.toks) (o := .lst (out.map fun t => V.ref t.1)) (fun b o g => sortedAll_old g) (Nat.le_succ _) ?_, rfl, q out _ w1 (w2.imp fun h => by simpa using h) hfr⟩
      exact ⟨by rw [List.length_map, w1.length_eq, sizeLine_eq]; omega, _, e, mapF_vals out, he⟩
end
end L2
namespace TM
inductive Tree (α : Type) where
  | node (name : α) (mark : Int) (bs : List (Tree α))
variable {α : Type}
def Tree.bs : Tree α → List (Tree α)
  | .node _ _ bs => bs
def atT : Tree α → List Int → Option (Tree α)
  | t, [] => some t
  | t, i :: r => if 0 ≤ i then (match t.bs[i.toNat]? with
    | some b => atT b r
    | none => none) else none
theorem atT_nil (t : Tree α) : atT t [] = some t := by cases t; rfl
theorem atT_cons (t : Tree α) (i : Int) (r : List Int) : atT t (i :: r) = if 0 ≤ i then (match t.bs[i.toNat]? with
    | some b => atT b r
    | none => none) else none := by cases t; rfl
structure Rows (α : Type) where
  n : Nat
  nm : Nat → α
  mr : Nat → Int
  up : Nat → Nat
structure Rows.Ok (R : Rows α) : Prop where
  pos : 0 < R.n
  up0 : R.up 0 = 0
  upk : ∀ k, 0 < k → R.up k < k
variable {R : Rows α}
section
variable {K : Nat → List Int} {B : Nat → Tree α} {o0 : Tree α}
def it (R : Rows α) : Nat → Nat → Nat
  | 0, s => s
  | j + 1, s => R.up (it R j s)
variable {B' : Nat → Tree α} {o : Tree α} {s : Nat}
end
end TM
namespace L2
open PySem PySem.Spec PyProof.Rows TM
mutual
inductive TrV (K : PySem.W.Frag) (H : Hp) : V → Tree Str → Prop where
  | mk {a b : Addr} {vs : List V} {ts : List (Tree Str)} {name : Str} {mark : Int} : SqT K H a [.str name, .int mark, .ref b] → SqT K H b vs → TrAll K H vs ts → vs.length ≤ 1000 → TrV K H (.ref a) (.node name mark ts)
inductive TrAll (K : PySem.W.Frag) (H : Hp) : List V → List (Tree Str) → Prop where
  | nil : TrAll K H [] []
  | cons {v : V} {vs : List V} {t : Tree Str} {ts : List (Tree Str)} : TrV K H v t → TrAll K H vs ts → TrAll K H (v :: vs) (t :: ts)
end
mutual
theorem TrV.mono {K : PySem.W.Frag} {H H' : Hp} (k : ∀ a xs, SqT K H a xs → SqT K H' a xs) : ∀ {v : V} {t : Tree Str}, TrV K H v t → TrV K H' v t
  | _, _, .mk h1 h2 h3 h4 => .mk (k _ _ h1) (k _ _ h2) (TrAll.mono k h3) h4
theorem TrAll.mono {K : PySem.W.Frag} {H H' : Hp} (k : ∀ a xs, SqT K H a xs → SqT K H' a xs) : ∀ {vs : List V} {ts : List (Tree Str)}, TrAll K H vs ts → TrAll K H' vs ts
  | _, _, .nil => .nil
  | _, _, .cons h t => .cons (TrV.mono k h) (TrAll.mono k t)
end
theorem SqT.put {K : PySem.W.Frag} {H : Hp} {a d : Addr} {xs ys : List V} {o : HO} (h : SqT K H a xs) (hd : H d = some (.lst ys)) : SqT K (upd H d o) a xs := by
  rcases h with (h | ⟨ob, h⟩) | h
  · exact .inl (.inl (by rw [upd_ne (ne_of h hd (by intro z; cases z))]; exact h))
  · exact .inl (.inr ⟨ob, by rw [upd_ne (ne_of h hd (by intro z; cases z))]; exact h⟩)
  · exact .inr h
end L2
namespace TM
variable {α : Type}
mutual
def sz : Tree α → Nat
  | .node _ _ bs => 1 + szs bs
def szs : List (Tree α) → Nat
  | [] => 0
  | t :: r => sz t + szs r
end
mutual
def lv : Tree α → Nat
  | .node _ _ bs => 1 + lvs bs
def lvs : List (Tree α) → Nat
  | [] => 0
  | t :: r => max (lv t) (lvs r)
end
mutual
def pl : Tree α → List (List Int)
  | .node _ _ bs => [] :: pls 0 bs
def pls : Nat → List (Tree α) → List (List Int)
  | _, [] => []
  | i, t :: r => (pl t).map (List.cons (i : Int)) ++ pls (i + 1) r
end
theorem sz_bs (t : Tree α) : sz t = 1 + szs t.bs := by cases t; simp [sz, Tree.bs]
theorem lv_bs (t : Tree α) : lv t = 1 + lvs t.bs := by cases t; simp [lv, Tree.bs]
theorem szs_map : ∀ ts : List (Tree α), ((ts.map fun t => (sz t : Int)).sum) = (szs ts : Int)
  | [] => by simp [szs]
  | t :: r => by rw [List.map_cons, List.sum_cons, szs_map r]; simp [szs]
theorem sz_le {ts : List (Tree α)} {t : Tree α} (h : t ∈ ts) : sz t ≤ szs ts := by
  induction ts with
  | nil => cases h
  | cons u r ih =>
    simp only [szs]
    rcases List.mem_cons.mp h with rfl | h
    · omega
    · have := ih h; omega
theorem lv_le {ts : List (Tree α)} {t : Tree α} (h : t ∈ ts) : lv t ≤ lvs ts := by
  induction ts with
  | nil => cases h
  | cons u r ih =>
    simp only [lvs]
    rcases List.mem_cons.mp h with rfl | h
    · omega
    · have := ih h; omega
mutual
theorem lv_sz : ∀ t : Tree α, lv t ≤ sz t
  | .node _ _ bs => by simp only [lv, sz]; have := lvs_szs bs; omega
theorem lvs_szs : ∀ ts : List (Tree α), lvs ts ≤ szs ts
  | [] => by simp [lvs, szs]
  | t :: r => by simp only [lvs, szs]; have h1 := lv_sz t; have h2 := lvs_szs r; omega
end
mutual
theorem pl_len : ∀ t : Tree α, (pl t).length = sz t
  | .node _ _ bs => by simp only [pl, sz, List.length_cons]; rw [pls_len 0 bs]; omega
theorem pls_len : ∀ (i : Nat) (ts : List (Tree α)), (pls i ts).length = szs ts
  | _, [] => by simp [pls, szs]
  | i, t :: r => by simp only [pls, szs, List.length_append, List.length_map]; rw [pl_len t, pls_len (i + 1) r]
end
mutual
theorem mem_pl : ∀ (t : Tree α) (p : List Int), p ∈ pl t ↔ (atT t p).isSome = true
  | .node a m bs, p => by
    cases p with
    | nil => simp [pl, atT_nil]
    | cons i r =>
      rw [atT_cons]
      simp only [pl, List.mem_cons, reduceCtorEq, false_or]
      rw [mem_pls 0 bs i r]
      constructor
      · rintro ⟨k, t, hk, rfl, h⟩
        rw [if_pos (by omega)]
        have e : (((0 + k : Nat) : Int)).toNat = k := by omega
        show (match bs[(((0 + k : Nat) : Int)).toNat]? with | some b => atT b r | none => none).isSome = true
        rw [e, hk]; exact h
      · intro h
        by_cases hi : 0 ≤ i
        · rw [if_pos hi] at h
          have h' : (match bs[i.toNat]? with | some b => atT b r | none => none).isSome = true := h
          cases hk : bs[i.toNat]? with
          | none => rw [hk] at h'; cases h'
          | some b => rw [hk] at h'; exact ⟨i.toNat, b, hk, by omega, h'⟩
        · rw [if_neg hi] at h; cases h
theorem mem_pls : ∀ (j : Nat) (ts : List (Tree α)) (i : Int) (r : List Int), i :: r ∈ pls j ts ↔ ∃ k t, ts[k]? = some t ∧ i = ((j + k : Nat) : Int) ∧ (atT t r).isSome = true
  | j, [], i, r => by simp [pls]
  | j, u :: ts, i, r => by
    simp only [pls, List.mem_append, List.mem_map]
    rw [mem_pls (j + 1) ts i r]
    constructor
    · rintro (⟨q, hq, e⟩ | ⟨k, t, h1, h2, h3⟩)
      · simp only [List.cons.injEq] at e
        obtain ⟨e1, rfl⟩ := e
        exact ⟨0, u, rfl, by rw [← e1]; rfl, (mem_pl u q).mp hq⟩
      · exact ⟨k + 1, t, by simpa using h1, by rw [h2]; congr 1; omega, h3⟩
    · rintro ⟨k, t, h1, h2, h3⟩
      cases k with
      | zero =>
        have : u = t := by simpa using h1
        subst this
        exact .inl ⟨r, (mem_pl u r).mpr h3, by rw [h2]; rfl⟩
      | succ k => exact .inr ⟨k, t, by simpa using h1, by rw [h2]; congr 1; omega, h3⟩
end
mutual
theorem len_le : ∀ (t : Tree α) (p : List Int), p ∈ pl t → p.length < lv t
  | .node a m bs, p, h => by
    simp only [pl, List.mem_cons] at h
    simp only [lv]
    rcases h with rfl | h
    · simp; omega
    · have := lens_le 0 bs p h; omega
theorem lens_le : ∀ (j : Nat) (ts : List (Tree α)) (p : List Int), p ∈ pls j ts → p.length ≤ lvs ts
  | j, [], p, h => by simp [pls] at h
  | j, u :: ts, p, h => by
    simp only [pls, List.mem_append, List.mem_map] at h
    simp only [lvs]
    rcases h with ⟨q, hq, rfl⟩ | h
    · have := len_le u q hq; simp; omega
    · have := lens_le (j + 1) ts p h; omega
end
mutual
theorem len_max : ∀ t : Tree α, ∃ p ∈ pl t, p.length + 1 = lv t
  | .node a m bs => by
    simp only [pl, lv]
    rcases lens_max 0 bs with h | ⟨p, hp, e⟩
    · exact ⟨[], List.mem_cons_self, by rw [h]; rfl⟩
    · exact ⟨p, List.mem_cons_of_mem _ hp, by omega⟩
theorem lens_max : ∀ (j : Nat) (ts : List (Tree α)), lvs ts = 0 ∨ ∃ p ∈ pls j ts, p.length = lvs ts
  | j, [] => .inl (by simp [lvs])
  | j, u :: ts => by
    right
    simp only [pls, lvs]
    obtain ⟨p, hp, e⟩ := len_max u
    by_cases hc : lvs ts ≤ lv u
    · exact ⟨(j : Int) :: p, List.mem_append_left _ (List.mem_map.mpr ⟨p, hp, rfl⟩), by simp; omega⟩
    · rcases lens_max (j + 1) ts with h | ⟨q, hq, e2⟩
      · omega
      · exact ⟨q, List.mem_append_right _ hq, by omega⟩
end
open HT (lexLt)
mutual
theorem pl_asc : ∀ t : Tree α, (pl t).Pairwise fun x y => lexLt x y = true
  | .node a m bs => by
    simp only [pl]
    rw [List.pairwise_cons]
    refine ⟨fun y hy => ?_, pls_asc 0 bs⟩
    cases y with
    | nil => exact absurd hy (nil_pls 0 bs)
    | cons _ _ => rfl
theorem pls_asc : ∀ (j : Nat) (ts : List (Tree α)), (pls j ts).Pairwise fun x y => lexLt x y = true
  | j, [] => by simp [pls]
  | j, u :: ts => by
    simp only [pls]
    rw [List.pairwise_append]
    refine ⟨?_, pls_asc (j + 1) ts, fun x hx y hy => ?_⟩
    · rw [List.pairwise_map]
      refine (pl_asc u).imp fun {x y} h => ?_
      rw [HT.lexLt_cons, if_pos rfl]; exact h
    · obtain ⟨q, hq, rfl⟩ := List.mem_map.mp hx
      cases y with
      | nil => exact absurd hy (nil_pls (j + 1) ts)
      | cons i r =>
        obtain ⟨k, t, _, rfl, _⟩ := (mem_pls (j + 1) ts i r).mp hy
        rw [HT.lexLt_cons, if_neg (by omega)]
        exact decide_eq_true (by omega)
theorem nil_pls : ∀ (j : Nat) (ts : List (Tree α)), [] ∉ pls j ts
  | j, [] => by simp [pls]
  | j, u :: ts => by
    simp only [pls, List.mem_append, List.mem_map, not_or]
    exact ⟨(fun ⟨q, _, e⟩ => nomatch e), nil_pls (j + 1) ts⟩
end
variable {R : Rows α} {K : Nat → List Int} {B : Nat → Tree α} {o0 : Tree α}
end TM
namespace TT
open TM PySem
inductive Lab where
  | call (m b : Int)
  | put (nm : Str) (kept : Bool) (add : Int)
abbrev Tm := Tree Lab
def leaf (m b : Int) : Tm := .node (.call m b) 0 []
def lcl : Lab → List (Int × Int)
  | .call m b => [(m, b)]
  | .put _ _ _ => []
def isC : Lab → Bool
  | .call _ _ => true
  | .put _ _ _ => false
def lab : Tm → Lab
  | .node l _ _ => l
mutual
def cls : Tm → List (Int × Int)
  | .node l _ bs => lcl l ++ clss bs
def clss : List Tm → List (Int × Int)
  | [] => []
  | t :: r => cls t ++ clss r
end
def hdF (f : Int → Int → Tm) : Lab → List Tm → Tm
  | .call m b, _ => f m b
  | .put n k a, ts => .node (.put n k a) 0 ts
mutual
def sub (f : Int → Int → Tm) : Tm → Tm
  | .node l _ bs => hdF f l (subs f bs)
def subs (f : Int → Int → Tm) : List Tm → List Tm
  | [] => []
  | t :: r => sub f t :: subs f r
end
def onB (b : Int) (t : Tm) : Tm := sub (fun m _ => leaf m b) t
theorem subs_map (f : Int → Int → Tm) : ∀ ts : List Tm, subs f ts = ts.map (sub f)
  | [] => by simp [subs]
  | t :: r => by simp only [subs, List.map_cons, subs_map f r]
theorem cls_le {ts : List Tm} {t : Tm} (h : t ∈ ts) : ∀ c, c ∈ cls t → c ∈ clss ts := by
  induction ts with
  | nil => cases h
  | cons u r ih =>
    intro c hc
    simp only [clss]
    rcases List.mem_cons.mp h with rfl | h
    · exact List.mem_append_left _ hc
    · exact List.mem_append_right _ (ih h c hc)
theorem clss_snoc : ∀ (ts : List Tm) (t : Tm), clss (ts ++ [t]) = clss ts ++ cls t
  | [], t => by simp [clss]
  | u :: r, t => by rw [List.cons_append]; simp only [clss, clss_snoc r t, List.append_assoc]
mutual
theorem cls_len : ∀ t : Tm, (cls t).length ≤ sz t
  | .node l _ bs => by
    simp only [cls, sz, List.length_append]
    have := clss_len bs
    have h : (lcl l).length ≤ 1 := by cases l <;> simp [lcl]
    omega
theorem clss_len : ∀ ts : List Tm, (clss ts).length ≤ szs ts
  | [] => by simp [clss, szs]
  | t :: r => by simp only [clss, szs, List.length_append]; have h1 := cls_len t; have h2 := clss_len r; omega
end
def look (t : Tm) (p : List Int) : List (Int × Int) := match atT t p with
  | some u => lcl (lab u)
  | none => []
theorem look_cons {t u : Tm} {j : Nat} (h : t.bs[j]? = some u) (p : List Int) : look t ((j : Int) :: p) = look u p := by
  unfold look
  rw [atT_cons, if_pos (by omega), Int.toNat_natCast, h]
mutual
theorem cls_pl : ∀ t : Tm, cls t = (pl t).flatMap (look t)
  | .node l m bs => by
    have h0 : look (.node l m bs) [] = lcl l := by unfold look; rw [atT_nil]; rfl
    simp only [cls, pl, List.flatMap_cons, h0]
    rw [clss_pls (.node l m bs) 0 bs (by simp [Tree.bs])]
theorem clss_pls : ∀ (t : Tm) (j : Nat) (bs : List Tm), t.bs.drop j = bs → clss bs = (pls j bs).flatMap (look t)
  | t, j, [], h => by simp [clss, pls]
  | t, j, u :: r, h => by
    have hj : t.bs[j]? = some u := by
      have := congrArg (fun l => l[0]?) h
      simpa using this
    have hr : t.bs.drop (j + 1) = r := by
      have := congrArg List.tail h
      simpa using this
    simp only [clss, pls, List.flatMap_append, List.flatMap_map]
    rw [cls_pl u, clss_pls t (j + 1) r hr]
    congr 1
    congr 1
    funext p
    exact (look_cons hj p).symm
end
variable {R : Rows Lab}
variable {B B' : Nat → Tm} {f : Int → Int → Tm}
end TT
namespace L2
open PySem PyProof.Rows TM TT
abbrev CALL : Str := Str.ofString "call"
abbrev PUT : Str := Str.ofString "put"
mutual
inductive TmV (K : PySem.W.Frag) (H : Hp) : V → Tm → Prop where
  | call {a : Addr} {m b : Int} : SqT K H a [.str CALL, .int m, .int b] → TmV K H (.ref a) (.node (.call m b) 0 [])
  | put {a b : Addr} {vs : List V} {ts : List Tm} {n : Str} {k : Bool} {ad : Int} : SqT K H a [.str PUT, .str n, .bl k, .int ad, .ref b] → SqT K H b vs → TmAll K H vs ts → vs.length ≤ 1000 → TmV K H (.ref a) (.node (.put n k ad) 0 ts)
inductive TmAll (K : PySem.W.Frag) (H : Hp) : List V → List Tm → Prop where
  | nil : TmAll K H [] []
  | cons {v : V} {vs : List V} {t : Tm} {ts : List Tm} : TmV K H v t → TmAll K H vs ts → TmAll K H (v :: vs) (t :: ts)
end
mutual
theorem TmV.mono {K : PySem.W.Frag} {H H' : Hp} (k : ∀ a xs, SqT K H a xs → SqT K H' a xs) : ∀ {v : V} {t : Tm}, TmV K H v t → TmV K H' v t
  | _, _, .call h => .call (k _ _ h)
  | _, _, .put h1 h2 h3 h4 => .put (k _ _ h1) (k _ _ h2) (TmAll.mono k h3) h4
theorem TmAll.mono {K : PySem.W.Frag} {H H' : Hp} (k : ∀ a xs, SqT K H a xs → SqT K H' a xs) : ∀ {vs : List V} {ts : List Tm}, TmAll K H vs ts → TmAll K H' vs ts
  | _, _, .nil => .nil
  | _, _, .cons h t => .cons (TmV.mono k h) (TmAll.mono k t)
end
theorem TmAll.length {K : PySem.W.Frag} {H : Hp} : ∀ {vs : List V} {ts : List Tm}, TmAll K H vs ts → vs.length = ts.length
  | _, _, .nil => rfl
  | _, _, .cons _ t => by rw [List.length_cons, List.length_cons, TmAll.length t]
theorem TmAll.get {K : PySem.W.Frag} {H : Hp} : ∀ {vs : List V} {ts : List Tm} {i : Nat} {t : Tm}, TmAll K H vs ts → ts[i]? = some t → ∃ v, vs[i]? = some v ∧ TmV K H v t
  | _, _, _, _, .nil, e => by simp at e
  | _, _, 0, _, .cons h _, e => by simp at e; subst e; exact ⟨_, rfl, h⟩
  | _, _, i + 1, t, .cons _ r, e => by
    obtain ⟨v, h1, h2⟩ := TmAll.get (i := i) (t := t) r (by simpa using e)
    exact ⟨v, by simpa using h1, h2⟩
theorem TmAll.append {K : PySem.W.Frag} {H : Hp} : ∀ {vs ws : List V} {ts us : List Tm}, TmAll K H vs ts → TmAll K H ws us → TmAll K H (vs ++ ws) (ts ++ us)
  | _, _, _, _, .nil, h => h
  | _, _, _, _, .cons a t, h => .cons a (TmAll.append t h)
def tdl : Lab → List PyData → PyData
  | .call m b, _ => .tuple [.str CALL, .int m, .int b]
  | .put n k a, ds => .tuple [.str PUT, .str n, .bool k, .int a, .tuple ds]
mutual
def tmd : Tm → PyData
  | .node l _ bs => tdl l (tmds bs)
def tmds : List Tm → List PyData
  | [] => []
  | t :: r => tmd t :: tmds r
end
mutual
theorem TmV.rd {K : PySem.W.Frag} {H : Hp} : ∀ {v : V} {t : Tm}, TmV K H v t → RdV K H v (tmd t)
  | _, _, .call h => by
    simp only [tmd, tdl]
    exact .tup h (.cons (.str _) (.cons (.int _) (.cons (.int _) .nil)))
  | _, _, .put h1 h2 h3 _ => by
    simp only [tmd, tdl]
    exact .tup h1 (.cons (.str _) (.cons (.str _) (.cons (.bl _) (.cons (.int _) (.cons (.tup h2 (TmAll.rd h3)) .nil)))))
theorem TmAll.rd {K : PySem.W.Frag} {H : Hp} : ∀ {vs : List V} {ts : List Tm}, TmAll K H vs ts → RdAll K H vs (tmds ts)
  | _, _, .nil => by simp only [tmds]; exact .nil
  | _, _, .cons h t => by simp only [tmds]; exact .cons (TmV.rd h) (TmAll.rd t)
end
def MOk (d : Nat) (t : Tm) : Prop := (tmd t).canLay0 = true ∧ (tmd t).depth ≤ d
theorem MOk.mono {d e : Nat} {t : Tm} (h : MOk d t) (hd : d ≤ e) : MOk e t := ⟨h.1, Nat.le_trans h.2 hd⟩
theorem tmds_ok {d : Nat} : ∀ ts : List Tm, (∀ t ∈ ts, MOk d t) → PyData.canLayAll0 (tmds ts) = true ∧ PyData.depthAll (tmds ts) ≤ d
  | [], _ => by simp [tmds, PyData.canLayAll0, PyData.depthAll]
  | t :: r, h => by
    obtain ⟨h1, h2⟩ := h t List.mem_cons_self
    obtain ⟨h3, h4⟩ := tmds_ok r fun u hu => h u (List.mem_cons_of_mem _ hu)
    simp only [tmds, PyData.canLayAll0, PyData.depthAll, h1, h3, Bool.and_self, true_and]
    omega
theorem str_call : PyData.strOk CALL = true := by decide +kernel
theorem str_put : PyData.strOk PUT = true := by decide +kernel
theorem leaf_ok (m b : Int) (mk : Int) (bs : List Tm) : MOk 1 (.node (.call m b) mk bs) := by
  constructor
  · simp only [tmd, tdl, PyData.canLay0, PyData.canLayAll0, str_call, Bool.and_self]
  · simp only [tmd, tdl, PyData.depth, PyData.depthAll]; omega
theorem put_ok {d : Nat} {n : Str} {k : Bool} {a mk : Int} {ts : List Tm} (hn : PyData.strOk n = true) (h : ∀ t ∈ ts, MOk d t) : MOk (d + 2) (.node (.put n k a) mk ts) := by
  obtain ⟨h1, h2⟩ := tmds_ok ts h
  constructor
  · simp only [tmd, tdl, PyData.canLay0, PyData.canLayAll0, h1, hn, str_put, Bool.and_self]
  · simp only [tmd, tdl, PyData.depth, PyData.depthAll]
    omega
end L2
namespace L2
open PySem PySem.Spec PyProof.Rows
section
variable {prog : Program} {w : World} {A : Around} {E : Value → Shared → Prop} {s : Shared} {it t : Addr} {i : Nat} {its : Array Value} {x : Value} {Q : Value → Shared → Prop}
end
section
variable {X : Cx} {elts : List Expr} {k1 : Nat} {tpos : Pos}
end
end L2
namespace L2
open PySem PySem.Spec PyProof.Rows
section
variable {prog : Program} {w : World} {A : Around} {E : Value → Shared → Prop} {s : Shared}
end
section
variable {X : Cx} {elts : List Expr} {k1 : Nat} {tpos : Pos}
end
end L2
namespace K9
open PySem L2 TM
mutual
def isT (f : Str → Str → Option (List Str)) : Tree Str → Str → Bool
  | .node n _ bs, k => match f k n with
    | none => false
    | some ss => decide (ss.length = bs.length) && isTs f bs ss
def isTs (f : Str → Str → Option (List Str)) : List (Tree Str) → List Str → Bool
  | [], ss => ss.isEmpty
  | b :: bs, ss => match ss with
    | [] => false
    | s :: r => isT f b s && isTs f bs r
end
mutual
def td : Tree Str → PyData
  | .node n m bs => .tuple [.str n, .int m, .tuple (tds bs)]
def tds : List (Tree Str) → List PyData
  | [] => []
  | t :: r => td t :: tds r
end
mutual
theorem TrV.rd {K : PySem.W.Frag} {H : Hp} : ∀ {v : V} {t : Tree Str}, TrV K H v t → RdV K H v (td t)
  | _, _, .mk h1 h2 h3 _ => by
    simp only [td]
    exact .tup h1 (.cons (.str _) (.cons (.int _) (.cons (.tup h2 (TrAll.rd h3)) .nil)))
theorem TrAll.rd {K : PySem.W.Frag} {H : Hp} : ∀ {vs : List V} {ts : List (Tree Str)}, TrAll K H vs ts → RdAll K H vs (tds ts)
  | _, _, .nil => by simp only [tds]; exact .nil
  | _, _, .cons h t => by simp only [tds]; exact .cons (TrV.rd h) (TrAll.rd t)
end
abbrev KdT := Addr × Str × Addr × List PNx
def RowAt (K : PySem.W.Frag) (H : Hp) (t : PNx) : Prop := SqT K H t.1 [.str t.2.1, .ref t.2.2.1] ∧ SqT K H t.2.2.1 (t.2.2.2.map V.str)
def RowsL (K : PySem.W.Frag) (H : Hp) (lr : Addr) (rs : List PNx) : Prop := SqL K H lr (rs.map fun t => V.ref t.1) ∧ ∀ t ∈ rs, RowAt K H t
def WoodAt (K : PySem.W.Frag) (H : Hp) (w : Addr) (ks : List KdT) : Prop := SqL K H w (ks.map fun k => V.ref k.1) ∧ ∀ k ∈ ks, SqT K H k.1 [.str k.2.1, .ref k.2.2.1] ∧ RowsL K H k.2.2.1 k.2.2.2
theorem RowAt.same {K : PySem.W.Frag} {H H' : Hp} {t : PNx} (g : Same H H') (h : RowAt K H t) : RowAt K H' t := ⟨g.seqT h.1, g.seqT h.2⟩
theorem RowsL.same {K : PySem.W.Frag} {H H' : Hp} {lr : Addr} {rs : List PNx} (g : Same H H') (h : RowsL K H lr rs) : RowsL K H' lr rs := ⟨g.seq h.1, fun t ht => (h.2 t ht).same g⟩
theorem WoodAt.same {K : PySem.W.Frag} {H H' : Hp} {w : Addr} {ks : List KdT} (g : Same H H') (h : WoodAt K H w ks) : WoodAt K H' w ks := ⟨g.seq h.1, fun k hk => ⟨g.seqT (h.2 k hk).1, (h.2 k hk).2.same g⟩⟩
structure RowsOk (rs : List PNx) : Prop where
  nd : (rs.map fun t => t.2.1).Nodup
  len : rs.length ≤ 10
  nm : ∀ r ∈ rs, PyData.strOk r.2.1 = true
  kn : ∀ r ∈ rs, ∀ x ∈ r.2.2.2, PyData.strOk x = true
  kl : ∀ r ∈ rs, r.2.2.2.length ≤ 4
structure WoodOk (ks : List KdT) : Prop where
  nd : (ks.map fun k => k.2.1).Nodup
  len : ks.length ≤ 10
  rows : ∀ k ∈ ks, RowsOk k.2.2.2
def rowsK (ks : List KdT) (kind : Str) : List PNx := ((ks.find? fun k => decide (k.2.1 = kind)).map fun k => k.2.2.2).getD []
end K9
namespace K11
open PySem L2 TM TT K9
def kpl : Lab → Bool
  | .call _ _ => false
  | .put _ k _ => k
mutual
def kp : Tm → Bool
  | .node l _ bs => kpl l || kps bs
def kps : List Tm → Bool
  | [] => false
  | t :: r => kp t || kps r
end
theorem kps_any : ∀ ts : List Tm, kps ts = (ts.map kp).any id
  | [] => by simp [kps]
  | t :: r => by simp only [kps, List.map_cons, List.any_cons, id, kps_any r]
def fit1 (mk ks : List Str) (c : Int × Int) : Bool := decide (0 ≤ c.1) && decide (c.1 < mk.length) && decide (0 ≤ c.2) && decide (c.2 < ks.length) && decide (mk[c.1.toNat]? = ks[c.2.toNat]?)
def fitT (mk ks : List Str) (t : Tm) : Bool := (cls t).all (fit1 mk ks)
abbrev Md := Str × List Tm
abbrev MdT := Addr × Str × Addr × List V × List Tm
def MdT.md (m : MdT) : Md := (m.2.1, m.2.2.2.2)
def MdAt (K : PySem.W.Frag) (H : Hp) (m : MdT) : Prop := SqT K H m.1 [.str m.2.1, .ref m.2.2.1] ∧ SqL K H m.2.2.1 m.2.2.2.1 ∧ TmAll K H m.2.2.2.1 m.2.2.2.2
def ModesL (K : PySem.W.Frag) (H : Hp) (lm : Addr) (ms : List MdT) : Prop := SqL K H lm (ms.map fun m => V.ref m.1) ∧ ∀ m ∈ ms, MdAt K H m
theorem MdAt.same {K : PySem.W.Frag} {H H' : Hp} {m : MdT} (g : Same H H') (h : MdAt K H m) : MdAt K H' m := ⟨g.seqT h.1, g.seq h.2.1, h.2.2.mono fun _ _ => g.seqT⟩
theorem ModesL.same {K : PySem.W.Frag} {H H' : Hp} {lm : Addr} {ms : List MdT} (g : Same H H') (h : ModesL K H lm ms) : ModesL K H' lm ms := ⟨g.seq h.1, fun m hm => (h.2 m hm).same g⟩
structure TmOk (t : Tm) : Prop where
  lv : lv t ≤ 8
  sz : sz t ≤ 100
  mok : MOk 20 t
structure ModesOk (ms : List Md) : Prop where
  len : ms.length ≤ 20
  kd : ∀ m ∈ ms, PyData.strOk m.1 = true
  rl : ∀ m ∈ ms, m.2.length ≤ 30
  tm : ∀ m ∈ ms, ∀ t ∈ m.2, TmOk t
abbrev mds (ms : List MdT) : List Md := ms.map MdT.md
abbrev mks (ms : List Md) : List Str := ms.map (·.1)
def TmO (K : PySem.W.Frag) (H : Hp) (v : V) : Option Tm → Prop
  | none => v = .non
  | some t => TmV K H v t
end K11
namespace L2
open PySem PySem.Spec PyProof.Rows
section
variable {prog : Program} {w : World} {A : Around} {E : Value → Shared → Prop} {s : Shared}
end
section
variable {X : Cx} {e : Expr} {te : TE} {p pos p2 pos2 : Pos}
theorem call_sumG (hc : X.calm = true) : CallR X (.builtin "sum") (fun xs H Q => ∃ (l : Addr) (ns : List Int), xs = [.ref l] ∧ SqL X.K H l (ns.map V.int) ∧ Q (.int ns.sum) H) := by
  intro pins s σ H xs us Q I r h
  obtain ⟨l, ns, rfl, hl, q⟩ := h
  cases r with
  | cons r rr =>
    cases rr
    obtain rfl : _ = Value.ref l := r
    obtain ⟨its, rv, p, _⟩ := I.list hl
    obtain ⟨ys, rfl, e2⟩ := vals_items rv
    have hL : s.heap.IsList l (intItems ys.toArray) := by rw [items_arr]; exact p.isList
    refine sum_intListG (I.ok.hd hc) hL fun h' tk t' hk => ⟨.int ns.sum, H, I.kept (t' := tk) hk, ⟨t', ?_⟩, q⟩
    rw [pre_sum, e2, List.take_of_length_le]
    rw [← e2]; simp
end
end L2
namespace ST
open PySem TM
inductive Stp where
  | op : Stp
  | put : Str → Int → List Stp → Stp
mutual
def met : Stp → Stp → Stp
  | .op, _ => .op
  | .put _ _ _, .op => .op
  | .put n m ps, .put n' m' qs => if n = n' ∧ m = m' ∧ ps.length = qs.length then .put n m (mets ps qs) else .op
def mets : List Stp → List Stp → List Stp
  | [], _ => []
  | _ :: _, [] => []
  | p :: ps, q :: qs => met p q :: mets ps qs
end
mutual
def beg : Stp → Tree Str → Bool
  | .op, _ => true
  | .put n m ps, .node n' m' bs => decide (n = n' ∧ m = m' ∧ ps.length = bs.length) && begs ps bs
def begs : List Stp → List (Tree Str) → Bool
  | [], _ => true
  | _ :: _, [] => true
  | p :: ps, b :: bs => beg p b && begs ps bs
end
mutual
def opn : Stp → List (List Int)
  | .op => [[]]
  | .put _ _ ps => opns 0 ps
def opns : Nat → List Stp → List (List Int)
  | _, [] => []
  | i, p :: r => (opn p).map (List.cons (i : Int)) ++ opns (i + 1) r
end
mutual
def stOf : Tree Str → Stp
  | .node n m bs => .put n m (stOfs bs)
def stOfs : List (Tree Str) → List Stp
  | [] => []
  | b :: r => stOf b :: stOfs r
end
mutual
def sl : Stp → Nat
  | .op => 1
  | .put _ _ ps => 1 + sls ps
def sls : List Stp → Nat
  | [] => 0
  | p :: r => max (sl p) (sls r)
end
mutual
def SOk : Stp → Prop
  | .op => True
  | .put n _ ps => PyData.strOk n = true ∧ ps.length ≤ 4 ∧ SOks ps
def SOks : List Stp → Prop
  | [] => True
  | p :: r => SOk p ∧ SOks r
end
mutual
def TOk : Tree Str → Prop
  | .node n _ bs => PyData.strOk n = true ∧ bs.length ≤ 3 ∧ TOks bs
def TOks : List (Tree Str) → Prop
  | [] => True
  | b :: r => TOk b ∧ TOks r
end
theorem mets_len : ∀ ps qs : List Stp, ps.length = qs.length → (mets ps qs).length = ps.length
  | [], _, _ => by simp [mets]
  | _ :: _, [], h => by simp at h
  | p :: ps, q :: qs, h => by simp only [mets, List.length_cons]; rw [mets_len ps qs (by simpa using h)]
mutual
theorem met_comm : ∀ a b : Stp, met a b = met b a
  | .op, .op => by simp [met]
  | .op, .put _ _ _ => by simp [met]
  | .put _ _ _, .op => by simp [met]
  | .put n m ps, .put n' m' qs => by
    simp only [met]
    by_cases h : n = n' ∧ m = m' ∧ ps.length = qs.length
    · obtain ⟨rfl, rfl, h3⟩ := h
      rw [if_pos ⟨rfl, rfl, h3⟩, if_pos ⟨rfl, rfl, h3.symm⟩, mets_comm ps qs]
    · rw [if_neg h, if_neg fun z => h ⟨z.1.symm, z.2.1.symm, z.2.2.symm⟩]
theorem mets_comm : ∀ a b : List Stp, mets a b = mets b a
  | [], [] => by simp [mets]
  | [], _ :: _ => by simp [mets]
  | _ :: _, [] => by simp [mets]
  | p :: ps, q :: qs => by simp only [mets]; rw [met_comm p q, mets_comm ps qs]
end
mutual
theorem met_self : ∀ a : Stp, met a a = a
  | .op => by simp [met]
  | .put n m ps => by simp only [met, and_self, if_true]; rw [mets_self ps]
theorem mets_self : ∀ a : List Stp, mets a a = a
  | [] => by simp [mets]
  | p :: ps => by simp only [mets]; rw [met_self p, mets_self ps]
end
theorem met_op (a : Stp) : met a .op = .op := by cases a <;> simp [met]
theorem met_pp (n n' : Str) (m m' : Int) (ps qs : List Stp) : met (.put n m ps) (.put n' m' qs) = if n = n' ∧ m = m' ∧ ps.length = qs.length then .put n m (mets ps qs) else .op := by rw [met]
theorem op_met (a : Stp) : met .op a = .op := by rw [met]
theorem met3 (n n' n2 : Str) (m m' m2 : Int) (ps qs rs : List Stp) (ih : mets (mets ps qs) rs = mets ps (mets qs rs)) :
    met (met (.put n m ps) (.put n' m' qs)) (.put n2 m2 rs) = met (.put n m ps) (met (.put n' m' qs) (.put n2 m2 rs)) := by
  rw [met_pp, met_pp]
  by_cases h : n = n' ∧ m = m' ∧ ps.length = qs.length
  · have e1 := mets_len ps qs h.2.2
    rw [if_pos h, met_pp]
    by_cases h' : n' = n2 ∧ m' = m2 ∧ qs.length = rs.length
    · have e2 := mets_len qs rs h'.2.2
      rw [if_pos h', met_pp, if_pos ⟨h.1.trans h'.1, h.2.1.trans h'.2.1, by omega⟩, if_pos ⟨h.1, h.2.1, by omega⟩, ih]
    · rw [if_neg h', met_op, if_neg fun z => h' ⟨h.1.symm.trans z.1, h.2.1.symm.trans z.2.1, by have := z.2.2; omega⟩]
  · rw [if_neg h, op_met]
    by_cases h' : n' = n2 ∧ m' = m2 ∧ qs.length = rs.length
    · have e2 := mets_len qs rs h'.2.2
      rw [if_pos h', met_pp, if_neg fun z => h ⟨z.1, z.2.1, by have := z.2.2; omega⟩]
    · rw [if_neg h', met_op]
mutual
theorem met_assoc : ∀ a b c : Stp, met (met a b) c = met a (met b c)
  | .op, b, c => by rw [op_met, op_met, op_met]
  | .put n m ps, .op, c => by rw [met_op, op_met, met_op]
  | .put n m ps, .put n' m' qs, .op => by rw [met_op, met_op, met_op]
  | .put n m ps, .put n' m' qs, .put n2 m2 rs => met3 n n' n2 m m' m2 ps qs rs (mets_assoc ps qs rs)
theorem mets_assoc : ∀ a b c : List Stp, mets (mets a b) c = mets a (mets b c)
  | [], _, _ => by simp [mets]
  | _ :: _, [], _ => by simp [mets]
  | _ :: _, _ :: _, [] => by simp [mets]
  | p :: ps, q :: qs, r :: rs => by simp only [mets]; rw [met_assoc p q r, mets_assoc ps qs rs]
end
mutual
theorem beg_met : ∀ (a b : Stp) (t : Tree Str), beg a t = true → beg (met a b) t = true
  | .op, _, _, _ => by simp [met, beg]
  | .put _ _ _, .op, _, _ => by simp [met, beg]
  | .put n m ps, .put n' m' qs, .node nt mt bs, h => by
    simp only [met]
    by_cases hc : n = n' ∧ m = m' ∧ ps.length = qs.length
    · rw [if_pos hc]
      simp only [beg, Bool.and_eq_true, decide_eq_true_eq] at h ⊢
      have e := mets_len ps qs hc.2.2
      exact ⟨⟨h.1.1, h.1.2.1, by have := h.1.2.2; omega⟩, begs_met ps qs bs h.2⟩
    · rw [if_neg hc]; simp [beg]
theorem begs_met : ∀ (a b : List Stp) (t : List (Tree Str)), begs a t = true → begs (mets a b) t = true
  | [], _, _, _ => by simp [mets, begs]
  | _ :: _, [], _, _ => by simp [mets, begs]
  | _ :: _, _ :: _, [], _ => by simp [mets, begs]
  | p :: ps, q :: qs, b :: bs, h => by
    simp only [mets, begs, Bool.and_eq_true] at h ⊢
    exact ⟨beg_met p q b h.1, begs_met ps qs bs h.2⟩
end
mutual
theorem met_ok : ∀ a b : Stp, SOk a → SOk (met a b) ∧ sl (met a b) ≤ sl a
  | .op, _, _ => by simp [met, SOk, sl]
  | .put _ _ _, .op, _ => by simp only [met, SOk, sl]; exact ⟨trivial, by omega⟩
  | .put n m ps, .put n' m' qs, h => by
    simp only [met]
    by_cases hc : n = n' ∧ m = m' ∧ ps.length = qs.length
    · rw [if_pos hc]
      simp only [SOk, sl] at h ⊢
      obtain ⟨h1, h2⟩ := mets_ok ps qs h.2.2
      have e := mets_len ps qs hc.2.2
      exact ⟨⟨h.1, by omega, h1⟩, by omega⟩
    · rw [if_neg hc]; simp only [SOk, sl]; exact ⟨trivial, by omega⟩
theorem mets_ok : ∀ a b : List Stp, SOks a → SOks (mets a b) ∧ sls (mets a b) ≤ sls a
  | [], _, _ => by simp [mets, SOks, sls]
  | _ :: _, [], _ => by simp [mets, SOks, sls]
  | p :: ps, q :: qs, h => by
    simp only [mets, SOks, sls] at h ⊢
    obtain ⟨h1, h2⟩ := met_ok p q h.1
    obtain ⟨h3, h4⟩ := mets_ok ps qs h.2
    exact ⟨⟨h1, h3⟩, by omega⟩
end
end ST
namespace L2
open PySem PyProof.Rows TM ST
abbrev OPEN : Str := Str.ofString "open"
abbrev PUTT : Str := Str.ofString "put"
mutual
inductive SV (K : PySem.W.Frag) (H : Hp) : V → Stp → Prop where
  | op {a : Addr} : SqT K H a [.str OPEN] → SV K H (.ref a) .op
  | put {a b : Addr} {vs : List V} {ps : List Stp} {n : Str} {m : Int} : SqT K H a [.str PUTT, .str n, .int m, .ref b] → SqT K H b vs → SAll K H vs ps → SV K H (.ref a) (.put n m ps)
inductive SAll (K : PySem.W.Frag) (H : Hp) : List V → List Stp → Prop where
  | nil : SAll K H [] []
  | cons {v : V} {vs : List V} {t : Stp} {ts : List Stp} : SV K H v t → SAll K H vs ts → SAll K H (v :: vs) (t :: ts)
end
mutual
theorem SV.mono {K : PySem.W.Frag} {H H' : Hp} (k : ∀ a xs, SqT K H a xs → SqT K H' a xs) : ∀ {v : V} {t : Stp}, SV K H v t → SV K H' v t
  | _, _, .op h => .op (k _ _ h)
  | _, _, .put h1 h2 h3 => .put (k _ _ h1) (k _ _ h2) (SAll.mono k h3)
theorem SAll.mono {K : PySem.W.Frag} {H H' : Hp} (k : ∀ a xs, SqT K H a xs → SqT K H' a xs) : ∀ {vs : List V} {ts : List Stp}, SAll K H vs ts → SAll K H' vs ts
  | _, _, .nil => .nil
  | _, _, .cons h t => .cons (SV.mono k h) (SAll.mono k t)
end
mutual
def sd : Stp → PyData
  | .op => .tuple [.str OPEN]
  | .put n m ps => .tuple [.str PUTT, .str n, .int m, .tuple (sds ps)]
def sds : List Stp → List PyData
  | [] => []
  | p :: r => sd p :: sds r
end
mutual
theorem SV.rd {K : PySem.W.Frag} {H : Hp} : ∀ {v : V} {t : Stp}, SV K H v t → RdV K H v (sd t)
  | _, _, .op h => by
    simp only [sd]
    exact .tup h (.cons (.str _) .nil)
  | _, _, .put h1 h2 h3 => by
    simp only [sd]
    exact .tup h1 (.cons (.str _) (.cons (.str _) (.cons (.int _) (.cons (.tup h2 (SAll.rd h3)) .nil))))
theorem SAll.rd {K : PySem.W.Frag} {H : Hp} : ∀ {vs : List V} {ts : List Stp}, SAll K H vs ts → RdAll K H vs (sds ts)
  | _, _, .nil => by simp only [sds]; exact .nil
  | _, _, .cons h t => by simp only [sds]; exact .cons (SV.rd h) (SAll.rd t)
end
theorem str_open : PyData.strOk OPEN = true := by decide +kernel
theorem str_putt : PyData.strOk PUTT = true := by decide +kernel
mutual
theorem sd_ok : ∀ s : Stp, SOk s → (sd s).canLay0 = true ∧ (sd s).depth ≤ 2 * sl s
  | .op, _ => by
    simp only [sd, PyData.canLay0, PyData.canLayAll0, str_open, Bool.and_self, PyData.depth, PyData.depthAll, sl]; exact ⟨trivial, by omega⟩
  | .put n m ps, h => by
    simp only [SOk] at h
    obtain ⟨h1, h2⟩ := sds_ok ps h.2.2
    constructor
    · simp only [sd, PyData.canLay0, PyData.canLayAll0, str_putt, h.1, h1, Bool.and_self]
    · simp only [sd, PyData.depth, PyData.depthAll, sl]; omega
theorem sds_ok : ∀ ps : List Stp, SOks ps → PyData.canLayAll0 (sds ps) = true ∧ PyData.depthAll (sds ps) ≤ 2 * sls ps
  | [], _ => by simp [sds, PyData.canLayAll0, PyData.depthAll, sls]
  | p :: r, h => by
    simp only [SOks] at h
    obtain ⟨h1, h2⟩ := sd_ok p h.1
    obtain ⟨h3, h4⟩ := sds_ok r h.2
    simp only [sds, PyData.canLayAll0, PyData.depthAll, h1, h3, Bool.and_self, true_and, sls]; omega
end
def hd3 (n : Str) (m : Int) (k : Nat) : PyData := .tuple [.str n, .int m, .int (k : Int)]
def Dk (H : Hp) (d : Addr) : Prop := ∃ xs : List Int, H d = some (.lst (xs.map V.int))
def SameD (d : Addr) (H H' : Hp) : Prop := ∀ b u, b ≠ d → H b = some u → H' b = some u
theorem SameD.refl (d : Addr) (H : Hp) : SameD d H H := fun _ _ _ e => e
theorem SameD.trans {d : Addr} {H H1 H2 : Hp} (a : SameD d H H1) (b : SameD d H1 H2) : SameD d H H2 := fun x u n e => b x u n (a x u n e)
theorem SameD.of {d : Addr} {H H' : Hp} (h : Same H H') : SameD d H H' := fun b u _ e => h b u e
theorem SameD.seqT {K : PySem.W.Frag} {d a : Addr} {H H' : Hp} {xs : List V} (g : SameD d H H') (hd : Dk H d) (h : SqT K H a xs) : SqT K H' a xs := by
  obtain ⟨ns, hd⟩ := hd
  rcases h with (h | ⟨ob, h⟩) | h
  · exact .inl (.inl (g _ _ (ne_of h hd (by intro z; cases z)) h))
  · exact .inl (.inr ⟨ob, g _ _ (ne_of h hd (by intro z; cases z)) h⟩)
  · exact .inr h
theorem Dk.ne {d a : Addr} {H : Hp} (h : Dk H d) (ha : H a = none) : a ≠ d := by
  obtain ⟨xs, h⟩ := h
  rintro rfl
  rw [ha] at h; cases h
end L2
namespace L2
open PySem PyProof.Rows TM
abbrev LETS : Str := Str.ofString "abcdefghijklmnopqrstuvwxyz"
def letL : List Nat := [97, 98, 99, 100, 101, 102, 103, 104, 105, 106, 107, 108, 109, 110, 111, 112, 113, 114, 115, 116, 117, 118, 119, 120, 121, 122]
theorem let_eq : LETS = S letL := by decide +kernel
theorem let_cps : LETS.cps.toList = letL := by rw [let_eq, S_list]
theorem none_eq : Str.ofString "" = S [] := by decide +kernel
theorem one_S (c : Nat) : (⟨#[c]⟩ : Str) = S [c] := rfl
def Nm (z : Str) : Prop := PyData.strOk z = true
theorem Nm.of {u : List Nat} (h : ∀ c ∈ u, c < 128) : Nm (S u) := by
  unfold Nm PyData.strOk
  rw [Array.all_eq_true_iff_forall_mem]
  intro c hc
  have : c ∈ u := by simpa [S] using hc
  have := h c this
  simp; omega
theorem Room.fit {k n : Nat} {A : Around} (r : Room k A) (h : n ≤ 64) : A.units + n < cLine := by have := r.units; omega
end L2
namespace L2
open PySem PyProof.Rows TM
def chr26 (x : Int) : Nat := 97 + (x % 26).toNat
theorem letL_get : ∀ i : Fin 26, letL[i.val]? = some (97 + i.val) := by decide
theorem let_chr (x : Int) : atI LETS.cps.toList (x % 26) = some (chr26 x) := by
  have h0 : 0 ≤ x % 26 := Int.emod_nonneg _ (by decide)
  have h1 : x % 26 < 26 := Int.emod_lt_of_pos _ (by decide)
  have e : x % 26 = (((x % 26).toNat : Nat) : Int) := by omega
  rw [e, let_cps]
  exact atI_nat (letL_get ⟨(x % 26).toNat, by omega⟩)
theorem chr26_lt (x : Int) : chr26 x < 128 := by
  have h1 : x % 26 < 26 := Int.emod_lt_of_pos _ (by decide)
  unfold chr26; omega
theorem chr26_inj {x y : Int} (h : chr26 x = chr26 y) : x % 26 = y % 26 := by
  have h0 : 0 ≤ x % 26 := Int.emod_nonneg _ (by decide)
  have h1 : 0 ≤ y % 26 := Int.emod_nonneg _ (by decide)
  unfold chr26 at h; omega
end L2
namespace L2
open PySem PyProof.Rows TM TT K9 K11
theorem SameD.seqL {K : PySem.W.Frag} {d a : Addr} {H H' : Hp} {xs : List V} (g : SameD d H H') (hne : a ≠ d) (h : SqL K H a xs) : SqL K H' a xs := by
  rcases h with (h | ⟨ob, h⟩) | h
  · exact .inl (.inl (g _ _ hne h))
  · exact .inl (.inr ⟨ob, g _ _ hne h⟩)
  · exact .inr h
structure DWood (c : Int) (ks : List KdT) : Prop where
  ok : WoodOk ks
  pos : 0 < ks.length
  three : ks.length ≤ 3
  nm : ∀ k ∈ ks, PyData.strOk k.2.1 = true
  few : ∀ k ∈ ks, k.2.2.2.length ≤ 3
  bare : ∀ k ∈ ks, ∃ r ∈ k.2.2.2, r.2.2.2 = []
  kin : ∀ k ∈ ks, ∀ r ∈ k.2.2.2, ∀ x ∈ r.2.2.2, x ∈ ks.map fun k => k.2.1
theorem SameD.put {d a : Addr} {H H' : Hp} {o : HO} (g : SameD d H H') (ha : H a = none) : SameD d H (L2.upd H' a o) := fun b u hb e => by
  rw [upd_ne (ne_of_none e ha)]; exact g _ _ hb e
end L2
namespace ST
open PySem TM TT
mutual
def TDr (cs : List (Int × Int)) : Tm → Prop
  | .node (.call m b) _ _ => (m, b) ∈ cs
  | .node (.put n _ _) _ bs => PyData.strOk n = true ∧ bs.length ≤ 3 ∧ TDrs cs bs
def TDrs (cs : List (Int × Int)) : List Tm → Prop
  | [] => True
  | b :: r => TDr cs b ∧ TDrs cs r
end
mutual
theorem TDr.mono {cs ds : List (Int × Int)} (h : ∀ c ∈ cs, c ∈ ds) : ∀ {t : Tm}, TDr cs t → TDr ds t
  | .node (.call m b) _ _, z => by simp only [TDr] at z ⊢; exact h _ z
  | .node (.put n _ _) _ bs, z => by simp only [TDr] at z ⊢; exact ⟨z.1, z.2.1, TDrs.mono h z.2.2⟩
theorem TDrs.mono {cs ds : List (Int × Int)} (h : ∀ c ∈ cs, c ∈ ds) : ∀ {bs : List Tm}, TDrs cs bs → TDrs ds bs
  | [], _ => by simp only [TDrs]
  | b :: r, z => by simp only [TDrs] at z ⊢; exact ⟨TDr.mono h z.1, TDrs.mono h z.2⟩
end
mutual
theorem TDr.mok {cs : List (Int × Int)} : ∀ {t : Tm}, TDr cs t → L2.MOk (2 * lv t) t
  | .node (.call m b) mk bs, _ => (L2.leaf_ok m b mk bs).mono (by simp only [lv]; omega)
  | .node (.put n k a) mk bs, z => by
    simp only [TDr] at z
    exact (L2.put_ok (d := 2 * lvs bs) z.1 (TDrs.mok z.2.2)).mono (by simp only [lv]; omega)
theorem TDrs.mok {cs : List (Int × Int)} : ∀ {bs : List Tm}, TDrs cs bs → ∀ t ∈ bs, L2.MOk (2 * lvs bs) t
  | [], _, t, h => (nomatch h)
  | b :: r, z, t, h => by
    simp only [TDrs] at z
    have i1 := TDr.mok z.1
    have i2 := TDrs.mok z.2
    simp only [lvs]
    rcases List.mem_cons.mp h with e | h
    · rw [e]; exact i1.mono (by omega)
    · exact (i2 t h).mono (by omega)
end
theorem lvs_all {α : Type} {bs : List (Tree α)} {n : Nat} (h : ∀ b ∈ bs, lv b ≤ n) : lvs bs ≤ n := by
  induction bs with
  | nil => simp [lvs]
  | cons u r ih =>
    simp only [lvs]
    have h1 := h u List.mem_cons_self
    have h2 := ih fun b hb => h b (List.mem_cons_of_mem _ hb)
    omega
end ST
namespace L2
open PySem PyProof.Rows TM TT ST
theorem SameD.new {d a : Addr} {H : Hp} {o : HO} (h : H a = none) : SameD d H (L2.upd H a o) := SameD.of (same_new h o)
theorem atI_int {α : Type} {xs : List α} {r : Int} {v : α} (h0 : 0 ≤ r) (h : xs[r.toNat]? = some v) : atI xs r = some v := by
  obtain ⟨n, rfl⟩ := Int.eq_ofNat_of_zero_le h0
  exact atI_nat (by simpa using h)
end L2
namespace L2
open PySem PyProof.Rows TM TT ST K9 K11
structure TurnD (K : PySem.W.Frag) (H : Hp) (tu wd lm : Addr) (sv : V) (ks : List KdT) (st : Tm) (ms : List MdT) : Prop where
  tu : SqT K H tu [.ref wd, sv, .ref lm]
  w : WoodAt K H wd ks
  s : TmV K H sv st
  m : ModesL K H lm ms
def TFitD (kn bs : List Str) (t : Tm) : Prop := ∃ cs : List (Int × Int), (∀ c ∈ cs, ∃ (k j : Nat) (z : Str), c = ((k : Int), (j : Int)) ∧ kn[k]? = some z ∧ bs[j]? = some z) ∧ TDr cs t
structure ModeD (kn : List Str) (ks : List KdT) (m : MdT) : Prop where
  ex : ∃ kd ∈ ks, kd.2.1 = m.2.1 ∧ m.2.2.2.2.length = kd.2.2.2.length ∧ ∀ (j : Nat) (r : PNx) (t : Tm), kd.2.2.2[j]? = some r → m.2.2.2.2[j]? = some t → TFitD kn r.2.2.2 t ∧ lv t ≤ 3
structure DTurn (ks : List KdT) (st : Tm) (ms : List MdT) : Prop where
  pos : 0 < ms.length
  four : ms.length ≤ 4
  md : ∀ m ∈ ms, ModeD (ms.map fun m => m.2.1) ks m
  st : ∀ k, ks[0]? = some k → TFitD (ms.map fun m => m.2.1) [k.2.1] st ∧ lv st ≤ 2
theorem TurnD.same {K : PySem.W.Frag} {H H' : Hp} {tu wd lm : Addr} {sv : V} {ks : List KdT} {st : Tm} {ms : List MdT} (g : Same H H') (h : TurnD K H tu wd lm sv ks st ms) : TurnD K H' tu wd lm sv ks st ms := ⟨g.seqT h.tu, h.w.same g, h.s.mono fun _ _ => g.seqT, h.m.same g⟩
def keyW (k : KdT) : Str × List PNx := (k.2.1, k.2.2.2)
def datRow (r : PNx) : PyData := .tuple [.str r.2.1, .tuple (r.2.2.2.map .str)]
theorem rd_rows {K : PySem.W.Frag} {H : Hp} : ∀ {rs : List PNx}, (∀ t ∈ rs, RowAt K H t) → RdAll K H (rs.map fun t => V.ref t.1) (rs.map datRow)
  | [], _ => .nil
  | t :: r, h => .cons (.tup (h t List.mem_cons_self).1 (.cons (.str _) (.cons (.tup (h t List.mem_cons_self).2 (rd_strs _)) .nil))) (rd_rows fun u hu => h u (List.mem_cons_of_mem _ hu))
theorem lay_rows : ∀ {rs : List PNx}, (∀ r ∈ rs, PyData.strOk r.2.1 = true) → (∀ r ∈ rs, ∀ x ∈ r.2.2.2, PyData.strOk x = true) → PyData.canLayAll0 (rs.map datRow) = true
  | [], _, _ => by simp [PyData.canLayAll0]
  | r :: rs, h1, h2 => by
    simp only [List.map_cons, PyData.canLayAll0, datRow, PyData.canLay0, h1 r List.mem_cons_self, lay_strs _ (h2 r List.mem_cons_self), Bool.and_self, Bool.true_and]
    exact lay_rows (fun u hu => h1 u (List.mem_cons_of_mem _ hu)) fun u hu => h2 u (List.mem_cons_of_mem _ hu)
def datKind (p : Str × List PNx) : PyData := .tuple [.str p.1, .list (p.2.map datRow)]
theorem rd_kinds {K : PySem.W.Frag} {H : Hp} : ∀ {ks : List KdT}, (∀ k ∈ ks, SqT K H k.1 [.str k.2.1, .ref k.2.2.1] ∧ RowsL K H k.2.2.1 k.2.2.2) → RdAll K H (ks.map fun k => V.ref k.1) ((ks.map keyW).map datKind)
  | [], _ => .nil
  | k :: r, h => .cons (.tup (h k List.mem_cons_self).1 (.cons (.str _) (.cons (.lst (h k List.mem_cons_self).2.1 (rd_rows (h k List.mem_cons_self).2.2)) .nil))) (rd_kinds fun u hu => h u (List.mem_cons_of_mem _ hu))
theorem lay_kinds : ∀ {ks : List KdT}, (∀ k ∈ ks, PyData.strOk k.2.1 = true) → (∀ k ∈ ks, RowsOk k.2.2.2) → PyData.canLayAll0 ((ks.map keyW).map datKind) = true
  | [], _, _ => by simp [PyData.canLayAll0]
  | k :: r, h1, h2 => by
    have h3 : PyData.canLayAll0 (k.2.2.2.map datRow) = true := lay_rows (h2 k List.mem_cons_self).nm (h2 k List.mem_cons_self).kn
    simp only [List.map_cons, PyData.canLayAll0, datKind, keyW, PyData.canLay0, h1 k List.mem_cons_self, h3, Bool.and_self, Bool.true_and]
    exact lay_kinds (fun u hu => h1 u (List.mem_cons_of_mem _ hu)) fun u hu => h2 u (List.mem_cons_of_mem _ hu)
theorem depth_rows : ∀ rs : List PNx, PyData.depthAll (rs.map datRow) ≤ 2
  | [] => by simp [PyData.depthAll]
  | r :: rs => by
    have := depth_rows rs
    simp only [List.map_cons, PyData.depthAll, datRow, PyData.depth, depth_strs]
    omega
theorem depth_kinds : ∀ ks : List (Str × List PNx), PyData.depthAll (ks.map datKind) ≤ 4
  | [] => by simp [PyData.depthAll]
  | k :: r => by
    have h1 := depth_kinds r
    have h2 := depth_rows k.2
    simp only [List.map_cons, PyData.depthAll, datKind, PyData.depth]
    omega
def mddD (m : Md) : PyData := .tuple [.str m.1, .list (tmds m.2)]
theorem rd_modes {K : PySem.W.Frag} {H : Hp} : ∀ {ms : List MdT}, (∀ m ∈ ms, MdAt K H m) → RdAll K H (ms.map fun m => V.ref m.1) ((ms.map MdT.md).map mddD)
  | [], _ => .nil
  | m :: r, h => .cons (.tup (h m List.mem_cons_self).1 (.cons (.str _) (.cons (.lst (h m List.mem_cons_self).2.1 (h m List.mem_cons_self).2.2.rd) .nil))) (rd_modes fun x hx => h x (List.mem_cons_of_mem _ hx))
abbrev turnDat (ks : List KdT) (t : Tm) (ms : List MdT) : PyData := .tuple [.list ((ks.map keyW).map datKind), tmd t, .list ((ms.map MdT.md).map mddD)]
theorem rd_turn {K : PySem.W.Frag} {H : Hp} {tu wd lm : Addr} {sv : V} {ks : List KdT} {st : Tm} {ms : List MdT} (h : TurnD K H tu wd lm sv ks st ms) : RdV K H (.ref tu) (turnDat ks st ms) :=
  .tup h.tu (.cons (.lst h.w.1 (rd_kinds h.w.2)) (.cons h.s.rd (.cons (.lst h.m.1 (rd_modes h.m.2)) .nil)))
end L2
namespace K51
open PySem L2 TM TT
def top (i : Nat) : Stmt := PySem.Challenge.pw_turnery_k51_papers_asked.main.body.getD i (.Pass ⟨0, 0, 0, 0⟩)
abbrev sIsC : Stmt := top 1
abbrev sCO : Stmt := top 2
abbrev sKM : Stmt := top 3
abbrev sTI : Stmt := top 4
abbrev sRI : Stmt := top 5
abbrev sOB : Stmt := top 6
abbrev sWP : Stmt := top 7
abbrev sCsF : Stmt := top 12
abbrev sCF : Stmt := top 13
abbrev sNOW : Stmt := top 14
abbrev sIsP : Stmt := top 16
abbrev sTF : Stmt := top 17
abbrev sHT : Stmt := top 18
abbrev sRHT : Stmt := top 19
abbrev sRA : Stmt := top 20
abbrev sRFo : Stmt := top 21
abbrev sCell : Stmt := top 23
abbrev sStream : Stmt := top 24
abbrev sNames : Stmt := top 25
abbrev sWood : Stmt := top 26
abbrev sRows : Stmt := top 27
abbrev sCalls : Stmt := top 28
abbrev sTerm : Stmt := top 29
abbrev sUnk : Stmt := top 30
abbrev sTurn : Stmt := top 31
abbrev sAgain : Stmt := top 32
abbrev sRen : Stmt := top 33
abbrev sTurA : Stmt := top 34
abbrev sDou : Stmt := top 35
abbrev sRuled : Stmt := top 36
abbrev sHeldB : Stmt := top 37
abbrev sSize : Stmt := top 38
abbrev sMany : Stmt := top 39
abbrev sWithP : Stmt := top 40
abbrev sOn : Stmt := top 41
abbrev sTermed : Stmt := top 42
abbrev sKeys : Stmt := top 43
abbrev sHas : Stmt := top 44
abbrev sLIsP : Stmt := top 45
abbrev sOthR : Stmt := top 46
abbrev sMore : Stmt := top 47
abbrev sLaw : Stmt := top 48
structure Gm (mg : Str → Option Value) : Prop where
  len : mg "len" = none
  isi : mg "isinstance" = none
  boo : mg "bool" = none
  tup : mg "tuple" = none
  lst : mg "list" = none
  rng : mg "range" = none
  sum : mg "sum" = none
  srt : mg "sorted" = none
  zip : mg "zip" = none
  all : mg "all" = none
  any : mg "any" = none
  enu : mg "enumerate" = none
abbrev PI' (p : List Int) : List V := p.map V.int
theorem tm_open {K : PySem.W.Frag} {H : Hp} {v : V} {t : Tm} (h : TmV K H v t) : (∃ a m b, v = .ref a ∧ t = leaf m b ∧ SqT K H a [.str CALL, .int m, .int b]) ∨
    ∃ a b vs n k ad, v = .ref a ∧ t = .node (.put n k ad) 0 t.bs ∧ SqT K H a [.str PUT, .str n, .bl k, .int ad, .ref b] ∧ SqT K H b vs ∧ TmAll K H vs t.bs ∧ vs.length ≤ 1000 := by
  cases h with
  | call h => exact .inl ⟨_, _, _, rfl, rfl, h⟩
  | put h1 h2 h3 h4 => exact .inr ⟨_, _, _, _, _, _, rfl, rfl, h1, h2, h3, h4⟩
def spIsC (K : PySem.W.Frag) : Sp := fun vs H Q _ => ∃ (v : V) (t : Tm), vs = [v] ∧ TmV K H v t ∧ Q (.bl (isC (lab t))) H
def spWP (K : PySem.W.Frag) : Sp := fun vs H Q _ => ∃ (v : V) (l : Addr) (ws : List V) (n : Str) (k : Bool) (ad : Int) (ts us : List Tm), vs = [v, .ref l] ∧ TmV K H v (.node (.put n k ad) 0 ts) ∧ SqL K H l ws ∧ TmAll K H ws us ∧ ws.length ≤ 1000 ∧
  ∀ (v' : V) (H' : Hp), Same H H' → TmV K H' v' (.node (.put n k ad) 0 us) → Q v' H'
def spOB (K : PySem.W.Frag) (n : Nat) : Sp := fun vs H Q _ => ∃ (v : V) (b : Int) (t : Tm), vs = [v, .int b] ∧ TmV K H v t ∧ lv t ≤ n ∧ ∀ (v' : V) (H' : Hp), Same H H' → TmV K H' v' (onB b t) → Q v' H'
section
variable {P : Program} {w : World} {K : PySem.W.Frag} {mg : Str → Option Value} {base : Heap} {f : Addr} {fd : FuncData}
theorem scIsC : FnScope ["term"] ["term"] (defScope sIsC) := ⟨rfl, rfl, rfl, by decide +kernel, rfl, by decide +kernel, by decide +kernel⟩
theorem ok_isC (F : Fun K "is_call" "is_call" sIsC f fd) : FnOk P w K mg base CX0 1 f fd ["term"] (spIsC K) := by
  refine F.ok scIsC (fun vs H Q E h => ?_) (fun cdv A outer s H vs Q E hr h => ?_)
  · obtain ⟨v, t, rfl, _⟩ := h
    rfl
  obtain ⟨v, t, rfl, ht, q⟩ := h
  refine ⟨_, (pss_one (ps_ret (pe_cmpR op_eq (pe_ix ix_tup (pv 0) pe_int (fun _ _ => rfl)) pe_str (nomark _)))), ?_⟩
  rcases tm_open ht with ⟨a, m, b, rfl, rfl, h1⟩ | ⟨a, b, bs, n, k, ad, rfl, et, h1, h2, h3, h4⟩
  · refine ⟨_, rfl, a, _, 0, _, rfl, rfl, h1, rfl, rfl, ?_⟩
    have e : decide (V.str CALL = V.str CALL) = true := decide_eq_true rfl
    show Q (.bl (decide (V.str CALL = V.str CALL))) H
    rw [e]; exact q
  · refine ⟨_, rfl, a, _, 0, _, rfl, rfl, h1, rfl, rfl, ?_⟩
    have e : decide (V.str PUT = V.str CALL) = false := by decide +kernel
    show Q (.bl (decide (V.str PUT = V.str CALL))) H
    rw [et] at q
    rw [e]; exact q
theorem scWP : FnScope ["term", "parts"] ["term", "parts"] (defScope sWP) := ⟨rfl, rfl, rfl, by decide +kernel, rfl, by decide +kernel, by decide +kernel⟩
theorem ok_wp (F : Fun K "with_parts" "with_parts" sWP f fd) (G : Gm mg) : FnOk P w K mg base CX0 1 f fd ["term", "parts"] (spWP K) := by
  refine F.ok scWP (fun vs H Q E h => ?_) (fun cdv A outer s H vs Q E hr h => ?_)
  · obtain ⟨v, l, ws, n, k, ad, ts, us, rfl, _⟩ := h
    rfl
  obtain ⟨v, l, ws, n, k, ad, ts, us, rfl, ht, hl, hw, hwl, q⟩ := h
  refine ⟨_, (pss_one (ps_ret (pe_tup (pa_cons (pe_str) (pa_cons (pe_ix ix_tup (pv 0) pe_int (fun _ _ => rfl)) (pa_cons (pe_ix ix_tup (pv 0) pe_int (fun _ _ => rfl)) (pa_cons (pe_ix ix_tup (pv 0) pe_int (fun _ _ => rfl)) (pa_cons (pe_callTy call_tuple_of rfl G.tup PyProof.Rows.boot_tuple (pa_cons (pv 1) pa_nil)) pa_nil)))))))), ?_⟩
  cases ht with
  | @put a b vs _ _ _ _ h1 h2 h3 h4 =>
    refine ⟨_, rfl, a, _, 1, _, rfl, rfl, h1, rfl, _, rfl, a, _, 2, _, rfl, rfl, h1, rfl, _, rfl, a, _, 3, _, rfl, rfl, h1, rfl, _, rfl, l, ws, rfl, .inl ⟨hl, fun t ht => ⟨(by show 5 ≤ sizeLine; decide), fun p hp => ?_⟩⟩⟩
    have g1 := same_new ht (.tup ws)
    have g2 := same_new hp (.tup [.str PUT, .str n, .bl k, .int ad, .ref t])
    exact q (.ref p) _ (g1.trans g2) (.put (SqT.of upd_same) (g2.seqT (SqT.of upd_same)) (hw.mono fun _ _ => (g1.trans g2).seqT) hwl)
theorem scOB : FnScope ["term", "branch"] ["term", "branch"] (defScope sOB) := ⟨rfl, rfl, rfl, by decide +kernel, rfl, by decide +kernel, by decide +kernel⟩
theorem ok_ob {n : Nat} (F : Fun K "on_branch" "on_branch" sOB f fd) (G : Gm mg) (RC : Fn P w K mg base 1 "is_call" ["term"] (spIsC K)) (RW : Fn P w K mg base 1 "with_parts" ["term", "parts"] (spWP K)) (R : Fn P w K mg base (n + 1) "on_branch" ["term", "branch"] (spOB K n)) : FnOk P w K mg base CX0 (n + 2) f fd ["term", "branch"] (spOB K (n + 1)) := by
  refine F.ok scOB (fun vs H Q E h => ?_) (fun cdv A outer s H vs Q E hr h => ?_)
  · obtain ⟨v, b, t, rfl, _⟩ := h
    rfl
  obtain ⟨v, br, t, rfl, ht, hlv, q⟩ := h
  refine ⟨_, (pss_cons (ps_if (pt_val (pe_fn RC hr (pa_cons (pv 0) pa_nil) (Nat.le_add_left 1 n))) (pss_one (ps_ret (pe_tup (pa_cons (pe_str) (pa_cons (pe_ix ix_tup (pv 0) pe_int (fun _ _ => rfl)) (pa_cons (pv 1) pa_nil)))))) pss_nil)
    (pss_one (ps_ret (pe_fn RW hr (pa_cons (pv 0) (pa_cons (pe_lcompG (CompG.many (xs := ["part"]) (caps := ["branch"]) (cap := [1]) (cs := [_]) rfl rfl (by decide +kernel) (by decide +kernel) (by decide +kernel) (by decide +kernel) (by decide +kernel) (by decide +kernel) rfl rfl rfl) rfl (pi_tup (pe_ix ix_tup (pv 0) pe_int (fun _ _ => rfl))) (pg_c1 (CompG.many (xs := ["part"]) (caps := ["branch"]) (cap := [1]) (cs := [_]) rfl rfl (by decide +kernel) (by decide +kernel) (by decide +kernel) (by decide +kernel) (by decide +kernel) (by decide +kernel) rfl rfl rfl)) (fun _ _ _ _ => pf_nil) (fun _ _ _ _ => pe_fn R hr (pa_cons (pv 0) (pa_cons (pv 1) pa_nil)) (Nat.le_refl _))) pa_nil)) (Nat.le_add_left 1 n))))), ?_⟩
  refine ⟨_, rfl, v, t, rfl, ht, _, rfl, ?_⟩
  rcases tm_open ht with ⟨a, m, b, rfl, rfl, h1⟩ | ⟨a, b, bs, nm, k, ad, rfl, et, h1, h2, h3, h4⟩
  · refine iteT ⟨_, rfl, a, _, 1, _, rfl, rfl, h1, rfl, _, rfl, (by show 3 ≤ sizeLine; decide), fun p hp => ?_⟩
    have g := same_new hp (.tup [.str CALL, .int m, .int br])
    exact q (.ref p) _ g (.call (SqT.of upd_same))
  rw [et]
  refine iteF ?_
  have hlen := h3.length
  rw [lv_bs] at hlv
  refine ⟨_, rfl, _, rfl, a, _, 4, _, rfl, rfl, h1, rfl, b, rfl, ⟨_, h2⟩, fun acc hacc => ?_⟩
  refine c1_tup (K := K) (xs := bs) (cs := [some (.int br)]) (tt := fun _ H Q => Q true H) (te := tCall (spOB K n) [] E0 (tCons (tVar 0) (tCons (tVar 1) tNil))) (fun i ys H' => H' acc = some (.lst ys) ∧ Same H H' ∧ ys.length = i ∧ TmAll K H' ys ((t.bs.take i).map (onB br)))
    ⟨upd_same, same_new hacc _, rfl, .nil⟩ ?_ ?_ ?_
  · rintro i ys H' _ ⟨_, g, _⟩
    exact g.seqT h2
  · rintro i x ys H' hi hx ⟨hya, g, hyl, hys⟩
    obtain ⟨c, hc⟩ : ∃ c, t.bs[i]? = some c := ⟨_, List.getElem?_eq_getElem (by omega)⟩
    obtain ⟨cv, hcv, hct⟩ := h3.get hc
    obtain rfl : cv = x := Option.some.inj (hcv.symm.trans hx)
    have hm := List.mem_of_getElem? hc
    have a1 := lv_le hm
    refine iteT ⟨_, rfl, _, rfl, cv, br, c, rfl, hct.mono fun _ _ => g.seqT, by omega, fun v' H4 g4 hv' => ?_⟩
    refine comp_next (ys := ys) hi (g4 _ _ hya) (by omega) ⟨upd_same, fun x u e => ?_, by simp [hyl], ?_⟩
    · rw [upd_ne (ne_of_none e hacc)]; exact g4 _ _ (g _ _ e)
    · rw [List.take_add_one, hc]
      show TmAll K _ (ys ++ [v']) ((t.bs.take i ++ [c]).map (onB br))
      rw [List.map_append]
      refine TmAll.append (hys.mono fun _ _ h => (g4.seqT h).put (g4 _ _ hya)) (.cons (hv'.mono fun _ _ h => h.put (g4 _ _ hya)) .nil)
  rintro ys H1 ⟨hya, g, hyl, hys⟩
  have et2 : t.bs.take bs.length = t.bs := List.take_of_length_le (by omega)
  rw [et2] at hys
  refine ⟨.ref a, acc, ys, nm, k, ad, t.bs, t.bs.map (onB br), rfl, (by rw [← et]; exact ht.mono fun _ _ => g.seqT), SqL.of hya, hys, by omega, fun v' H2 g2 hv' => q v' H2 (g.trans g2) ?_⟩
  rw [et]
  show TmV K H2 v' (sub _ (.node (.put nm k ad) 0 t.bs))
  simp only [sub, hdF, subs_map]
  exact hv'
theorem none_ob {k : Nat} : FnOk P w K mg base CX0 k f fd ["term", "branch"] (spOB K 0) := by
  have no : ∀ vs H Q E, ¬ spOB K 0 vs H Q E := fun vs H Q E h => by
    obtain ⟨v, b, t, _, _, h0, _⟩ := h
    rw [lv_bs] at h0; omega
  exact ⟨fun vs H Q E h => absurd h (no vs H Q E), fun A outer s H args us vs Q E _ _ _ _ h => absurd h (no vs H Q E)⟩
theorem all_ob (F : Fun K "on_branch" "on_branch" sOB f fd) (G : Gm mg) (RC : Fn P w K mg base 1 "is_call" ["term"] (spIsC K)) (RW : Fn P w K mg base 1 "with_parts" ["term", "parts"] (spWP K)) (hb : Binds K fd ["term", "branch"] []) (hm : mg "on_branch" = some (.ref f)) : ∀ n : Nat, FnOk P w K mg base CX0 (n + 1) f fd ["term", "branch"] (spOB K n)
  | 0 => none_ob
  | n + 1 => ok_ob F G RC RW ⟨f, fd, all_ob F G RC RW hb hm n, hb, F.kp, hm⟩
end
end K51
namespace K51
open PySem L2 TM TT
abbrev Rf (ts : List (Addr × List Int)) : List V := ts.map fun t => V.ref t.1
def TsAt (K : PySem.W.Frag) (H : Hp) (ts : List (Addr × List Int)) : Prop := ∀ t ∈ ts, SqT K H t.1 (PI' t.2)
theorem TsAt.mono {K : PySem.W.Frag} {H H' : Hp} {ts : List (Addr × List Int)} (h : TsAt K H ts) (k : ∀ a xs, SqT K H a xs → SqT K H' a xs) : TsAt K H' ts := fun t ht => k _ _ (h t ht)
theorem TsAt.app {K : PySem.W.Frag} {H : Hp} {ts us : List (Addr × List Int)} (h : TsAt K H ts) (k : TsAt K H us) : TsAt K H (ts ++ us) := fun t ht => by
  rcases List.mem_append.mp ht with z | z
  · exact h t z
  · exact k t z
def pr (c : Int × Int) : List Int := [c.1, c.2]
def spCO (K : PySem.W.Frag) (n : Nat) : Sp := fun vs H Q _ => ∃ (v : V) (t : Tm), vs = [v] ∧ TmV K H v t ∧ lv t ≤ n ∧ sz t ≤ 1000 ∧
  ∀ (l : Addr) (H' : Hp) (ts : List (Addr × List Int)), Same H H' → H l = none → H' l = some (.lst (Rf ts)) → TsAt K H' ts → ts.map (·.2) = (cls t).map pr → Q (.ref l) H'
def ModesAt (K : PySem.W.Frag) (H : Hp) (hs : List V) (T : Int → Tm) (cs : List (Int × Int)) : Prop := ∀ c ∈ cs, 0 ≤ c.1 ∧ ∃ hv, hs[c.1.toNat]? = some hv ∧ TmV K H hv (T c.1) ∧ lv (T c.1) ≤ 4
theorem ModesAt.mono {K : PySem.W.Frag} {H H' : Hp} {hs : List V} {T : Int → Tm} {cs : List (Int × Int)} (h : ModesAt K H hs T cs) (k : ∀ a xs, SqT K H a xs → SqT K H' a xs) : ModesAt K H' hs T cs := fun c hc => by
  obtain ⟨h0, hv, h1, h2, h3⟩ := h c hc
  exact ⟨h0, hv, h1, h2.mono k, h3⟩
theorem ModesAt.sub {K : PySem.W.Frag} {H : Hp} {hs : List V} {T : Int → Tm} {cs ds : List (Int × Int)} (h : ModesAt K H hs T cs) (k : ∀ c ∈ ds, c ∈ cs) : ModesAt K H hs T ds := fun c hc => h c (k c hc)
def spRI (K : PySem.W.Frag) (n : Nat) : Sp := fun vs H Q _ => ∃ (v : V) (l : Addr) (hs : List V) (t : Tm) (T : Int → Tm), vs = [v, .ref l] ∧ TmV K H v t ∧ lv t ≤ n ∧ SqL K H l hs ∧ ModesAt K H hs T (cls t) ∧ ∀ (v' : V) (H' : Hp), Same H H' → TmV K H' v' (sub (fun m _ => T m) t) → Q v' H'
def spTI (K : PySem.W.Frag) (n : Nat) : Sp := fun vs H Q _ => ∃ (v : V) (l : Addr) (hs : List V) (t : Tm) (T : Int → Tm), vs = [v, .ref l] ∧ TmV K H v t ∧ lv t ≤ n ∧ SqL K H l hs ∧ ModesAt K H hs T (cls t) ∧ ∀ (v' : V) (H' : Hp), Same H H' → TmV K H' v' (sub (fun m b => onB b (T m)) t) → Q v' H'
section
variable {P : Program} {w : World} {K : PySem.W.Frag} {mg : Str → Option Value} {base : Heap} {f : Addr} {fd : FuncData}
theorem scCO : FnScope ["term", "told", "part"] ["term"] (defScope sCO) := ⟨rfl, rfl, rfl, by decide +kernel, rfl, by decide +kernel, by decide +kernel⟩
theorem ok_co {n : Nat} (F : Fun K "calls_of" "calls_of" sCO f fd) (G : Gm mg) (RC : Fn P w K mg base 1 "is_call" ["term"] (spIsC K)) (R : Fn P w K mg base (n + 1) "calls_of" ["term"] (spCO K n)) : FnOk P w K mg base CX0 (n + 2) f fd ["term"] (spCO K (n + 1)) := by
  refine F.ok scCO (fun vs H Q E h => ?_) (fun cdv A outer s H vs Q E hr h => ?_)
  · obtain ⟨v, t, rfl, _⟩ := h
    rfl
  obtain ⟨v, t, rfl, ht, hlv, hsz, q⟩ := h
  refine ⟨_, (pss_cons (ps_if (pt_val (pe_fn RC hr (pa_cons (pv 0) pa_nil) (Nat.le_add_left 1 n))) (pss_one (ps_ret (pe_lst (pa_cons ((pe_tup (pa_cons (pe_ix ix_tup (pv 0) pe_int (fun _ _ => rfl)) (pa_cons (pe_ix ix_tup (pv 0) pe_int (fun _ _ => rfl)) pa_nil)))) pa_nil)))) pss_nil)
    (pss_cons (ps_set (i := 1) scCO.nd rfl (Or.inl rfl) (pe_lst pa_nil))
    (pss_cons (ps_for PassesOwn.never rfl (pi_tup (pe_ix ix_tup (pv 0) pe_int (fun _ _ => rfl))) (pg_name (i := 2) scCO.nd rfl (Or.inl rfl))
      (pss_one (ps_expr (pe_bm PySem.F.plainAttrs_list PySem.F.slot_list_extend PySem.F.type_list_extend mt_extend (pv 1) (pa_cons (pe_fn R hr (pa_cons (pv 2) pa_nil) (Nat.le_refl _)) pa_nil)))))
    (pss_one (ps_ret (pv 1)))))), ?_⟩
  refine ⟨_, rfl, v, t, rfl, ht, _, rfl, ?_⟩
  rcases tm_open ht with ⟨a, m, b, rfl, rfl, h1⟩ | ⟨a, b, bs, nm, k, ad, rfl, et, h1, h2, h3, h4⟩
  · refine iteT ⟨_, rfl, a, _, 1, _, rfl, rfl, h1, rfl, _, rfl, a, _, 2, _, rfl, rfl, h1, rfl, (by show 2 ≤ sizeLine; decide), fun p hp => ⟨(by show 1 ≤ sizeLine; decide), fun l hl => ?_⟩⟩
    have g1 := same_new hp (.tup [.int m, .int b])
    have g2 := same_new hl (.lst [.ref p])
    refine q l _ [(p, [m, b])] (g1.trans g2) (g1.free hl) upd_same (fun x hx => ?_) rfl
    have : x = (p, [m, b]) := by simpa using hx
    rw [this]
    exact g2.seqT (SqT.of upd_same)
  have ecls : cls t = clss t.bs := by
    have := congrArg cls et
    rw [this]; simp [cls, lcl]
  rw [et]
  refine iteF ?_
  have hlen := h3.length
  rw [lv_bs] at hlv
  rw [sz_bs] at hsz
  rw [ecls] at q
  refine ⟨(by show 0 ≤ sizeLine; decide), fun l hl => ?_⟩
  have g0 := same_new hl (.lst [])
  refine ⟨_, rfl, a, _, 4, _, rfl, rfl, g0.seqT h1, rfl, b, rfl, ⟨_, g0.seqT h2⟩, ?_⟩
  refine for_tup (K := K) (xs := bs) (fun i σ H' => ∃ (ts : List (Addr × List Int)) (c1 : Option V), σ = [some (.ref a), some (.ref l), c1] ∧ Same H H' ∧ H' l = some (.lst (Rf ts)) ∧ TsAt K H' ts ∧ ts.map (·.2) = (clss (t.bs.take i)).map pr)
    ⟨[], none, rfl, g0, upd_same, fun x hx => (nomatch hx), by simp [clss]⟩ ?_ ?_ ?_
  · rintro i σ H' _ ⟨ts, c1, _, g, _⟩
    exact g.seqT h2
  · rintro i x σ H' hx ⟨ts, c1, rfl, g, hl', hts, hcl⟩
    have hi : i < bs.length := (List.getElem?_eq_some_iff.mp hx).1
    obtain ⟨c, hc⟩ : ∃ c, t.bs[i]? = some c := ⟨_, List.getElem?_eq_getElem (by omega)⟩
    obtain ⟨cv, hcv, hct⟩ := h3.get hc
    obtain rfl : cv = x := Option.some.inj (hcv.symm.trans hx)
    have hm := List.mem_of_getElem? hc
    have a1 := lv_le hm
    have a2 := sz_le hm
    refine ⟨_, rfl, .inl ⟨rfl, _, SqL.of hl'⟩, _, rfl, cv, c, rfl, hct.mono fun _ _ => g.seqT, by omega, by omega, fun lb Hb tsb gb hlbn hlb htb hclb => ?_⟩
    have hl2 := gb _ _ hl'
    have tl : ts.length ≤ szs t.bs := by
      have e := congrArg List.length hcl
      rw [List.length_map, List.length_map] at e
      have h5 := clss_len (t.bs.take i)
      have hle : szs (t.bs.take i) ≤ szs t.bs := by
        have e := szs_map (t.bs.take i ++ t.bs.drop i)
        rw [List.map_append, List.sum_append, szs_map, szs_map, List.take_append_drop] at e
        omega
      omega
    have tl2 : tsb.length ≤ sz c := by
      have e := congrArg List.length hclb
      rw [List.length_map, List.length_map] at e
      have h5 := cls_len c
      omega
    refine ⟨l, lb, _, _, rfl, rfl, hl2, hlb, ?_, ?_⟩
    · rw [List.length_map, List.length_map]; exact line_of (by omega)
    refine ⟨ts ++ tsb, _, rfl, fun x u e => ?_, by rw [upd_same]; simp, ?_, ?_⟩
    · rw [upd_ne (ne_of_none e hl)]; exact gb _ _ (g _ _ e)
    · exact (hts.mono fun _ _ h => (gb.seqT h).put hl2).app (htb.mono fun _ _ h => h.put hl2)
    · rw [List.map_append, hcl, hclb, List.take_add_one, hc]
      show _ = (clss (t.bs.take i ++ [c])).map pr
      rw [clss_snoc, List.map_append]
  · rintro σ H' ⟨ts, c1, rfl, g, hl', hts, hcl⟩
    rw [List.take_of_length_le (by omega)] at hcl
    exact ⟨_, rfl, q l H' ts g hl hl' hts hcl⟩
theorem none_co {k : Nat} : FnOk P w K mg base CX0 k f fd ["term"] (spCO K 0) := by
  have no : ∀ vs H Q E, ¬ spCO K 0 vs H Q E := fun vs H Q E h => by
    obtain ⟨v, t, _, _, h0, _⟩ := h
    rw [lv_bs] at h0; omega
  exact ⟨fun vs H Q E h => absurd h (no vs H Q E), fun A outer s H args us vs Q E _ _ _ _ h => absurd h (no vs H Q E)⟩
theorem all_co (F : Fun K "calls_of" "calls_of" sCO f fd) (G : Gm mg) (RC : Fn P w K mg base 1 "is_call" ["term"] (spIsC K)) (hb : Binds K fd ["term"] []) (hm : mg "calls_of" = some (.ref f)) : ∀ n : Nat, FnOk P w K mg base CX0 (n + 1) f fd ["term"] (spCO K n)
  | 0 => none_co
  | n + 1 => ok_co F G RC ⟨f, fd, all_co F G RC hb hm n, hb, F.kp, hm⟩
theorem scRI : FnScope ["term", "terms"] ["term", "terms"] (defScope sRI) := ⟨rfl, rfl, rfl, by decide +kernel, rfl, by decide +kernel, by decide +kernel⟩
theorem ok_ri {n : Nat} (F : Fun K "rules_in" "rules_in" sRI f fd) (G : Gm mg) (RC : Fn P w K mg base 1 "is_call" ["term"] (spIsC K)) (RW : Fn P w K mg base 1 "with_parts" ["term", "parts"] (spWP K)) (R : Fn P w K mg base (n + 1) "rules_in" ["term", "terms"] (spRI K n)) : FnOk P w K mg base CX0 (n + 2) f fd ["term", "terms"] (spRI K (n + 1)) := by
  refine F.ok scRI (fun vs H Q E h => ?_) (fun cdv A outer s H vs Q E hr h => ?_)
  · obtain ⟨v, l, hs, t, T, rfl, _⟩ := h
    rfl
  obtain ⟨v, lt, hs, t, T, rfl, ht, hlv, hlt, hT, q⟩ := h
  refine ⟨_, (pss_cons (ps_if (pt_val (pe_fn RC hr (pa_cons (pv 0) pa_nil) (Nat.le_add_left 1 n))) (pss_one (ps_ret (pe_ix ix_list (pv 1) (pe_ix ix_tup (pv 0) pe_int (fun _ _ => rfl)) (fun _ _ => rfl)))) pss_nil)
    (pss_one (ps_ret (pe_fn RW hr (pa_cons (pv 0) (pa_cons (pe_lcompG (CompG.many (xs := ["part"]) (caps := ["terms"]) (cap := [1]) (cs := [_]) rfl rfl (by decide +kernel) (by decide +kernel) (by decide +kernel) (by decide +kernel) (by decide +kernel) (by decide +kernel) rfl rfl rfl) rfl (pi_tup (pe_ix ix_tup (pv 0) pe_int (fun _ _ => rfl))) (pg_c1 (CompG.many (xs := ["part"]) (caps := ["terms"]) (cap := [1]) (cs := [_]) rfl rfl (by decide +kernel) (by decide +kernel) (by decide +kernel) (by decide +kernel) (by decide +kernel) (by decide +kernel) rfl rfl rfl)) (fun _ _ _ _ => pf_nil) (fun _ _ _ _ => pe_fn R hr (pa_cons (pv 0) (pa_cons (pv 1) pa_nil)) (Nat.le_refl _))) pa_nil)) (Nat.le_add_left 1 n))))), ?_⟩
  refine ⟨_, rfl, v, t, rfl, ht, _, rfl, ?_⟩
  rcases tm_open ht with ⟨a, m, b, rfl, rfl, h1⟩ | ⟨a, b, bs, nm, k, ad, rfl, et, h1, h2, h3, h4⟩
  · obtain ⟨h0, hv, e1, e2, _⟩ := hT (m, b) (by simp [leaf, cls, lcl, clss])
    have em : m = ((m.toNat : Nat) : Int) := by
      have : (0 : Int) ≤ m := h0
      omega
    refine iteT ⟨_, rfl, _, rfl, a, _, 1, _, rfl, rfl, h1, rfl, lt, hs, m, hv, rfl, rfl, hlt, ?_, q hv H (Same.refl _) e2⟩
    rw [em]; exact atI_nat e1
  have ecls : cls t = clss t.bs := by
    have := congrArg cls et
    rw [this]; simp [cls, lcl]
  rw [ecls] at hT
  rw [et]
  refine iteF ?_
  have hlen := h3.length
  rw [lv_bs] at hlv
  refine ⟨_, rfl, _, rfl, a, _, 4, _, rfl, rfl, h1, rfl, b, rfl, ⟨_, h2⟩, fun acc hacc => ?_⟩
  refine c1_tup (K := K) (xs := bs) (cs := [some (.ref lt)]) (tt := fun _ H Q => Q true H) (te := tCall (spRI K n) [] E0 (tCons (tVar 0) (tCons (tVar 1) tNil))) (fun i ys H' => H' acc = some (.lst ys) ∧ Same H H' ∧ ys.length = i ∧ TmAll K H' ys ((t.bs.take i).map (sub fun m _ => T m)))
    ⟨upd_same, same_new hacc _, rfl, .nil⟩ ?_ ?_ ?_
  · rintro i ys H' _ ⟨_, g, _⟩
    exact g.seqT h2
  · rintro i x ys H' hi hx ⟨hya, g, hyl, hys⟩
    obtain ⟨c, hc⟩ : ∃ c, t.bs[i]? = some c := ⟨_, List.getElem?_eq_getElem (by omega)⟩
    obtain ⟨cv, hcv, hct⟩ := h3.get hc
    obtain rfl : cv = x := Option.some.inj (hcv.symm.trans hx)
    have hm := List.mem_of_getElem? hc
    have a1 := lv_le hm
    refine iteT ⟨_, rfl, _, rfl, cv, lt, hs, c, T, rfl, hct.mono fun _ _ => g.seqT, by omega, g.seq hlt, (hT.sub (cls_le hm)).mono fun _ _ => g.seqT, fun v' H4 g4 hv' => ?_⟩
    refine comp_next (ys := ys) hi (g4 _ _ hya) (by omega) ⟨upd_same, fun x u e => ?_, by simp [hyl], ?_⟩
    · rw [upd_ne (ne_of_none e hacc)]; exact g4 _ _ (g _ _ e)
    · rw [List.take_add_one, hc]
      show TmAll K _ (ys ++ [v']) ((t.bs.take i ++ [c]).map (sub fun m _ => T m))
      rw [List.map_append]
      refine TmAll.append (hys.mono fun _ _ h => (g4.seqT h).put (g4 _ _ hya)) (.cons (hv'.mono fun _ _ h => h.put (g4 _ _ hya)) .nil)
  rintro ys H1 ⟨hya, g, hyl, hys⟩
  have et2 : t.bs.take bs.length = t.bs := List.take_of_length_le (by omega)
  rw [et2] at hys
  refine ⟨.ref a, acc, ys, nm, k, ad, t.bs, t.bs.map (sub fun m _ => T m), rfl, (by rw [← et]; exact ht.mono fun _ _ => g.seqT), SqL.of hya, hys, by omega, fun v' H2 g2 hv' => q v' H2 (g.trans g2) ?_⟩
  rw [et]
  simp only [sub, hdF, subs_map]
  exact hv'
theorem none_ri {k : Nat} : FnOk P w K mg base CX0 k f fd ["term", "terms"] (spRI K 0) := by
  have no : ∀ vs H Q E, ¬ spRI K 0 vs H Q E := fun vs H Q E h => by
    obtain ⟨v, l, hs, t, T, _, _, h0, _⟩ := h
    rw [lv_bs] at h0; omega
  exact ⟨fun vs H Q E h => absurd h (no vs H Q E), fun A outer s H args us vs Q E _ _ _ _ h => absurd h (no vs H Q E)⟩
theorem all_ri (F : Fun K "rules_in" "rules_in" sRI f fd) (G : Gm mg) (RC : Fn P w K mg base 1 "is_call" ["term"] (spIsC K)) (RW : Fn P w K mg base 1 "with_parts" ["term", "parts"] (spWP K)) (hb : Binds K fd ["term", "terms"] []) (hm : mg "rules_in" = some (.ref f)) : ∀ n : Nat, FnOk P w K mg base CX0 (n + 1) f fd ["term", "terms"] (spRI K n)
  | 0 => none_ri
  | n + 1 => ok_ri F G RC RW ⟨f, fd, all_ri F G RC RW hb hm n, hb, F.kp, hm⟩
theorem scTI : FnScope ["term", "terms"] ["term", "terms"] (defScope sTI) := ⟨rfl, rfl, rfl, by decide +kernel, rfl, by decide +kernel, by decide +kernel⟩
theorem ok_ti {n : Nat} (F : Fun K "terms_in" "terms_in" sTI f fd) (G : Gm mg) (RC : Fn P w K mg base 1 "is_call" ["term"] (spIsC K)) (RW : Fn P w K mg base 1 "with_parts" ["term", "parts"] (spWP K)) (RO : Fn P w K mg base 5 "on_branch" ["term", "branch"] (spOB K 4)) (R : Fn P w K mg base (n + 5) "terms_in" ["term", "terms"] (spTI K n)) : FnOk P w K mg base CX0 (n + 6) f fd ["term", "terms"] (spTI K (n + 1)) := by
  refine F.ok scTI (fun vs H Q E h => ?_) (fun cdv A outer s H vs Q E hr h => ?_)
  · obtain ⟨v, l, hs, t, T, rfl, _⟩ := h
    rfl
  obtain ⟨v, lt, hs, t, T, rfl, ht, hlv, hlt, hT, q⟩ := h
  have hk1 : 1 ≤ n + 5 := by omega
  refine ⟨_, (pss_cons (ps_if (pt_val (pe_fn RC hr (pa_cons (pv 0) pa_nil) hk1)) (pss_one (ps_ret (pe_fn RO hr (pa_cons (pe_ix ix_list (pv 1) (pe_ix ix_tup (pv 0) pe_int (fun _ _ => rfl)) (fun _ _ => rfl)) (pa_cons (pe_ix ix_tup (pv 0) pe_int (fun _ _ => rfl)) pa_nil)) (Nat.le_add_left 5 n)))) pss_nil)
    (pss_one (ps_ret (pe_fn RW hr (pa_cons (pv 0) (pa_cons (pe_lcompG (CompG.many (xs := ["part"]) (caps := ["terms"]) (cap := [1]) (cs := [_]) rfl rfl (by decide +kernel) (by decide +kernel) (by decide +kernel) (by decide +kernel) (by decide +kernel) (by decide +kernel) rfl rfl rfl) rfl (pi_tup (pe_ix ix_tup (pv 0) pe_int (fun _ _ => rfl))) (pg_c1 (CompG.many (xs := ["part"]) (caps := ["terms"]) (cap := [1]) (cs := [_]) rfl rfl (by decide +kernel) (by decide +kernel) (by decide +kernel) (by decide +kernel) (by decide +kernel) (by decide +kernel) rfl rfl rfl)) (fun _ _ _ _ => pf_nil) (fun _ _ _ _ => pe_fn R hr (pa_cons (pv 0) (pa_cons (pv 1) pa_nil)) (Nat.le_refl _))) pa_nil)) hk1)))), ?_⟩
  refine ⟨_, rfl, v, t, rfl, ht, _, rfl, ?_⟩
  rcases tm_open ht with ⟨a, m, b, rfl, rfl, h1⟩ | ⟨a, b, bs, nm, k, ad, rfl, et, h1, h2, h3, h4⟩
  · obtain ⟨h0, hv, e1, e2, e3⟩ := hT (m, b) (by simp [leaf, cls, lcl, clss])
    have em : m = ((m.toNat : Nat) : Int) := by
      have : (0 : Int) ≤ m := h0
      omega
    have ea : atI hs m = some hv := by rw [em]; exact atI_nat e1
    exact iteT ⟨_, rfl, _, rfl, a, _, 1, _, rfl, rfl, h1, rfl, lt, hs, m, hv, rfl, rfl, hlt, ea, _, rfl, a, _, 2, _, rfl, rfl, h1, rfl, hv, b, T m, rfl, e2, e3, fun v' H' g hv' => q v' H' g hv'⟩
  have ecls : cls t = clss t.bs := by
    have := congrArg cls et
    rw [this]; simp [cls, lcl]
  rw [ecls] at hT
  rw [et]
  refine iteF ?_
  have hlen := h3.length
  rw [lv_bs] at hlv
  refine ⟨_, rfl, _, rfl, a, _, 4, _, rfl, rfl, h1, rfl, b, rfl, ⟨_, h2⟩, fun acc hacc => ?_⟩
  refine c1_tup (K := K) (xs := bs) (cs := [some (.ref lt)]) (tt := fun _ H Q => Q true H) (te := tCall (spTI K n) [] E0 (tCons (tVar 0) (tCons (tVar 1) tNil))) (fun i ys H' => H' acc = some (.lst ys) ∧ Same H H' ∧ ys.length = i ∧ TmAll K H' ys ((t.bs.take i).map (sub fun m b => onB b (T m))))
    ⟨upd_same, same_new hacc _, rfl, .nil⟩ ?_ ?_ ?_
  · rintro i ys H' _ ⟨_, g, _⟩
    exact g.seqT h2
  · rintro i x ys H' hi hx ⟨hya, g, hyl, hys⟩
    obtain ⟨c, hc⟩ : ∃ c, t.bs[i]? = some c := ⟨_, List.getElem?_eq_getElem (by omega)⟩
    obtain ⟨cv, hcv, hct⟩ := h3.get hc
    obtain rfl : cv = x := Option.some.inj (hcv.symm.trans hx)
    have hm := List.mem_of_getElem? hc
    have a1 := lv_le hm
    refine iteT ⟨_, rfl, _, rfl, cv, lt, hs, c, T, rfl, hct.mono fun _ _ => g.seqT, by omega, g.seq hlt, (hT.sub (cls_le hm)).mono fun _ _ => g.seqT, fun v' H4 g4 hv' => ?_⟩
    refine comp_next (ys := ys) hi (g4 _ _ hya) (by omega) ⟨upd_same, fun x u e => ?_, by simp [hyl], ?_⟩
    · rw [upd_ne (ne_of_none e hacc)]; exact g4 _ _ (g _ _ e)
    · rw [List.take_add_one, hc]
      show TmAll K _ (ys ++ [v']) ((t.bs.take i ++ [c]).map (sub fun m b => onB b (T m)))
      rw [List.map_append]
      refine TmAll.append (hys.mono fun _ _ h => (g4.seqT h).put (g4 _ _ hya)) (.cons (hv'.mono fun _ _ h => h.put (g4 _ _ hya)) .nil)
  rintro ys H1 ⟨hya, g, hyl, hys⟩
  have et2 : t.bs.take bs.length = t.bs := List.take_of_length_le (by omega)
  rw [et2] at hys
  refine ⟨.ref a, acc, ys, nm, k, ad, t.bs, t.bs.map (sub fun m b => onB b (T m)), rfl, (by rw [← et]; exact ht.mono fun _ _ => g.seqT), SqL.of hya, hys, by omega, fun v' H2 g2 hv' => q v' H2 (g.trans g2) ?_⟩
  rw [et]
  simp only [sub, hdF, subs_map]
  exact hv'
theorem none_ti {k : Nat} : FnOk P w K mg base CX0 k f fd ["term", "terms"] (spTI K 0) := by
  have no : ∀ vs H Q E, ¬ spTI K 0 vs H Q E := fun vs H Q E h => by
    obtain ⟨v, l, hs, t, T, _, _, h0, _⟩ := h
    rw [lv_bs] at h0; omega
  exact ⟨fun vs H Q E h => absurd h (no vs H Q E), fun A outer s H args us vs Q E _ _ _ _ h => absurd h (no vs H Q E)⟩
theorem all_ti (F : Fun K "terms_in" "terms_in" sTI f fd) (G : Gm mg) (RC : Fn P w K mg base 1 "is_call" ["term"] (spIsC K)) (RW : Fn P w K mg base 1 "with_parts" ["term", "parts"] (spWP K)) (RO : Fn P w K mg base 5 "on_branch" ["term", "branch"] (spOB K 4)) (hb : Binds K fd ["term", "terms"] []) (hm : mg "terms_in" = some (.ref f)) : ∀ n : Nat, FnOk P w K mg base CX0 (n + 5) f fd ["term", "terms"] (spTI K n)
  | 0 => none_ti
  | n + 1 => ok_ti F G RC RW RO ⟨f, fd, all_ti F G RC RW RO hb hm n, hb, F.kp, hm⟩
end
end K51
namespace K51
open PySem L2 TM TT K9 K11
def spKM (K : PySem.W.Frag) (n : Nat) : Sp := fun vs H Q _ => ∃ (v : V) (t : Tm), vs = [v] ∧ TmV K H v t ∧ lv t ≤ n ∧ ∀ H', Same H H' → Q (.bl (kp t)) H'
def spCF (K : PySem.W.Frag) : Sp := fun vs H Q _ => ∃ (lm kk : Addr) (m b : Int) (ms : List MdT) (ks : List Str), vs = [.ref lm, .int m, .int b, .ref kk] ∧ ModesL K H lm ms ∧ SqT K H kk (ks.map V.str) ∧ Q (.bl (fit1 (mks (mds ms)) ks (m, b))) H
def spCsF (K : PySem.W.Frag) : Sp := fun vs H Q _ => ∃ (lm kk : Addr) (v : V) (t : Tm) (ms : List MdT) (ks : List Str), vs = [.ref lm, v, .ref kk] ∧ ModesL K H lm ms ∧ SqT K H kk (ks.map V.str) ∧ TmV K H v t ∧ TmOk t ∧ ∀ H', Same H H' → Q (.bl (fitT (mks (mds ms)) ks t)) H'
section
variable {P : Program} {w : World} {K : PySem.W.Frag} {mg : Str → Option Value} {base : Heap} {f : Addr} {fd : FuncData}
theorem scKM : FnScope ["term"] ["term"] (defScope sKM) := ⟨rfl, rfl, rfl, by decide +kernel, rfl, by decide +kernel, by decide +kernel⟩
theorem ok_km {n : Nat} (F : Fun K "keeps_mark" "keeps_mark" sKM f fd) (G : Gm mg) (RC : Fn P w K mg base 1 "is_call" ["term"] (spIsC K)) (R : Fn P w K mg base (n + 1) "keeps_mark" ["term"] (spKM K n)) : FnOk P w K mg base CX0 (n + 2) f fd ["term"] (spKM K (n + 1)) := by
  refine F.ok scKM (fun vs H Q E h => ?_) (fun cdv A outer s H vs Q E hr h => ?_)
  · obtain ⟨v, t, rfl, _⟩ := h
    rfl
  obtain ⟨v, t, rfl, ht, hlv, q⟩ := h
  refine ⟨_, (pss_cons (ps_if (pt_val (pe_fn RC hr (pa_cons (pv 0) pa_nil) (Nat.le_add_left 1 n))) (pss_one (ps_ret pe_bl)) pss_nil)
    (pss_one (ps_ret (pe_or (pe_ix ix_tup (pv 0) pe_int (fun _ _ => rfl)) (pe_one (pe_callB (call_anyB rfl) rfl G.any PyProof.Rows.boot_any (pa_cons (pe_lcomp (CompOk.plain rfl (by decide +kernel) (by decide +kernel) (by decide +kernel)) rfl (pi_tup (pe_ix ix_tup (pv 0) pe_int (fun _ _ => rfl))) (fun _ _ _ _ => pf_nil) (fun _ _ _ _ => pe_fn R hr (pa_cons (pv 0) pa_nil) (Nat.le_refl _))) pa_nil))))))), ?_⟩
  refine ⟨_, rfl, v, t, rfl, ht, _, rfl, ?_⟩
  rcases tm_open ht with ⟨a, m, b, rfl, rfl, h1⟩ | ⟨a, b, bs, nm, k, ad, rfl, et, h1, h2, h3, h4⟩
  · exact iteT (q H (Same.refl _))
  have ekp : kp t = (k || kps t.bs) := by
    have := congrArg kp et
    rw [this]; simp [kp, kpl]
  rw [et]
  refine iteF ?_
  have hlen := h3.length
  rw [lv_bs] at hlv
  rw [ekp] at q
  refine ⟨_, rfl, a, _, 2, _, rfl, rfl, h1, rfl, k, rfl, ?_⟩
  cases k with
  | true => exact iteT (q H (Same.refl _))
  | false =>
    refine iteF ⟨_, rfl, a, _, 4, _, rfl, rfl, h1, rfl, b, rfl, ⟨_, h2⟩, fun acc hacc => ?_⟩
    refine comp_tup (K := K) (xs := bs) (tt := fun _ H Q => Q true H) (te := tCall (spKM K n) [] E0 (tCons (tVar 0) tNil)) (cs := []) (fun i ys H' => H' acc = some (.lst ys) ∧ Same H H' ∧ ys = ((t.bs.take i).map kp).map V.bl)
      ⟨upd_same, same_new hacc _, rfl⟩ ?_ ?_ ?_
    · rintro i ys H' _ ⟨_, g, _⟩
      exact g.seqT h2
    · rintro i x ys H' hi hx ⟨hya, g, rfl⟩
      obtain ⟨c, hc⟩ : ∃ c, t.bs[i]? = some c := ⟨_, List.getElem?_eq_getElem (by omega)⟩
      obtain ⟨cv, hcv, hct⟩ := h3.get hc
      obtain rfl : cv = x := Option.some.inj (hcv.symm.trans hx)
      have hm := List.mem_of_getElem? hc
      have a1 := lv_le hm
      refine iteT ⟨_, rfl, cv, c, rfl, hct.mono fun _ _ => g.seqT, by omega, fun H4 g4 => ?_⟩
      refine comp_next hi (g4 _ _ hya) (by rw [List.length_map, List.length_map, List.length_take]; omega) ⟨upd_same, fun x u e => ?_, ?_⟩
      · rw [upd_ne (ne_of_none e hacc)]; exact g4 _ _ (g _ _ e)
      · rw [List.take_add_one, hc]; simp
    rintro ys H1 ⟨hya, g, rfl⟩
    have et2 : t.bs.take bs.length = t.bs := List.take_of_length_le (by omega)
    rw [et2] at hya
    refine ⟨acc, _, rfl, SqL.of hya, ?_⟩
    rw [← kps_any]
    exact q H1 g
theorem none_km {k : Nat} : FnOk P w K mg base CX0 k f fd ["term"] (spKM K 0) := by
  have no : ∀ vs H Q E, ¬ spKM K 0 vs H Q E := fun vs H Q E h => by
    obtain ⟨v, t, _, _, h0, _⟩ := h
    rw [lv_bs] at h0; omega
  exact ⟨fun vs H Q E h => absurd h (no vs H Q E), fun A outer s H args us vs Q E _ _ _ _ h => absurd h (no vs H Q E)⟩
theorem all_km (F : Fun K "keeps_mark" "keeps_mark" sKM f fd) (G : Gm mg) (RC : Fn P w K mg base 1 "is_call" ["term"] (spIsC K)) (hb : Binds K fd ["term"] []) (hm : mg "keeps_mark" = some (.ref f)) : ∀ n : Nat, FnOk P w K mg base CX0 (n + 1) f fd ["term"] (spKM K n)
  | 0 => none_km
  | n + 1 => ok_km F G RC ⟨f, fd, all_km F G RC hb hm n, hb, F.kp, hm⟩
theorem fit1_no {mk ks : List Str} {m b : Int} (h : ¬ (0 ≤ m ∧ m < mk.length)) : fit1 mk ks (m, b) = false := by
  unfold fit1
  by_cases h1 : 0 ≤ m
  · have h2 : ¬ m < mk.length := fun z => h ⟨h1, z⟩
    simp [h2]
  · simp [h1]
theorem fit1_no2 {mk ks : List Str} {m b : Int} (h : ¬ (0 ≤ b ∧ b < ks.length)) : fit1 mk ks (m, b) = false := by
  unfold fit1
  by_cases h1 : 0 ≤ b
  · have h2 : ¬ b < ks.length := fun z => h ⟨h1, z⟩
    simp [h2]
  · simp [h1]
theorem fit1_yes {mk ks : List Str} {i j : Nat} {x y : Str} (h : mk[i]? = some x) (k : ks[j]? = some y) : fit1 mk ks ((i : Int), (j : Int)) = decide (x = y) := by
  have hi := (List.getElem?_eq_some_iff.mp h).1
  have hj := (List.getElem?_eq_some_iff.mp k).1
  unfold fit1
  have e1 : (0 : Int) ≤ (i : Int) := by omega
  have e2 : (i : Int) < (mk.length : Int) := by omega
  have e3 : (0 : Int) ≤ (j : Int) := by omega
  have e4 : (j : Int) < (ks.length : Int) := by omega
  simp only [e1, e2, e3, e4, decide_true, Bool.true_and, Int.toNat_natCast, h, k]
  by_cases e : x = y <;> simp [e]
theorem scCF : FnScope ["modes", "mode", "branch", "kinds"] ["modes", "mode", "branch", "kinds"] (defScope sCF) := ⟨rfl, rfl, rfl, by decide +kernel, rfl, by decide +kernel, by decide +kernel⟩
theorem ok_cf (F : Fun K "call_fits" "call_fits" sCF f fd) (G : Gm mg) : FnOk P w K mg base CX0 1 f fd ["modes", "mode", "branch", "kinds"] (spCF K) := by
  refine F.ok scCF (fun vs H Q E h => ?_) (fun cdv A outer s H vs Q E hr h => ?_)
  · obtain ⟨lm, kk, m, b, ms, ks, rfl, _⟩ := h
    rfl
  obtain ⟨lm, kk, m, b, ms, ks, rfl, hM, hk, q⟩ := h
  refine ⟨_, (pss_cons (ps_if (PW.pt (pw_or (pt_not (pt_chain op_le op_lt pe_int (pv 1) (pe_callB call_len_seq rfl G.len PySem.boot_len (pa_cons (pv 0) pa_nil)))) (pw_or1 (pt_not (pt_chain op_le op_lt pe_int (pv 2) (pe_callB call_len_seq rfl G.len PySem.boot_len (pa_cons (pv 3) pa_nil))))))) (pss_one (ps_ret pe_bl)) pss_nil)
    (pss_one (ps_ret (pe_cmpR op_eq (pe_ix ix_tup (pe_ix ix_list (pv 0) (pv 1) (fun _ _ => rfl)) pe_int (fun _ _ => rfl)) (pe_ix ix_tup (pv 3) (pv 2) (fun _ _ => rfl)) (nomark _))))), ?_⟩
  have elen : (mks (mds ms)).length = ms.length := by simp
  have elk : (ks.map V.str).length = ks.length := List.length_map ..
  have elm : (ms.map fun m => V.ref m.1).length = ms.length := List.length_map ..
  by_cases h0 : (0 : Int) ≤ m
  · by_cases h1 : m < (ms.length : Int)
    · refine ⟨_, rfl, _, _, rfl, rfl, _, rfl, iteP h0 ⟨_, rfl, lm, _, rfl, .inl hM.1, _, _, rfl, rfl, _, rfl, ?_⟩⟩
      rw [elm, decide_eq_true h1]
      refine iteF ?_
      by_cases h2 : (0 : Int) ≤ b
      · by_cases h3 : b < (ks.length : Int)
        · refine ⟨_, rfl, _, _, rfl, rfl, _, rfl, iteP h2 ⟨_, rfl, kk, _, rfl, .inr hk, _, _, rfl, rfl, _, rfl, ?_⟩⟩
          rw [elk, decide_eq_true h3]
          refine iteF ?_
          obtain ⟨i, rfl⟩ : ∃ i : Nat, m = (i : Int) := ⟨m.toNat, by omega⟩
          obtain ⟨j, rfl⟩ : ∃ j : Nat, b = (j : Int) := ⟨b.toNat, by omega⟩
          have hi : i < ms.length := by omega
          have hj : j < ks.length := by omega
          have em : (mks (mds ms))[i]? = some ms[i].2.1 := by simp [List.getElem?_eq_getElem hi, MdT.md]
          rw [fit1_yes em (List.getElem?_eq_getElem hj)] at q
          have hat1 : atI (ms.map fun m => V.ref m.1) (i : Int) = some (.ref ms[i].1) := atI_nat (by rw [List.getElem?_map, List.getElem?_eq_getElem hi]; rfl)
          have hat2 : atI (ks.map V.str) (j : Int) = some (.str ks[j]) := atI_nat (by rw [List.getElem?_map, List.getElem?_eq_getElem hj]; rfl)
          refine ⟨_, rfl, _, rfl, lm, _, _, _, rfl, rfl, hM.1, hat1, _, _, 0, _, rfl, rfl, (hM.2 _ (List.getElem_mem hi)).1, rfl, _, rfl, _, rfl, kk, _, _, _, rfl, rfl, hk, hat2, rfl, ?_⟩
          have e : decide (V.str ms[i].2.1 = V.str ks[j]) = decide (ms[i].2.1 = ks[j]) := by simp
          rw [e]
          exact q
        · rw [fit1_no2 (fun z => h3 z.2)] at q
          refine ⟨_, rfl, _, _, rfl, rfl, _, rfl, iteP h2 ⟨_, rfl, kk, _, rfl, .inr hk, _, _, rfl, rfl, _, rfl, ?_⟩⟩
          rw [elk, decide_eq_false h3]
          exact iteT q
      · rw [fit1_no2 (fun z => h2 z.1)] at q
        exact ⟨_, rfl, _, _, rfl, rfl, _, rfl, iteN h2 ⟨_, rfl, iteT q⟩⟩
    · rw [fit1_no (fun z => h1 (by rw [elen] at z; exact z.2))] at q
      refine ⟨_, rfl, _, _, rfl, rfl, _, rfl, iteP h0 ⟨_, rfl, lm, _, rfl, .inl hM.1, _, _, rfl, rfl, _, rfl, ?_⟩⟩
      rw [elm, decide_eq_false h1]
      exact iteT (iteT q)
  · rw [fit1_no (fun z => h0 z.1)] at q
    exact ⟨_, rfl, _, _, rfl, rfl, _, rfl, iteN h0 ⟨_, rfl, iteT (iteT q)⟩⟩
theorem scCsF : FnScope ["modes", "term", "kinds"] ["modes", "term", "kinds"] (defScope sCsF) := ⟨rfl, rfl, rfl, by decide +kernel, rfl, by decide +kernel, by decide +kernel⟩
theorem ok_csf (F : Fun K "calls_fit" "calls_fit" sCsF f fd) (G : Gm mg) (RO : Fn P w K mg base 9 "calls_of" ["term"] (spCO K 8)) (RF : Fn P w K mg base 1 "call_fits" ["modes", "mode", "branch", "kinds"] (spCF K)) : FnOk P w K mg base CX0 10 f fd ["modes", "term", "kinds"] (spCsF K) := by
  refine F.ok scCsF (fun vs H Q E h => ?_) (fun cdv A outer s H vs Q E hr h => ?_)
  · obtain ⟨lm, kk, v, t, ms, ks, rfl, _⟩ := h
    rfl
  obtain ⟨lm, kk, v, t, ms, ks, rfl, hM, hk, ht, ho, q⟩ := h
  refine ⟨_, (pss_one (ps_ret (pe_callB (call_allB rfl) rfl G.all PyProof.Rows.boot_all (pa_cons (pe_lcompG (CompG.many (xs := ["mode", "branch"]) (caps := ["kinds", "modes"]) (cap := [2, 0]) (cs := [_, _]) rfl rfl (by decide +kernel) (by decide +kernel) (by decide +kernel) (by decide +kernel) (by decide +kernel) (by decide +kernel) rfl rfl rfl) rfl (pi_list (pe_fn RO hr (pa_cons (pv 1) pa_nil))) (pg_c2 (CompG.many (xs := ["mode", "branch"]) (caps := ["kinds", "modes"]) (cap := [2, 0]) (cs := [_, _]) rfl rfl (by decide +kernel) (by decide +kernel) (by decide +kernel) (by decide +kernel) (by decide +kernel) (by decide +kernel) rfl rfl rfl) rfl) (fun _ _ _ _ => pf_nil) (fun _ _ _ _ => pe_fn RF hr (pa_cons (pv 3) (pa_cons (pv 0) (pa_cons (pv 1) (pa_cons (pv 2) pa_nil)))))) pa_nil)))), ?_⟩
  have hsz := ho.sz
  refine ⟨_, rfl, v, t, rfl, ht, ho.lv, by omega, fun l H1 ts g1 hl0 hl hts hcl => ⟨l, rfl, ⟨_, SqL.of hl⟩, fun acc hacc => ?_⟩⟩
  have hne : l ≠ acc := ne_of_none hl hacc
  have hlen : ts.length = (cls t).length := by simpa using congrArg List.length hcl
  have hcs := cls_len t
  refine c2_list (K := K) (xs := Rf ts) (cs := [some (.ref kk), some (.ref lm)]) (tt := fun _ H Q => Q true H) (te := tCall (spCF K) [] E0 (tCons (tVar 3) (tCons (tVar 0) (tCons (tVar 1) (tCons (tVar 2) tNil))))) (fun i ys H' => H' acc = some (.lst ys) ∧ Same H1 H' ∧ ys = (((cls t).take i).map (fit1 (mks (mds ms)) ks)).map V.bl)
    ⟨upd_same, same_new hacc _, rfl⟩ ?_ ?_ ?_
  · rintro i ys H' _ ⟨_, g, _⟩
    exact SqL.of (g _ _ hl)
  · rintro i x ys H' hi hx ⟨hya, g, rfl⟩
    have hit : i < ts.length := by simpa using hi
    have hic : i < (cls t).length := by omega
    have ex : x = .ref ts[i].1 := by
      rw [List.getElem?_map, List.getElem?_eq_getElem hit] at hx
      exact (Option.some.inj hx).symm
    have ep : ts[i].2 = pr (cls t)[i] := by
      have := congrArg (fun l => l[i]?) hcl
      simpa [List.getElem?_eq_getElem hit, List.getElem?_eq_getElem hic] using this
    have hp := hts _ (List.getElem_mem hit)
    rw [ep] at hp
    refine ⟨_, _, _, ex, g.seqT hp, iteT ?_⟩
    have gg := g1.trans g
    refine ⟨_, rfl, _, rfl, _, rfl, _, rfl, lm, kk, _, _, ms, ks, rfl, hM.same gg, gg.seqT hk, ?_⟩
    refine comp_next hi hya (by rw [List.length_map, List.length_map, List.length_take]; omega) ⟨upd_same, fun x u e => ?_, ?_⟩
    · rw [upd_ne (ne_of_none e hacc)]; exact g _ _ e
    · rw [List.take_add_one, List.getElem?_eq_getElem hic, List.map_append, List.map_append]; rfl
  rintro ys H2 ⟨hya, g, rfl⟩
  have et2 : (cls t).take (Rf ts).length = cls t := List.take_of_length_le (by rw [List.length_map]; omega)
  rw [et2] at hya
  refine ⟨acc, _, rfl, SqL.of hya, ?_⟩
  have e : (((cls t).map (fit1 (mks (mds ms)) ks)).all id) = fitT (mks (mds ms)) ks t := by
    unfold fitT; rw [List.all_map]; rfl
  rw [e]
  exact q H2 (g1.trans g)
end
end K51
namespace K51
open PySem TM TT L2 K9 K11 ST
mutual
def TPr (p : Int → Int → Prop) : Tm → Prop
  | .node (.call m b) _ bs => p m b ∧ bs = []
  | .node (.put n _ _) _ bs => PyData.strOk n = true ∧ bs.length ≤ 3 ∧ TPrs p bs
def TPrs (p : Int → Int → Prop) : List Tm → Prop
  | [] => True
  | b :: r => TPr p b ∧ TPrs p r
end
theorem TPrs_iff (p : Int → Int → Prop) (bs : List Tm) : TPrs p bs ↔ ∀ b ∈ bs, TPr p b := by
  induction bs with
  | nil => simp [TPrs]
  | cons u r ih => simp only [TPrs, ih, List.mem_cons, forall_eq_or_imp]
mutual
theorem TPr.mono {p q : Int → Int → Prop} (h : ∀ m b, p m b → q m b) : ∀ {t : Tm}, TPr p t → TPr q t
  | .node (.call m b) _ bs, k => by simp only [TPr] at k ⊢; exact ⟨h _ _ k.1, k.2⟩
  | .node (.put n _ _) _ bs, k => by simp only [TPr] at k ⊢; exact ⟨k.1, k.2.1, TPrs.mono h k.2.2⟩
theorem TPrs.mono {p q : Int → Int → Prop} (h : ∀ m b, p m b → q m b) : ∀ {bs : List Tm}, TPrs p bs → TPrs q bs
  | [], _ => by simp only [TPrs]
  | b :: r, k => by simp only [TPrs] at k ⊢; exact ⟨TPr.mono h k.1, TPrs.mono h k.2⟩
end
mutual
theorem TPr.mok {p : Int → Int → Prop} : ∀ {t : Tm}, TPr p t → L2.MOk (2 * lv t) t
  | .node (.call m b) mk bs, _ => (L2.leaf_ok m b mk bs).mono (by simp only [lv]; omega)
  | .node (.put n k a) mk bs, h => by
    simp only [TPr] at h
    exact (L2.put_ok (mk := mk) h.1 (TPrs.mok h.2.2)).mono (by simp only [lv]; omega)
theorem TPrs.mok {p : Int → Int → Prop} : ∀ {bs : List Tm}, TPrs p bs → ∀ t ∈ bs, L2.MOk (2 * lvs bs) t
  | [], _ => fun t ht => (nomatch ht)
  | b :: r, h => fun t ht => by
    simp only [TPrs] at h
    simp only [lvs]
    rcases List.mem_cons.mp ht with e | z
    · rw [e]; exact (TPr.mok h.1).mono (by omega)
    · exact (TPrs.mok h.2 t z).mono (by omega)
end
mutual
theorem TPr.size {p : Int → Int → Prop} : ∀ {t : Tm}, TPr p t → 2 * sz t + 1 ≤ 3 ^ lv t
  | .node (.call m b) mk bs, h => by
    simp only [TPr] at h
    obtain ⟨_, rfl⟩ := h
    simp [sz, szs, lv, lvs]
  | .node (.put n k a) mk bs, h => by
    simp only [TPr] at h
    have h1 := TPrs.size h.2.2
    simp only [sz, lv]
    rw [Nat.add_comm 1 (lvs bs), Nat.pow_succ]
    have h3 : 1 ≤ 3 ^ lvs bs := Nat.pos_of_ne_zero (by simp)
    have hl : bs.length = 0 ∨ bs.length = 1 ∨ bs.length = 2 ∨ bs.length = 3 := by have := h.2.1; omega
    rcases hl with e | e | e | e <;> rw [e] at h1 <;> omega
theorem TPrs.size {p : Int → Int → Prop} : ∀ {bs : List Tm}, TPrs p bs → 2 * szs bs + bs.length ≤ bs.length * 3 ^ lvs bs
  | [], _ => by simp [szs]
  | b :: r, h => by
    simp only [TPrs] at h
    have h1 := TPr.size h.1
    have h2 := TPrs.size h.2
    simp only [szs, List.length_cons, lvs]
    have h3 : 3 ^ lv b ≤ 3 ^ max (lv b) (lvs r) := Nat.pow_le_pow_right (by decide) (Nat.le_max_left _ _)
    have h4 : 3 ^ lvs r ≤ 3 ^ max (lv b) (lvs r) := Nat.pow_le_pow_right (by decide) (Nat.le_max_right _ _)
    have h5 : r.length * 3 ^ lvs r ≤ r.length * 3 ^ max (lv b) (lvs r) := Nat.mul_le_mul_left _ h4
    have e : (r.length + 1) * 3 ^ max (lv b) (lvs r) = r.length * 3 ^ max (lv b) (lvs r) + 3 ^ max (lv b) (lvs r) := Nat.succ_mul _ _
    rw [e]
    generalize r.length * 3 ^ max (lv b) (lvs r) = A at *
    generalize r.length * 3 ^ lvs r = B at *
    generalize 3 ^ max (lv b) (lvs r) = C at *
    generalize 3 ^ lv b = E at *
    omega
end
mutual
theorem TPr.calls {p : Int → Int → Prop} : ∀ {t : Tm}, TPr p t → ∀ c ∈ cls t, p c.1 c.2
  | .node (.call m b) mk bs, h => by
    simp only [TPr] at h
    obtain ⟨h, rfl⟩ := h
    intro c hc
    simp [cls, lcl, clss] at hc
    subst hc
    exact h
  | .node (.put n k a) mk bs, h => by
    simp only [TPr] at h
    intro c hc
    simp only [cls, lcl, List.nil_append] at hc
    exact TPrs.calls h.2.2 c hc
theorem TPrs.calls {p : Int → Int → Prop} : ∀ {bs : List Tm}, TPrs p bs → ∀ c ∈ clss bs, p c.1 c.2
  | [], _ => fun c hc => by simp [clss] at hc
  | b :: r, h => by
    simp only [TPrs] at h
    intro c hc
    simp only [clss] at hc
    rcases List.mem_append.mp hc with z | z
    · exact TPr.calls h.1 c z
    · exact TPrs.calls h.2 c z
end
mutual
theorem TPr.sub {p q : Int → Int → Prop} {f : Int → Int → Tm} (h : ∀ m b, p m b → TPr q (f m b)) : ∀ {t : Tm}, TPr p t → TPr q (TT.sub f t)
  | .node (.call m b) mk bs, k => by
    simp only [TPr] at k
    obtain ⟨k, rfl⟩ := k
    simp only [TT.sub, hdF]
    exact h m b k
  | .node (.put n kk a) mk bs, k => by
    simp only [TPr] at k
    simp only [TT.sub, hdF, TPr]
    exact ⟨k.1, by rw [subs_map, List.length_map]; exact k.2.1, TPrs.sub h k.2.2⟩
theorem TPrs.sub {p q : Int → Int → Prop} {f : Int → Int → Tm} (h : ∀ m b, p m b → TPr q (f m b)) : ∀ {bs : List Tm}, TPrs p bs → TPrs q (TT.subs f bs)
  | [], _ => by simp only [TT.subs, TPrs]
  | b :: r, k => by
    simp only [TPrs] at k
    simp only [TT.subs, TPrs]
    exact ⟨TPr.sub h k.1, TPrs.sub h k.2⟩
end
mutual
theorem sub_lv {p : Int → Int → Prop} {f : Int → Int → Tm} {L : Nat} (h : ∀ m b, p m b → lv (f m b) ≤ L) : ∀ {t : Tm}, TPr p t → lv (TT.sub f t) ≤ lv t + L
  | .node (.call m b) mk bs, k => by
    simp only [TPr] at k
    obtain ⟨k, rfl⟩ := k
    simp only [TT.sub, hdF]
    have := h m b k
    omega
  | .node (.put n kk a) mk bs, k => by
    simp only [TPr] at k
    simp only [TT.sub, hdF, lv]
    have := subs_lv h k.2.2
    omega
theorem subs_lv {p : Int → Int → Prop} {f : Int → Int → Tm} {L : Nat} (h : ∀ m b, p m b → lv (f m b) ≤ L) : ∀ {bs : List Tm}, TPrs p bs → lvs (TT.subs f bs) ≤ lvs bs + L
  | [], _ => by simp only [TT.subs, lvs]; omega
  | b :: r, k => by
    simp only [TPrs] at k
    simp only [TT.subs, lvs]
    have h1 := sub_lv h k.1
    have h2 := subs_lv h k.2
    omega
end
mutual
theorem sub_agree {f g : Int → Int → Tm} : ∀ {t : Tm}, (∀ c ∈ cls t, f c.1 c.2 = g c.1 c.2) → TT.sub f t = TT.sub g t
  | .node (.call m b) mk bs, h => by
    have := h (m, b) (by simp [cls, lcl])
    simp only [TT.sub, hdF]
    exact this
  | .node (.put n kk a) mk bs, h => by
    simp only [TT.sub, hdF]
    rw [subs_agree fun c hc => h c (by simp only [cls, lcl, List.nil_append]; exact hc)]
theorem subs_agree {f g : Int → Int → Tm} : ∀ {bs : List Tm}, (∀ c ∈ clss bs, f c.1 c.2 = g c.1 c.2) → TT.subs f bs = TT.subs g bs
  | [], _ => rfl
  | b :: r, h => by
    simp only [TT.subs]
    rw [sub_agree fun c hc => h c (by simp only [clss]; exact List.mem_append_left _ hc), subs_agree fun c hc => h c (by simp only [clss]; exact List.mem_append_right _ hc)]
end
def hasB (ts : List (Option Tm)) (c : Int × Int) : Bool := match ts[c.1.toNat]? with
  | some (some _) => true
  | _ => false
def hasT (ts : List (Option Tm)) (t : Tm) : Bool := (cls t).all (hasB ts)
def tf (ts : List (Option Tm)) (m : Int) : Tm := match ts[m.toNat]? with
  | some (some t) => t
  | _ => leaf 0 0
def tin (ts : List (Option Tm)) (t : Tm) : Tm := TT.sub (fun m b => onB b (tf ts m)) t
def ruleAt (ms : List MdT) (j : Nat) (m : Int) : Tm := match ms[m.toNat]? with
  | some md => (md.2.2.2.2[j]?).getD (leaf 0 0)
  | none => leaf 0 0
def rin (ms : List MdT) (j : Nat) (t : Tm) : Tm := TT.sub (fun m _ => ruleAt ms j m) t
def eqT (a b : Tm) : Bool := PyData.eqv (tmd a) (tmd b)
structure Paper (st1 : Tm) (ms1 : List MdT) (ts : List (Option Tm)) (st2 : Tm) (ms2 : List MdT) : Prop where
  fit : ∀ (k : Nat) (md : MdT) (t : Tm), ms1[k]? = some md → ts[k]? = some (some t) → fitT (mks (mds ms2)) [md.2.1] t = true
  hs : hasT ts st1 = true
  hr : ∀ (k : Nat) (md : MdT) (t : Tm), ms1[k]? = some md → ts[k]? = some (some t) → ∀ r ∈ md.2.2.2.2, hasT ts r = true
  es : eqT (tin ts st1) st2 = true
  er : ∀ (k : Nat) (md : MdT) (t : Tm), ms1[k]? = some md → ts[k]? = some (some t) → ∀ (j : Nat) (r : Tm), md.2.2.2.2[j]? = some r → eqT (tin ts r) (rin ms2 j t) = true
inductive OAll (K : PySem.W.Frag) (H : Hp) : List V → List (Option Tm) → Prop where
  | nil : OAll K H [] []
  | cons {v : V} {vs : List V} {o : Option Tm} {os : List (Option Tm)} : TmO K H v o → OAll K H vs os → OAll K H (v :: vs) (o :: os)
theorem TmO.mono {K : PySem.W.Frag} {H H' : Hp} (k : ∀ a xs, SqT K H a xs → SqT K H' a xs) {v : V} {o : Option Tm} (h : TmO K H v o) : TmO K H' v o := by
  cases o with
  | none => exact h
  | some t => exact TmV.mono k h
theorem OAll.mono {K : PySem.W.Frag} {H H' : Hp} (k : ∀ a xs, SqT K H a xs → SqT K H' a xs) : ∀ {vs : List V} {os : List (Option Tm)}, OAll K H vs os → OAll K H' vs os
  | _, _, .nil => .nil
  | _, _, .cons h r => .cons (TmO.mono k h) (OAll.mono k r)
theorem OAll.length {K : PySem.W.Frag} {H : Hp} : ∀ {vs : List V} {os : List (Option Tm)}, OAll K H vs os → vs.length = os.length
  | _, _, .nil => rfl
  | _, _, .cons _ r => by rw [List.length_cons, List.length_cons, r.length]
theorem OAll.get {K : PySem.W.Frag} {H : Hp} : ∀ {vs : List V} {os : List (Option Tm)} {i : Nat} {o : Option Tm}, OAll K H vs os → os[i]? = some o → ∃ v, vs[i]? = some v ∧ TmO K H v o
  | _, _, _, _, .nil, e => by simp at e
  | _, _, 0, _, .cons h _, e => by simp at e; subst e; exact ⟨_, rfl, h⟩
  | _, _, i + 1, o, .cons _ r, e => by
    obtain ⟨v, h1, h2⟩ := OAll.get (i := i) (o := o) r (by simpa using e)
    exact ⟨v, by simpa using h1, h2⟩
theorem OAll.set {K : PySem.W.Frag} {H : Hp} {v : V} {o : Option Tm} (h : TmO K H v o) : ∀ {vs : List V} {os : List (Option Tm)} (i : Nat), OAll K H vs os → OAll K H (vs.set i v) (os.set i o)
  | _, _, _, .nil => .nil
  | _, _, 0, .cons _ r => .cons h r
  | _, _, i + 1, .cons k r => .cons k (OAll.set h i r)
def otd : Option Tm → PyData
  | none => .none
  | some t => tmd t
theorem OAll.rd {K : PySem.W.Frag} {H : Hp} : ∀ {vs : List V} {os : List (Option Tm)}, OAll K H vs os → RdAll K H vs (os.map otd)
  | _, _, .nil => .nil
  | _, _, .cons (o := none) h r => by
    have h' : _ = V.non := h
    subst h'
    exact .cons .non r.rd
  | _, _, .cons (o := some t) h r => .cons (TmV.rd h) r.rd
end K51
namespace L2
open PySem PySem.Spec PyProof.Rows
def ItL (K : PySem.W.Frag) (a : Addr) : It :=
  ⟨fun i H => ∃ xs x, SqL K H a xs ∧ xs[i]? = some x,
   fun i H x H' => ∃ p v, H p = none ∧ x = .ref p ∧ H' = upd H p (.tup [.int (i : Int), v]) ∧ ∀ xs, SqL K H a xs → xs[i]? = some v,
   fun i H => ∃ xs, SqL K H a xs ∧ xs.length ≤ i⟩
theorem turn_enumL {P : Program} {w : World} {K : PySem.W.Frag} {elts : List Expr} {k1 : Nat} {pos : Pos} (a e it : Addr) (hei : e ≠ it) :
    Turn P w K (.Tuple elts k1 pos) (ItL K a) [e, it] e (fun i h => (∃ old, IsEnum h e it (i : Nat) old) ∧ h.IsListIter it a i) where
  mem := by simp
  obj := fun i h st c hc => by
    obtain ⟨⟨old, he⟩, hi⟩ := st
    simp only [List.mem_cons, List.mem_nil_iff, or_false] at hc
    rcases hc with rfl | rfl
    · exact ⟨_, he, fun v z => by have z' : Data.fields _ = Data.cell v := z; cases z'⟩
    · obtain ⟨o, g, c, d⟩ := hi; exact ⟨o, g, fun v z => by rw [d] at z; cases z⟩
  keep := fun i h h' st k => by
    obtain ⟨⟨old, he⟩, hi⟩ := st
    exact ⟨⟨old, k e (by simp) _ he⟩, hi.at fun o g => k it (by simp) o g⟩
  item := by
    intro X hP hw hK hc i pins s σ H E I hf st hg
    subst hP hw hK
    obtain ⟨⟨old, he⟩, hi⟩ := st
    obtain ⟨xs, x, hq, hx⟩ := hg
    obtain ⟨its, rv, p, hz⟩ := I.list hq
    obtain ⟨u, hu, ru⟩ := rv.get hx
    have pt : s.heap.IsList a its.toArray := p.isList
    obtain ⟨oa, ga, ca, na, da⟩ := id pt
    have hae : a ≠ e := fun z => by
      subst z
      have hE : s.heap.get? a = some _ := he
      rw [hE] at ga
      cases ga
      exact absurd (Value.type.inj ca) (by decide)
    have hai : a ≠ it := fun z => by
      subst z
      obtain ⟨o, g, c, d⟩ := hi
      rw [g] at ga
      cases ga
      rw [c] at ca
      exact absurd (Value.type.inj ca) (by decide)
    have hlt : i < its.toArray.size := by
      have := (List.getElem?_eq_some_iff.mp hu).1
      simpa using this
    refine wpAny_pyNext_enum_itemD (Draws.list (prog := X.prog) (w := X.w) (A := X.A.in1) (I.ok.hd hc) it a hai its.toArray) he ⟨hi, pt⟩ hlt hei (by simp only [List.mem_cons, List.mem_nil_iff, or_false, not_or]; exact ⟨hei, Ne.symm hae⟩) fun y h' tk hy ho hst ht hsz hk => ?_
    have hyu : y = u := by
      have : its.toArray[i]? = some u := by simpa using hu
      exact Option.some.inj (hy.symm.trans this)
    subst hyu
    refine ⟨.ref s.heap.objs.size, rfl, wpAny_letOwnedTupleGo_enum (s := { s with heap := h', toks := tk + 1 }) ho fun h'' he'' hs' => ?_⟩
    have lt : ∀ {c o}, s.heap.get? c = some o → c ≠ s.heap.objs.size := fun g => Nat.ne_of_lt (Heap.lt_size g)
    have hse : s.heap.objs.size ≠ e := Ne.symm (lt he)
    have hch : ∀ c ∈ [e, it], FpOk X pins H c := hf
    have I2 : Inv X pins σ (upd H s.heap.objs.size (.tup [.int (i : Int), x])) { s with heap := h'', toks := tk + 1 } := by
      refine I.turnedNew (ch := [e, it]) (fun c o hc g => ?_) hch (Nat.le_refl _) ⟨by show 2 ≤ sizeLine; decide, [.int (i : Int) tk, y], .cons ⟨tk, rfl⟩ (.cons ru .nil), ⟨_, (hs'.2 _ hse).trans ht, rfl, _, rfl⟩⟩
      simp only [List.mem_cons, List.mem_nil_iff, or_false, not_or] at hc
      exact (hs'.2 c hc.1).trans (hk c o hc.1 hc.2 g)
    have hfr : ∀ c ∈ [e, it], upd H s.heap.objs.size (.tup [.int (i : Int), x]) c = none := fun c hc => by
      have : c ≠ s.heap.objs.size := by
        have hc' := hc
        simp only [List.mem_cons, List.mem_nil_iff, or_false] at hc'
        rcases hc' with rfl | rfl
        · exact lt he
        · obtain ⟨o, g, _⟩ := hi; exact lt g
      rw [upd_ne this]; exact (hf c hc).1
    exact ⟨.ref s.heap.objs.size, _, I2, rfl, ⟨s.heap.objs.size, x, I.fresh, rfl, rfl, fun ys hys => by rw [I.list_inj hys hq]; exact hx⟩, ⟨⟨_, he''⟩, hst.1.extBut hs'.extBut (Ne.symm hei)⟩, hfr⟩
  done := by
    intro X hP hw hK hc i pins s σ H E I hf st hg
    subst hP hw hK
    obtain ⟨⟨old, he⟩, hi⟩ := st
    obtain ⟨xs, hq, hx⟩ := hg
    obtain ⟨its, rv, p, hz⟩ := I.list hq
    have pt : s.heap.IsList a its.toArray := p.isList
    have hlen := rv.length
    have hn : its.toArray.size ≤ i := by simp; omega
    have hT : s.TypeIs (.ref e) "enumerate" := ⟨_, he, rfl⟩
    unfold pyNext
    refine wpAny_bind (wpAny_attempt (wpAny_callSpecial?_slot (name := Str.ofString "__next__") hT F.slot_enumerate_next (wpAny_call_entry F.slot_enumerate_next hT F.entry_enumerate_next ?_ (F.args_enumerate_next_1 _))))
    show wpAny _ _ (field (.ref e) 2 >>= _) _ _ _
    refine wpAny_bind (wpAny_field he rfl (x := .ref it) rfl ?_)
    refine wpAny_bind (wpAny_nextOf_list_end (A := X.A.in1) (I.ok.hd hc) hi pt (Array.getElem?_eq_none hn) fun h' y he' hy => ?_)
    obtain ⟨o, ho, hcl⟩ := hy
    refine wpAny_bind (wpAny_isInstance (T := "StopIteration") (b := true) ⟨o, ho, hcl⟩ isSubtype_stop ?_)
    refine wpAny_pure ⟨rfl, I.turnedL (t' := s.toks) (ch := [e, it]) (fun c u hc' g => he' c u (fun z => hc' (by rw [z]; simp)) g) hf⟩
  self := fun _ _ _ _ _ st h => wpAny_pyIter_enum st.1.choose_spec h
section
variable {X : Cx} {elts : List Expr} {k1 : Nat} {tpos : Pos}
def iEnumL (K : PySem.W.Frag) (ta : TA) : TI := fun σ H R => ta σ H fun vs H1 => ∃ a xs, vs = [.ref a] ∧ SqL K H1 a xs ∧ R (ItL K a) H1
theorem pi_enumL {e1 : Expr} {ta : TA} {p pos : Pos} (hg : Gl X "enumerate") (hm : X.mg "enumerate" = none) (ha : PA X [e1] ta) (hb : bootBuiltins "enumerate" = some (.type "enumerate") := by decide +kernel) (hs : starEach [e1] X.env = [(false, eval e1 X.env)] := by rfl) :
    PI X (.Tuple elts k1 tpos) (.Call (.Name "enumerate" p) [e1] [] pos) (iEnumL X.K ta) := by
  intro pins s σ H R I h
  refine Call_ (ld_blt I hg hm hb (PyProof.Rows.callWith_type1 (thn (ha pos pins s σ H _ I h) fun us s1 ⟨vs, H1, I1, r1, q1⟩ => ?_) hs rfl))
  obtain ⟨a, xs, e, hq, q⟩ := q1
  subst e
  cases r1 with
  | cons r rr =>
    cases rr
    obtain rfl : _ = Value.ref a := r
    obtain ⟨its, rv, pt, _⟩ := I1.list hq
    refine call_enumerate_list (show s1.heap.IsList a its.toArray from pt.isList) fun h' he hi hsz hk => ?_
    refine wpAny_pyIter_enum he ?_
    have I2 : Inv X pins σ H1 { s1 with heap := h' } := I1.kept (t' := s1.toks) hk
    refine ⟨s1.heap.objs.size + 1, [s1.heap.objs.size + 1, s1.heap.objs.size], _, _, H1, rfl, I2, turn_enumL a (s1.heap.objs.size + 1) s1.heap.objs.size (nne (by omega)), ⟨⟨_, he⟩, hi⟩, fun c hc => ?_, q⟩
    have hle : @LE.le Nat _ s1.heap.objs.size c := by
      simp only [List.mem_cons, List.mem_nil_iff, or_false] at hc
      rcases hc with rfl | rfl <;> omega
    exact I1.fpOk hle (I1.hok.fresh hle)
end
end L2
namespace L2
open PySem PySem.Spec PyProof.Rows
theorem c2_enumL {K : PySem.W.Frag} {a acc : Addr} {xs : List V} {tt : TT} {te : TE} {cs : St} {H1 : Hp} {Q : Hp → Prop} (Pv : Nat → List V → Hp → Prop) (h0 : Pv 0 [] (upd H1 acc (.lst []))) (hl : ∀ i ys H, i ≤ xs.length → Pv i ys H → SqL K H a xs)
    (hs : ∀ (i : Nat) (v : V) (p : Addr) (ys : List V) (H : Hp), i < xs.length → xs[i]? = some v → H p = none → Pv i ys H → tt (some (.int (i : Int)) :: some v :: cs) (upd H p (.tup [.int (i : Int), v])) (CKon xs.length Pv acc i te (some (.int (i : Int)) :: some v :: cs))) (hd : ∀ ys H, Pv xs.length ys H → Q H) :
    CGoal (ItL K a) 2 cs (gTup K 2 (gCons (gName 0) (gCons (gName 1) gNil))) tt te H1 acc Q := by
  refine compG_drive (N := xs.length) Pv h0 (fun ys H p => ?_) fun i ys H hi p => ?_
  · exact ⟨⟨xs, hl _ _ _ (Nat.le_refl _) p, Nat.le_refl _⟩, hd ys H p⟩
  · have hq := hl _ _ _ (Nat.le_of_lt hi) p
    refine ⟨⟨xs, xs[i], hq, List.getElem?_eq_getElem hi⟩, ?_⟩
    rintro x H3 ⟨q, v, hp, rfl, rfl, hv⟩ as has
    obtain ⟨a0, a1, rfl⟩ := len_two has
    exact ⟨q, [.int (i : Int), v], rfl, SqT.of upd_same, rfl, _, [v], rfl, v, [], rfl, rfl, ⟨[some _, some v], rfl, rfl⟩, hs i v q ys _ hi (hv xs hq) hp p⟩
end L2
namespace K51
open PySem L2 TM TT K9 K11 ST
def spNOW (K : PySem.W.Frag) : Sp := fun vs H Q _ => ∃ (t1 t2 w1 w2 : Addr) (x1 y1 x2 y2 : V) (d : PyData), vs = [.ref t1, .ref t2] ∧ SqT K H t1 [.ref w1, x1, y1] ∧ SqT K H t2 [.ref w2, x2, y2] ∧ RdV K H (.ref w1) d ∧ RdV K H (.ref w2) d ∧ d.canLay0 = true ∧ d.depth ≤ 10 ∧ Q .non H
def fitO (ms2 : List MdT) (kind : Str) : Option Tm → Bool
  | none => true
  | some t => fitT (mks (mds ms2)) [kind] t
structure TsOk (ts : List (Option Tm)) : Prop where
  few : ts.length ≤ 10
  tm : ∀ t, some t ∈ ts → TPr (fun a _ => 0 ≤ a) t ∧ kp t = false ∧ lv t ≤ 4
def OneOk (o : Option Tm) : Prop := ∀ t, o = some t → TPr (fun a _ => 0 ≤ a) t ∧ kp t = false ∧ lv t ≤ 4
def spTF (K : PySem.W.Frag) : Sp := fun vs H Q _ => ∃ (kind : Str) (v : V) (o : Option Tm) (tu lm : Addr) (x y : V) (ms2 : List MdT), vs = [.str kind, v, .ref tu] ∧ TmO K H v o ∧ OneOk o ∧ SqT K H tu [x, y, .ref lm] ∧ ModesL K H lm ms2 ∧ ∀ H', Same H H' → Q (.bl (fitO ms2 kind o)) H'
def spHT (K : PySem.W.Frag) : Sp := fun vs H Q _ => ∃ (v : V) (t : Tm) (lt : Addr) (us : List V) (ts : List (Option Tm)), vs = [v, .ref lt] ∧ TmV K H v t ∧ TPr (fun a _ => 0 ≤ a ∧ a < ts.length) t ∧ lv t ≤ 6 ∧ SqL K H lt us ∧ OAll K H us ts ∧ ∀ H', Same H H' → Q (.bl (hasT ts t)) H'
def spRHT (K : PySem.W.Frag) : Sp := fun vs H Q _ => ∃ (lr : Addr) (rs : List V) (rt : List Tm) (lt : Addr) (us : List V) (ts : List (Option Tm)), vs = [.ref lr, .ref lt] ∧ SqL K H lr rs ∧ TmAll K H rs rt ∧ rt.length ≤ 10 ∧ (∀ t ∈ rt, TPr (fun a _ => 0 ≤ a ∧ a < ts.length) t ∧ lv t ≤ 6) ∧ SqL K H lt us ∧ OAll K H us ts ∧ ∀ H', Same H H' → Q (.bl ((rt.map (hasT ts)).all id)) H'
theorem small_sz {p : Int → Int → Prop} {t : Tm} (h : TPr p t) (hl : lv t ≤ 6) : sz t ≤ 364 := by
  have h1 := h.size
  have h2 : 3 ^ lv t ≤ 3 ^ 6 := Nat.pow_le_pow_right (by decide) hl
  omega
theorem small_ok {p : Int → Int → Prop} {t : Tm} (h : TPr p t) (hl : lv t ≤ 4) : TmOk t := by
  have h1 := h.size
  have h2 : 3 ^ lv t ≤ 3 ^ 4 := Nat.pow_le_pow_right (by decide) hl
  exact ⟨by omega, by omega, h.mok.mono (by omega)⟩
section
variable {P : Program} {w : World} {K : PySem.W.Frag} {mg : Str → Option Value} {base : Heap} {f : Addr} {fd : FuncData}
theorem scNOW : FnScope ["one", "other"] ["one", "other"] (defScope sNOW) := ⟨rfl, rfl, rfl, by decide +kernel, rfl, by decide +kernel, by decide +kernel⟩
theorem ok_now (F : Fun K "need_one_wood" "need_one_wood" sNOW f fd) : FnOk P w K mg base CX0 1 f fd ["one", "other"] (spNOW K) := by
  refine F.ok scNOW (fun vs H Q E h => ?_) (fun cdv A outer s H vs Q E hr h => ?_)
  · obtain ⟨t1, t2, w1, w2, x1, y1, x2, y2, d, rfl, _⟩ := h
    rfl
  obtain ⟨t1, t2, w1, w2, x1, y1, x2, y2, d, rfl, h1, h2, r1, r2, cl, dd, q⟩ := h
  refine ⟨_, (pss_one (ps_if (pt_cmpR op_neD (pe_ix ix_tup (pv 0) pe_int (fun _ _ => rfl)) (pe_ix ix_tup (pv 1) pe_int (fun _ _ => rfl)) (nomark _)) (pss_one ps_never) pss_nil)), ?_⟩
  refine ⟨_, rfl, t1, _, 0, _, rfl, rfl, h1, rfl, _, rfl, t2, _, 0, _, rfl, rfl, h2, rfl, d, d, r1, r2, cl, cl, hr.fit (by omega), _, rfl, ?_⟩
  rw [if_pos rfl, eqv_self _ cl]
  exact iteF q
theorem scTF : FnScope ["kind", "term", "other"] ["kind", "term", "other"] (defScope sTF) := ⟨rfl, rfl, rfl, by decide +kernel, rfl, by decide +kernel, by decide +kernel⟩
theorem ok_tf (F : Fun K "term_fits" "term_fits" sTF f fd) (RK : Fn P w K mg base 9 "keeps_mark" ["term"] (spKM K 8)) (RC : Fn P w K mg base 10 "calls_fit" ["modes", "term", "kinds"] (spCsF K)) : FnOk P w K mg base CX0 11 f fd ["kind", "term", "other"] (spTF K) := by
  refine F.ok scTF (fun vs H Q E h => ?_) (fun cdv A outer s H vs Q E hr h => ?_)
  · obtain ⟨kind, v, o, tu, lm, x, y, ms2, rfl, _⟩ := h
    rfl
  obtain ⟨kind, v, o, tu, lm, x, y, ms2, rfl, hv, ho, htu, hM, q⟩ := h
  refine ⟨_, (pss_one (ps_ret (pe_or (pe_cmpR op_isN (pv 1) pe_non (nomark _)) (pe_one (pe_and (pe_not (pe_fn RK hr (pa_cons (pv 1) pa_nil))) (pe_one (pe_fn RC hr (pa_cons (pe_ix ix_tup (pv 2) pe_int (fun _ _ => rfl)) (pa_cons (pv 1) (pa_cons ((pe_tup (pa_cons (pv 0) pa_nil))) pa_nil)))))))))), ?_⟩
  cases o with
  | none =>
    have hv' : v = .non := hv
    subst hv'
    exact ⟨_, rfl, rfl, _, rfl, iteP rfl (q H (Same.refl _))⟩
  | some t =>
    have hv' : TmV K H v t := hv
    obtain ⟨htp, hkp, hlv⟩ := ho t rfl
    have hvn : v ≠ .non := fun z => by rw [z] at hv'; cases hv'
    refine ⟨_, rfl, rfl, _, rfl, iteN hvn ?_⟩
    refine ⟨_, rfl, v, t, rfl, hv', by omega, fun H1 g1 => ⟨_, rfl, _, rfl, ?_⟩⟩
    rw [hkp]
    refine iteT ⟨_, rfl, tu, _, 2, _, rfl, rfl, g1.seqT htu, rfl, _, rfl, _, rfl, (by show 1 ≤ sizeLine; decide), fun p hp => ?_⟩
    have g2 := same_new hp (.tup [.str kind])
    have g12 := g1.trans g2
    exact ⟨lm, p, v, t, ms2, [kind], rfl, hM.same g12, SqT.of upd_same, hv'.mono fun _ _ => g12.seqT, small_ok htp hlv, fun H' g => q H' (g12.trans g)⟩
theorem scHT : FnScope ["term", "terms"] ["term", "terms"] (defScope sHT) := ⟨rfl, rfl, rfl, by decide +kernel, rfl, by decide +kernel, by decide +kernel⟩
theorem ok_ht (F : Fun K "has_terms" "has_terms" sHT f fd) (G : Gm mg) (RO : Fn P w K mg base 9 "calls_of" ["term"] (spCO K 8)) : FnOk P w K mg base CX0 10 f fd ["term", "terms"] (spHT K) := by
  refine F.ok scHT (fun vs H Q E h => ?_) (fun cdv A outer s H vs Q E hr h => ?_)
  · obtain ⟨v, t, lt, us, ts, rfl, _⟩ := h
    rfl
  obtain ⟨v, t, lt, us, ts, rfl, ht, htp, hlv, hlt, hus, q⟩ := h
  refine ⟨_, (pss_one (ps_ret (pe_callB (call_allB rfl) rfl G.all PyProof.Rows.boot_all (pa_cons (pe_lcompG (CompG.many (xs := ["mode", "branch"]) (caps := ["terms"]) (cap := [1]) (cs := [_]) rfl rfl (by decide +kernel) (by decide +kernel) (by decide +kernel) (by decide +kernel) (by decide +kernel) (by decide +kernel) rfl rfl rfl) rfl (pi_list (pe_fn RO hr (pa_cons (pv 0) pa_nil))) (pg_c2 (CompG.many (xs := ["mode", "branch"]) (caps := ["terms"]) (cap := [1]) (cs := [_]) rfl rfl (by decide +kernel) (by decide +kernel) (by decide +kernel) (by decide +kernel) (by decide +kernel) (by decide +kernel) rfl rfl rfl) rfl) (fun _ _ _ _ => pf_nil) (fun _ _ _ _ => pe_cmpR op_notN (pe_ix (r := rIxL K) ix_list (pv 2) (pv 0) (fun _ _ => rfl)) pe_non (nomark _))) pa_nil)))), ?_⟩
  have hsz := small_sz htp hlv
  refine ⟨_, rfl, v, t, rfl, ht, by omega, by omega, fun l H1 fs g1 hl0 hl hts hcl => ⟨l, rfl, ⟨_, SqL.of hl⟩, fun acc hacc => ?_⟩⟩
  have hlen : fs.length = (cls t).length := by simpa using congrArg List.length hcl
  have hcs := cls_len t
  have hul := hus.length
  refine c2_list (K := K) (xs := Rf fs) (cs := [some (.ref lt)]) (tt := fun _ H Q => Q true H) (fun i ys H' => H' acc = some (.lst ys) ∧ Same H1 H' ∧ ys = (((cls t).take i).map (hasB ts)).map V.bl)
    ⟨upd_same, same_new hacc _, rfl⟩ ?_ ?_ ?_
  · rintro i ys H' _ ⟨_, g, _⟩
    exact SqL.of (g _ _ hl)
  · rintro i x ys H' hi hx ⟨hya, g, rfl⟩
    have hit : i < fs.length := by simpa using hi
    have hic : i < (cls t).length := by omega
    have ex : x = .ref fs[i].1 := by
      rw [List.getElem?_map, List.getElem?_eq_getElem hit] at hx
      exact (Option.some.inj hx).symm
    have ep : fs[i].2 = pr (cls t)[i] := by
      have := congrArg (fun l => l[i]?) hcl
      simpa [List.getElem?_eq_getElem hit, List.getElem?_eq_getElem hic] using this
    have hp := hts _ (List.getElem_mem hit)
    rw [ep] at hp
    obtain ⟨c0, c1⟩ := htp.calls _ (List.getElem_mem hic)
    have hci : (cls t)[i].1.toNat < ts.length := by omega
    obtain ⟨hv, hv1, hv2⟩ := hus.get (List.getElem?_eq_getElem hci)
    have em : (cls t)[i].1 = (((cls t)[i].1.toNat : Nat) : Int) := by omega
    refine ⟨_, _, _, ex, g.seqT hp, iteT ⟨_, rfl, _, rfl, lt, us, _, hv, rfl, rfl, (g1.trans g).seq hlt, by rw [em]; exact atI_nat hv1, rfl, ?_⟩⟩
    have eb : (!decide (hv = V.non)) = hasB ts (cls t)[i] := by
      unfold hasB
      rw [List.getElem?_eq_getElem hci]
      cases eo : ts[(cls t)[i].1.toNat] with
      | none =>
        rw [eo] at hv2
        have : hv = .non := hv2
        rw [this]; rfl
      | some u =>
        rw [eo] at hv2
        have h3 : TmV K H hv u := hv2
        have : hv ≠ .non := fun z => by rw [z] at h3; cases h3
        simp [this]
    rw [eb]
    refine comp_next hi hya (by rw [List.length_map, List.length_map, List.length_take]; omega) ⟨upd_same, fun x u e => ?_, ?_⟩
    · rw [upd_ne (ne_of_none e hacc)]; exact g _ _ e
    · rw [List.take_add_one, List.getElem?_eq_getElem hic, List.map_append, List.map_append]; rfl
  rintro ys H2 ⟨hya, g, rfl⟩
  have et2 : (cls t).take (Rf fs).length = cls t := List.take_of_length_le (by rw [List.length_map]; omega)
  rw [et2] at hya
  refine ⟨acc, _, rfl, SqL.of hya, ?_⟩
  have e : (((cls t).map (hasB ts)).all id) = hasT ts t := by
    unfold hasT; rw [List.all_map]; rfl
  rw [e]
  exact q H2 (g1.trans g)
theorem scRHT : FnScope ["rules", "terms"] ["rules", "terms"] (defScope sRHT) := ⟨rfl, rfl, rfl, by decide +kernel, rfl, by decide +kernel, by decide +kernel⟩
theorem ok_rht (F : Fun K "rules_have_terms" "rules_have_terms" sRHT f fd) (G : Gm mg) (RH : Fn P w K mg base 10 "has_terms" ["term", "terms"] (spHT K)) : FnOk P w K mg base CX0 11 f fd ["rules", "terms"] (spRHT K) := by
  refine F.ok scRHT (fun vs H Q E h => ?_) (fun cdv A outer s H vs Q E hr h => ?_)
  · obtain ⟨lr, rs, rt, lt, us, ts, rfl, _⟩ := h
    rfl
  obtain ⟨lr, rs, rt, lt, us, ts, rfl, hlr, hrs, hr10, hok, hlt, hus, q⟩ := h
  refine ⟨_, (pss_one (ps_ret (pe_callB (call_allB rfl) rfl G.all PyProof.Rows.boot_all (pa_cons (pe_lcompG (CompG.many (xs := ["rule"]) (caps := ["terms"]) (cap := [1]) (cs := [_]) rfl rfl (by decide +kernel) (by decide +kernel) (by decide +kernel) (by decide +kernel) (by decide +kernel) (by decide +kernel) rfl rfl rfl) rfl (pi_list (pv 0)) (pg_c1 (CompG.many (xs := ["rule"]) (caps := ["terms"]) (cap := [1]) (cs := [_]) rfl rfl (by decide +kernel) (by decide +kernel) (by decide +kernel) (by decide +kernel) (by decide +kernel) (by decide +kernel) rfl rfl rfl)) (fun _ _ _ _ => pf_nil) (fun _ _ _ _ => pe_fn RH hr (pa_cons (pv 0) (pa_cons (pv 1) pa_nil)))) pa_nil)))), ?_⟩
  have hl := hrs.length
  refine ⟨_, rfl, lr, rfl, ⟨_, hlr⟩, fun acc hacc => ?_⟩
  refine c1_list (K := K) (xs := rs) (cs := [some (.ref lt)]) (tt := fun _ H Q => Q true H) (te := tCall (spHT K) [] E0 (tCons (tVar 0) (tCons (tVar 1) tNil))) (fun i ys H' => H' acc = some (.lst ys) ∧ Same H H' ∧ ys = ((rt.take i).map (hasT ts)).map V.bl)
    ⟨upd_same, same_new hacc _, rfl⟩ ?_ ?_ ?_
  · rintro i ys H' _ ⟨_, g, _⟩
    exact g.seq hlr
  · rintro i x ys H' hi hx ⟨hya, g, rfl⟩
    have hit : i < rt.length := by omega
    obtain ⟨cv, hcv, hct⟩ := hrs.get (List.getElem?_eq_getElem hit)
    obtain rfl : cv = x := Option.some.inj (hcv.symm.trans hx)
    obtain ⟨o1, o2⟩ := hok _ (List.getElem_mem hit)
    refine iteT ⟨_, rfl, _, rfl, cv, rt[i], lt, us, ts, rfl, hct.mono fun _ _ => g.seqT, o1, o2, g.seq hlt, hus.mono fun _ _ => g.seqT, fun H4 g4 => ?_⟩
    refine comp_next hi (g4 _ _ hya) (by rw [List.length_map, List.length_map, List.length_take]; omega) ⟨upd_same, fun x u e => ?_, ?_⟩
    · rw [upd_ne (ne_of_none e hacc)]; exact g4 _ _ (g _ _ e)
    · rw [List.take_add_one, List.getElem?_eq_getElem hit, List.map_append, List.map_append]; rfl
  rintro ys H1 ⟨hya, g, rfl⟩
  rw [List.take_of_length_le (by omega)] at hya
  exact ⟨acc, _, rfl, SqL.of hya, q H1 g⟩
end
end K51
namespace K51
open PySem L2 TM TT K9 K11 ST
def spRFo (K : PySem.W.Frag) : Sp := fun vs H Q _ => ∃ (tu lm : Addr) (x y : V) (ms2 : List MdT) (kind : Str) (j : Nat), vs = [.ref tu, .str kind, .int (j : Int)] ∧ SqT K H tu [x, y, .ref lm] ∧ ModesL K H lm ms2 ∧ ms2.length ≤ 10 ∧ (∀ m ∈ ms2, m.2.1 = kind → j < m.2.2.2.2.length) ∧
  ∀ (l : Addr) (ws : List V) (H' : Hp), Same H H' → H' l = some (.lst ws) → (∀ (a : Nat) (md : MdT), ms2[a]? = some md → md.2.1 = kind → ∃ v, ws[a]? = some v ∧ TmV K H' v (ruleAt ms2 j (a : Int))) → Q (.ref l) H'
structure PQ (nr : Str → Nat) (st1 : Tm) (ms1 : List MdT) (ts : List (Option Tm)) (st2 : Tm) (ms2 : List MdT) : Prop where
  l : ts.length = ms1.length
  t : TsOk ts
  few1 : ms1.length ≤ 10
  few2 : ms2.length ≤ 10
  ten : ∀ k, nr k ≤ 10
  s1 : TPr (fun a _ => 0 ≤ a ∧ a < ms1.length) st1 ∧ lv st1 ≤ 6
  r1 : ∀ m ∈ ms1, m.2.2.2.2.length = nr m.2.1 ∧ ∀ t ∈ m.2.2.2.2, TPr (fun a _ => 0 ≤ a ∧ a < ms1.length) t ∧ lv t ≤ 6
  s2 : TPr (fun _ _ => True) st2 ∧ lv st2 ≤ 6
  r2 : ∀ m ∈ ms2, m.2.2.2.2.length = nr m.2.1 ∧ ∀ t ∈ m.2.2.2.2, TPr (fun _ _ => True) t ∧ lv t ≤ 4
def agreeB (ts : List (Option Tm)) (ms2 : List MdT) (t : Tm) (p : Nat × Tm) : Bool := eqT (tin ts p.2) (rin ms2 p.1 t)
def num (ts : List Tm) : List (Nat × Tm) := (List.range ts.length).zip ts
def spRA (K : PySem.W.Frag) : Sp := fun vs H Q _ => ∃ (nr : Str → Nat) (md : MdT) (v : V) (t : Tm) (lt : Addr) (us : List V) (ts : List (Option Tm)) (tu lm : Addr) (x y : V) (st1 st2 : Tm) (ms1 ms2 : List MdT), vs = [.ref md.1, v, .ref lt, .ref tu] ∧ MdAt K H md ∧ md ∈ ms1 ∧ TmV K H v t ∧ some t ∈ ts ∧ PQ nr st1 ms1 ts st2 ms2 ∧ SqL K H lt us ∧ OAll K H us ts ∧
  SqT K H tu [x, y, .ref lm] ∧ ModesL K H lm ms2 ∧ fitT (mks (mds ms2)) [md.2.1] t = true ∧ (∀ r ∈ md.2.2.2.2, hasT ts r = true) ∧ ∀ H', Same H H' → Q (.bl ((num md.2.2.2.2).all (agreeB ts ms2 t))) H'
theorem fit_at {ms2 : List MdT} {kind : Str} {t : Tm} (h : fitT (mks (mds ms2)) [kind] t = true) : ∀ c ∈ cls t, 0 ≤ c.1 ∧ c.2 = 0 ∧ ∃ md, ms2[c.1.toNat]? = some md ∧ md.2.1 = kind := fun c hc => by
  have h1 := List.all_eq_true.mp h c hc
  unfold fit1 at h1
  simp only [Bool.and_eq_true, decide_eq_true_eq, List.length_singleton] at h1
  obtain ⟨⟨⟨⟨a, b⟩, c0⟩, d⟩, e⟩ := h1
  have c2 : c.2 = 0 := by omega
  rw [c2] at e
  refine ⟨a, c2, ?_⟩
  rw [List.getElem?_map, List.getElem?_map] at e
  cases em : ms2[c.1.toNat]? with
  | none => rw [em] at e; cases e
  | some md =>
    rw [em] at e
    have e' : md.2.1 = kind := by simpa [MdT.md] using e
    exact ⟨md, rfl, e'⟩
theorem modes_terms {K : PySem.W.Frag} {H : Hp} {us : List V} {ts : List (Option Tm)} {t : Tm} {n : Nat} (hus : OAll K H us ts) (ho : TsOk ts) (ht : TPr (fun a _ => 0 ≤ a ∧ a < (n : Int)) t) (h : hasT ts t = true) : ModesAt K H us (tf ts) (cls t) := fun c hc => by
  obtain ⟨c0, c1⟩ := ht.calls c hc
  refine ⟨c0, ?_⟩
  have h1 : hasB ts c = true := List.all_eq_true.mp h c hc
  unfold hasB at h1
  cases e : ts[c.1.toNat]? with
  | none => rw [e] at h1; cases h1
  | some o =>
    cases o with
    | none => rw [e] at h1; cases h1
    | some u =>
      obtain ⟨v, e1, e2⟩ := hus.get e
      have et : tf ts c.1 = u := by unfold tf; rw [e]
      refine ⟨v, e1, ?_⟩
      rw [et]
      exact ⟨e2, (ho.tm u (List.mem_of_getElem? e)).2.2⟩
theorem tin_ok {ts : List (Option Tm)} {t : Tm} {n : Nat} (ho : TsOk ts) (ht : TPr (fun a _ => 0 ≤ a ∧ a < (n : Int)) t) (hl : lv t ≤ 6) : MOk 24 (tin ts t) := by
  have h0 : ∀ m : Int, TPr (fun _ _ => True) (tf ts m) ∧ lv (tf ts m) ≤ 4 := fun m => by
    unfold tf
    split
    · rename_i u e
      obtain ⟨a, _, c⟩ := ho.tm u (List.mem_of_getElem? e)
      exact ⟨a.mono fun _ _ _ => trivial, c⟩
    · exact ⟨by simp [leaf, TPr], by simp [leaf, lv, lvs]⟩
  have h1 : ∀ m b : Int, TPr (fun _ _ => True) (onB b (tf ts m)) ∧ lv (onB b (tf ts m)) ≤ 5 := fun m b => by
    refine ⟨(h0 m).1.sub fun _ _ _ => by simp [leaf, TPr], ?_⟩
    have := sub_lv (L := 1) (f := fun m _ => leaf m b) (p := fun _ _ => True) (fun _ _ _ => by simp [leaf, lv, lvs]) (h0 m).1
    have h2 := (h0 m).2
    unfold onB
    omega
  have h2 : TPr (fun _ _ => True) (tin ts t) := ht.sub fun m b _ => (h1 m b).1
  have h3 : lv (tin ts t) ≤ lv t + 5 := sub_lv (fun m b _ => (h1 m b).2) ht
  exact h2.mok.mono (by omega)
theorem rin_ok {nr : Str → Nat} {st1 st2 : Tm} {ms1 ms2 : List MdT} {ts : List (Option Tm)} (q : PQ nr st1 ms1 ts st2 ms2) {t : Tm} (ht : some t ∈ ts) (j : Nat) : MOk 24 (rin ms2 j t) := by
  have h1 : ∀ m : Int, TPr (fun _ _ => True) (ruleAt ms2 j m) ∧ lv (ruleAt ms2 j m) ≤ 4 := fun m => by
    unfold ruleAt
    split
    · rename_i md e
      cases er : md.2.2.2.2[j]? with
      | none => exact ⟨by simp [leaf, TPr], by simp [leaf, lv, lvs]⟩
      | some r => exact (q.r2 md (List.mem_of_getElem? e)).2 r (List.mem_of_getElem? er)
    · exact ⟨by simp [leaf, TPr], by simp [leaf, lv, lvs]⟩
  obtain ⟨a, _, c⟩ := q.t.tm t ht
  have h2 : TPr (fun _ _ => True) (rin ms2 j t) := a.sub fun m b _ => (h1 m).1
  have h3 : lv (rin ms2 j t) ≤ lv t + 4 := sub_lv (fun m b _ => (h1 m).2) a
  exact h2.mok.mono (by omega)
section
variable {P : Program} {w : World} {K : PySem.W.Frag} {mg : Str → Option Value} {base : Heap} {f : Addr} {fd : FuncData}
theorem scRFo : FnScope ["turning", "kind", "number"] ["turning", "kind", "number"] (defScope sRFo) := ⟨rfl, rfl, rfl, by decide +kernel, rfl, by decide +kernel, by decide +kernel⟩
theorem ok_rfo (F : Fun K "rules_for" "rules_for" sRFo f fd) : FnOk P w K mg base CX0 1 f fd ["turning", "kind", "number"] (spRFo K) := by
  refine F.ok scRFo (fun vs H Q E h => ?_) (fun cdv A outer s H vs Q E hr h => ?_)
  · obtain ⟨tu, lm, x, y, ms2, kind, j, rfl, _⟩ := h
    rfl
  obtain ⟨tu, lm, x, y, ms2, kind, j, rfl, htu, hM, hfew, hj, q⟩ := h
  refine ⟨_, (pss_one (ps_ret (pe_lcompG (CompG.many (xs := ["its_kind", "rules"]) (caps := ["kind", "number"]) (cap := [1, 2]) (cs := [_, _]) rfl rfl (by decide +kernel) (by decide +kernel) (by decide +kernel) (by decide +kernel) (by decide +kernel) (by decide +kernel) rfl rfl rfl) rfl (pi_list (pe_ix ix_tup (pv 0) pe_int (fun _ _ => rfl))) (pg_c2 (CompG.many (xs := ["its_kind", "rules"]) (caps := ["kind", "number"]) (cap := [1, 2]) (cs := [_, _]) rfl rfl (by decide +kernel) (by decide +kernel) (by decide +kernel) (by decide +kernel) (by decide +kernel) (by decide +kernel) rfl rfl rfl) rfl) (fun _ _ _ _ => pf_nil) (fun _ _ _ _ => pe_ifExp (pt_cmpR op_eq (pv 0) (pv 2) (nomark _)) (pe_ix (r := rIxL K) ix_list (pv 1) (pv 3) (fun _ _ => rfl)) pe_non)))), ?_⟩
  refine ⟨_, rfl, tu, _, 2, _, rfl, rfl, htu, rfl, lm, rfl, ⟨_, hM.1⟩, fun acc hacc => ?_⟩
  refine c2_list (K := K) (xs := ms2.map fun m => V.ref m.1) (cs := [some (.str kind), some (.int (j : Int))]) (tt := fun _ H Q => Q true H) (fun i ys H' => H' acc = some (.lst ys) ∧ Same H H' ∧ ys.length = i ∧ ∀ (a : Nat) (md : MdT), a < i → ms2[a]? = some md → md.2.1 = kind → ∃ v, ys[a]? = some v ∧ TmV K H v (ruleAt ms2 j (a : Int)))
    ⟨upd_same, same_new hacc _, rfl, fun a md h => absurd h (Nat.not_lt_zero _)⟩ ?_ ?_ ?_
  · rintro i ys H' _ ⟨_, g, _⟩
    exact g.seq hM.1
  · rintro i x ys H' hi hx ⟨hya, g, hyl, hys⟩
    have him : i < ms2.length := by simpa using hi
    obtain rfl : x = .ref ms2[i].1 := by
      rw [List.getElem?_map, List.getElem?_eq_getElem him] at hx
      exact (Option.some.inj hx).symm
    obtain ⟨m1, m2, m3⟩ := hM.2 _ (List.getElem_mem him)
    refine ⟨ms2[i].1, _, _, rfl, g.seqT m1, iteT ⟨_, rfl, _, rfl, rfl, _, rfl, ?_⟩⟩
    have step : ∀ v : V, (ms2[i].2.1 = kind → TmV K H v (ruleAt ms2 j (i : Int))) → (fun i ys H' => H' acc = some (.lst ys) ∧ Same H H' ∧ ys.length = i ∧ ∀ (a : Nat) (md : MdT), a < i → ms2[a]? = some md → md.2.1 = kind → ∃ v, ys[a]? = some v ∧ TmV K H v (ruleAt ms2 j (a : Int))) (i + 1) (ys ++ [v]) (upd H' acc (.lst (ys ++ [v]))) := fun v hv => by
      refine ⟨upd_same, fun b u e => ?_, by simp [hyl], fun a md ha hmd hk => ?_⟩
      · rw [upd_ne (ne_of_none e hacc)]; exact g _ _ e
      · by_cases hai : a < i
        · obtain ⟨v', e1, e2⟩ := hys a md hai hmd hk
          exact ⟨v', by rw [List.getElem?_append_left (by omega)]; exact e1, e2⟩
        · obtain rfl : a = i := by omega
          rw [List.getElem?_eq_getElem him] at hmd
          obtain rfl := Option.some.inj hmd
          exact ⟨v, by rw [List.getElem?_append_right (by omega)]; simp [hyl], hv hk⟩
    by_cases hk : ms2[i].2.1 = kind
    · have hjl := hj _ (List.getElem_mem him) hk
      obtain ⟨v, hv1, hv2⟩ := m3.get (List.getElem?_eq_getElem hjl)
      have er : ruleAt ms2 j (i : Int) = ms2[i].2.2.2.2[j] := by
        unfold ruleAt
        rw [Int.toNat_natCast, List.getElem?_eq_getElem him]
        show (ms2[i].2.2.2.2[j]?).getD _ = _
        rw [List.getElem?_eq_getElem hjl]; rfl
      have e : decide (V.str ms2[i].2.1 = V.str kind) = true := decide_eq_true (by rw [hk])
      rw [e]
      refine iteT ⟨_, rfl, _, rfl, ms2[i].2.2.1, _, _, v, rfl, rfl, g.seq m2, atI_nat hv1, ?_⟩
      exact comp_next (ys := ys) hi hya (by omega) (step v fun _ => by rw [er]; exact hv2)
    · have e : decide (V.str ms2[i].2.1 = V.str kind) = false := decide_eq_false fun z => hk (V.str.inj z)
      rw [e]
      exact iteF (comp_next (ys := ys) hi hya (by omega) (step .non fun z => absurd z hk))
  rintro ys H1 ⟨hya, g, hyl, hys⟩
  rw [List.length_map] at hyl hys
  refine q acc ys H1 g hya fun a md hmd hk => ?_
  obtain ⟨v, e1, e2⟩ := hys a md (List.getElem?_eq_some_iff.mp hmd).1 hmd hk
  exact ⟨v, e1, e2.mono fun _ _ => g.seqT⟩
theorem scRA : FnScope ["mode", "term", "terms", "other"] ["mode", "term", "terms", "other"] (defScope sRA) := ⟨rfl, rfl, rfl, by decide +kernel, rfl, by decide +kernel, by decide +kernel⟩
theorem ok_ra (F : Fun K "rules_agree" "rules_agree" sRA f fd) (G : Gm mg) (RT : Fn P w K mg base 11 "terms_in" ["term", "terms"] (spTI K 6)) (RR : Fn P w K mg base 7 "rules_in" ["term", "terms"] (spRI K 6)) (RF : Fn P w K mg base 1 "rules_for" ["turning", "kind", "number"] (spRFo K)) : FnOk P w K mg base CX0 12 f fd ["mode", "term", "terms", "other"] (spRA K) := by
  refine F.ok scRA (fun vs H Q E h => ?_) (fun cdv A outer s H vs Q E hr h => ?_)
  · obtain ⟨nr, md, v, t, lt, us, ts, tu, lm, x, y, st1, st2, ms1, ms2, rfl, _⟩ := h
    rfl
  obtain ⟨nr, md, v, t, lt, us, ts, tu, lm, x, y, st1, st2, ms1, ms2, rfl, hmd, hm1, ht, hts, pq, hlt, hus, htu, hM, hfit, hhas, q⟩ := h
  refine ⟨_, (pss_one (ps_ret (pe_callB (call_allB rfl) rfl G.all PyProof.Rows.boot_all (pa_cons (pe_lcompG (CompG.many (xs := ["number", "rule"]) (caps := ["mode", "other", "term", "terms"]) (cap := [0, 3, 1, 2]) (cs := [_, _, _, _]) rfl rfl (by decide +kernel) (by decide +kernel) (by decide +kernel) (by decide +kernel) (by decide +kernel) (by decide +kernel) rfl rfl rfl) rfl (pi_enumL rfl G.enu (pa_cons (pe_ix ix_tup (pv 0) pe_int (fun _ _ => rfl)) pa_nil)) (pg_c2 (CompG.many (xs := ["number", "rule"]) (caps := ["mode", "other", "term", "terms"]) (cap := [0, 3, 1, 2]) (cs := [_, _, _, _]) rfl rfl (by decide +kernel) (by decide +kernel) (by decide +kernel) (by decide +kernel) (by decide +kernel) (by decide +kernel) rfl rfl rfl) rfl) (fun _ _ _ _ => pf_nil)
    (fun _ _ _ _ => pe_cmpR (r := rEqD K (A.deeper (PyProof.Rows.envOfC "rules_agree" (defScope sRA) s.heap.objs.size f cdv)) false) op_eqD (pe_fn RT hr (pa_cons (pv 1) (pa_cons (pv 5) pa_nil))) (pe_fn RR hr (pa_cons (pv 4) (pa_cons (pe_fn RF hr (pa_cons (pv 3) (pa_cons (pe_ix (r := rIxT K) ix_tup (pv 2) pe_int (fun _ _ => rfl)) (pa_cons (pv 0) pa_nil)))) pa_nil))) (nomark _))) pa_nil)))), ?_⟩
  obtain ⟨r1, r1t⟩ := pq.r1 md hm1
  have hn := pq.ten md.2.1
  have hl := hmd.2.2.length
  have hmc := fit_at hfit
  obtain ⟨tp, tk, tl⟩ := pq.t.tm t hts
  refine ⟨_, rfl, md.1, _, 1, _, rfl, rfl, hmd.1, rfl, md.2.2.1, _, rfl, hmd.2.1, fun acc hacc => ?_⟩
  refine c2_enumL (K := K) (xs := md.2.2.2.1) (cs := [some (.ref md.1), some (.ref tu), some v, some (.ref lt)]) (tt := fun _ H Q => Q true H) (fun i ys H' => H' acc = some (.lst ys) ∧ Same H H' ∧ ys = (((num md.2.2.2.2).take i).map (agreeB ts ms2 t)).map V.bl)
    ⟨upd_same, same_new hacc _, rfl⟩ ?_ ?_ ?_
  · rintro i ys H' _ ⟨_, g, _⟩
    exact g.seq hmd.2.1
  · rintro i u p ys H' hi hu hp ⟨hya, g, rfl⟩
    have hit : i < md.2.2.2.2.length := by omega
    obtain ⟨cv, hcv, hct⟩ := hmd.2.2.get (List.getElem?_eq_getElem hit)
    obtain rfl : cv = u := Option.some.inj (hcv.symm.trans hu)
    have gp := same_new hp (.tup [.int (i : Int), cv])
    have gg := g.trans gp
    have hm := List.getElem_mem hit
    obtain ⟨o1, o2⟩ := r1t _ hm
    refine iteT ⟨_, rfl, _, rfl, cv, lt, us, md.2.2.2.2[i], tf ts, rfl, hct.mono fun _ _ => gg.seqT, o2, gg.seq hlt, (modes_terms hus pq.t o1 (hhas _ hm)).mono fun _ _ => gg.seqT, fun v1 H1 g1 hv1 => ?_⟩
    have gg1 := gg.trans g1
    refine ⟨_, rfl, _, rfl, _, rfl, md.1, _, 0, _, rfl, rfl, gg1.seqT hmd.1, rfl, _, rfl, tu, lm, x, y, ms2, md.2.1, i, rfl, gg1.seqT htu, hM.same gg1, pq.few2, fun m hm' hk => ?_, fun l ws H2 g2 hl2 hws => ?_⟩
    · rw [(pq.r2 m hm').1, hk, ← r1]; exact hit
    have gg2 := gg1.trans g2
    have hMA : ModesAt K H2 ws (ruleAt ms2 i) (cls t) := fun c hc => by
      obtain ⟨c0, _, md2, e1, e2⟩ := hmc c hc
      obtain ⟨v2, e3, e4⟩ := hws c.1.toNat md2 e1 e2
      have ec : ((c.1.toNat : Nat) : Int) = c.1 := by omega
      rw [ec] at e4
      refine ⟨c0, v2, e3, e4, ?_⟩
      unfold ruleAt
      rw [e1]
      show lv ((md2.2.2.2.2[i]?).getD _) ≤ 4
      cases er : md2.2.2.2.2[i]? with
      | none => simp [leaf, lv, lvs]
      | some r => exact ((pq.r2 md2 (List.mem_of_getElem? e1)).2 r (List.mem_of_getElem? er)).2
    refine ⟨v, l, ws, t, ruleAt ms2 i, rfl, ht.mono fun _ _ => gg2.seqT, by omega, SqL.of hl2, hMA, fun v3 H3 g3 hv3 => ?_⟩
    have k1 := tin_ok pq.t o1 o2
    have k2 := rin_ok pq hts i
    refine ⟨tmd (tin ts md.2.2.2.2[i]), tmd (rin ms2 i t), (hv1.mono fun _ _ => (g2.trans g3).seqT).rd, hv3.rd, k1.1, k2.1, hr.fit (by have := k1.2; omega), ?_⟩
    rw [if_neg Bool.false_ne_true]
    have g13 := g1.trans (g2.trans g3)
    have hya3 := g13 _ _ (gp _ _ hya)
    refine comp_next hi hya3 (by rw [List.length_map, List.length_map, List.length_take]; omega) ⟨upd_same, fun b u e => ?_, ?_⟩
    · rw [upd_ne (ne_of_none e hacc)]; exact g13 _ _ (gp _ _ (g _ _ e))
    · have en : (num md.2.2.2.2)[i]? = some (i, md.2.2.2.2[i]) := by
        unfold num
        rw [List.getElem?_zip_eq_some]
        exact ⟨List.getElem?_range hit, List.getElem?_eq_getElem hit⟩
      rw [List.take_add_one, en, List.map_append, List.map_append]; rfl
  rintro ys H1 ⟨hya, g, rfl⟩
  have e3 : (num md.2.2.2.2).take md.2.2.2.1.length = num md.2.2.2.2 := List.take_of_length_le (by unfold num; rw [List.length_zip, List.length_range]; omega)
  rw [e3] at hya
  refine ⟨acc, _, rfl, SqL.of hya, ?_⟩
  rw [List.all_map]
  exact q H1 g
end
end K51
namespace K51
open PySem L2 TM TT K9 K11 ST
structure TuAt (K : PySem.W.Frag) (H : Hp) (tu wd : Addr) (sv : V) (lm : Addr) (st : Tm) (ms : List MdT) (d : PyData) : Prop where
  tu : SqT K H tu [.ref wd, sv, .ref lm]
  s : TmV K H sv st
  m : ModesL K H lm ms
  w : RdV K H (.ref wd) d
def tolds (ms : List MdT) (ts : List (Option Tm)) : List (MdT × Tm) := (ms.zip ts).filterMap fun p => p.2.map fun t => (p.1, t)
theorem mem_tolds {ms : List MdT} {ts : List (Option Tm)} {md : MdT} {t : Tm} : (md, t) ∈ tolds ms ts ↔ ∃ k : Nat, ms[k]? = some md ∧ ts[k]? = some (some t) := by
  unfold tolds
  rw [List.mem_filterMap]
  constructor
  · rintro ⟨p, hp, e⟩
    obtain ⟨k, hk⟩ := List.mem_iff_getElem?.mp hp
    rw [List.getElem?_zip_eq_some] at hk
    cases e2 : p.2 with
    | none => rw [e2] at e; cases e
    | some u =>
      rw [e2] at e hk
      have e' : (p.1, u) = (md, t) := Option.some.inj e
      injection e' with a b
      exact ⟨k, by rw [← a]; exact hk.1, by rw [← b]; exact hk.2⟩
  · rintro ⟨k, h1, h2⟩
    exact ⟨(md, some t), List.mem_iff_getElem?.mpr ⟨k, List.getElem?_zip_eq_some.mpr ⟨h1, h2⟩⟩, rfl⟩
def TlAt (K : PySem.W.Frag) (H : Hp) (xs : List (Addr × V × MdT × Tm)) : Prop := ∀ x ∈ xs, SqT K H x.1 [.ref x.2.2.1.1, x.2.1] ∧ TmV K H x.2.1 x.2.2.2
theorem TlAt.mono {K : PySem.W.Frag} {H H' : Hp} (k : ∀ a xs, SqT K H a xs → SqT K H' a xs) {xs : List (Addr × V × MdT × Tm)} (h : TlAt K H xs) : TlAt K H' xs := fun x hx => ⟨k _ _ (h x hx).1, (h x hx).2.mono k⟩
def spIsP (K : PySem.W.Frag) : Sp := fun vs H Q _ => ∃ (nr : Str → Nat) (t1 w1 lm1 lt t2 w2 lm2 : Addr) (s1 s2 : V) (us : List V) (ts : List (Option Tm)) (st1 st2 : Tm) (ms1 ms2 : List MdT) (d : PyData), vs = [.ref t1, .ref lt, .ref t2] ∧ TuAt K H t1 w1 s1 lm1 st1 ms1 d ∧ TuAt K H t2 w2 s2 lm2 st2 ms2 d ∧ d.canLay0 = true ∧ d.depth ≤ 10 ∧ SqL K H lt us ∧ OAll K H us ts ∧ PQ nr st1 ms1 ts st2 ms2 ∧
  ∀ (b : Bool) (H' : Hp), Same H H' → (b = true ↔ Paper st1 ms1 ts st2 ms2) → Q (.bl b) H'
theorem all_tolds {ms : List MdT} {ts : List (Option Tm)} {g : MdT × Tm → Bool} : ((tolds ms ts).map g).all id = true ↔ ∀ (k : Nat) (md : MdT) (t : Tm), ms[k]? = some md → ts[k]? = some (some t) → g (md, t) = true := by
  rw [List.all_map, List.all_eq_true]
  constructor
  · intro h k md t h1 h2
    exact h (md, t) (mem_tolds.mpr ⟨k, h1, h2⟩)
  · rintro h ⟨md, t⟩ hm
    obtain ⟨k, h1, h2⟩ := mem_tolds.mp hm
    exact h k md t h1 h2
section
variable {P : Program} {w : World} {K : PySem.W.Frag} {mg : Str → Option Value} {base : Heap} {f : Addr} {fd : FuncData}
theorem scIsP : FnScope ["one", "terms", "other", "told"] ["one", "terms", "other"] (defScope sIsP) := ⟨rfl, rfl, rfl, by decide +kernel, rfl, by decide +kernel, by decide +kernel⟩
theorem ok_isP (F : Fun K "is_paper" "is_paper" sIsP f fd) (G : Gm mg) (RN : Fn P w K mg base 1 "need_one_wood" ["one", "other"] (spNOW K)) (RF : Fn P w K mg base 11 "term_fits" ["kind", "term", "other"] (spTF K)) (RH : Fn P w K mg base 10 "has_terms" ["term", "terms"] (spHT K)) (RR : Fn P w K mg base 11 "rules_have_terms" ["rules", "terms"] (spRHT K))
    (RT : Fn P w K mg base 11 "terms_in" ["term", "terms"] (spTI K 6)) (RA : Fn P w K mg base 12 "rules_agree" ["mode", "term", "terms", "other"] (spRA K)) : FnOk P w K mg base CX0 13 f fd ["one", "terms", "other"] (spIsP K) := by
  refine F.ok scIsP (fun vs H Q E h => ?_) (fun cdv A outer s H vs Q E hr h => ?_)
  · obtain ⟨nr, t1, w1, lm1, lt, t2, w2, lm2, s1, s2, us, ts, st1, st2, ms1, ms2, d, rfl, _⟩ := h
    rfl
  obtain ⟨nr, t1, w1, lm1, lt, t2, w2, lm2, s1, s2, us, ts, st1, st2, ms1, ms2, d, rfl, h1, h2, cl, dd, hlt, hus, pq, q⟩ := h
  refine ⟨_, (pss_cons (ps_expr (pe_fn RN hr (pa_cons (pv 0) (pa_cons (pv 2) pa_nil))))
    (pss_cons (ps_if (PW.pt (pw_or (pt_cmpR op_ne (pe_callB call_len_seq rfl G.len PySem.boot_len (pa_cons (pv 1) pa_nil)) (pe_callB call_len_seq rfl G.len PySem.boot_len (pa_cons (pe_ix ix_tup (pv 0) pe_int (fun _ _ => rfl)) pa_nil)) (nomark _)) (pw_or1 (pt_not (pt_val (pe_callB (call_allB rfl) rfl G.all PyProof.Rows.boot_all (pa_cons (pe_lcompG (CompG.many (xs := ["mode", "term"]) (caps := ["other"]) (cap := [2]) (cs := [_]) rfl rfl (by decide +kernel) (by decide +kernel) (by decide +kernel) (by decide +kernel) (by decide +kernel) (by decide +kernel) rfl rfl rfl) rfl (pi_zip rfl G.zip (pa_cons (pe_ix ix_tup (pv 0) pe_int (fun _ _ => rfl)) (pa_cons (pv 1) pa_nil))) (pg_c2 (CompG.many (xs := ["mode", "term"]) (caps := ["other"]) (cap := [2]) (cs := [_]) rfl rfl (by decide +kernel) (by decide +kernel) (by decide +kernel) (by decide +kernel) (by decide +kernel) (by decide +kernel) rfl rfl rfl) rfl) (fun _ _ _ _ => pf_nil) (fun _ _ _ _ => pe_fn RF hr (pa_cons (pe_ix (r := rIxT K) ix_tup (pv 0) pe_int (fun _ _ => rfl)) (pa_cons (pv 1) (pa_cons (pv 2) pa_nil))))) pa_nil))))))) (pss_one (ps_ret pe_bl)) pss_nil)
    (pss_cons (ps_setG (i := 3) (CompG.many (xs := ["mode", "term"]) (caps := []) (cap := []) (cs := []) rfl rfl (by decide +kernel) (by decide +kernel) (by decide +kernel) (by decide +kernel) (by decide +kernel) (by decide +kernel) rfl rfl rfl) rfl (pi_zip rfl G.zip (pa_cons (pe_ix ix_tup (pv 0) pe_int (fun _ _ => rfl)) (pa_cons (pv 1) pa_nil))) (pg_c2 (CompG.many (xs := ["mode", "term"]) (caps := []) (cap := []) (cs := []) rfl rfl (by decide +kernel) (by decide +kernel) (by decide +kernel) (by decide +kernel) (by decide +kernel) (by decide +kernel) rfl rfl rfl) rfl) (fun _ _ _ _ => pf_one (pt_cmpR op_notN (pv 1) pe_non (nomark _))) (fun _ _ _ _ => (pe_tup (pa_cons (pv 0) (pa_cons (pv 1) pa_nil)))) scIsP.nd rfl rfl)
    (pss_cons (ps_if (PW.pt (pw_or (pt_not (pt_val (pe_fn RH hr (pa_cons (pe_ix ix_tup (pv 0) pe_int (fun _ _ => rfl)) (pa_cons (pv 1) pa_nil))))) (pw_or1 (pt_not (pt_val (pe_callB (call_allB rfl) rfl G.all PyProof.Rows.boot_all (pa_cons (pe_lcompG (CompG.many (xs := ["mode", "term"]) (caps := ["terms"]) (cap := [1]) (cs := [_]) rfl rfl (by decide +kernel) (by decide +kernel) (by decide +kernel) (by decide +kernel) (by decide +kernel) (by decide +kernel) rfl rfl rfl) rfl (pi_list (pv 3)) (pg_c2 (CompG.many (xs := ["mode", "term"]) (caps := ["terms"]) (cap := [1]) (cs := [_]) rfl rfl (by decide +kernel) (by decide +kernel) (by decide +kernel) (by decide +kernel) (by decide +kernel) (by decide +kernel) rfl rfl rfl) rfl) (fun _ _ _ _ => pf_nil) (fun _ _ _ _ => pe_fn RR hr (pa_cons (pe_ix (r := rIxT K) ix_tup (pv 0) pe_int (fun _ _ => rfl)) (pa_cons (pv 2) pa_nil)))) pa_nil))))))) (pss_one (ps_ret pe_bl)) pss_nil)
    (pss_cons (ps_if (pt_cmpR op_neD (pe_fn RT hr (pa_cons (pe_ix ix_tup (pv 0) pe_int (fun _ _ => rfl)) (pa_cons (pv 1) pa_nil))) (pe_ix ix_tup (pv 2) pe_int (fun _ _ => rfl)) (nomark _)) (pss_one (ps_ret pe_bl)) pss_nil)
    (pss_one (ps_ret (pe_callB (call_allB rfl) rfl G.all PyProof.Rows.boot_all (pa_cons (pe_lcompG (CompG.many (xs := ["mode", "term"]) (caps := ["other", "terms"]) (cap := [2, 1]) (cs := [_, _]) rfl rfl (by decide +kernel) (by decide +kernel) (by decide +kernel) (by decide +kernel) (by decide +kernel) (by decide +kernel) rfl rfl rfl) rfl (pi_list (pv 3)) (pg_c2 (CompG.many (xs := ["mode", "term"]) (caps := ["other", "terms"]) (cap := [2, 1]) (cs := [_, _]) rfl rfl (by decide +kernel) (by decide +kernel) (by decide +kernel) (by decide +kernel) (by decide +kernel) (by decide +kernel) rfl rfl rfl) rfl) (fun _ _ _ _ => pf_nil) (fun _ _ _ _ => pe_fn RA hr (pa_cons (pv 0) (pa_cons (pv 1) (pa_cons (pv 3) (pa_cons (pv 2) pa_nil)))))) pa_nil))))))))), ?_⟩
  have hul := hus.length
  have hl := pq.l
  have f1 := pq.few1
  have lz : (ms1.map fun m => V.ref m.1).length = us.length := by rw [List.length_map]; omega
  refine ⟨_, rfl, _, rfl, t1, t2, w1, w2, s1, .ref lm1, s2, .ref lm2, d, rfl, h1.tu, h2.tu, h1.w, h2.w, cl, dd, ?_⟩
  refine ⟨_, rfl, lt, us, rfl, .inl hlt, _, rfl, t1, _, 2, _, rfl, rfl, h1.tu, rfl, lm1, _, rfl, .inl h1.m.1, rfl, _, rfl, iteNS (by rw [lz]) ?_⟩
  refine ⟨_, rfl, t1, _, 2, _, rfl, rfl, h1.tu, rfl, _, rfl, lm1, lt, _, us, rfl, h1.m.1, hlt, fun acc hacc => ?_⟩
  refine c2_zip (K := K) (xs := ms1.map fun m => V.ref m.1) (zs := us) (cs := [some (.ref t2)]) (tt := fun _ H Q => Q true H) lz (fun i ys H' => H' acc = some (.lst ys) ∧ Same H H' ∧ ys = (((ms1.zip ts).take i).map fun p => fitO ms2 p.1.2.1 p.2).map V.bl)
    ⟨upd_same, same_new hacc _, rfl⟩ ?_ ?_ ?_
  · rintro i ys H' _ ⟨_, g, _⟩
    exact ⟨g.seq h1.m.1, g.seq hlt⟩
  · rintro i u v p ys H' hi hu hv hp ⟨hya, g, rfl⟩
    have him : i < ms1.length := by simpa using hi
    have hit : i < ts.length := by omega
    obtain rfl : u = .ref ms1[i].1 := by
      rw [List.getElem?_map, List.getElem?_eq_getElem him] at hu
      exact (Option.some.inj hu).symm
    obtain ⟨cv, hcv, hct⟩ := hus.get (List.getElem?_eq_getElem hit)
    obtain rfl : cv = v := Option.some.inj (hcv.symm.trans hv)
    have gp := same_new hp (.tup [.ref ms1[i].1, cv])
    have gg := g.trans gp
    refine iteT ⟨_, rfl, _, _, 0, _, rfl, rfl, gg.seqT (h1.m.2 _ (List.getElem_mem him)).1, rfl, _, rfl, _, rfl, ms1[i].2.1, cv, ts[i], t2, lm2, .ref w2, s2, ms2, rfl, TmO.mono (fun _ _ => gg.seqT) hct, fun t et => pq.t.tm t (by rw [← et]; exact List.getElem_mem hit), gg.seqT h2.tu, h2.m.same gg, fun H4 g4 => ?_⟩
    have hya4 := g4 _ _ (gp _ _ hya)
    refine comp_next hi hya4 (by rw [List.length_map, List.length_map, List.length_take, List.length_zip]; omega) ⟨upd_same, fun b u e => ?_, ?_⟩
    · rw [upd_ne (ne_of_none e hacc)]; exact g4 _ _ (gg _ _ e)
    · have ez : (ms1.zip ts)[i]? = some (ms1[i], ts[i]) := List.getElem?_zip_eq_some.mpr ⟨List.getElem?_eq_getElem him, List.getElem?_eq_getElem hit⟩
      rw [List.take_add_one, ez, List.map_append, List.map_append]; rfl
  rintro ys H1 ⟨hya, g1, rfl⟩
  have e3 : (ms1.zip ts).take (ms1.map fun m => V.ref m.1).length = ms1.zip ts := List.take_of_length_le (by rw [List.length_map, List.length_zip]; omega)
  rw [e3] at hya
  refine ⟨acc, _, rfl, SqL.of hya, _, rfl, ?_⟩
  have eA : (((ms1.zip ts).map fun p => fitO ms2 p.1.2.1 p.2).all id) = true ↔ ∀ (k : Nat) (md : MdT) (t : Tm), ms1[k]? = some md → ts[k]? = some (some t) → fitT (mks (mds ms2)) [md.2.1] t = true := by
    rw [List.all_map, List.all_eq_true]
    constructor
    · intro h k md t h1 h2
      exact h (md, some t) (List.mem_iff_getElem?.mpr ⟨k, List.getElem?_zip_eq_some.mpr ⟨h1, h2⟩⟩)
    · rintro h ⟨md, o⟩ hm
      obtain ⟨k, hk⟩ := List.mem_iff_getElem?.mp hm
      rw [List.getElem?_zip_eq_some] at hk
      cases o with
      | none => rfl
      | some t => exact h k md t hk.1 hk.2
  cases hA : (((ms1.zip ts).map fun p => fitO ms2 p.1.2.1 p.2).all id) with
  | false =>
    refine iteT (q false H1 g1 ⟨fun z => absurd z Bool.false_ne_true, fun z => ?_⟩)
    rw [eA.mpr z.fit] at hA; cases hA
  | true =>
  have fitA := eA.mp hA
  refine iteF ?_
  have h1' := h1
  have hlt1 := g1.seq hlt
  refine ⟨_, rfl, t1, _, 2, _, rfl, rfl, g1.seqT h1.tu, rfl, _, rfl, lm1, lt, _, us, rfl, g1.seq h1.m.1, hlt1, fun ld hld => ?_⟩
  refine c2_zip (K := K) (xs := ms1.map fun m => V.ref m.1) (zs := us) (cs := []) lz (fun i ys H' => ∃ xs : List (Addr × V × MdT × Tm), ys = xs.map (fun x => V.ref x.1) ∧ H' ld = some (.lst ys) ∧ Same H1 H' ∧ TlAt K H' xs ∧ xs.map (fun x => x.2.2) = ((ms1.zip ts).take i).filterMap fun p => p.2.map fun t => (p.1, t))
    ⟨[], rfl, upd_same, same_new hld _, fun x hx => (nomatch hx), rfl⟩ ?_ ?_ ?_
  · rintro i ys H' _ ⟨_, _, _, g, _⟩
    exact ⟨g.seq (g1.seq h1.m.1), g.seq hlt1⟩
  · rintro i u v p ys H' hi hu hv hp ⟨xs, rfl, hya, g, hat, hxs⟩
    have him : i < ms1.length := by simpa using hi
    have hit : i < ts.length := by omega
    obtain rfl : u = .ref ms1[i].1 := by
      rw [List.getElem?_map, List.getElem?_eq_getElem him] at hu
      exact (Option.some.inj hu).symm
    obtain ⟨cv, hcv, hct⟩ := hus.get (List.getElem?_eq_getElem hit)
    obtain rfl : cv = v := Option.some.inj (hcv.symm.trans hv)
    have gp := same_new hp (.tup [.ref ms1[i].1, cv])
    have ez : (ms1.zip ts)[i]? = some (ms1[i], ts[i]) := List.getElem?_zip_eq_some.mpr ⟨List.getElem?_eq_getElem him, List.getElem?_eq_getElem hit⟩
    have hxl : xs.length ≤ i := by
      have := congrArg List.length hxs
      rw [List.length_map] at this
      have h5 := List.length_filterMap_le (fun p : MdT × Option Tm => p.2.map fun t => (p.1, t)) ((ms1.zip ts).take i)
      rw [List.length_take] at h5
      omega
    have hya2 := gp _ _ hya
    refine ⟨_, rfl, rfl, _, rfl, ?_⟩
    cases eo : ts[i] with
    | none =>
      rw [eo] at hct ez
      have hv' : cv = .non := hct
      subst hv'
      refine iteF (comp_skip hi (ys := xs.map fun x => V.ref x.1) ⟨xs, rfl, hya2, g.trans gp, hat.mono fun _ _ => gp.seqT, ?_⟩)
      rw [List.take_add_one, ez, List.filterMap_append, hxs]
      simp
    | some t =>
      rw [eo] at hct ez
      have hct' : TmV K H cv t := hct
      have hvn : cv ≠ .non := fun z => by rw [z] at hct'; cases hct'
      have e : (!decide (cv = V.non)) = true := by simp [hvn]
      rw [e]
      refine iteT ⟨_, rfl, _, rfl, (by show 2 ≤ sizeLine; decide), fun p2 hp2 => ?_⟩
      have gp2 := same_new hp2 (.tup [.ref ms1[i].1, cv])
      have hya3 := gp2 _ _ hya2
      have gpp := gp.trans gp2
      refine comp_next (ys := xs.map fun x => V.ref x.1) hi hya3 (by rw [List.length_map]; omega) ⟨xs ++ [(p2, cv, ms1[i], t)], by simp, upd_same, fun b u e => ?_, fun x hx => ?_, ?_⟩
      · rw [upd_ne (ne_of_none e hld)]; exact gpp _ _ (g _ _ e)
      · rcases List.mem_append.mp hx with z | z
        · exact ⟨(gpp.seqT (hat x z).1).put hya3, (hat x z).2.mono fun _ _ h => (gpp.seqT h).put hya3⟩
        · obtain rfl : x = (p2, cv, ms1[i], t) := by simpa using z
          exact ⟨SqT.put (SqT.of upd_same) hya3, hct'.mono fun _ _ h => ((g1.trans (g.trans gpp)).seqT h).put hya3⟩
      · rw [List.take_add_one, ez, List.filterMap_append, List.map_append, hxs]
        simp
  rintro ys H2 ⟨xs, rfl, hld2, g2, hat, hxs⟩
  rw [e3] at hxs
  have hxs' : xs.map (fun x => x.2.2) = tolds ms1 ts := hxs
  have g12 := g1.trans g2
  have hlt2 := g12.seq hlt
  have hus2 := hus.mono fun a xs => g12.seqT (a := a) (xs := xs)
  have hl' : (ts.length : Int) = (ms1.length : Int) := by omega
  have s1o : TPr (fun a _ => 0 ≤ a ∧ a < (ts.length : Int)) st1 := pq.s1.1.mono fun a _ h => by rw [hl']; exact h
  have r1o : ∀ m ∈ ms1, ∀ t ∈ m.2.2.2.2, TPr (fun a _ => 0 ≤ a ∧ a < (ts.length : Int)) t ∧ lv t ≤ 6 := fun m hm t ht => ⟨((pq.r1 m hm).2 t ht).1.mono fun a _ h => by rw [hl']; exact h, ((pq.r1 m hm).2 t ht).2⟩
  have hxl : xs.length ≤ 10 := by
    have := congrArg List.length hxs
    rw [List.length_map] at this
    have h5 := List.length_filterMap_le (fun p : MdT × Option Tm => p.2.map fun t => (p.1, t)) (ms1.zip ts)
    rw [List.length_zip] at h5
    omega
  have xin : ∀ x ∈ xs, x.2.2.1 ∈ ms1 ∧ some x.2.2.2 ∈ ts ∧ ∃ k : Nat, ms1[k]? = some x.2.2.1 ∧ ts[k]? = some (some x.2.2.2) := fun x hx => by
    have hm : (x.2.2.1, x.2.2.2) ∈ tolds ms1 ts := by rw [← hxs']; exact List.mem_map.mpr ⟨x, hx, rfl⟩
    obtain ⟨k, a, b⟩ := mem_tolds.mp hm
    exact ⟨List.mem_of_getElem? a, List.mem_of_getElem? b, k, a, b⟩
  refine ⟨_, rfl, t1, _, 1, _, rfl, rfl, g12.seqT h1.tu, rfl, _, rfl, s1, st1, lt, us, ts, rfl, h1.s.mono fun _ _ => g12.seqT, s1o, pq.s1.2, hlt2, hus2, fun H3 g3 => ⟨_, rfl, ?_⟩⟩
  have g13 := g12.trans g3
  cases hHs : hasT ts st1 with
  | false =>
    refine iteT (iteT (q false H3 g13 ⟨fun z => absurd z Bool.false_ne_true, fun z => ?_⟩))
    have := z.hs
    rw [hHs] at this; cases this
  | true =>
  refine iteF ?_
  have hld3 := g3 _ _ hld2
  refine ⟨_, rfl, ld, rfl, ⟨_, SqL.of hld3⟩, fun acc2 hacc2 => ?_⟩
  refine c2_list (K := K) (xs := xs.map fun x => V.ref x.1) (cs := [some (.ref lt)]) (tt := fun _ H Q => Q true H) (fun i ys H' => H' acc2 = some (.lst ys) ∧ Same H3 H' ∧ ys = ((xs.take i).map fun x => (x.2.2.1.2.2.2.2.map (hasT ts)).all id).map V.bl)
    ⟨upd_same, same_new hacc2 _, rfl⟩ ?_ ?_ ?_
  · rintro i ys H' _ ⟨_, g, _⟩
    exact SqL.of (g _ _ hld3)
  · rintro i x ys H' hi hx ⟨hya, g, rfl⟩
    have hix : i < xs.length := by simpa using hi
    obtain rfl : x = .ref xs[i].1 := by
      rw [List.getElem?_map, List.getElem?_eq_getElem hix] at hx
      exact (Option.some.inj hx).symm
    have hxm := List.getElem_mem hix
    obtain ⟨x1, x2, _⟩ := xin _ hxm
    have gg := g3.trans g
    have gg1 := g12.trans gg
    obtain ⟨m1, m2, m3⟩ := h1.m.2 _ x1
    have hn := pq.ten xs[i].2.2.1.2.1
    have hrl := (pq.r1 _ x1).1
    refine ⟨xs[i].1, _, _, rfl, gg.seqT (hat _ hxm).1, iteT ⟨_, rfl, _, _, 1, _, rfl, rfl, gg1.seqT m1, rfl, _, rfl, xs[i].2.2.1.2.2.1, xs[i].2.2.1.2.2.2.1, xs[i].2.2.1.2.2.2.2, lt, us, ts, rfl, gg1.seq m2, m3.mono fun _ _ => gg1.seqT, by omega, r1o _ x1, gg1.seq hlt, hus.mono fun _ _ => gg1.seqT, fun H4 g4 => ?_⟩⟩
    have hya4 := g4 _ _ hya
    refine comp_next hi hya4 (by rw [List.length_map, List.length_map, List.length_take]; omega) ⟨upd_same, fun b u e => ?_, ?_⟩
    · rw [upd_ne (ne_of_none e hacc2)]; exact g4 _ _ (g _ _ e)
    · rw [List.take_add_one, List.getElem?_eq_getElem hix, List.map_append, List.map_append]; rfl
  rintro ys H4 ⟨hya4, g4, rfl⟩
  have e4 : xs.take (xs.map fun x => V.ref x.1).length = xs := List.take_of_length_le (by rw [List.length_map]; exact Nat.le_refl _)
  rw [e4] at hya4
  have eB : ((xs.map fun x => (x.2.2.1.2.2.2.2.map (hasT ts)).all id).all id) = true ↔ ∀ (k : Nat) (md : MdT) (t : Tm), ms1[k]? = some md → ts[k]? = some (some t) → ∀ r ∈ md.2.2.2.2, hasT ts r = true := by
    have e5 : (xs.map fun x => (x.2.2.1.2.2.2.2.map (hasT ts)).all id) = (tolds ms1 ts).map fun p => (p.1.2.2.2.2.map (hasT ts)).all id := by rw [← hxs', List.map_map]; rfl
    rw [e5, all_tolds]
    constructor
    · intro h k md t a b r hr
      have := h k md t a b
      rw [List.all_map, List.all_eq_true] at this
      exact this r hr
    · intro h k md t a b
      rw [List.all_map, List.all_eq_true]
      exact fun r hr => h k md t a b r hr
  have g14 := g13.trans g4
  refine ⟨acc2, _, rfl, SqL.of hya4, _, rfl, ?_⟩
  cases hB : ((xs.map fun x => (x.2.2.1.2.2.2.2.map (hasT ts)).all id).all id) with
  | false =>
    refine iteT (q false H4 g14 ⟨fun z => absurd z Bool.false_ne_true, fun z => ?_⟩)
    rw [eB.mpr z.hr] at hB; cases hB
  | true =>
  have hasR := eB.mp hB
  refine iteF ?_
  refine ⟨_, rfl, t1, _, 1, _, rfl, rfl, g14.seqT h1.tu, rfl, _, rfl, s1, lt, us, st1, tf ts, rfl, h1.s.mono fun _ _ => g14.seqT, pq.s1.2, g14.seq hlt, (modes_terms hus pq.t pq.s1.1 hHs).mono fun _ _ => g14.seqT, fun v5 H5 g5 hv5 => ?_⟩
  have g15 := g14.trans g5
  have k1 := tin_ok pq.t pq.s1.1 pq.s1.2
  have k2 := pq.s2.1.mok
  refine ⟨_, rfl, t2, _, 1, _, rfl, rfl, g15.seqT h2.tu, rfl, tmd (tin ts st1), tmd st2, hv5.rd, (h2.s.mono fun _ _ => g15.seqT).rd, k1.1, k2.1, hr.fit (by have := k1.2; omega), _, rfl, ?_⟩
  rw [if_pos rfl]
  have eq0 : PyData.eqv (tmd (tin ts st1)) (tmd st2) = eqT (tin ts st1) st2 := rfl
  rw [eq0]
  cases hE : eqT (tin ts st1) st2 with
  | false =>
    refine iteT (q false H5 g15 ⟨fun z => absurd z Bool.false_ne_true, fun z => ?_⟩)
    have := z.es
    rw [hE] at this; cases this
  | true =>
  refine iteF ?_
  have hld5 := g5 _ _ (g4 _ _ hld3)
  refine ⟨_, rfl, ld, rfl, ⟨_, SqL.of hld5⟩, fun acc3 hacc3 => ?_⟩
  refine c2_list (K := K) (xs := xs.map fun x => V.ref x.1) (cs := [some (.ref t2), some (.ref lt)]) (tt := fun _ H Q => Q true H) (fun i ys H' => H' acc3 = some (.lst ys) ∧ Same H5 H' ∧ ys = ((xs.take i).map fun x => (num x.2.2.1.2.2.2.2).all (agreeB ts ms2 x.2.2.2)).map V.bl)
    ⟨upd_same, same_new hacc3 _, rfl⟩ ?_ ?_ ?_
  · rintro i ys H' _ ⟨_, g, _⟩
    exact SqL.of (g _ _ hld5)
  · rintro i x ys H' hi hx ⟨hya, g, rfl⟩
    have hix : i < xs.length := by simpa using hi
    obtain rfl : x = .ref xs[i].1 := by
      rw [List.getElem?_map, List.getElem?_eq_getElem hix] at hx
      exact (Option.some.inj hx).symm
    have hxm := List.getElem_mem hix
    obtain ⟨x1, x2, k, ka, kb⟩ := xin _ hxm
    have g25 := g3.trans (g4.trans (g5.trans g))
    have gg1 := g12.trans g25
    refine ⟨xs[i].1, _, _, rfl, g25.seqT (hat _ hxm).1, iteT ⟨_, rfl, _, rfl, _, rfl, _, rfl, nr, xs[i].2.2.1, xs[i].2.1, xs[i].2.2.2, lt, us, ts, t2, lm2, .ref w2, s2, st1, st2, ms1, ms2, rfl, (h1.m.2 _ x1).same gg1, x1, (hat _ hxm).2.mono fun _ _ => g25.seqT, x2, pq, gg1.seq hlt, hus.mono fun _ _ => gg1.seqT, gg1.seqT h2.tu, h2.m.same gg1, fitA k _ _ ka kb, hasR k _ _ ka kb, fun H6 g6 => ?_⟩⟩
    have hya6 := g6 _ _ hya
    refine comp_next hi hya6 (by rw [List.length_map, List.length_map, List.length_take]; omega) ⟨upd_same, fun b u e => ?_, ?_⟩
    · rw [upd_ne (ne_of_none e hacc3)]; exact g6 _ _ (g _ _ e)
    · rw [List.take_add_one, List.getElem?_eq_getElem hix, List.map_append, List.map_append]; rfl
  rintro ys H6 ⟨hya6, g6, rfl⟩
  rw [e4] at hya6
  refine ⟨acc3, _, rfl, SqL.of hya6, ?_⟩
  refine q _ H6 (g15.trans g6) ?_
  have e5 : (xs.map fun x => (num x.2.2.1.2.2.2.2).all (agreeB ts ms2 x.2.2.2)) = (tolds ms1 ts).map fun p => (num p.1.2.2.2.2).all (agreeB ts ms2 p.2) := by rw [← hxs', List.map_map]; rfl
  rw [e5, all_tolds]
  have numI : ∀ (l : List Tm) (g : Nat × Tm → Bool), (num l).all g = true ↔ ∀ (j : Nat) (r : Tm), l[j]? = some r → g (j, r) = true := fun l g => by
    rw [List.all_eq_true]
    constructor
    · intro h j r hj
      refine h (j, r) (List.mem_iff_getElem?.mpr ⟨j, ?_⟩)
      unfold num
      exact List.getElem?_zip_eq_some.mpr ⟨List.getElem?_range (List.getElem?_eq_some_iff.mp hj).1, hj⟩
    · rintro h ⟨j, r⟩ hm
      obtain ⟨k, hk⟩ := List.mem_iff_getElem?.mp hm
      unfold num at hk
      rw [List.getElem?_zip_eq_some] at hk
      have hkl : k < l.length := (List.getElem?_eq_some_iff.mp hk.2).1
      rw [List.getElem?_range hkl] at hk
      obtain rfl := Option.some.inj hk.1
      exact h _ r hk.2
  constructor
  · intro h
    exact ⟨fitA, hHs, hasR, hE, fun k md t a b j r hj => (numI _ _).mp (h k md t a b) j r hj⟩
  · intro z k md t a b
    exact (numI _ _).mpr fun j r hj => z.er k md t a b j r hj
end
end K51
namespace K51
open PySem L2 TM TT K9 K11 ST
def pnL (c k : Int) : List Nat := (List.range (1 + c % 8).toNat).map fun (j : Nat) => chr26 (c / ((j : Int) + 64) + (j : Int) * (j : Int) + if (j : Int) = c / 8 % (1 + c % 8) then k else 0)
theorem pnL_ok (c k : Int) : ∀ x ∈ pnL c k, x < 128 := by
  intro x hx
  obtain ⟨j, _, rfl⟩ := List.mem_map.mp hx
  exact chr26_lt _
theorem pnL_inj {c k k' : Int} (h0 : 0 ≤ k) (h1 : k < 26) (h0' : 0 ≤ k') (h1' : k' < 26) (e : pnL c k = pnL c k') : k = k' := by
  unfold pnL at e
  have b0 : 0 ≤ c % 8 := Int.emod_nonneg _ (by decide)
  have t0 : 0 ≤ c / 8 % (1 + c % 8) := Int.emod_nonneg _ (by omega)
  have t1 : c / 8 % (1 + c % 8) < 1 + c % 8 := Int.emod_lt_of_pos _ (by omega)
  have ht : (c / 8 % (1 + c % 8)).toNat < (1 + c % 8).toNat := by omega
  have g := congrArg (fun l : List Nat => l[(c / 8 % (1 + c % 8)).toNat]?) e
  simp only [List.getElem?_map, List.getElem?_range ht, Option.map_some, Option.some.injEq] at g
  have ec : (((c / 8 % (1 + c % 8)).toNat : Nat) : Int) = c / 8 % (1 + c % 8) := by omega
  rw [ec, if_pos rfl, if_pos rfl] at g
  have := chr26_inj g
  generalize c / (c / 8 % (1 + c % 8) + 64) + c / 8 % (1 + c % 8) * (c / 8 % (1 + c % 8)) = z at this
  omega
abbrev pn (c k : Int) : Str := S (pnL c k)
theorem pn_ok (c k : Int) : PyData.strOk (pn c k) = true := Nm.of (pnL_ok c k)
theorem pn_inj {c k k' : Int} (h0 : 0 ≤ k) (h1 : k < 26) (h0' : 0 ≤ k') (h1' : k' < 26) (e : pn c k = pn c k') : k = k' := pnL_inj h0 h1 h0' h1' (S_inj e)
abbrev pns (c : Int) (n : Nat) : List Str := (List.range n).map fun (i : Nat) => pn c (i : Int)
def spCell (K : PySem.W.Frag) : Sp := fun vs H Q _ => ∃ (a : Addr) (ns : List Int) (k : Nat), vs = [.ref a, .int k] ∧ SqL K H a (ns.map V.int) ∧ Q (.int ((ns[k]?).getD 0)) H
def spStream : Sp := fun vs H Q _ => ∃ (c : Int) (n : Nat), vs = [.int c, .int (n : Int)] ∧ n ≤ 100 ∧ ∀ (l : Addr) (xs : List Int) (H' : Hp), Same H H' → H l = none → H' l = some (.lst (xs.map V.int)) → xs.length = n → (∀ x ∈ xs, 0 ≤ x) → Q (.ref l) H'
def spNames : Sp := fun vs H Q _ => ∃ (c : Int) (n : Nat), vs = [.int c, .int (n : Int)] ∧ n ≤ 100 ∧ ∀ (l : Addr) (H' : Hp), Same H H' → H l = none → H' l = some (.lst ((pns c n).map V.str)) → Q (.ref l) H'
section
variable {P : Program} {w : World} {K : PySem.W.Frag} {mg : Str → Option Value} {base : Heap} {f : Addr} {fd : FuncData}
theorem scCell : FnScope ["_law_script", "_law_k"] ["_law_script", "_law_k"] (defScope sCell) := ⟨rfl, rfl, rfl, by decide +kernel, rfl, by decide +kernel, by decide +kernel⟩
theorem ok_cell (F : Fun K "_law_cell_at" "_law_cell_at" sCell f fd) (G : Gm mg) : FnOk P w K mg base CX0 1 f fd ["_law_script", "_law_k"] (spCell K) := by
  refine F.ok scCell (fun vs H Q E h => ?_) (fun cdv A outer s H vs Q E hr h => ?_)
  · obtain ⟨a, ns, k, rfl, _⟩ := h
    rfl
  obtain ⟨a, ns, k, rfl, hS, q⟩ := h
  refine ⟨_, pss_cons (ps_if (pt_cmpR op_lt (pv 1) (pe_callB call_len_seq rfl G.len PySem.boot_len (pa_cons (pv 0) pa_nil)) (nomark _)) (pss_one (ps_ret (pe_ix ix_list (pv 0) (pv 1) (fun _ _ => rfl)))) pss_nil)
    (pss_one (ps_ret pe_int)), ?_⟩
  refine ⟨_, rfl, _, rfl, a, _, rfl, .inl hS, _, _, rfl, rfl, _, rfl, ite2 (fun c => ?_) (fun c => ?_)⟩
  · have c' : (k : Int) < (((ns.map V.int).length : Nat) : Int) := of_decide_eq_true c
    rw [List.length_map] at c'
    have hk : k < ns.length := by omega
    rw [List.getElem?_eq_getElem hk] at q
    exact ⟨_, rfl, _, rfl, a, _, k, .int ns[k], rfl, rfl, hS, atI_nat (by rw [List.getElem?_map, List.getElem?_eq_getElem hk]; rfl), q⟩
  · have c' : ¬ (k : Int) < (((ns.map V.int).length : Nat) : Int) := fun z => c (decide_eq_true z)
    rw [List.length_map] at c'
    rw [List.getElem?_eq_none (by omega)] at q
    exact q
theorem scStream : FnScope ["_law_cell", "_law_count", "_law_found", "_law_x", "_law_k"] ["_law_cell", "_law_count"] (defScope sStream) := ⟨rfl, rfl, rfl, by decide +kernel, rfl, by decide +kernel, by decide +kernel⟩
theorem ok_stream (F : Fun K "_law_stream" "_law_stream" sStream f fd) (G : Gm mg) : FnOk P w K mg base CX0 1 f fd ["_law_cell", "_law_count"] spStream := by
  refine F.ok scStream (fun vs H Q E h => ?_) (fun cdv A outer s H vs Q E hr h => ?_)
  · obtain ⟨c, n, rfl, _⟩ := h
    rfl
  obtain ⟨c, n, rfl, hn, q⟩ := h
  refine ⟨_, (pss_cons (ps_set (i := 2) scStream.nd rfl (Or.inl rfl) (pe_lst pa_nil))
    (pss_cons (ps_set (i := 3) scStream.nd rfl (Or.inl rfl) (pe_op op_add (pe_op op_mod (pv 0) pe_int) pe_int))
    (pss_cons (ps_for PassesOwn.never rfl (pi_range1 rfl G.rng (pa_cons (pv 1) pa_nil)) (pg_name (i := 4) scStream.nd rfl (Or.inl rfl)) (pss_cons (ps_set (i := 3) scStream.nd rfl (Or.inl rfl) (pe_op op_mod (pe_op op_add (pe_op op_add (pe_op op_add (pe_op op_mul (pv 3) (pv 3)) (pe_op op_mul pe_int (pv 3))) (pe_op op_mul pe_int (pv 4))) pe_int) pe_int))
    (pss_one (ps_expr (pe_bm PySem.F.plainAttrs_list PySem.F.slot_list_append PySem.F.type_list_append mt_append (pv 2) (pa_cons (pe_op op_fdiv (pv 3) pe_int) pa_nil))))))
    (pss_one (ps_ret (pv 2)))))), ?_⟩
  refine ⟨(by show 0 ≤ sizeLine; decide), fun l hl => ?_⟩
  have g0 := same_new hl (.lst [])
  refine ⟨_, rfl, _, _, rfl, rfl, (by show (0 : Int) < 2147483629; decide), _, _, rfl, rfl, ?_⟩
  have m0 : 0 ≤ c % 2147483629 := Int.emod_nonneg _ (by decide)
  have m1 : c % 2147483629 < 2147483629 := Int.emod_lt_of_pos _ (by decide)
  refine ⟨_, rfl, _, rfl, (by show -(2 ^ 62 : Int) ≤ (n : Int); omega), (by show (n : Int) < 2 ^ 62; omega), ?_⟩
  refine for_range (lo := 0) (n := (n : Int).toNat) (fun i σ H' => ∃ (x : Int) (xs : List Int) (c4 : Option V), σ = [some (.int c), some (.int (n : Int)), some (.ref l), some (.int x), c4] ∧ 0 ≤ x ∧ x < 3000000000 ∧ Same H H' ∧ H' l = some (.lst (xs.map V.int)) ∧ xs.length = i ∧ ∀ y ∈ xs, 0 ≤ y)
    ⟨_, [], none, rfl, (by show (0 : Int) ≤ c % 2147483629 + 7; omega), (by show c % 2147483629 + 7 < 3000000000; omega), g0, upd_same, rfl, fun y hy => (nomatch hy)⟩ ?_ ?_
  · rintro i σ H' hi ⟨x, xs, c4, rfl, x0, x1, g, hl', hxl, hx0⟩
    rw [Int.toNat_natCast] at hi
    refine ⟨_, rfl, _, rfl, _, _, rfl, rfl, .inl ⟨(by show -(2 ^ 64 : Int) < x; omega), (by show x < 2 ^ 64; omega)⟩, _, rfl, _, _, rfl, rfl, .inl ⟨by decide, by decide⟩, _, _, rfl, rfl, _, rfl, _, _, rfl, rfl, .inl ⟨by decide, by decide⟩, _, _, rfl, rfl, _, _, rfl, rfl, _, _, rfl, rfl, (by show (0 : Int) < 2147483629; decide), ?_⟩
    refine ⟨_, rfl, .inl ⟨rfl, _, SqL.of hl'⟩, _, rfl, _, _, rfl, rfl, ⟨by decide, by decide⟩, l, _, _, rfl, rfl, hl', by rw [List.length_map, size_line]; omega, ?_⟩
    generalize hy : (x * x + 69069 * x + 5 * (0 + (i : Int)) + 1) % 2147483629 = y
    have y0 : 0 ≤ y := by rw [← hy]; exact Int.emod_nonneg _ (by decide)
    have y1 : y < 2147483629 := by rw [← hy]; exact Int.emod_lt_of_pos _ (by decide)
    refine ⟨y, xs ++ [y / 16], some (.int (0 + (i : Int))), ?_, y0, by omega, fun b u e => ?_, ?_, by simp [hxl], fun z hz => ?_⟩
    · rw [← hy]; rfl
    · rw [upd_ne (ne_of_none e hl)]; exact g _ _ e
    · have hy' : (fun i j : Int => V.int (i / j)) y 16 = V.int (y / 16) := rfl
      rw [upd_same, List.map_append, ← hy]; rfl
    · rcases List.mem_append.mp hz with h | h
      · exact hx0 z h
      · obtain rfl : z = y / 16 := by simpa using h
        omega
  · rintro σ H' ⟨x, xs, c4, rfl, _, _, g, hl', hxl, hx0⟩
    exact ⟨_, rfl, q l xs H' g hl hl' (by rw [hxl, Int.toNat_natCast]) hx0⟩
theorem scNames : FnScope ["_law_cell", "_law_count", "_law_letters", "_law_long", "_law_spot", "_law_found", "_law_k", "_law_name", "_law_j", "_law_step"] ["_law_cell", "_law_count"] (defScope sNames) := ⟨rfl, rfl, rfl, by decide +kernel, rfl, by decide +kernel, by decide +kernel⟩
theorem ok_names (F : Fun K "_law_names" "_law_names" sNames f fd) (G : Gm mg) : FnOk P w K mg base CX0 1 f fd ["_law_cell", "_law_count"] spNames := by
  refine F.ok scNames (fun vs H Q E h => ?_) (fun cdv A outer s H vs Q E hr h => ?_)
  · obtain ⟨c, n, rfl, _⟩ := h
    rfl
  obtain ⟨c, n, rfl, hn, q⟩ := h
  refine ⟨_, (pss_cons (ps_set (i := 2) scNames.nd rfl (Or.inl rfl) pe_str)
    (pss_cons (ps_set (i := 3) scNames.nd rfl (Or.inl rfl) (pe_op op_add pe_int (pe_op op_mod (pv 0) pe_int)))
    (pss_cons (ps_set (i := 4) scNames.nd rfl (Or.inl rfl) (pe_op op_mod (pe_op op_fdiv (pv 0) pe_int) (pv 3)))
    (pss_cons (ps_set (i := 5) scNames.nd rfl (Or.inl rfl) (pe_lst pa_nil))
    (pss_cons (ps_for PassesOwn.never rfl (pi_range1 rfl G.rng (pa_cons (pv 1) pa_nil)) (pg_name (i := 6) scNames.nd rfl (Or.inl rfl)) (pss_cons (ps_set (i := 7) scNames.nd rfl (Or.inl rfl) pe_str)
    (pss_cons (ps_for PassesOwn.never rfl (pi_range1 rfl G.rng (pa_cons (pv 3) pa_nil)) (pg_name (i := 8) scNames.nd rfl (Or.inl rfl)) (pss_cons (ps_set (i := 9) scNames.nd rfl (Or.inl rfl) (pe_op op_add (pe_op op_fdiv (pv 0) (pe_op op_add (pv 8) pe_int)) (pe_op op_mul (pv 8) (pv 8))))
    (pss_cons (ps_cut (ps_if (pt_cmpR op_eq (pv 8) (pv 4) (nomark _)) (pss_one (ps_set (i := 9) scNames.nd rfl (Or.inl rfl) (pe_op op_add (pv 9) (pv 6)))) pss_nil))
    (pss_one (ps_set (i := 7) scNames.nd rfl (Or.inl rfl) (pe_op op_add_str (pv 7) (pe_ix ix_str (pv 2) (pe_op op_mod (pv 9) pe_int) (fun _ _ => rfl))))))))
    (pss_one (ps_expr (pe_bm PySem.F.plainAttrs_list PySem.F.slot_list_append PySem.F.type_list_append mt_append (pv 5) (pa_cons (pv 7) pa_nil)))))))
    (pss_one (ps_ret (pv 5)))))))), ?_⟩
  have hll : LETS.length ≤ sizeLine := by rw [let_eq, S_len]; exact line_of (by decide)
  have h0 : 0 ≤ c % 8 := Int.emod_nonneg c (by decide)
  have h8 : c % 8 < 8 := Int.emod_lt_of_pos c (by decide)
  refine ⟨_, rfl, _, _, rfl, rfl, (by show (0 : Int) < 8; decide), _, _, rfl, rfl, ?_⟩
  refine ⟨_, rfl, _, _, rfl, rfl, ⟨by decide, by decide⟩, _, rfl, _, _, rfl, rfl, (by show (0 : Int) < 1 + c % 8; omega), ?_⟩
  refine ⟨(by show 0 ≤ sizeLine; decide), fun l hl => ?_⟩
  have g0 := same_new hl (.lst [])
  refine ⟨_, rfl, _, rfl, (by show -(2 ^ 62 : Int) ≤ (n : Int); omega), (by show (n : Int) < 2 ^ 62; omega), ?_⟩
  refine for_range (lo := 0) (n := (n : Int).toNat) (fun i σ H' => ∃ (c6 c7 c8 c9 : Option V), σ = [some (.int c), some (.int (n : Int)), some (.str LETS), some (.int (1 + c % 8)), some (.int (c / 8 % (1 + c % 8))), some (.ref l), c6, c7, c8, c9] ∧ Same H H' ∧ H' l = some (.lst ((pns c i).map V.str)))
    ⟨none, none, none, none, rfl, g0, upd_same⟩ ?_ ?_
  · rintro k σ H' hk ⟨c6, c7, c8, c9, rfl, g, hl'⟩
    rw [Int.toNat_natCast] at hk
    refine ⟨_, rfl, _, rfl, (by show -(2 ^ 62 : Int) ≤ 1 + c % 8; omega), (by show (1 + c % 8 : Int) < 2 ^ 62; omega), ?_⟩
    refine for_range (lo := 0) (n := (1 + c % 8).toNat) (fun i σ H2 => ∃ (k1 k2 : Option V), σ = [some (.int c), some (.int (n : Int)), some (.str LETS), some (.int (1 + c % 8)), some (.int (c / 8 % (1 + c % 8))), some (.ref l), some (.int (0 + (k : Int))), some (.str (S ((List.range i).map fun (j : Nat) => chr26 (c / ((j : Int) + 64) + (j : Int) * (j : Int) + if (j : Int) = c / 8 % (1 + c % 8) then (k : Int) else 0)))), k1, k2] ∧ H2 = H')
      ⟨_, _, by simp only [List.range_zero, List.map_nil]; rw [← none_eq]; rfl, rfl⟩ ?_ ?_
    · rintro i σ H2 hi ⟨k1, k2, rfl, rfl⟩
      have e0 : (0 : Int) + (i : Int) = (i : Int) := by omega
      have hi8 : i < 8 := by omega
      refine ⟨_, rfl, _, rfl, _, _, rfl, rfl, _, _, rfl, rfl, ⟨(by show (0 : Int) < 0 + (i : Int) + 64; omega), (by show (0 + (i : Int) + 64 : Int) < 1073741824; omega)⟩, _, rfl, _, rfl, _, _, rfl, rfl, .inl ⟨(by show -(2 ^ 64 : Int) < 0 + (i : Int); omega), (by show (0 + (i : Int) : Int) < 2 ^ 64; omega)⟩, _, _, rfl, rfl, ?_⟩
      refine ⟨fun σ' H3 => ∃ st : Int, st = c / ((i : Int) + 64) + (i : Int) * (i : Int) + (if (i : Int) = c / 8 % (1 + c % 8) then (k : Int) else 0) ∧ σ' = [some (.int c), some (.int (n : Int)), some (.str LETS), some (.int (1 + c % 8)), some (.int (c / 8 % (1 + c % 8))), some (.ref l), some (.int (0 + (k : Int))), some (.str (S ((List.range i).map fun (j : Nat) => chr26 (c / ((j : Int) + 64) + (j : Int) * (j : Int) + if (j : Int) = c / 8 % (1 + c % 8) then (k : Int) else 0)))), some (.int (0 + (i : Int))), some (.int st)] ∧ H3 = H2, ?_, ?_⟩
      · refine ⟨_, rfl, _, rfl, rfl, _, rfl, ite2 (fun hd => ?_) (fun hd => ?_)⟩
        · have hd' : (0 : Int) + (i : Int) = c / 8 % (1 + c % 8) := V.int.inj (of_decide_eq_true hd)
          refine ⟨_, rfl, _, rfl, _, _, rfl, rfl, _, ?_, rfl, rfl⟩
          show c / (0 + (i : Int) + 64) + (0 + (i : Int)) * (0 + (i : Int)) + (0 + (k : Int)) = _
          rw [if_pos (by omega), e0, Int.zero_add]
        · have hd' : ¬ (0 : Int) + (i : Int) = c / 8 % (1 + c % 8) := fun z => of_decide_eq_false (Bool.eq_false_iff.mpr hd) (congrArg V.int z)
          refine ⟨_, ?_, rfl, rfl⟩
          show c / (0 + (i : Int) + 64) + (0 + (i : Int)) * (0 + (i : Int)) = _
          rw [if_neg (by omega), Int.add_zero, e0]
      rintro σ' H3 ⟨st, est, rfl, rfl⟩
      refine ⟨_, rfl, _, rfl, _, rfl, _, _, rfl, rfl, (by show (0 : Int) < 26; decide), _, _, chr26 st, rfl, rfl, hll, let_chr _, _, _, rfl, rfl, ?_, ?_⟩
      · rw [one_S, S_len, S_len, List.length_map, List.length_range]; exact line_of (by simp only [List.length_singleton]; omega)
      · refine ⟨some (.int (0 + (i : Int))), some (.int st), ?_, rfl⟩
        rw [one_S, S_app, List.range_succ, List.map_append, est]; rfl
    · rintro σ H2 ⟨k1, k2, rfl, rfl⟩
      refine ⟨_, rfl, .inl ⟨rfl, _, SqL.of hl'⟩, _, rfl, l, _, _, rfl, rfl, hl', by rw [List.length_map, List.length_map, List.length_range, size_line]; omega, ?_⟩
      refine ⟨_, _, _, _, rfl, fun b u e => ?_, ?_⟩
      · rw [upd_ne (ne_of_none e hl)]; exact g _ _ e
      · show _ = some (HO.lst (((List.range (k + 1)).map fun (i : Nat) => pn c (i : Int)).map V.str))
        rw [upd_same, List.range_succ, List.map_append, List.map_append]; rfl
  · rintro σ H' ⟨c6, c7, c8, c9, rfl, g, hl'⟩
    rw [Int.toNat_natCast] at hl'
    exact ⟨_, rfl, q l H' g hl hl'⟩
end
end K51
namespace K51
open PySem L2 TM TT K9 K11 ST
def spRows (K : PySem.W.Frag) : Sp := fun vs H Q _ => ∃ (wd : Addr) (ks : List KdT) (kd : KdT), vs = [.ref wd, .str kd.2.1] ∧ WoodAt K H wd ks ∧ (ks.map fun k => k.2.1).Nodup ∧ kd ∈ ks ∧ Q (.ref kd.2.2.1) H
def CallsL (kn bs : List Str) (ts : List Tm) : Prop := ∀ t ∈ ts, ∃ k j : Nat, t = leaf (k : Int) (j : Int) ∧ ∃ z, kn[k]? = some z ∧ bs[j]? = some z
def spCalls (K : PySem.W.Frag) : Sp := fun vs H Q _ => ∃ (bv lk : Addr) (bs kn : List Str), vs = [.ref bv, .ref lk] ∧ SqT K H bv (bs.map V.str) ∧ SqL K H lk (kn.map V.str) ∧ bs.length ≤ 4 ∧ kn.length ≤ 4 ∧
  ∀ (l : Addr) (ws : List V) (ts : List Tm) (H' : Hp), Same H H' → H l = none → H' l = some (.lst ws) → TmAll K H' ws ts → CallsL kn bs ts → ts.length ≤ 16 → Q (.ref l) H'
theorem kind_only {ks : List KdT} (h : (ks.map fun k => k.2.1).Nodup) {a b : KdT} (ha : a ∈ ks) (hb : b ∈ ks) (e : a.2.1 = b.2.1) : a = b := by
  induction ks with
  | nil => cases ha
  | cons u r ih =>
    rw [List.map_cons, List.nodup_cons] at h
    rcases List.mem_cons.mp ha with e1 | h1
    · rcases List.mem_cons.mp hb with e2 | h2
      · rw [e1, e2]
      · exact absurd (List.mem_map.mpr ⟨b, h2, by rw [← e, e1]⟩) h.1
    · rcases List.mem_cons.mp hb with e2 | h2
      · exact absurd (List.mem_map.mpr ⟨a, h1, by rw [e, e2]⟩) h.1
      · exact ih h.2 h1 h2
section
variable {P : Program} {w : World} {K : PySem.W.Frag} {mg : Str → Option Value} {base : Heap} {f : Addr} {fd : FuncData}
theorem scRows : FnScope ["_law_wood_here", "_law_kind", "_law_told", "_law_rows_here"] ["_law_wood_here", "_law_kind"] (defScope sRows) := ⟨rfl, rfl, rfl, by decide +kernel, rfl, by decide +kernel, by decide +kernel⟩
theorem ok_rows (F : Fun K "_law_rows" "_law_rows" sRows f fd) : FnOk P w K mg base CX0 1 f fd ["_law_wood_here", "_law_kind"] (spRows K) := by
  refine F.ok scRows (fun vs H Q E h => ?_) (fun cdv A outer s H vs Q E hr h => ?_)
  · obtain ⟨wd, ks, kd, rfl, _⟩ := h
    rfl
  obtain ⟨wd, ks, kd, rfl, hw, hn, hk, q⟩ := h
  refine ⟨_, (pss_cons (ps_for PassesOwn.never rfl (pi_list (pv 0)) (pg_tup rfl (pgs_cons (pg_name (i := 2) scRows.nd rfl (Or.inl rfl)) (pgs_cons (pg_name (i := 3) scRows.nd rfl (Or.inl rfl)) pgs_nil))) (pss_one (ps_if (pt_cmpR op_eq (pv 2) (pv 1) (nomark _)) (pss_one (ps_ret (pv 3))) pss_nil)))
    (pss_one (ps_ret (pe_lst pa_nil)))), ?_⟩
  refine ⟨_, rfl, wd, rfl, ⟨_, hw.1⟩, ?_⟩
  refine for_list (K := K) (xs := ks.map fun k => V.ref k.1) (fun i σ H' => ∃ c2 c3 : Option V, σ = [some (.ref wd), some (.str kd.2.1), c2, c3] ∧ H' = H ∧ ∀ (j : Nat) (k : KdT), j < i → ks[j]? = some k → k.2.1 ≠ kd.2.1) ⟨none, none, rfl, rfl, fun j k h => absurd h (Nat.not_lt_zero _)⟩ ?_ ?_ ?_
  · rintro i σ H' _ ⟨_, _, _, rfl, _⟩
    exact hw.1
  · rintro i x σ H' hx ⟨c2, c3, rfl, rfl, hno⟩
    have hik : i < ks.length := by have := (List.getElem?_eq_some_iff.mp hx).1; simpa using this
    obtain rfl : x = .ref ks[i].1 := by
      rw [List.getElem?_map, List.getElem?_eq_getElem hik] at hx
      exact (Option.some.inj hx).symm
    have hm := List.getElem_mem hik
    refine ⟨ks[i].1, _, rfl, (hw.2 _ hm).1, rfl, _, _, rfl, _, _, rfl, rfl, _, rfl, _, rfl, rfl, _, rfl, ?_⟩
    by_cases hc : ks[i].2.1 = kd.2.1
    · have e : decide (V.str ks[i].2.1 = V.str kd.2.1) = true := decide_eq_true (by rw [hc])
      rw [e]
      have ek := kind_only hn hm hk hc
      refine iteT ⟨_, rfl, ?_⟩
      rw [ek]; exact q
    · have e : decide (V.str ks[i].2.1 = V.str kd.2.1) = false := decide_eq_false fun z => hc (V.str.inj z)
      rw [e]
      refine iteF ⟨_, _, rfl, rfl, fun j k hj hjk => ?_⟩
      by_cases hji : j < i
      · exact hno j k hji hjk
      · obtain rfl : j = i := by omega
        rw [List.getElem?_eq_getElem hik] at hjk
        rw [← Option.some.inj hjk]; exact hc
  · rintro σ H' ⟨c2, c3, rfl, rfl, hno⟩
    obtain ⟨j, hj, e⟩ := List.getElem_of_mem hk
    exact absurd rfl (hno j kd (by rw [List.length_map]; exact hj) ((List.getElem?_eq_getElem hj).trans (congrArg some e)))
theorem scCalls : FnScope ["_law_branches", "_law_kinds", "_law_found", "_law_j", "_law_k"] ["_law_branches", "_law_kinds"] (defScope sCalls) := ⟨rfl, rfl, rfl, by decide +kernel, rfl, by decide +kernel, by decide +kernel⟩
theorem ok_calls (F : Fun K "_law_calls" "_law_calls" sCalls f fd) (G : Gm mg) : FnOk P w K mg base CX0 1 f fd ["_law_branches", "_law_kinds"] (spCalls K) := by
  refine F.ok scCalls (fun vs H Q E h => ?_) (fun cdv A outer s H vs Q E hr h => ?_)
  · obtain ⟨bv, lk, bs, kn, rfl, _⟩ := h
    rfl
  obtain ⟨bv, lk, bs, kn, rfl, hb, hk, hb4, hk4, q⟩ := h
  refine ⟨_, (pss_cons (ps_set (i := 2) scCalls.nd rfl (Or.inl rfl) (pe_lst pa_nil))
    (pss_cons (ps_for PassesOwn.never rfl (pi_range1 rfl G.rng (pa_cons (pe_callB call_len_seq rfl G.len PySem.boot_len (pa_cons (pv 0) pa_nil)) pa_nil)) (pg_name (i := 3) scCalls.nd rfl (Or.inl rfl)) (pss_one
      (ps_for PassesOwn.never rfl (pi_range1 rfl G.rng (pa_cons (pe_callB call_len_seq rfl G.len PySem.boot_len (pa_cons (pv 1) pa_nil)) pa_nil)) (pg_name (i := 4) scCalls.nd rfl (Or.inl rfl)) (pss_one
        (ps_if (pt_cmpR op_eq (pe_ix ix_list (pv 1) (pv 4) (fun _ _ => rfl)) (pe_ix ix_tup (pv 0) (pv 3) (fun _ _ => rfl)) (nomark _)) (pss_one (ps_expr (pe_bm PySem.F.plainAttrs_list PySem.F.slot_list_append PySem.F.type_list_append mt_append (pv 2) (pa_cons ((pe_tup (pa_cons (pe_str) (pa_cons (pv 4) (pa_cons (pv 3) pa_nil))))) pa_nil)))) pss_nil)))))
    (pss_one (ps_ret (pv 2))))), ?_⟩
  refine ⟨(by show 0 ≤ sizeLine; decide), fun l hl => ?_⟩
  have g0 := same_new hl (.lst [])
  have elb : (bs.map V.str).length = bs.length := List.length_map ..
  have elk : (kn.map V.str).length = kn.length := List.length_map ..
  refine ⟨_, rfl, bv, _, rfl, .inr (g0.seqT hb), ?_⟩
  rw [elb]
  refine ⟨_, rfl, (by show -(2 ^ 62 : Int) ≤ (bs.length : Int); omega), (by show (bs.length : Int) < 2 ^ 62; omega), ?_⟩
  refine for_range (lo := 0) (n := (bs.length : Int).toNat) (fun j σ H' => ∃ (ws : List V) (ts : List Tm) (c3 c4 : Option V), σ = [some (.ref bv), some (.ref lk), some (.ref l), c3, c4] ∧ Same H H' ∧ H' l = some (.lst ws) ∧ TmAll K H' ws ts ∧ CallsL kn bs ts ∧ ts.length ≤ 4 * j)
    ⟨[], [], none, none, rfl, g0, upd_same, .nil, fun t ht => (nomatch ht), Nat.le_refl _⟩ ?_ ?_
  · rintro j σ H' hj ⟨ws, ts, c3, c4, rfl, g, hl', hts, hcl, htl⟩
    rw [Int.toNat_natCast] at hj
    refine ⟨_, rfl, lk, _, rfl, .inl (g.seq hk), ?_⟩
    rw [elk]
    refine ⟨_, rfl, (by show -(2 ^ 62 : Int) ≤ (kn.length : Int); omega), (by show (kn.length : Int) < 2 ^ 62; omega), ?_⟩
    refine for_range (lo := 0) (n := (kn.length : Int).toNat) (fun k σ H' => ∃ (ws : List V) (ts : List Tm) (c4 : Option V), σ = [some (.ref bv), some (.ref lk), some (.ref l), some (.int (0 + (j : Int))), c4] ∧ Same H H' ∧ H' l = some (.lst ws) ∧ TmAll K H' ws ts ∧ CallsL kn bs ts ∧ ts.length ≤ 4 * j + k)
      ⟨ws, ts, c4, rfl, g, hl', hts, hcl, by omega⟩ ?_ ?_
    · clear hl' hts hcl htl g ws ts c3 c4
      rintro k σ H1 hk' ⟨ws, ts, c4, rfl, g, hl', hts, hcl, htl⟩
      rw [Int.toNat_natCast] at hk'
      have hlen := hts.length
      have a1 : atI (kn.map V.str) (0 + (k : Int)) = some (.str kn[k]) := by rw [Int.zero_add]; exact atI_nat (by rw [List.getElem?_map, List.getElem?_eq_getElem hk']; rfl)
      have a2 : atI (bs.map V.str) (0 + (j : Int)) = some (.str bs[j]) := by rw [Int.zero_add]; exact atI_nat (by rw [List.getElem?_map, List.getElem?_eq_getElem hj]; rfl)
      refine ⟨_, rfl, _, rfl, lk, _, _, _, rfl, rfl, g.seq hk, a1, _, rfl, _, rfl, bv, _, _, _, rfl, rfl, g.seqT hb, a2, rfl, _, rfl, ite2 (fun hc => ?_) (fun _ => ?_)⟩
      · refine ⟨_, rfl, .inl ⟨rfl, _, SqL.of hl'⟩, _, rfl, _, rfl, (by show 3 ≤ sizeLine; decide), fun p hp => ?_⟩
        have gp := same_new hp (.tup [.str CALL, .int (0 + (k : Int)), .int (0 + (j : Int))])
        have hl2 := gp _ _ hl'
        refine ⟨l, ws, _, rfl, rfl, hl2, by rw [size_line]; omega, ?_⟩
        refine ⟨ws ++ [.ref p], ts ++ [leaf (0 + (k : Int)) (0 + (j : Int))], _, rfl, fun b u e => ?_, upd_same, ?_, fun t ht => ?_, by rw [List.length_append, List.length_singleton]; omega⟩
        · rw [upd_ne (ne_of_none e hl)]; exact gp _ _ (g _ _ e)
        · exact TmAll.append (hts.mono fun _ _ h => (gp.seqT h).put hl2) (.cons (.call (SqT.put (SqT.of upd_same) hl2)) .nil)
        · rcases List.mem_append.mp ht with z | z
          · exact hcl t z
          · obtain rfl : t = leaf (0 + (k : Int)) (0 + (j : Int)) := by simpa using z
            have hc' : kn[k] = bs[j] := V.str.inj (of_decide_eq_true hc)
            exact ⟨k, j, by rw [Int.zero_add, Int.zero_add], kn[k], List.getElem?_eq_getElem hk', by rw [hc']; exact List.getElem?_eq_getElem hj⟩
      · exact ⟨ws, ts, _, rfl, g, hl', hts, hcl, by omega⟩
    · rintro σ H1 ⟨ws, ts, c4, rfl, g, hl', hts, hcl, htl⟩
      rw [Int.toNat_natCast] at htl
      exact ⟨ws, ts, _, _, rfl, g, hl', hts, hcl, by omega⟩
  · rintro σ H' ⟨ws, ts, c3, c4, rfl, g, hl', hts, hcl, htl⟩
    rw [Int.toNat_natCast] at htl
    exact ⟨_, rfl, q l ws ts H' g hl hl' hts hcl (by omega)⟩
end
end K51
namespace K51
open PySem L2 TM TT K9 K11 ST
def rf (ns : List Int) (m : Int) : Int := (ns[m.toNat]?).getD 0
def spRen (K : PySem.W.Frag) (n : Nat) : Sp := fun vs H Q _ => ∃ (v : V) (t : Tm) (ln : Addr) (ns : List Int), vs = [v, .ref ln] ∧ TmV K H v t ∧ lv t ≤ n ∧ SqL K H ln (ns.map V.int) ∧ (∀ c ∈ cls t, 0 ≤ c.1 ∧ c.1 < (ns.length : Int)) ∧ ∀ (v' : V) (H' : Hp), Same H H' → TmV K H' v' (TT.sub (fun m b => leaf (rf ns m) b) t) → Q v' H'
def spRul (K : PySem.W.Frag) (n : Nat) : Sp := fun vs H Q _ => ∃ (v : V) (t : Tm) (lm : Addr) (ms : List MdT) (j : Nat), vs = [v, .ref lm, .int (j : Int)] ∧ TmV K H v t ∧ lv t ≤ n ∧ ModesL K H lm ms ∧ (∀ c ∈ cls t, 0 ≤ c.1 ∧ ∃ md : MdT, ms[c.1.toNat]? = some md ∧ j < md.2.2.2.2.length) ∧ ∀ (v' : V) (H' : Hp), Same H H' → TmV K H' v' (TT.sub (fun m _ => ruleAt ms j m) t) → Q v' H'
def spLOn (K : PySem.W.Frag) (n : Nat) : Sp := fun vs H Q _ => ∃ (v : V) (t : Tm) (br : Int), vs = [v, .int br] ∧ TmV K H v t ∧ lv t ≤ n ∧ True ∧ ∀ (v' : V) (H' : Hp), Same H H' → TmV K H' v' (TT.sub (fun m _ => leaf m br) t) → Q v' H'
def spTed (K : PySem.W.Frag) (n : Nat) : Sp := fun vs H Q _ => ∃ (v : V) (t : Tm) (lt : Addr) (hs : List V) (T : Int → Tm), vs = [v, .ref lt] ∧ TmV K H v t ∧ lv t ≤ n ∧ SqL K H lt hs ∧ ModesAt K H hs T (cls t) ∧ ∀ (v' : V) (H' : Hp), Same H H' → TmV K H' v' (TT.sub (fun m b => onB b (T m)) t) → Q v' H'
section
variable {P : Program} {w : World} {K : PySem.W.Frag} {mg : Str → Option Value} {base : Heap} {f : Addr} {fd : FuncData}
theorem scren : FnScope ["_law_term_here", "_law_names_here"] ["_law_term_here", "_law_names_here"] (defScope sRen) := ⟨rfl, rfl, rfl, by decide +kernel, rfl, by decide +kernel, by decide +kernel⟩
theorem ok_ren {n : Nat} (F : Fun K "_law_renamed" "_law_renamed" sRen f fd) (G : Gm mg) (R : Fn P w K mg base (n + 1) "_law_renamed" ["_law_term_here", "_law_names_here"] (spRen K n)) : FnOk P w K mg base CX0 (n + 2) f fd ["_law_term_here", "_law_names_here"] (spRen K (n + 1)) := by
  refine F.ok scren (fun vs H Q E h => ?_) (fun cdv A outer s H vs Q E hr h => ?_)
  · obtain ⟨v, t, ln, ns, rfl, _⟩ := h
    rfl
  obtain ⟨v, t, ln, ns, rfl, ht, hlv, hln, hcl, q⟩ := h
  refine ⟨_, (pss_cons (ps_if (pt_cmpR op_eq (pe_ix ix_tup (pv 0) pe_int (fun _ _ => rfl)) pe_str (nomark _)) (pss_one (ps_ret (pe_tup (pa_cons (pe_str) (pa_cons (pe_ix ix_list (pv 1) (pe_ix ix_tup (pv 0) pe_int (fun _ _ => rfl)) (fun _ _ => rfl)) (pa_cons (pe_ix ix_tup (pv 0) pe_int (fun _ _ => rfl)) pa_nil)))))) pss_nil)
    (pss_one (ps_ret (pe_tup (pa_cons (pe_str) (pa_cons (pe_ix ix_tup (pv 0) pe_int (fun _ _ => rfl)) (pa_cons (pe_ix ix_tup (pv 0) pe_int (fun _ _ => rfl)) (pa_cons (pe_ix ix_tup (pv 0) pe_int (fun _ _ => rfl)) (pa_cons (pe_callTy call_tuple_of rfl G.tup PyProof.Rows.boot_tuple (pa_cons (pe_lcompG (CompG.many (xs := ["_law_part"]) (caps := ["_law_names_here"]) (cap := [1]) (cs := [_]) rfl rfl (by decide +kernel) (by decide +kernel) (by decide +kernel) (by decide +kernel) (by decide +kernel) (by decide +kernel) rfl rfl rfl) rfl (pi_tup (pe_ix ix_tup (pv 0) pe_int (fun _ _ => rfl))) (pg_c1 (CompG.many (xs := ["_law_part"]) (caps := ["_law_names_here"]) (cap := [1]) (cs := [_]) rfl rfl (by decide +kernel) (by decide +kernel) (by decide +kernel) (by decide +kernel) (by decide +kernel) (by decide +kernel) rfl rfl rfl)) (fun _ _ _ _ => pf_nil) (fun _ _ _ _ => pe_fn R hr (pa_cons (pv 0) (pa_cons (pv 1) pa_nil)) (Nat.le_refl _))) pa_nil)) pa_nil))))))))), ?_⟩
  have ePC : ¬ V.str PUT = V.str CALL := by decide +kernel
  rcases tm_open ht with ⟨a, m, b, rfl, rfl, h1⟩ | ⟨a, b, bs, nm, kk, ad, rfl, et, h1, h2, h3, h4⟩
  · have hc0 : (m, b) ∈ cls (leaf m b) := by simp [leaf, cls, lcl, clss]
    refine ⟨_, rfl, a, _, 0, _, rfl, rfl, h1, rfl, rfl, _, rfl, iteP rfl ?_⟩
    obtain ⟨m0, m1⟩ := hcl _ hc0
    have hm0 : 0 ≤ m := m0
    have hm1 : m < (ns.length : Int) := m1
    have hl : m.toNat < ns.length := by omega
    have em : m = ((m.toNat : Nat) : Int) := by omega
    have hat : atI (ns.map V.int) m = some (.int (rf ns m)) := by
      have h5 : atI (ns.map V.int) ((m.toNat : Nat) : Int) = some (.int (rf ns m)) := atI_nat (by unfold rf; rw [List.getElem?_map, List.getElem?_eq_getElem hl]; rfl)
      rw [← em] at h5
      exact h5
    refine ⟨_, rfl, _, rfl, a, _, 1, _, rfl, rfl, h1, rfl, ln, _, m, _, rfl, rfl, hln, hat, _, rfl, a, _, 2, _, rfl, rfl, h1, rfl, (by show 3 ≤ sizeLine; decide), fun p hp => ?_⟩
    exact q (.ref p) _ (same_new hp _) (.call (SqT.of upd_same))
  have ecls : cls t = clss t.bs := by
    have := congrArg cls et
    rw [this]; simp [cls, lcl]
  have hlen := h3.length
  rw [lv_bs] at hlv
  refine ⟨_, rfl, a, _, 0, _, rfl, rfl, h1, rfl, rfl, _, rfl, iteN ePC ?_⟩
  refine ⟨_, rfl, a, _, 1, _, rfl, rfl, h1, rfl, _, rfl, a, _, 2, _, rfl, rfl, h1, rfl, _, rfl, a, _, 3, _, rfl, rfl, h1, rfl, _, rfl, a, _, 4, _, rfl, rfl, h1, rfl, b, rfl, ⟨_, h2⟩, fun acc hacc => ?_⟩
  refine c1_tup (K := K) (xs := bs) (cs := [some (.ref ln)]) (tt := fun _ H Q => Q true H) (te := tCall (spRen K n) [] E0 (tCons (tVar 0) (tCons (tVar 1) tNil))) (fun i ys H' => H' acc = some (.lst ys) ∧ Same H H' ∧ ys.length = i ∧ TmAll K H' ys ((t.bs.take i).map (TT.sub (fun m b => leaf (rf ns m) b))))
    ⟨upd_same, same_new hacc _, rfl, .nil⟩ ?_ ?_ ?_
  · rintro i ys H' _ ⟨_, g, _⟩
    exact g.seqT h2
  · rintro i x ys H' hi hx ⟨hya, g, hyl, hys⟩
    obtain ⟨c, hc⟩ : ∃ c, t.bs[i]? = some c := ⟨_, List.getElem?_eq_getElem (by omega)⟩
    obtain ⟨cv, hcv, hct⟩ := h3.get hc
    obtain rfl : cv = x := Option.some.inj (hcv.symm.trans hx)
    have hm := List.mem_of_getElem? hc
    have a1 := lv_le hm
    have hsub : ∀ c' ∈ cls c, c' ∈ cls t := fun c' h => by rw [ecls]; exact cls_le hm c' h
    refine iteT ⟨_, rfl, _, rfl, cv, c, ln, ns, rfl, hct.mono fun _ _ => g.seqT, by omega, g.seq hln, fun c' h => hcl c' (hsub c' h), fun v' H4 g4 hv' => ?_⟩
    refine comp_next (ys := ys) hi (g4 _ _ hya) (by omega) ⟨upd_same, fun x u e => ?_, by simp [hyl], ?_⟩
    · rw [upd_ne (ne_of_none e hacc)]; exact g4 _ _ (g _ _ e)
    · rw [List.take_add_one, hc]
      show TmAll K _ (ys ++ [v']) ((t.bs.take i ++ [c]).map (TT.sub (fun m b => leaf (rf ns m) b)))
      rw [List.map_append]
      refine TmAll.append (hys.mono fun _ _ h => (g4.seqT h).put (g4 _ _ hya)) (.cons (hv'.mono fun _ _ h => h.put (g4 _ _ hya)) .nil)
  rintro ys H1 ⟨hya, g, hyl, hys⟩
  have et2 : t.bs.take bs.length = t.bs := List.take_of_length_le (by omega)
  rw [et2] at hys
  refine ⟨acc, ys, rfl, .inl ⟨SqL.of hya, fun pt hpt => ⟨(by show 5 ≤ sizeLine; decide), fun pp hpp => ?_⟩⟩⟩
  have ga := same_new hpt (.tup ys)
  have gb := same_new hpp (.tup [.str PUT, .str nm, .bl kk, .int ad, .ref pt])
  have gab := ga.trans gb
  refine q (.ref pp) _ (g.trans gab) ?_
  rw [et]
  simp only [TT.sub, hdF, subs_map]
  exact .put (SqT.of upd_same) (gb.seqT (SqT.of upd_same)) (hys.mono fun _ _ => gab.seqT) (by omega)
theorem none_ren {k : Nat} : FnOk P w K mg base CX0 k f fd ["_law_term_here", "_law_names_here"] (spRen K 0) := by
  have no : ∀ vs H Q E, ¬ spRen K 0 vs H Q E := fun vs H Q E h => by
    obtain ⟨v, t, ln, ns, _, _, h0, _⟩ := h
    rw [lv_bs] at h0; omega
  exact ⟨fun vs H Q E h => absurd h (no vs H Q E), fun A outer s H args us vs Q E _ _ _ _ h => absurd h (no vs H Q E)⟩
theorem all_ren (F : Fun K "_law_renamed" "_law_renamed" sRen f fd) (G : Gm mg) (hb : Binds K fd ["_law_term_here", "_law_names_here"] []) (hm : mg "_law_renamed" = some (.ref f)) : ∀ n : Nat, FnOk P w K mg base CX0 (n + 1) f fd ["_law_term_here", "_law_names_here"] (spRen K n)
  | 0 => none_ren
  | n + 1 => ok_ren F G ⟨f, fd, all_ren F G hb hm n, hb, F.kp, hm⟩
theorem scrul : FnScope ["_law_term_here", "_law_modes", "_law_row"] ["_law_term_here", "_law_modes", "_law_row"] (defScope sRuled) := ⟨rfl, rfl, rfl, by decide +kernel, rfl, by decide +kernel, by decide +kernel⟩
theorem ok_rul {n : Nat} (F : Fun K "_law_ruled" "_law_ruled" sRuled f fd) (G : Gm mg) (R : Fn P w K mg base (n + 1) "_law_ruled" ["_law_term_here", "_law_modes", "_law_row"] (spRul K n)) : FnOk P w K mg base CX0 (n + 2) f fd ["_law_term_here", "_law_modes", "_law_row"] (spRul K (n + 1)) := by
  refine F.ok scrul (fun vs H Q E h => ?_) (fun cdv A outer s H vs Q E hr h => ?_)
  · obtain ⟨v, t, lm, ms, j, rfl, _⟩ := h
    rfl
  obtain ⟨v, t, lm, ms, j, rfl, ht, hlv, hM, hcl, q⟩ := h
  refine ⟨_, (pss_cons (ps_if (pt_cmpR op_eq (pe_ix ix_tup (pv 0) pe_int (fun _ _ => rfl)) pe_str (nomark _)) (pss_one (ps_ret (pe_ix ix_list (pe_ix ix_tup (pe_ix ix_list (pv 1) (pe_ix ix_tup (pv 0) pe_int (fun _ _ => rfl)) (fun _ _ => rfl)) pe_int (fun _ _ => rfl)) (pv 2) (fun _ _ => rfl)))) pss_nil)
    (pss_one (ps_ret (pe_tup (pa_cons (pe_str) (pa_cons (pe_ix ix_tup (pv 0) pe_int (fun _ _ => rfl)) (pa_cons (pe_ix ix_tup (pv 0) pe_int (fun _ _ => rfl)) (pa_cons (pe_ix ix_tup (pv 0) pe_int (fun _ _ => rfl)) (pa_cons (pe_callTy call_tuple_of rfl G.tup PyProof.Rows.boot_tuple (pa_cons (pe_lcompG (CompG.many (xs := ["_law_part"]) (caps := ["_law_modes", "_law_row"]) (cap := [1, 2]) (cs := [_, _]) rfl rfl (by decide +kernel) (by decide +kernel) (by decide +kernel) (by decide +kernel) (by decide +kernel) (by decide +kernel) rfl rfl rfl) rfl (pi_tup (pe_ix ix_tup (pv 0) pe_int (fun _ _ => rfl))) (pg_c1 (CompG.many (xs := ["_law_part"]) (caps := ["_law_modes", "_law_row"]) (cap := [1, 2]) (cs := [_, _]) rfl rfl (by decide +kernel) (by decide +kernel) (by decide +kernel) (by decide +kernel) (by decide +kernel) (by decide +kernel) rfl rfl rfl)) (fun _ _ _ _ => pf_nil) (fun _ _ _ _ => pe_fn R hr (pa_cons (pv 0) (pa_cons (pv 1) (pa_cons (pv 2) pa_nil))) (Nat.le_refl _))) pa_nil)) pa_nil))))))))), ?_⟩
  have ePC : ¬ V.str PUT = V.str CALL := by decide +kernel
  rcases tm_open ht with ⟨a, m, b, rfl, rfl, h1⟩ | ⟨a, b, bs, nm, kk, ad, rfl, et, h1, h2, h3, h4⟩
  · have hc0 : (m, b) ∈ cls (leaf m b) := by simp [leaf, cls, lcl, clss]
    refine ⟨_, rfl, a, _, 0, _, rfl, rfl, h1, rfl, rfl, _, rfl, iteP rfl ?_⟩
    obtain ⟨m0, md, e1, hj⟩ := hcl _ hc0
    have hm0 : 0 ≤ m := m0
    have e1' : ms[m.toNat]? = some md := e1
    have em : m = ((m.toNat : Nat) : Int) := by omega
    obtain ⟨d1, d2, d3⟩ := hM.2 md (List.mem_of_getElem? e1)
    obtain ⟨v, hv1, hv2⟩ := d3.get (List.getElem?_eq_getElem hj)
    have er : ruleAt ms j m = md.2.2.2.2[j] := by
      unfold ruleAt
      rw [e1']
      show (md.2.2.2.2[j]?).getD _ = _
      rw [List.getElem?_eq_getElem hj]; rfl
    have hat : atI (ms.map fun m => V.ref m.1) m = some (.ref md.1) := by
      rw [em]; exact atI_nat (by rw [List.getElem?_map, e1']; rfl)
    refine ⟨_, rfl, _, rfl, a, _, 1, _, rfl, rfl, h1, rfl, lm, _, m, _, rfl, rfl, hM.1, hat, md.1, _, 1, _, rfl, rfl, d1, rfl, _, rfl, md.2.2.1, _, _, v, rfl, rfl, d2, atI_nat hv1, ?_⟩
    refine q v H (Same.refl _) ?_
    show TmV K H v (ruleAt ms j m)
    rw [er]; exact hv2
  have ecls : cls t = clss t.bs := by
    have := congrArg cls et
    rw [this]; simp [cls, lcl]
  have hlen := h3.length
  rw [lv_bs] at hlv
  refine ⟨_, rfl, a, _, 0, _, rfl, rfl, h1, rfl, rfl, _, rfl, iteN ePC ?_⟩
  refine ⟨_, rfl, a, _, 1, _, rfl, rfl, h1, rfl, _, rfl, a, _, 2, _, rfl, rfl, h1, rfl, _, rfl, a, _, 3, _, rfl, rfl, h1, rfl, _, rfl, a, _, 4, _, rfl, rfl, h1, rfl, b, rfl, ⟨_, h2⟩, fun acc hacc => ?_⟩
  refine c1_tup (K := K) (xs := bs) (cs := [some (.ref lm), some (.int (j : Int))]) (tt := fun _ H Q => Q true H) (te := tCall (spRul K n) [] E0 (tCons (tVar 0) (tCons (tVar 1) (tCons (tVar 2) tNil)))) (fun i ys H' => H' acc = some (.lst ys) ∧ Same H H' ∧ ys.length = i ∧ TmAll K H' ys ((t.bs.take i).map (TT.sub (fun m _ => ruleAt ms j m))))
    ⟨upd_same, same_new hacc _, rfl, .nil⟩ ?_ ?_ ?_
  · rintro i ys H' _ ⟨_, g, _⟩
    exact g.seqT h2
  · rintro i x ys H' hi hx ⟨hya, g, hyl, hys⟩
    obtain ⟨c, hc⟩ : ∃ c, t.bs[i]? = some c := ⟨_, List.getElem?_eq_getElem (by omega)⟩
    obtain ⟨cv, hcv, hct⟩ := h3.get hc
    obtain rfl : cv = x := Option.some.inj (hcv.symm.trans hx)
    have hm := List.mem_of_getElem? hc
    have a1 := lv_le hm
    have hsub : ∀ c' ∈ cls c, c' ∈ cls t := fun c' h => by rw [ecls]; exact cls_le hm c' h
    refine iteT ⟨_, rfl, _, rfl, _, rfl, cv, c, lm, ms, j, rfl, hct.mono fun _ _ => g.seqT, by omega, hM.same g, fun c' h => hcl c' (hsub c' h), fun v' H4 g4 hv' => ?_⟩
    refine comp_next (ys := ys) hi (g4 _ _ hya) (by omega) ⟨upd_same, fun x u e => ?_, by simp [hyl], ?_⟩
    · rw [upd_ne (ne_of_none e hacc)]; exact g4 _ _ (g _ _ e)
    · rw [List.take_add_one, hc]
      show TmAll K _ (ys ++ [v']) ((t.bs.take i ++ [c]).map (TT.sub (fun m _ => ruleAt ms j m)))
      rw [List.map_append]
      refine TmAll.append (hys.mono fun _ _ h => (g4.seqT h).put (g4 _ _ hya)) (.cons (hv'.mono fun _ _ h => h.put (g4 _ _ hya)) .nil)
  rintro ys H1 ⟨hya, g, hyl, hys⟩
  have et2 : t.bs.take bs.length = t.bs := List.take_of_length_le (by omega)
  rw [et2] at hys
  refine ⟨acc, ys, rfl, .inl ⟨SqL.of hya, fun pt hpt => ⟨(by show 5 ≤ sizeLine; decide), fun pp hpp => ?_⟩⟩⟩
  have ga := same_new hpt (.tup ys)
  have gb := same_new hpp (.tup [.str PUT, .str nm, .bl kk, .int ad, .ref pt])
  have gab := ga.trans gb
  refine q (.ref pp) _ (g.trans gab) ?_
  rw [et]
  simp only [TT.sub, hdF, subs_map]
  exact .put (SqT.of upd_same) (gb.seqT (SqT.of upd_same)) (hys.mono fun _ _ => gab.seqT) (by omega)
theorem none_rul {k : Nat} : FnOk P w K mg base CX0 k f fd ["_law_term_here", "_law_modes", "_law_row"] (spRul K 0) := by
  have no : ∀ vs H Q E, ¬ spRul K 0 vs H Q E := fun vs H Q E h => by
    obtain ⟨v, t, lm, ms, j, _, _, h0, _⟩ := h
    rw [lv_bs] at h0; omega
  exact ⟨fun vs H Q E h => absurd h (no vs H Q E), fun A outer s H args us vs Q E _ _ _ _ h => absurd h (no vs H Q E)⟩
theorem all_rul (F : Fun K "_law_ruled" "_law_ruled" sRuled f fd) (G : Gm mg) (hb : Binds K fd ["_law_term_here", "_law_modes", "_law_row"] []) (hm : mg "_law_ruled" = some (.ref f)) : ∀ n : Nat, FnOk P w K mg base CX0 (n + 1) f fd ["_law_term_here", "_law_modes", "_law_row"] (spRul K n)
  | 0 => none_rul
  | n + 1 => ok_rul F G ⟨f, fd, all_rul F G hb hm n, hb, F.kp, hm⟩
theorem sclon : FnScope ["_law_term_here", "_law_branch"] ["_law_term_here", "_law_branch"] (defScope sOn) := ⟨rfl, rfl, rfl, by decide +kernel, rfl, by decide +kernel, by decide +kernel⟩
theorem ok_lon {n : Nat} (F : Fun K "_law_on" "_law_on" sOn f fd) (G : Gm mg) (R : Fn P w K mg base (n + 1) "_law_on" ["_law_term_here", "_law_branch"] (spLOn K n)) : FnOk P w K mg base CX0 (n + 2) f fd ["_law_term_here", "_law_branch"] (spLOn K (n + 1)) := by
  refine F.ok sclon (fun vs H Q E h => ?_) (fun cdv A outer s H vs Q E hr h => ?_)
  · obtain ⟨v, t, br, rfl, _⟩ := h
    rfl
  obtain ⟨v, t, br, rfl, ht, hlv, _, q⟩ := h
  refine ⟨_, (pss_cons (ps_if (pt_cmpR op_eq (pe_ix ix_tup (pv 0) pe_int (fun _ _ => rfl)) pe_str (nomark _)) (pss_one (ps_ret (pe_tup (pa_cons (pe_str) (pa_cons (pe_ix ix_tup (pv 0) pe_int (fun _ _ => rfl)) (pa_cons (pv 1) pa_nil)))))) pss_nil)
    (pss_one (ps_ret (pe_tup (pa_cons (pe_str) (pa_cons (pe_ix ix_tup (pv 0) pe_int (fun _ _ => rfl)) (pa_cons (pe_ix ix_tup (pv 0) pe_int (fun _ _ => rfl)) (pa_cons (pe_ix ix_tup (pv 0) pe_int (fun _ _ => rfl)) (pa_cons (pe_callTy call_tuple_of rfl G.tup PyProof.Rows.boot_tuple (pa_cons (pe_lcompG (CompG.many (xs := ["_law_part"]) (caps := ["_law_branch"]) (cap := [1]) (cs := [_]) rfl rfl (by decide +kernel) (by decide +kernel) (by decide +kernel) (by decide +kernel) (by decide +kernel) (by decide +kernel) rfl rfl rfl) rfl (pi_tup (pe_ix ix_tup (pv 0) pe_int (fun _ _ => rfl))) (pg_c1 (CompG.many (xs := ["_law_part"]) (caps := ["_law_branch"]) (cap := [1]) (cs := [_]) rfl rfl (by decide +kernel) (by decide +kernel) (by decide +kernel) (by decide +kernel) (by decide +kernel) (by decide +kernel) rfl rfl rfl)) (fun _ _ _ _ => pf_nil) (fun _ _ _ _ => pe_fn R hr (pa_cons (pv 0) (pa_cons (pv 1) pa_nil)) (Nat.le_refl _))) pa_nil)) pa_nil))))))))), ?_⟩
  have ePC : ¬ V.str PUT = V.str CALL := by decide +kernel
  rcases tm_open ht with ⟨a, m, b, rfl, rfl, h1⟩ | ⟨a, b, bs, nm, kk, ad, rfl, et, h1, h2, h3, h4⟩
  · have hc0 : (m, b) ∈ cls (leaf m b) := by simp [leaf, cls, lcl, clss]
    refine ⟨_, rfl, a, _, 0, _, rfl, rfl, h1, rfl, rfl, _, rfl, iteP rfl ?_⟩
    refine ⟨_, rfl, a, _, 1, _, rfl, rfl, h1, rfl, _, rfl, (by show 3 ≤ sizeLine; decide), fun p hp => ?_⟩
    exact q (.ref p) _ (same_new hp _) (.call (SqT.of upd_same))
  have ecls : cls t = clss t.bs := by
    have := congrArg cls et
    rw [this]; simp [cls, lcl]
  have hlen := h3.length
  rw [lv_bs] at hlv
  refine ⟨_, rfl, a, _, 0, _, rfl, rfl, h1, rfl, rfl, _, rfl, iteN ePC ?_⟩
  refine ⟨_, rfl, a, _, 1, _, rfl, rfl, h1, rfl, _, rfl, a, _, 2, _, rfl, rfl, h1, rfl, _, rfl, a, _, 3, _, rfl, rfl, h1, rfl, _, rfl, a, _, 4, _, rfl, rfl, h1, rfl, b, rfl, ⟨_, h2⟩, fun acc hacc => ?_⟩
  refine c1_tup (K := K) (xs := bs) (cs := [some (.int br)]) (tt := fun _ H Q => Q true H) (te := tCall (spLOn K n) [] E0 (tCons (tVar 0) (tCons (tVar 1) tNil))) (fun i ys H' => H' acc = some (.lst ys) ∧ Same H H' ∧ ys.length = i ∧ TmAll K H' ys ((t.bs.take i).map (TT.sub (fun m _ => leaf m br))))
    ⟨upd_same, same_new hacc _, rfl, .nil⟩ ?_ ?_ ?_
  · rintro i ys H' _ ⟨_, g, _⟩
    exact g.seqT h2
  · rintro i x ys H' hi hx ⟨hya, g, hyl, hys⟩
    obtain ⟨c, hc⟩ : ∃ c, t.bs[i]? = some c := ⟨_, List.getElem?_eq_getElem (by omega)⟩
    obtain ⟨cv, hcv, hct⟩ := h3.get hc
    obtain rfl : cv = x := Option.some.inj (hcv.symm.trans hx)
    have hm := List.mem_of_getElem? hc
    have a1 := lv_le hm
    have hsub : ∀ c' ∈ cls c, c' ∈ cls t := fun c' h => by rw [ecls]; exact cls_le hm c' h
    refine iteT ⟨_, rfl, _, rfl, cv, c, br, rfl, hct.mono fun _ _ => g.seqT, by omega, trivial, fun v' H4 g4 hv' => ?_⟩
    refine comp_next (ys := ys) hi (g4 _ _ hya) (by omega) ⟨upd_same, fun x u e => ?_, by simp [hyl], ?_⟩
    · rw [upd_ne (ne_of_none e hacc)]; exact g4 _ _ (g _ _ e)
    · rw [List.take_add_one, hc]
      show TmAll K _ (ys ++ [v']) ((t.bs.take i ++ [c]).map (TT.sub (fun m _ => leaf m br)))
      rw [List.map_append]
      refine TmAll.append (hys.mono fun _ _ h => (g4.seqT h).put (g4 _ _ hya)) (.cons (hv'.mono fun _ _ h => h.put (g4 _ _ hya)) .nil)
  rintro ys H1 ⟨hya, g, hyl, hys⟩
  have et2 : t.bs.take bs.length = t.bs := List.take_of_length_le (by omega)
  rw [et2] at hys
  refine ⟨acc, ys, rfl, .inl ⟨SqL.of hya, fun pt hpt => ⟨(by show 5 ≤ sizeLine; decide), fun pp hpp => ?_⟩⟩⟩
  have ga := same_new hpt (.tup ys)
  have gb := same_new hpp (.tup [.str PUT, .str nm, .bl kk, .int ad, .ref pt])
  have gab := ga.trans gb
  refine q (.ref pp) _ (g.trans gab) ?_
  rw [et]
  simp only [TT.sub, hdF, subs_map]
  exact .put (SqT.of upd_same) (gb.seqT (SqT.of upd_same)) (hys.mono fun _ _ => gab.seqT) (by omega)
theorem none_lon {k : Nat} : FnOk P w K mg base CX0 k f fd ["_law_term_here", "_law_branch"] (spLOn K 0) := by
  have no : ∀ vs H Q E, ¬ spLOn K 0 vs H Q E := fun vs H Q E h => by
    obtain ⟨v, t, br, _, _, h0, _⟩ := h
    rw [lv_bs] at h0; omega
  exact ⟨fun vs H Q E h => absurd h (no vs H Q E), fun A outer s H args us vs Q E _ _ _ _ h => absurd h (no vs H Q E)⟩
theorem all_lon (F : Fun K "_law_on" "_law_on" sOn f fd) (G : Gm mg) (hb : Binds K fd ["_law_term_here", "_law_branch"] []) (hm : mg "_law_on" = some (.ref f)) : ∀ n : Nat, FnOk P w K mg base CX0 (n + 1) f fd ["_law_term_here", "_law_branch"] (spLOn K n)
  | 0 => none_lon
  | n + 1 => ok_lon F G ⟨f, fd, all_lon F G hb hm n, hb, F.kp, hm⟩
theorem scted : FnScope ["_law_term_here", "_law_terms"] ["_law_term_here", "_law_terms"] (defScope sTermed) := ⟨rfl, rfl, rfl, by decide +kernel, rfl, by decide +kernel, by decide +kernel⟩
theorem ok_ted {n : Nat} (F : Fun K "_law_termed" "_law_termed" sTermed f fd) (G : Gm mg) (RO : Fn P w K mg base 6 "_law_on" ["_law_term_here", "_law_branch"] (spLOn K 5)) (R : Fn P w K mg base (n + 6) "_law_termed" ["_law_term_here", "_law_terms"] (spTed K n)) : FnOk P w K mg base CX0 (n + 7) f fd ["_law_term_here", "_law_terms"] (spTed K (n + 1)) := by
  refine F.ok scted (fun vs H Q E h => ?_) (fun cdv A outer s H vs Q E hr h => ?_)
  · obtain ⟨v, t, lt, hs, T, rfl, _⟩ := h
    rfl
  obtain ⟨v, t, lt, hs, T, rfl, ht, hlv, hlt, hT, q⟩ := h
  refine ⟨_, (pss_cons (ps_if (pt_cmpR op_eq (pe_ix ix_tup (pv 0) pe_int (fun _ _ => rfl)) pe_str (nomark _)) (pss_one (ps_ret (pe_fn RO hr (pa_cons (pe_ix ix_list (pv 1) (pe_ix ix_tup (pv 0) pe_int (fun _ _ => rfl)) (fun _ _ => rfl)) (pa_cons (pe_ix ix_tup (pv 0) pe_int (fun _ _ => rfl)) pa_nil)) (Nat.le_add_left 6 n)))) pss_nil)
    (pss_one (ps_ret (pe_tup (pa_cons (pe_str) (pa_cons (pe_ix ix_tup (pv 0) pe_int (fun _ _ => rfl)) (pa_cons (pe_ix ix_tup (pv 0) pe_int (fun _ _ => rfl)) (pa_cons (pe_ix ix_tup (pv 0) pe_int (fun _ _ => rfl)) (pa_cons (pe_callTy call_tuple_of rfl G.tup PyProof.Rows.boot_tuple (pa_cons (pe_lcompG (CompG.many (xs := ["_law_part"]) (caps := ["_law_terms"]) (cap := [1]) (cs := [_]) rfl rfl (by decide +kernel) (by decide +kernel) (by decide +kernel) (by decide +kernel) (by decide +kernel) (by decide +kernel) rfl rfl rfl) rfl (pi_tup (pe_ix ix_tup (pv 0) pe_int (fun _ _ => rfl))) (pg_c1 (CompG.many (xs := ["_law_part"]) (caps := ["_law_terms"]) (cap := [1]) (cs := [_]) rfl rfl (by decide +kernel) (by decide +kernel) (by decide +kernel) (by decide +kernel) (by decide +kernel) (by decide +kernel) rfl rfl rfl)) (fun _ _ _ _ => pf_nil) (fun _ _ _ _ => pe_fn R hr (pa_cons (pv 0) (pa_cons (pv 1) pa_nil)) (Nat.le_refl _))) pa_nil)) pa_nil))))))))), ?_⟩
  have ePC : ¬ V.str PUT = V.str CALL := by decide +kernel
  rcases tm_open ht with ⟨a, m, b, rfl, rfl, h1⟩ | ⟨a, b, bs, nm, kk, ad, rfl, et, h1, h2, h3, h4⟩
  · have hc0 : (m, b) ∈ cls (leaf m b) := by simp [leaf, cls, lcl, clss]
    refine ⟨_, rfl, a, _, 0, _, rfl, rfl, h1, rfl, rfl, _, rfl, iteP rfl ?_⟩
    obtain ⟨h0, hv, e1, e2, e3⟩ := hT (m, b) hc0
    have em : m = ((m.toNat : Nat) : Int) := by
      have : (0 : Int) ≤ m := h0
      omega
    have ea : atI hs m = some hv := by rw [em]; exact atI_nat e1
    exact ⟨_, rfl, _, rfl, a, _, 1, _, rfl, rfl, h1, rfl, lt, hs, m, hv, rfl, rfl, hlt, ea, _, rfl, a, _, 2, _, rfl, rfl, h1, rfl, hv, T m, b, rfl, e2, Nat.le_trans e3 (by decide), trivial, fun v' H' g hv' => q v' H' g hv'⟩
  have ecls : cls t = clss t.bs := by
    have := congrArg cls et
    rw [this]; simp [cls, lcl]
  have hlen := h3.length
  rw [lv_bs] at hlv
  refine ⟨_, rfl, a, _, 0, _, rfl, rfl, h1, rfl, rfl, _, rfl, iteN ePC ?_⟩
  refine ⟨_, rfl, a, _, 1, _, rfl, rfl, h1, rfl, _, rfl, a, _, 2, _, rfl, rfl, h1, rfl, _, rfl, a, _, 3, _, rfl, rfl, h1, rfl, _, rfl, a, _, 4, _, rfl, rfl, h1, rfl, b, rfl, ⟨_, h2⟩, fun acc hacc => ?_⟩
  refine c1_tup (K := K) (xs := bs) (cs := [some (.ref lt)]) (tt := fun _ H Q => Q true H) (te := tCall (spTed K n) [] E0 (tCons (tVar 0) (tCons (tVar 1) tNil))) (fun i ys H' => H' acc = some (.lst ys) ∧ Same H H' ∧ ys.length = i ∧ TmAll K H' ys ((t.bs.take i).map (TT.sub (fun m b => onB b (T m)))))
    ⟨upd_same, same_new hacc _, rfl, .nil⟩ ?_ ?_ ?_
  · rintro i ys H' _ ⟨_, g, _⟩
    exact g.seqT h2
  · rintro i x ys H' hi hx ⟨hya, g, hyl, hys⟩
    obtain ⟨c, hc⟩ : ∃ c, t.bs[i]? = some c := ⟨_, List.getElem?_eq_getElem (by omega)⟩
    obtain ⟨cv, hcv, hct⟩ := h3.get hc
    obtain rfl : cv = x := Option.some.inj (hcv.symm.trans hx)
    have hm := List.mem_of_getElem? hc
    have a1 := lv_le hm
    have hsub : ∀ c' ∈ cls c, c' ∈ cls t := fun c' h => by rw [ecls]; exact cls_le hm c' h
    refine iteT ⟨_, rfl, _, rfl, cv, c, lt, hs, T, rfl, hct.mono fun _ _ => g.seqT, by omega, g.seq hlt, (hT.sub hsub).mono fun _ _ => g.seqT, fun v' H4 g4 hv' => ?_⟩
    refine comp_next (ys := ys) hi (g4 _ _ hya) (by omega) ⟨upd_same, fun x u e => ?_, by simp [hyl], ?_⟩
    · rw [upd_ne (ne_of_none e hacc)]; exact g4 _ _ (g _ _ e)
    · rw [List.take_add_one, hc]
      show TmAll K _ (ys ++ [v']) ((t.bs.take i ++ [c]).map (TT.sub (fun m b => onB b (T m))))
      rw [List.map_append]
      refine TmAll.append (hys.mono fun _ _ h => (g4.seqT h).put (g4 _ _ hya)) (.cons (hv'.mono fun _ _ h => h.put (g4 _ _ hya)) .nil)
  rintro ys H1 ⟨hya, g, hyl, hys⟩
  have et2 : t.bs.take bs.length = t.bs := List.take_of_length_le (by omega)
  rw [et2] at hys
  refine ⟨acc, ys, rfl, .inl ⟨SqL.of hya, fun pt hpt => ⟨(by show 5 ≤ sizeLine; decide), fun pp hpp => ?_⟩⟩⟩
  have ga := same_new hpt (.tup ys)
  have gb := same_new hpp (.tup [.str PUT, .str nm, .bl kk, .int ad, .ref pt])
  have gab := ga.trans gb
  refine q (.ref pp) _ (g.trans gab) ?_
  rw [et]
  simp only [TT.sub, hdF, subs_map]
  exact .put (SqT.of upd_same) (gb.seqT (SqT.of upd_same)) (hys.mono fun _ _ => gab.seqT) (by omega)
theorem none_ted {k : Nat} : FnOk P w K mg base CX0 k f fd ["_law_term_here", "_law_terms"] (spTed K 0) := by
  have no : ∀ vs H Q E, ¬ spTed K 0 vs H Q E := fun vs H Q E h => by
    obtain ⟨v, t, lt, hs, T, _, _, h0, _⟩ := h
    rw [lv_bs] at h0; omega
  exact ⟨fun vs H Q E h => absurd h (no vs H Q E), fun A outer s H args us vs Q E _ _ _ _ h => absurd h (no vs H Q E)⟩
theorem all_ted (F : Fun K "_law_termed" "_law_termed" sTermed f fd) (G : Gm mg) (RO : Fn P w K mg base 6 "_law_on" ["_law_term_here", "_law_branch"] (spLOn K 5)) (hb : Binds K fd ["_law_term_here", "_law_terms"] []) (hm : mg "_law_termed" = some (.ref f)) : ∀ n : Nat, FnOk P w K mg base CX0 (n + 6) f fd ["_law_term_here", "_law_terms"] (spTed K n)
  | 0 => none_ted
  | n + 1 => ok_ted F G RO ⟨f, fd, all_ted F G RO hb hm n, hb, F.kp, hm⟩
end
end K51
namespace K51
open PySem L2 TM TT K9 K11 ST
def need : Nat → Nat
  | 0 => 1
  | 1 => 2
  | _ => 7
abbrev NI (ns : List Int) : List V := ns.map V.int
def Pn (n : Nat) : Int → Int → Prop := fun a _ => 0 ≤ a ∧ a < (n : Int)
def spTerm (K : PySem.W.Frag) (n : Nat) : Sp := fun vs H Q _ => ∃ (d lc ln : Addr) (far : Int) (dp : Nat) (xs : List Int) (ws : List V) (ts : List Tm) (nn : List Str) (p : Int → Int → Prop), vs = [.ref d, .ref lc, .ref ln, .int far, .int (dp : Int)] ∧ H d = some (.lst (NI xs)) ∧ need dp ≤ xs.length ∧ SqL K H lc ws ∧ TmAll K H ws ts ∧ (∀ t ∈ ts, ∃ m b, t = leaf m b ∧ p m b) ∧ ts.length ≤ 16 ∧ lc ≠ d ∧ SqL K H ln (nn.map V.str) ∧ 5 ≤ nn.length ∧ (∀ x ∈ nn, PyData.strOk x = true) ∧ ln ≠ d ∧ dp < n ∧ dp ≤ 2 ∧
  ∀ (v : V) (H' : Hp) (t : Tm) (xs' : List Int), SameD d H H' → H' d = some (.lst (NI xs')) → xs.length ≤ xs'.length + need dp → TmV K H' v t → TPr p t → lv t ≤ dp + 1 → Q v H'
def spUnk (K : PySem.W.Frag) (n : Nat) : Sp := fun vs H Q _ => ∃ (v : V) (t : Tm) (p : Int → Int → Prop), vs = [v] ∧ TmV K H v t ∧ TPr p t ∧ lv t ≤ n ∧ ∀ (v' : V) (H' : Hp) (t' : Tm), Same H H' → TmV K H' v' t' → TPr p t' → lv t' ≤ lv t → kp t' = false → Q v' H'
theorem eqv_tnil (ts : List Tm) : PyData.eqv (.list (tmds ts)) (.list []) = ts.isEmpty := by
  cases ts <;> simp [tmds, PyData.eqv, PyData.eqvAll]
theorem at_rest {xs : List V} {k : Int} (hk : k = (xs.length : Int)) (h : 0 < xs.length) (n : Int) : ∃ v ∈ xs, atI xs (n % k) = some v := by
  subst hk
  have x0 : 0 ≤ n % (xs.length : Int) := Int.emod_nonneg _ (by omega)
  have x1 : n % (xs.length : Int) < (xs.length : Int) := Int.emod_lt_of_pos _ (by omega)
  obtain ⟨y, hy⟩ : ∃ y : Nat, n % (xs.length : Int) = (y : Int) := ⟨_, (Int.toNat_of_nonneg x0).symm⟩
  have hyl : y < xs.length := by omega
  rw [hy]
  exact ⟨xs[y], List.getElem_mem hyl, atI_nat (List.getElem?_eq_getElem hyl)⟩
theorem last_int {xs : List Int} (h : 0 < xs.length) : ∃ y : Int, (NI xs)[(NI xs).length - 1]? = some (.int y) := by
  have hl : xs.length - 1 < xs.length := by omega
  exact ⟨xs[xs.length - 1], by rw [List.length_map, List.getElem?_map, List.getElem?_eq_getElem hl]; rfl⟩
section
variable {P : Program} {w : World} {K : PySem.W.Frag} {mg : Str → Option Value} {base : Heap} {f : Addr} {fd : FuncData}
theorem scTerm : FnScope ["_law_xs", "_law_calls_here", "_law_names_here", "_law_far", "_law_deep", "_law_x", "_law_add", "_law_parts"] ["_law_xs", "_law_calls_here", "_law_names_here", "_law_far", "_law_deep"] (defScope sTerm) := ⟨rfl, rfl, rfl, by decide +kernel, rfl, by decide +kernel, by decide +kernel⟩
theorem ok_term {n : Nat} (F : Fun K "_law_term" "_law_term" sTerm f fd) (G : Gm mg) (R : Fn P w K mg base (n + 1) "_law_term" ["_law_xs", "_law_calls_here", "_law_names_here", "_law_far", "_law_deep"] (spTerm K n)) : FnOk P w K mg base CX0 (n + 2) f fd ["_law_xs", "_law_calls_here", "_law_names_here", "_law_far", "_law_deep"] (spTerm K (n + 1)) := by
  refine F.ok scTerm (fun vs H Q E h => ?_) (fun cdv A outer s H vs Q E hr h => ?_)
  · obtain ⟨d, lc, ln, far, dp, xs, ws, ts, nn, pN, rfl, _⟩ := h
    rfl
  obtain ⟨d, lc, ln, far, dp, xs, ws, ts, nn, pN, rfl, hd, hneed, hlc, hts, hcl, ht16, hlcd, hln, hn5, hnn, hlnd, hdn, hd2, q⟩ := h
  refine ⟨_, (pss_cons (ps_set (i := 5) scTerm.nd rfl (Or.inl rfl) (pe_bm0 PySem.F.plainAttrs_list PySem.F.slot_list_pop PySem.F.type_list_pop mt_pop (pv 0)))
    (pss_cons (ps_if (pt_cut (PW.pt (pw_and (pt_cmpR op_neD (pv 1) (pe_lst pa_nil) (nomark _)) (pw_and1 (pt_cmpR op_lt (pe_op op_mod (pv 5) pe_int) (pe_op op_sub pe_int (pv 4)) (nomark _)))))) (pss_one (ps_ret (pe_ix ix_list (pv 1) (pe_op op_mod (pe_op op_fdiv (pv 5) pe_int) (pe_callB call_len_seq rfl G.len PySem.boot_len (pa_cons (pv 1) pa_nil))) (fun _ _ => rfl)))) pss_nil)
    (pss_cons (ps_cut (ps_set (i := 6) scTerm.nd rfl (Or.inl rfl) (pe_ix ix_list (pe_lst (pa_cons (pe_int) (pa_cons (pe_op op_sub (pe_op op_mod (pe_op op_fdiv (pv 5) pe_int) pe_int) pe_int) (pa_cons (pv 3) (pa_cons (pe_op op_sub pe_int (pv 3)) pa_nil))))) (pe_op op_mod (pe_op op_fdiv (pv 5) pe_int) pe_int) (fun _ _ => rfl))))
    (pss_cons (ps_set (i := 7) scTerm.nd rfl (Or.inl rfl) (pe_lst pa_nil))
    (pss_cons (ps_cut (ps_if (pt_cmpR op_gt (pv 4) pe_int (nomark _)) (pss_one (ps_setG (i := 7) (CompG.many (xs := ["_law_k"]) (caps := ["_law_calls_here", "_law_deep", "_law_far", "_law_names_here", "_law_xs"]) (cap := [1, 4, 3, 2, 0]) (cs := [_, _, _, _, _]) rfl rfl (by decide +kernel) (by decide +kernel) (by decide +kernel) (by decide +kernel) (by decide +kernel) (by decide +kernel) rfl rfl rfl) rfl (pi_range1 rfl G.rng (pa_cons (pe_op op_mod (pe_op op_fdiv (pv 5) pe_int) (pe_op op_mul pe_int (pv 4))) pa_nil)) (pg_c1 (CompG.many (xs := ["_law_k"]) (caps := ["_law_calls_here", "_law_deep", "_law_far", "_law_names_here", "_law_xs"]) (cap := [1, 4, 3, 2, 0]) (cs := [_, _, _, _, _]) rfl rfl (by decide +kernel) (by decide +kernel) (by decide +kernel) (by decide +kernel) (by decide +kernel) (by decide +kernel) rfl rfl rfl)) (fun _ _ _ _ => pf_nil) (fun _ _ _ _ => pe_fn R hr (pa_cons (pv 5) (pa_cons (pv 1) (pa_cons (pv 4) (pa_cons (pv 3) (pa_cons (pe_op op_sub (pv 2) pe_int) pa_nil))))) (Nat.le_refl _)) scTerm.nd rfl rfl)) pss_nil))
    (pss_one (ps_ret (pe_tup (pa_cons (pe_str) (pa_cons (pe_ix ix_list (pv 2) (pe_op op_add pe_int (pe_op op_mod (pe_op op_fdiv (pv 5) pe_int) pe_int)) (fun _ _ => rfl)) (pa_cons (pe_cmpR op_eq (pe_op op_mod (pe_op op_fdiv (pv 5) pe_int) pe_int) pe_int (nomark _)) (pa_cons (pv 6) (pa_cons (pe_callTy call_tuple_of rfl G.tup PyProof.Rows.boot_tuple (pa_cons (pv 7) pa_nil)) pa_nil))))))))))))), ?_⟩
  have hn1 : 1 ≤ need dp := by
    match dp, hd2 with
    | 0, _ => decide
    | 1, _ => decide
    | 2, _ => decide
  obtain ⟨x, hx⟩ := last_int (xs := xs) (by omega)
  refine ⟨_, rfl, .inl ⟨rfl, _, SqL.of hd⟩, d, _, _, rfl, rfl, hd, hx, ?_⟩
  have hdk : Dk H d := ⟨xs, hd⟩
  have g1 : SameD d H (upd H d (.lst (NI xs).dropLast)) := fun b u hb e => by rw [upd_ne hb]; exact e
  have hd1 : (upd H d (.lst (NI xs).dropLast)) d = some (.lst (NI xs.dropLast)) := by
    rw [upd_same]
    show some (HO.lst (xs.map V.int).dropLast) = some (HO.lst (xs.dropLast.map V.int))
    rw [List.map_dropLast]
  generalize upd H d (.lst (NI xs).dropLast) = H1 at g1 hd1 ⊢
  have hxl : xs.dropLast.length + 1 = xs.length := by rw [List.length_dropLast]; omega
  generalize xs.dropLast = xs1 at hd1 hxl
  have hlc1 := g1.seqL hlcd hlc
  have hts1 := hts.mono fun _ _ => g1.seqT hdk
  have hln1 := g1.seqL hlnd hln
  have htl := hts.length
  refine ⟨fun b H' => Same H1 H' ∧ (b = true → ts ≠ []), ?_, ?_⟩
  · refine ⟨_, rfl, (by show 0 ≤ sizeLine; decide), fun p hp => ?_⟩
    have ge := same_new hp (.lst [])
    have lay : (PyData.list (tmds ts)).canLay0 = true := by
      simp only [PyData.canLay0]
      exact (tmds_ok ts fun t ht => by obtain ⟨k, j, rfl, _⟩ := hcl t ht; exact L2.leaf_ok _ _ 0 []).1
    refine ⟨.list (tmds ts), .list [], .lst (ge.seq hlc1) (hts1.mono fun _ _ => ge.seqT).rd, .lst (SqL.of upd_same) .nil, lay, by decide, hr.fit (Nat.le_trans (Nat.min_le_right _ _) (by simp [PyData.depth, PyData.depthAll])), _, rfl, ?_⟩
    rw [if_pos rfl, eqv_tnil]
    cases ts with
    | nil => exact iteF ⟨ge, fun z => by cases z⟩
    | cons t0 tr =>
      refine iteT ⟨_, rfl, _, _, rfl, rfl, (by show (0 : Int) < 5; decide), _, rfl, _, _, rfl, rfl, _, _, rfl, rfl, _, rfl, ge, fun _ => List.cons_ne_nil _ _⟩
  rintro b H2 ⟨g2, hne⟩
  have g12 : SameD d H H2 := g1.trans (SameD.of g2)
  have hd2' := g2 _ _ hd1
  have hdk1 : Dk H1 d := ⟨xs1, hd1⟩
  have hlc2 := g2.seq hlc1
  have hts2 := hts1.mono fun a xs => g2.seqT (a := a) (xs := xs)
  refine iteB (fun hb => ?_) (fun _ => ?_)
  · have hpos : 0 < ts.length := List.length_pos_iff.mpr (hne hb)
    obtain ⟨y, hy, hat⟩ := at_rest (xs := ws) (k := (ws.length : Int)) rfl (by omega) (x / 5)
    refine ⟨_, rfl, _, rfl, _, _, rfl, rfl, ⟨by decide, by decide⟩, _, rfl, lc, _, rfl, .inl hlc2, _, _, rfl, rfl, (by show (0 : Int) < (ws.length : Int); omega), lc, ws, _, y, rfl, rfl, hlc2, hat, ?_⟩
    obtain ⟨i, hi, ei⟩ := List.getElem_of_mem hy
    have hit : i < ts.length := by omega
    obtain ⟨cv, hcv, hct⟩ := hts2.get (List.getElem?_eq_getElem hit)
    have ecv : cv = y := by rw [List.getElem?_eq_getElem hi, ei] at hcv; exact (Option.some.inj hcv).symm
    rw [ecv] at hct
    obtain ⟨k, j, ek, hk⟩ := hcl _ (List.getElem_mem hit)
    refine q y H2 ts[i] xs1 g12 hd2' (by omega) hct ?_ ?_
    · rw [ek]; simp only [leaf, TPr]; exact ⟨hk, trivial⟩
    · rw [ek]; simp only [leaf, lv, lvs]; omega
  refine ⟨fun σ' H' => ∃ add : Int, σ' = [some (.ref d), some (.ref lc), some (.ref ln), some (.int far), some (.int (dp : Int)), some (.int x), some (.int add), none] ∧ Same H2 H', ?_, ?_⟩
  · refine ⟨_, rfl, _, _, rfl, rfl, ⟨by decide, by decide⟩, _, _, rfl, rfl, (by show (0 : Int) < 7; decide), _, _, rfl, rfl, _, rfl, _, rfl, _, _, rfl, rfl, (by show 4 ≤ sizeLine; decide), fun l hl => ?_⟩
    have gl := same_new hl (.lst [.int 0, .int (x / 20 % 7 - 3), .int far, .int (0 - far)])
    obtain ⟨y, hy, hat⟩ := at_rest (xs := [.int 0, .int (x / 20 % 7 - 3), .int far, .int (0 - far)]) (k := 4) rfl (by show 0 < 4; decide) (x / 140)
    refine ⟨_, rfl, _, _, rfl, rfl, ⟨by decide, by decide⟩, _, _, rfl, rfl, (by show (0 : Int) < 4; decide), l, _, _, y, rfl, rfl, SqL.of upd_same, hat, ?_⟩
    obtain ⟨add, rfl⟩ : ∃ add : Int, y = .int add := by
      simp only [List.mem_cons, List.mem_nil_iff, or_false] at hy
      rcases hy with rfl | rfl | rfl | rfl <;> exact ⟨_, rfl⟩
    exact ⟨add, rfl, gl⟩
  rintro σ' H3 ⟨add, rfl, g3⟩
  have g23 := g2.trans g3
  have hd3 := g3 _ _ hd2'
  have g13 : SameD d H H3 := g12.trans (SameD.of g3)
  refine ⟨(by show 0 ≤ sizeLine; decide), fun lp hlp => ?_⟩
  have gp := same_new hlp (.lst [])
  have hdk3 : Dk H3 d := ⟨xs1, hd3⟩
  have hlpd := hdk3.ne hlp
  have hd4 := gp _ _ hd3
  have hlp4 : (upd H3 lp (.lst [])) lp = some (.lst []) := upd_same
  have g14 : SameD d H (upd H3 lp (.lst [])) := g13.trans (SameD.of gp)
  generalize upd H3 lp (.lst []) = H4 at gp hd4 hlp4 g14 ⊢
  have hdk4 : Dk H4 d := ⟨xs1, hd4⟩
  have g1H4 : Same H1 H4 := g23.trans gp
  refine ⟨fun σ' H' => ∃ (l : Addr) (us : List V) (ps : List Tm) (xs' : List Int), σ' = [some (.ref d), some (.ref lc), some (.ref ln), some (.int far), some (.int (dp : Int)), some (.int x), some (.int add), some (.ref l)] ∧ SameD d H4 H' ∧ H' d = some (.lst (NI xs')) ∧ xs1.length + 1 ≤ xs'.length + need dp ∧ H' l = some (.lst us) ∧ TmAll K H' us ps ∧ ps.length ≤ 3 ∧ ∀ t ∈ ps, TPr pN t ∧ lv t ≤ dp, ?_, ?_⟩
  · refine ⟨_, rfl, _, _, rfl, rfl, _, rfl, ite2 (fun hc => ?_) (fun _ => ?_)⟩
    · have hc' : (dp : Int) > 0 := of_decide_eq_true hc
      have hpos : (0 : Int) < 2 * (dp : Int) := by omega
      have k0 : 0 ≤ x / 560 % (2 * (dp : Int)) := Int.emod_nonneg _ (by omega)
      have k1 : x / 560 % (2 * (dp : Int)) < 2 * (dp : Int) := Int.emod_lt_of_pos _ hpos
      refine ⟨_, rfl, _, _, rfl, rfl, ⟨by decide, by decide⟩, _, rfl, _, _, rfl, rfl, .inl ⟨by decide, by decide⟩, _, _, rfl, rfl, hpos, _, rfl, (by show -(2 ^ 62 : Int) ≤ x / 560 % (2 * (dp : Int)); omega), (by show x / 560 % (2 * (dp : Int)) < 2 ^ 62; omega), fun acc hacc => ?_⟩
      have had := hdk4.ne hacc
      obtain ⟨e, he⟩ : ∃ e, dp = e + 1 := ⟨dp - 1, by omega⟩
      have hneed2 : need dp = 1 + (2 * dp - 1) * need e := by
        match dp, e, he, hd2 with
        | 1, 0, _, _ => decide
        | 2, 1, _, _ => decide
      have hne1 : 1 ≤ need e := by
        match e, (show e ≤ 1 by omega) with
        | 0, _ => decide
        | 1, _ => decide
      refine c1_range (lo := 0) (n := (x / 560 % (2 * (dp : Int))).toNat) (cs := [some (.ref lc), some (.int (dp : Int)), some (.int far), some (.ref ln), some (.ref d)]) (tt := fun _ H Q => Q true H) (fun i ys H' => ∃ (ps : List Tm) (xs' : List Int), H' acc = some (.lst ys) ∧ SameD d H4 H' ∧ H' d = some (.lst (NI xs')) ∧ xs1.length ≤ xs'.length + i * need e ∧ TmAll K H' ys ps ∧ ps.length = i ∧ ∀ t ∈ ps, TPr pN t ∧ lv t ≤ dp)
        ⟨[], xs1, upd_same, SameD.new hacc, by rw [upd_ne (Ne.symm had)]; exact hd4, by omega, .nil, rfl, fun t ht => (nomatch ht)⟩ ?_ ?_
      · rintro i ys H' hi ⟨ps, xs', hya, g, hd', hx', hps, hpl, hok⟩
        have hlen := hps.length
        have hi3 : i + 1 ≤ 2 * dp - 1 := by omega
        have hmul : (i + 1) * need e ≤ (2 * dp - 1) * need e := Nat.mul_le_mul_right _ hi3
        have hs : (i + 1) * need e = i * need e + need e := Nat.succ_mul _ _
        have g1' : SameD d H H' := g14.trans g
        refine iteT ⟨_, rfl, _, rfl, _, rfl, _, rfl, _, rfl, _, _, rfl, rfl, d, lc, ln, far, e, xs', ws, ts, nn, pN, ?_, hd', by omega, g1'.seqL hlcd hlc, hts.mono fun _ _ => g1'.seqT hdk, hcl, ht16, hlcd, g1'.seqL hlnd hln, hn5, hnn, hlnd, by omega, by omega, fun v5 H5 t5 xs5 g5 hd5 hx5 hv5 ht5 hl5 => ?_⟩
        · have e1 : (dp : Int) - 1 = (e : Int) := by omega
          show _ = [V.ref d, .ref lc, .ref ln, .int far, .int (e : Int)]
          rw [← e1]; rfl
        have hya5 := g5 _ _ had hya
        have hdk' : Dk H' d := ⟨xs', hd'⟩
        refine comp_next (ys := ys) hi hya5 (by omega) ⟨ps ++ [t5], xs5, upd_same, (g.trans g5).put hacc, by rw [upd_ne (Ne.symm had)]; exact hd5, by omega, ?_, by simp [hpl], fun t ht => ?_⟩
        · exact TmAll.append (hps.mono fun _ _ h => (g5.seqT hdk' h).put hya5) (.cons (hv5.mono fun _ _ h => h.put hya5) .nil)
        · rcases List.mem_append.mp ht with z | z
          · exact hok t z
          · obtain rfl : t = t5 := by simpa using z
            exact ⟨ht5, by omega⟩
      rintro ys H' ⟨ps, xs', hya, g, hd', hx', hps, hpl, hok⟩
      have hc3 : (x / 560 % (2 * (dp : Int))).toNat ≤ 2 * dp - 1 := by omega
      have hmul : (x / 560 % (2 * (dp : Int))).toNat * need e ≤ (2 * dp - 1) * need e := Nat.mul_le_mul_right _ hc3
      exact ⟨acc, ys, ps, xs', rfl, g, hd', by omega, hya, hps, by omega, hok⟩
    · exact ⟨lp, [], [], xs1, rfl, SameD.refl _ _, hd4, by omega, hlp4, .nil, by simp, fun t ht => (nomatch ht)⟩
  rintro σ' H5 ⟨l, us, ps, xs', rfl, g5, hd5, hx5, hl5, hps, hp3, hok⟩
  have hlen := hps.length
  have g15 : SameD d H H5 := g14.trans g5
  have hln5 := g15.seqL hlnd hln
  have y0 : 0 ≤ x / 2240 % 2 := Int.emod_nonneg _ (by decide)
  have y1 : x / 2240 % 2 < 2 := Int.emod_lt_of_pos _ (by decide)
  have hni : (3 + x / 2240 % 2).toNat < nn.length := by omega
  have hat : atI (nn.map V.str) (3 + x / 2240 % 2) = some (.str nn[(3 + x / 2240 % 2).toNat]) := atI_int (by omega) (by rw [List.getElem?_map, List.getElem?_eq_getElem hni]; rfl)
  refine ⟨_, rfl, _, rfl, _, _, rfl, rfl, ⟨by decide, by decide⟩, _, _, rfl, rfl, (by show (0 : Int) < 2; decide), _, _, rfl, rfl, ln, _, _, _, rfl, rfl, hln5, hat, _, rfl, _, _, rfl, rfl, ⟨by decide, by decide⟩, _, _, rfl, rfl, (by show (0 : Int) < 4; decide), rfl, _, rfl, _, rfl, l, us, rfl, .inl ⟨SqL.of hl5, fun pt hpt => ⟨(by show 5 ≤ sizeLine; decide), fun pp hpp => ?_⟩⟩⟩
  have ga := same_new hpt (.tup us)
  have gb := same_new hpp (.tup [.str PUT, .str nn[(3 + x / 2240 % 2).toNat], .bl (decide (V.int (x / 4480 % 4) = V.int 0)), .int add, .ref pt])
  have gab := ga.trans gb
  refine q (.ref pp) _ (.node (.put nn[(3 + x / 2240 % 2).toNat] (decide (V.int (x / 4480 % 4) = V.int 0)) add) 0 ps) xs' (g15.trans (SameD.of gab)) (gab _ _ hd5) (by omega) (.put (SqT.of upd_same) (gb.seqT (SqT.of upd_same)) (hps.mono fun _ _ => gab.seqT) (by omega)) ?_ ?_
  · simp only [TPr]
    exact ⟨hnn _ (List.getElem_mem hni), hp3, (TPrs_iff _ ps).mpr fun b hb => (hok b hb).1⟩
  · simp only [lv]
    have := lvs_all fun b hb => (hok b hb).2
    omega
theorem none_term {k : Nat} : FnOk P w K mg base CX0 k f fd ["_law_xs", "_law_calls_here", "_law_names_here", "_law_far", "_law_deep"] (spTerm K 0) := by
  have no : ∀ vs H Q E, ¬ spTerm K 0 vs H Q E := fun vs H Q E h => by
    obtain ⟨d, lc, ln, far, dp, xs, ws, ts, nn, pN, _, _, _, _, _, _, _, _, _, _, _, _, h0, _⟩ := h
    omega
  exact ⟨fun vs H Q E h => absurd h (no vs H Q E), fun A outer s H args us vs Q E _ _ _ _ h => absurd h (no vs H Q E)⟩
theorem all_term (F : Fun K "_law_term" "_law_term" sTerm f fd) (G : Gm mg) (hb : Binds K fd ["_law_xs", "_law_calls_here", "_law_names_here", "_law_far", "_law_deep"] []) (hm : mg "_law_term" = some (.ref f)) : ∀ n : Nat, FnOk P w K mg base CX0 (n + 1) f fd ["_law_xs", "_law_calls_here", "_law_names_here", "_law_far", "_law_deep"] (spTerm K n)
  | 0 => none_term
  | n + 1 => ok_term F G ⟨f, fd, all_term F G hb hm n, hb, F.kp, hm⟩
end
end K51
namespace K51
open PySem L2 TM TT ST K9 K11
theorem tm_op {K : PySem.W.Frag} {H : Hp} {v : V} {t : Tm} (h : TmV K H v t) : (∃ a m b, v = .ref a ∧ t = .node (.call m b) 0 [] ∧ SqT K H a [.str CALL, .int m, .int b]) ∨
    ∃ a b vs n k ad ts, v = .ref a ∧ t = .node (.put n k ad) 0 ts ∧ SqT K H a [.str PUT, .str n, .bl k, .int ad, .ref b] ∧ SqT K H b vs ∧ TmAll K H vs ts ∧ vs.length ≤ 1000 := by
  cases h with
  | call h => exact .inl ⟨_, _, _, rfl, rfl, h⟩
  | put h1 h2 h3 h4 => exact .inr ⟨_, _, _, _, _, _, _, rfl, rfl, h1, h2, h3, h4⟩
section
variable {P : Program} {w : World} {K : PySem.W.Frag} {mg : Str → Option Value} {base : Heap} {f : Addr} {fd : FuncData}
theorem scUnk : FnScope ["_law_term_here"] ["_law_term_here"] (defScope sUnk) := ⟨rfl, rfl, rfl, by decide +kernel, rfl, by decide +kernel, by decide +kernel⟩
theorem ok_unk {n : Nat} (F : Fun K "_law_unkept" "_law_unkept" sUnk f fd) (G : Gm mg) (R : Fn P w K mg base n "_law_unkept" ["_law_term_here"] (spUnk K n)) : FnOk P w K mg base CX0 (n + 1) f fd ["_law_term_here"] (spUnk K (n + 1)) := by
  refine F.ok scUnk (fun vs H Q E h => ?_) (fun cdv A outer s H vs Q E hr h => ?_)
  · obtain ⟨v, t, p, rfl, _⟩ := h
    rfl
  obtain ⟨v, t, pp0, rfl, ht, htd, hlv, q⟩ := h
  refine ⟨_, (pss_cons (ps_if (pt_cmpR op_eq (pe_ix ix_tup (pv 0) pe_int (fun _ _ => rfl)) pe_str (nomark _)) (pss_one (ps_ret (pv 0))) pss_nil)
    (pss_one (ps_ret (pe_tup (pa_cons (pe_str) (pa_cons (pe_ix ix_tup (pv 0) pe_int (fun _ _ => rfl)) (pa_cons (pe_bl) (pa_cons (pe_ix ix_tup (pv 0) pe_int (fun _ _ => rfl)) (pa_cons (pe_callTy call_tuple_of rfl G.tup PyProof.Rows.boot_tuple (pa_cons (pe_lcompG (CompG.many (xs := ["_law_part"]) (caps := []) (cap := []) (cs := []) rfl rfl (by decide +kernel) (by decide +kernel) (by decide +kernel) (by decide +kernel) (by decide +kernel) (by decide +kernel) rfl rfl rfl) rfl (pi_tup (pe_ix ix_tup (pv 0) pe_int (fun _ _ => rfl))) (pg_c1 (CompG.many (xs := ["_law_part"]) (caps := []) (cap := []) (cs := []) rfl rfl (by decide +kernel) (by decide +kernel) (by decide +kernel) (by decide +kernel) (by decide +kernel) (by decide +kernel) rfl rfl rfl)) (fun _ _ _ _ => pf_nil) (fun _ _ _ _ => pe_fn R hr (pa_cons (pv 0) pa_nil) (Nat.le_refl _))) pa_nil)) pa_nil))))))))), ?_⟩
  have ePC : ¬ V.str PUT = V.str CALL := by decide +kernel
  rcases tm_op ht with ⟨a, m, b, rfl, rfl, h1⟩ | ⟨a, b, bs, nm, k, ad, ts, rfl, rfl, h1, h2, h3, h4⟩
  · exact ⟨_, rfl, a, _, 0, _, rfl, rfl, h1, rfl, rfl, _, rfl, iteP rfl ⟨_, rfl, q _ H _ (Same.refl _) ht htd (Nat.le_refl _) (by simp [kp, kpl, kps])⟩⟩
  refine ⟨_, rfl, a, _, 0, _, rfl, rfl, h1, rfl, rfl, _, rfl, iteN ePC ?_⟩
  have l3 := h3.length
  simp only [TPr] at htd
  simp only [lv] at hlv q
  refine ⟨_, rfl, a, _, 1, _, rfl, rfl, h1, rfl, _, rfl, a, _, 3, _, rfl, rfl, h1, rfl, _, rfl, a, _, 4, _, rfl, rfl, h1, rfl, b, rfl, ⟨_, h2⟩, fun acc hacc => ?_⟩
  refine c1_tup (K := K) (xs := bs) (cs := []) (tt := fun _ H Q => Q true H) (te := tCall (spUnk K n) [] E0 (tCons (tVar 0) tNil)) (fun i ys H' => ∃ us : List Tm, H' acc = some (.lst ys) ∧ Same H H' ∧ TmAll K H' ys us ∧ us.length = i ∧ ∀ u ∈ us, TPr pp0 u ∧ lv u ≤ lvs ts ∧ kp u = false)
    ⟨[], upd_same, same_new hacc _, .nil, rfl, fun t ht => (nomatch ht)⟩ ?_ ?_ ?_
  · rintro i ys H' _ ⟨us, _, g, _⟩
    exact g.seqT h2
  · rintro i x ys H' hi hx ⟨us, hya, g, hus, hul, hok⟩
    have hit : i < ts.length := by omega
    have hlen := hus.length
    obtain ⟨cv, hcv, hct⟩ := h3.get (List.getElem?_eq_getElem hit)
    obtain rfl : cv = x := Option.some.inj (hcv.symm.trans hx)
    have hm := List.getElem_mem hit
    have a1 := lv_le hm
    refine iteT ⟨_, rfl, cv, ts[i], pp0, rfl, hct.mono fun _ _ => g.seqT, (TPrs_iff _ ts).mp htd.2.2 _ hm, by omega, fun v4 H4 t4 g4 hv4 ht4 hl4 hk4 => ?_⟩
    have hya4 := g4 _ _ hya
    refine comp_next (ys := ys) hi hya4 (by omega) ⟨us ++ [t4], upd_same, fun x u e => by rw [upd_ne (ne_of_none e hacc)]; exact g4 _ _ (g _ _ e), ?_, by simp [hul], fun u hu => ?_⟩
    · exact TmAll.append (hus.mono fun _ _ h => (g4.seqT h).put hya4) (.cons (hv4.mono fun _ _ h => h.put hya4) .nil)
    · rcases List.mem_append.mp hu with z | z
      · exact hok u z
      · have : u = t4 := by simpa using z
        rw [this]; exact ⟨ht4, by omega, hk4⟩
  rintro ys H4 ⟨us, hya, g4, hus, hul, hok⟩
  have hlen := hus.length
  refine ⟨acc, ys, rfl, .inl ⟨SqL.of hya, fun pt hpt => ⟨(by show 5 ≤ sizeLine; decide), fun pp hpp => ?_⟩⟩⟩
  have ga := same_new hpt (.tup ys)
  have gb := same_new hpp (.tup [.str PUT, .str nm, .bl false, .int ad, .ref pt])
  have gab := ga.trans gb
  refine q (.ref pp) _ (.node (.put nm false ad) 0 us) (g4.trans gab) (.put (SqT.of upd_same) (gb.seqT (SqT.of upd_same)) (hus.mono fun _ _ => gab.seqT) (by omega)) ?_ ?_ ?_
  · simp only [TPr]
    exact ⟨htd.1, by omega, (TPrs_iff _ us).mpr fun b hb => (hok b hb).1⟩
  · simp only [lv]
    have := lvs_all fun b hb => (hok b hb).2.1
    omega
  · simp only [kp, kpl, Bool.false_or]
    rw [kps_any]
    cases e : (us.map kp).any id with
    | false => rfl
    | true =>
      rw [List.any_map, List.any_eq_true] at e
      obtain ⟨u, hu, e2⟩ := e
      have e3 : kp u = true := e2
      rw [(hok u hu).2.2] at e3; cases e3
theorem none_unk {k : Nat} : FnOk P w K mg base CX0 k f fd ["_law_term_here"] (spUnk K 0) := by
  have no : ∀ vs H Q E, ¬ spUnk K 0 vs H Q E := fun vs H Q E h => by
    obtain ⟨v, t, p, _, _, _, h0, _⟩ := h
    rw [lv_bs] at h0; omega
  exact ⟨fun vs H Q E h => absurd h (no vs H Q E), fun A outer s H args us vs Q E _ _ _ _ h => absurd h (no vs H Q E)⟩
theorem all_unk (F : Fun K "_law_unkept" "_law_unkept" sUnk f fd) (G : Gm mg) (hb : Binds K fd ["_law_term_here"] []) (hm : mg "_law_unkept" = some (.ref f)) : ∀ n : Nat, FnOk P w K mg base CX0 n f fd ["_law_term_here"] (spUnk K n)
  | 0 => none_unk
  | n + 1 => ok_unk F G ⟨f, fd, all_unk F G hb hm n, hb, F.kp, hm⟩
end
def spAgain (K : PySem.W.Frag) : Sp := fun vs H Q _ => ∃ (tu wd lm : Addr) (sv : V) (ks : List KdT) (st : Tm) (ms : List MdT), vs = [.ref tu] ∧ TurnD K H tu wd lm sv ks st ms ∧ WoodOk ks ∧ ms.length ≤ 10 ∧
  ∀ (tu' wd' lm' : Addr) (hs : List KdT) (ms' : List MdT) (H' : Hp), Same H H' → TurnD K H' tu' wd' lm' sv hs st ms' → hs.map keyW = ks.map keyW → ms'.map MdT.md = ms.map MdT.md → Q (.ref tu') H'
abbrev rLstOf (K : PySem.W.Frag) : List V → Hp → VK → Prop := fun xs H Q => ∃ p ys, xs = [.ref p] ∧ (SqL K H p ys ∨ SqT K H p ys) ∧ ∀ l, H l = none → Q (.ref l) (upd H l (.lst ys))
section
variable {P : Program} {w : World} {K : PySem.W.Frag} {mg : Str → Option Value} {base : Heap} {f : Addr} {fd : FuncData}
theorem scAgain : FnScope ["_law_turning_here", "_law_wood_here"] ["_law_turning_here"] (defScope sAgain) := ⟨rfl, rfl, rfl, by decide +kernel, rfl, by decide +kernel, by decide +kernel⟩
theorem ok_again (F : Fun K "_law_again" "_law_again" sAgain f fd) (G : Gm mg) : FnOk P w K mg base CX0 1 f fd ["_law_turning_here"] (spAgain K) := by
  refine F.ok scAgain (fun vs H Q E h => ?_) (fun cdv A outer s H vs Q E hr h => ?_)
  · obtain ⟨tu, wd, lm, sv, ks, st, ms, rfl, _⟩ := h
    rfl
  obtain ⟨tu, wd, lm, sv, ks, st, ms, rfl, hT, hO, hm10, q⟩ := h
  refine ⟨_, (pss_cons (ps_setG (i := 1) (CompG.many (xs := ["_law_kind", "_law_rows_here"]) (caps := []) (cap := []) (cs := []) rfl rfl (by decide +kernel) (by decide +kernel) (by decide +kernel) (by decide +kernel) (by decide +kernel) (by decide +kernel) rfl rfl rfl) rfl (pi_list (pe_ix ix_tup (pv 0) pe_int (fun _ _ => rfl))) (pg_c2 (CompG.many (xs := ["_law_kind", "_law_rows_here"]) (caps := []) (cap := []) (cs := []) rfl rfl (by decide +kernel) (by decide +kernel) (by decide +kernel) (by decide +kernel) (by decide +kernel) (by decide +kernel) rfl rfl rfl) rfl) (fun _ _ _ _ => pf_nil) (fun _ _ _ _ => (pe_tup (pa_cons (pv 0) (pa_cons (pe_callTy (r := rLstOf K) call_list_of rfl G.lst PyProof.Rows.boot_list (pa_cons (pv 1) pa_nil)) pa_nil)))) scAgain.nd rfl rfl)
    (pss_one (ps_ret (pe_tup (pa_cons (pv 1) (pa_cons (pe_ix ix_tup (pv 0) pe_int (fun _ _ => rfl)) (pa_cons (pe_lcompG (CompG.many (xs := ["_law_kind", "_law_rules"]) (caps := []) (cap := []) (cs := []) rfl rfl (by decide +kernel) (by decide +kernel) (by decide +kernel) (by decide +kernel) (by decide +kernel) (by decide +kernel) rfl rfl rfl) rfl (pi_list (pe_ix ix_tup (pv 0) pe_int (fun _ _ => rfl))) (pg_c2 (CompG.many (xs := ["_law_kind", "_law_rules"]) (caps := []) (cap := []) (cs := []) rfl rfl (by decide +kernel) (by decide +kernel) (by decide +kernel) (by decide +kernel) (by decide +kernel) (by decide +kernel) rfl rfl rfl) rfl) (fun _ _ _ _ => pf_nil) (fun _ _ _ _ => (pe_tup (pa_cons (pv 0) (pa_cons (pe_callTy (r := rLstOf K) call_list_of rfl G.lst PyProof.Rows.boot_list (pa_cons (pv 1) pa_nil)) pa_nil))))) pa_nil))))))), ?_⟩
  refine ⟨_, rfl, tu, _, 0, _, rfl, rfl, hT.tu, rfl, wd, rfl, ⟨_, hT.w.1⟩, fun lx hlx => ?_⟩
  refine c2_list (K := K) (xs := ks.map fun k => V.ref k.1) (cs := []) (tt := fun _ H Q => Q true H) (te := tTup (tCons (tVar 0) (tCons (tCB (rLstOf K) (tCons (tVar 1) tNil)) tNil))) (fun j ys H' => ∃ hs : List KdT, ys = hs.map (fun k => V.ref k.1) ∧ hs.map keyW = (ks.take j).map keyW ∧ (∀ k ∈ hs, SqT K H' k.1 [.str k.2.1, .ref k.2.2.1] ∧ (H' k.2.2.1 = some (.lst (k.2.2.2.map fun t => V.ref t.1)) ∧ k.2.2.1 ≠ lx) ∧ ∀ t ∈ k.2.2.2, RowAt K H' t) ∧ H' lx = some (.lst ys) ∧ Same H H')
    ⟨[], rfl, rfl, fun k hk => (nomatch hk), upd_same, same_new hlx _⟩ ?_ ?_ ?_
  · rintro j ys H' _ ⟨hs, _, _, _, _, g⟩
    exact (hT.w.same g).1
  · rintro j x ys H' hj hx ⟨hs, rfl, hkey, hat, hya, g⟩
    have hjk : j < ks.length := by simpa using hj
    obtain rfl : x = .ref ks[j].1 := by
      rw [List.getElem?_map, List.getElem?_eq_getElem hjk] at hx
      exact (Option.some.inj hx).symm
    obtain ⟨hk1, hkr⟩ := (hT.w.same g).2 _ (List.getElem_mem hjk)
    have hhl : hs.length = j := by
      have := congrArg List.length hkey
      rw [List.length_map, List.length_map, List.length_take] at this
      omega
    have hkl := hO.len
    refine ⟨ks[j].1, _, _, rfl, hk1, iteT ⟨_, rfl, _, rfl, ks[j].2.2.1, _, rfl, .inl hkr.1, fun l2 hl2 => ⟨(by show 2 ≤ sizeLine; decide), fun p2 hp2 => ?_⟩⟩⟩
    have e1 := same_new hl2 (.lst (ks[j].2.2.2.map fun t => V.ref t.1))
    have e2 := same_new hp2 (.tup [.str ks[j].2.1, .ref l2])
    have e12 := e1.trans e2
    have hya2 := e12 _ _ hya
    have hl2x : l2 ≠ lx := fun z => by rw [z, hya] at hl2; cases hl2
    refine comp_next (ys := hs.map fun k => V.ref k.1) hj hya2 (by rw [List.length_map]; omega) ⟨hs ++ [(p2, ks[j].2.1, l2, ks[j].2.2.2)], by simp, ?_, fun k hk => ?_, upd_same, fun x u e => by rw [upd_ne (ne_of_none e hlx)]; exact e12 _ _ (g _ _ e)⟩
    · rw [List.map_append, hkey, List.take_add_one, List.getElem?_eq_getElem hjk, List.map_append]
      rfl
    · rcases List.mem_append.mp hk with z | z
      · obtain ⟨a1, ⟨a2, a3⟩, a4⟩ := hat k z
        exact ⟨(e12.seqT a1).put hya2, ⟨by rw [upd_ne a3]; exact e12 _ _ a2, a3⟩, fun t ht => ⟨(e12.seqT (a4 t ht).1).put hya2, (e12.seqT (a4 t ht).2).put hya2⟩⟩
      · have : k = (p2, ks[j].2.1, l2, ks[j].2.2.2) := by simpa using z
        rw [this]
        refine ⟨SqT.put (SqT.of upd_same) hya2, ⟨by rw [upd_ne hl2x]; exact e2 _ _ upd_same, hl2x⟩, fun t ht => ⟨(e12.seqT (hkr.2 t ht).1).put hya2, (e12.seqT (hkr.2 t ht).2).put hya2⟩⟩
  rintro ys H1 ⟨hs, rfl, hkey, hat, hya, g1⟩
  rw [List.length_map, List.take_length] at hkey
  have hWH : WoodAt K H1 lx hs := ⟨SqL.of hya, fun k hk => by
    obtain ⟨a1, ⟨a2, _⟩, a4⟩ := hat k hk
    exact ⟨a1, SqL.of a2, a4⟩⟩
  have hT1 := hT.same g1
  refine ⟨_, rfl, _, rfl, tu, _, 1, _, rfl, rfl, hT1.tu, rfl, _, rfl, tu, _, 2, _, rfl, rfl, hT1.tu, rfl, lm, rfl, ⟨_, hT1.m.1⟩, fun ly hly => ?_⟩
  refine c2_list (K := K) (xs := ms.map fun k => V.ref k.1) (cs := []) (tt := fun _ H Q => Q true H) (te := tTup (tCons (tVar 0) (tCons (tCB (rLstOf K) (tCons (tVar 1) tNil)) tNil))) (fun j ys H' => ∃ ns : List MdT, ys = ns.map (fun k => V.ref k.1) ∧ ns.map MdT.md = (ms.take j).map MdT.md ∧ (∀ m ∈ ns, SqT K H' m.1 [.str m.2.1, .ref m.2.2.1] ∧ (H' m.2.2.1 = some (.lst m.2.2.2.1) ∧ m.2.2.1 ≠ ly) ∧ TmAll K H' m.2.2.2.1 m.2.2.2.2) ∧ H' ly = some (.lst ys) ∧ Same H1 H')
    ⟨[], rfl, rfl, fun k hk => (nomatch hk), upd_same, same_new hly _⟩ ?_ ?_ ?_
  · rintro j ys H' _ ⟨hs, _, _, _, _, g⟩
    exact (hT1.m.same g).1
  · rintro j x ys H' hj hx ⟨ns, rfl, hkm, hat, hyb, g⟩
    have hjk : j < ms.length := by simpa using hj
    obtain rfl : x = .ref ms[j].1 := by
      rw [List.getElem?_map, List.getElem?_eq_getElem hjk] at hx
      exact (Option.some.inj hx).symm
    obtain ⟨hk1, hk2, hk3⟩ := (hT1.m.same g).2 _ (List.getElem_mem hjk)
    have hhl : ns.length = j := by
      have := congrArg List.length hkm
      rw [List.length_map, List.length_map, List.length_take] at this
      omega
    refine ⟨ms[j].1, _, _, rfl, hk1, iteT ⟨_, rfl, _, rfl, ms[j].2.2.1, _, rfl, .inl hk2, fun l2 hl2 => ⟨(by show 2 ≤ sizeLine; decide), fun p2 hp2 => ?_⟩⟩⟩
    have e1 := same_new hl2 (.lst ms[j].2.2.2.1)
    have e2 := same_new hp2 (.tup [.str ms[j].2.1, .ref l2])
    have e12 := e1.trans e2
    have hyb2 := e12 _ _ hyb
    have hl2x : l2 ≠ ly := fun z => by rw [z, hyb] at hl2; cases hl2
    refine comp_next (ys := ns.map fun k => V.ref k.1) hj hyb2 (by rw [List.length_map]; omega) ⟨ns ++ [(p2, ms[j].2.1, l2, ms[j].2.2.2.1, ms[j].2.2.2.2)], by simp, ?_, fun k hk => ?_, upd_same, fun x u e => by rw [upd_ne (ne_of_none e hly)]; exact e12 _ _ (g _ _ e)⟩
    · rw [List.map_append, hkm, List.take_add_one, List.getElem?_eq_getElem hjk, List.map_append]
      rfl
    · rcases List.mem_append.mp hk with z | z
      · obtain ⟨a1, ⟨a2, a3⟩, a4⟩ := hat k z
        exact ⟨(e12.seqT a1).put hyb2, ⟨by rw [upd_ne a3]; exact e12 _ _ a2, a3⟩, a4.mono fun _ _ h => (e12.seqT h).put hyb2⟩
      · have : k = (p2, ms[j].2.1, l2, ms[j].2.2.2.1, ms[j].2.2.2.2) := by simpa using z
        rw [this]
        exact ⟨SqT.put (SqT.of upd_same) hyb2, ⟨by rw [upd_ne hl2x]; exact e2 _ _ upd_same, hl2x⟩, hk3.mono fun _ _ h => (e12.seqT h).put hyb2⟩
  rintro ys H2 ⟨ns, rfl, hkm, hat2, hyb, g2⟩
  rw [List.length_map, List.take_length] at hkm
  refine ⟨(by show 3 ≤ sizeLine; decide), fun p hp => ?_⟩
  have k3 := same_new hp (.tup [.ref lx, sv, .ref ly])
  have g23 := g2.trans k3
  exact q p lx ly hs ns _ (g1.trans g23) ⟨SqT.of upd_same, hWH.same g23, hT1.s.mono fun _ _ => g23.seqT, ⟨SqL.of (k3 _ _ hyb), fun m hm => by
    obtain ⟨a1, ⟨a2, _⟩, a4⟩ := hat2 m hm
    exact ⟨k3.seqT a1, SqL.of (k3 _ _ a2), a4.mono fun _ _ => k3.seqT⟩⟩⟩ hkey hkm
end
end K51
namespace K51
open PySem L2 TM TT ST K9 K11
def tCutE (t : TE) : TE := fun σ H Q => ∃ R : VK, t σ H R ∧ ∀ v H', R v H' → Q v H'
theorem pe_cut {X : Cx} {e : Expr} {t : TE} (h : PE X e t) : PE X e (tCutE t) := by
  intro pins s σ H Q I hw
  obtain ⟨R, k1, k2⟩ := hw
  exact thn (h pins s σ H R I k1) fun u s1 ⟨x, H1, I1, r1, q1⟩ => ⟨x, H1, I1, r1, k2 x H1 q1⟩
abbrev rLenS (K : PySem.W.Frag) : List V → Hp → VK → Prop := fun xs H Q => ∃ p ys, xs = [.ref p] ∧ (SqL K H p ys ∨ SqT K H p ys) ∧ Q (.int (ys.length : Int)) H
structure WD (ks : List KdT) : Prop where
  ok : WoodOk ks
  pos : 0 < ks.length
  three : ks.length ≤ 3
  nm : ∀ k ∈ ks, PyData.strOk k.2.1 = true
  rws : ∀ k ∈ ks, 0 < k.2.2.2.length ∧ k.2.2.2.length ≤ 3
def spWood (K : PySem.W.Frag) : Sp := fun vs H Q _ => ∃ (a : Addr) (ns : List Int), vs = [.ref a] ∧ SqL K H a (ns.map V.int) ∧ ∀ (wd : Addr) (ks : List KdT) (H' : Hp), Same H H' → WoodAt K H' wd ks → WD ks → Q (.ref wd) H'
def KdAt (K : PySem.W.Frag) (H : Hp) (d lw : Addr) (k : KdT) : Prop := SqT K H k.1 [.str k.2.1, .ref k.2.2.1] ∧ H k.2.2.1 = some (.lst (k.2.2.2.map fun t => V.ref t.1)) ∧ k.2.2.1 ≠ d ∧ k.2.2.1 ≠ lw ∧ ∀ t ∈ k.2.2.2, RowAt K H t
def rix (first : Int) (q : Nat) : Int := match q with
  | 0 => 3 + first
  | q + 1 => 3 + (first + (q : Int) + 1) % 6
theorem rix_lt {first : Int} (h0 : 0 ≤ first) (h1 : first < 6) (q : Nat) : 0 ≤ rix first q ∧ rix first q < 9 := by
  cases q with
  | zero => simp only [rix]; omega
  | succ q => simp only [rix]; omega
theorem rix_inj {first : Int} (h0 : 0 ≤ first) (h1 : first < 6) {p q : Nat} (hp : p < 3) (hq : q < 3) (e : rix first p = rix first q) : p = q := by
  match p, q, hp, hq with
  | 0, 0, _, _ => rfl
  | 0, 1, _, _ => simp only [rix] at e; omega
  | 0, 2, _, _ => simp only [rix] at e; omega
  | 1, 0, _, _ => simp only [rix] at e; omega
  | 1, 1, _, _ => rfl
  | 1, 2, _, _ => simp only [rix] at e; omega
  | 2, 0, _, _ => simp only [rix] at e; omega
  | 2, 1, _, _ => simp only [rix] at e; omega
  | 2, 2, _, _ => rfl
def RowsF (c first : Int) (rs : List PNx) : Prop := rs.map (fun r => r.2.1) = (List.range rs.length).map (fun (q : Nat) => pn c (rix first q)) ∧ ∀ r ∈ rs, (∀ x ∈ r.2.2.2, PyData.strOk x = true) ∧ r.2.2.2.length ≤ 3
theorem rowsF_ok {c first : Int} {rs out : List PNx} (h : RowsF c first rs) (h0 : 0 ≤ first) (h1 : first < 6) (hl : rs.length ≤ 3) (hp : out.Perm rs) : RowsOk out := by
  have nd : (rs.map fun r => r.2.1).Nodup := by
    rw [h.1, List.nodup_iff_pairwise_ne, List.pairwise_map]
    refine List.Pairwise.imp_of_mem (fun {i j} hi hj hne e => hne ?_) (List.nodup_iff_pairwise_ne.mp List.nodup_range)
    have hi' := List.mem_range.mp hi
    have hj' := List.mem_range.mp hj
    have a := rix_lt h0 h1 i
    have b := rix_lt h0 h1 j
    exact rix_inj h0 h1 (by omega) (by omega) (pn_inj a.1 (by omega) b.1 (by omega) e)
  have hlen := hp.length_eq
  refine ⟨(hp.map _).nodup_iff.mpr nd, by omega, fun r hr => ?_, fun r hr x hx => (h.2 r (hp.mem_iff.mp hr)).1 x hx, fun r hr => Nat.le_trans (h.2 r (hp.mem_iff.mp hr)).2 (by decide)⟩
  have : r.2.1 ∈ rs.map fun r => r.2.1 := List.mem_map.mpr ⟨r, hp.mem_iff.mp hr, rfl⟩
  rw [h.1] at this
  obtain ⟨q, _, e⟩ := List.mem_map.mp this
  rw [← e]; exact pn_ok _ _
theorem dropL (xs : List Int) : (NI xs).dropLast = NI xs.dropLast := by
  show (xs.map V.int).dropLast = xs.dropLast.map V.int
  rw [List.map_dropLast]
theorem rix_at {c first : Int} (h0 : 0 ≤ first) (h1 : first < 6) (q : Nat) : atI ((pns c 9).map V.str) (rix first q) = some (.str (pn c (rix first q))) := by
  obtain ⟨a, b⟩ := rix_lt h0 h1 q
  have e : ((rix first q).toNat : Int) = rix first q := by omega
  refine atI_int a ?_
  rw [List.getElem?_map, List.getElem?_map, List.getElem?_range (by omega)]
  show some (V.str (pn c (((rix first q).toNat : Nat) : Int))) = _
  rw [e]
theorem asG {G0 : Prop} (h : ∀ G : Prop, (G0 → G) → G) : G0 := h G0 fun z => z
theorem cutK {t : TS} {nx : L2.St → Hp → Prop} {rt : VK} {bk ct : L2.St → Hp → Prop} {σ : L2.St} {H : Hp} (h : ∀ K : L2.St → Hp → Prop, (∀ σ' H', nx σ' H' → K σ' H') → t ⟨K, rt, bk, ct⟩ σ H) : tCut t ⟨nx, rt, bk, ct⟩ σ H := ⟨nx, h nx (fun _ _ z => z), fun _ _ z => z⟩
theorem cutS {t : TS} {nx : L2.St → Hp → Prop} {rt : VK} {bk ct : L2.St → Hp → Prop} {σ : L2.St} {H : Hp} (R : L2.St → Hp → Prop) (h : t ⟨R, rt, bk, ct⟩ σ H) (k : ∀ σ' H', R σ' H' → nx σ' H') : tCut t ⟨nx, rt, bk, ct⟩ σ H := ⟨R, h, k⟩
section
variable {P : Program} {w : World} {K : PySem.W.Frag} {mg : Str → Option Value} {base : Heap} {f : Addr} {fd : FuncData}
theorem scWood : FnScope ["_law_script", "_law_names_here", "_law_xs", "_law_kinds", "_law_wood_here", "_law_kind", "_law_first", "_law_rows_here", "_law_k", "_law_branches", "_law_j"] ["_law_script"] (defScope sWood) := ⟨rfl, rfl, rfl, by decide +kernel, rfl, by decide +kernel, by decide +kernel⟩
theorem ok_wood (F : Fun K "_law_wood" "_law_wood" sWood f fd) (G : Gm mg) (RC : Fn P w K mg base 1 "_law_cell_at" ["_law_script", "_law_k"] (spCell K)) (RS : Fn P w K mg base 1 "_law_stream" ["_law_cell", "_law_count"] spStream) (RN : Fn P w K mg base 1 "_law_names" ["_law_cell", "_law_count"] spNames) : FnOk P w K mg base CX0 2 f fd ["_law_script"] (spWood K) := by
  refine F.ok scWood (fun vs H Q E h => ?_) (fun cdv A outer s H vs Q E hr h => ?_)
  · obtain ⟨a, ns, rfl, _⟩ := h
    rfl
  obtain ⟨a, ns, rfl, hS, q⟩ := h
  refine ⟨_, (pss_cons (ps_cut (ps_set (i := 1) scWood.nd rfl (Or.inl rfl) (pe_fn RN hr (pa_cons (pe_fn RC hr (pa_cons (pv 0) (pa_cons (pe_int) pa_nil))) (pa_cons (pe_int) pa_nil)))))
    (pss_cons (ps_cut (ps_set (i := 2) scWood.nd rfl (Or.inl rfl) (pe_fn RS hr (pa_cons (pe_fn RC hr (pa_cons (pv 0) (pa_cons (pe_int) pa_nil))) (pa_cons (pe_int) pa_nil)))))
    (pss_cons (ps_cut (ps_set (i := 3) scWood.nd rfl (Or.inl rfl) (pe_slice sl_list (pv 1) po_none (po_some (pe_op op_add pe_int (pe_op op_mod (pe_ix ix_list (pv 2) pe_int (fun _ _ => rfl)) pe_int))))))
    (pss_cons (ps_cut (ps_set (i := 4) scWood.nd rfl (Or.inl rfl) (pe_lst pa_nil)))
    (pss_cons (ps_for PassesOwn.never rfl (pi_list (pv 3)) (pg_name (i := 5) scWood.nd rfl (Or.inl rfl)) (pss_cons (ps_cut (ps_set (i := 6) scWood.nd rfl (Or.inl rfl) (pe_op op_mod (pe_bm0 PySem.F.plainAttrs_list PySem.F.slot_list_pop PySem.F.type_list_pop mt_pop (pv 2)) pe_int)))
    (pss_cons (ps_cut (ps_set (i := 7) scWood.nd rfl (Or.inl rfl) (pe_lst (pa_cons ((pe_tup (pa_cons (pe_ix ix_list (pv 1) (pe_op op_add pe_int (pv 6)) (fun _ _ => rfl)) (pa_cons (pe_tup pa_nil) pa_nil)))) pa_nil))))
    (pss_cons (ps_for PassesOwn.never rfl (pi_range1 rfl G.rng (pa_cons (pe_cut (pe_ix ix_list (pe_lst (pa_cons (pe_int) (pa_cons (pe_int) (pa_cons (pe_int) (pa_cons (pe_int) pa_nil))))) (pe_op op_mod (pe_bm0 PySem.F.plainAttrs_list PySem.F.slot_list_pop PySem.F.type_list_pop mt_pop (pv 2)) pe_int) (fun _ _ => rfl))) pa_nil)) (pg_name (i := 8) scWood.nd rfl (Or.inl rfl)) (pss_cons (ps_set (i := 9) scWood.nd rfl (Or.inl rfl) (pe_lst pa_nil))
    (pss_cons (ps_for PassesOwn.never rfl (pi_range1 rfl G.rng (pa_cons (pe_op op_mod (pe_bm0 PySem.F.plainAttrs_list PySem.F.slot_list_pop PySem.F.type_list_pop mt_pop (pv 2)) pe_int) pa_nil)) (pg_name (i := 10) scWood.nd rfl (Or.inl rfl)) (pss_one (ps_expr (pe_bm PySem.F.plainAttrs_list PySem.F.slot_list_append PySem.F.type_list_append mt_append (pv 9) (pa_cons (pe_ix ix_list (pv 3) (pe_op op_mod (pe_bm0 PySem.F.plainAttrs_list PySem.F.slot_list_pop PySem.F.type_list_pop mt_pop (pv 2)) (pe_callB call_len_seq rfl G.len PySem.boot_len (pa_cons (pv 3) pa_nil))) (fun _ _ => rfl)) pa_nil)))))
    (pss_one (ps_expr (pe_bm PySem.F.plainAttrs_list PySem.F.slot_list_append PySem.F.type_list_append mt_append (pv 7) (pa_cons ((pe_tup (pa_cons (pe_ix ix_list (pv 1) (pe_op op_add pe_int (pe_op op_mod (pe_op op_add (pe_op op_add (pv 6) (pv 8)) pe_int) pe_int)) (fun _ _ => rfl)) (pa_cons (pe_callTy call_tuple_of rfl G.tup PyProof.Rows.boot_tuple (pa_cons (pv 9) pa_nil)) pa_nil)))) pa_nil)))))))
    (pss_one (ps_expr (pe_bm PySem.F.plainAttrs_list PySem.F.slot_list_append PySem.F.type_list_append mt_append (pv 4) (pa_cons ((pe_tup (pa_cons (pv 5) (pa_cons (pe_callB (call_sortedN (hr.fit (by decide))) rfl G.srt PyProof.Rows.boot_sorted (pa_cons (pv 7) pa_nil)) pa_nil)))) pa_nil))))))))
    (pss_one (ps_ret (pv 4)))))))), ?_⟩
  refine cutK fun KK hKK => ?_
  refine ⟨_, rfl, a, ns, 0, rfl, hS, _, 9, rfl, by decide, fun ln H1 g1 hln0 hln => ?_⟩
  generalize (ns[0]?).getD 0 = c at hln ⊢
  refine hKK _ _ ?_
  clear hKK KK
  refine cutK fun KK hKK => ?_
  refine ⟨_, rfl, a, ns, 1, rfl, g1.seq hS, _, 32, rfl, by decide, fun d xs H2 g2 hd0 hd hxl hx0 => ?_⟩
  refine hKK _ _ ?_
  clear hKK KK
  refine cutK fun KK hKK => ?_
  have hln2 := g2 _ _ hln
  have g12 := g1.trans g2
  have hx00 : 0 < xs.length := by omega
  refine asG fun G' hG' => ?_
  obtain ⟨x0, hx0'⟩ : ∃ x0 : Int, xs[0]? = some x0 := ⟨_, List.getElem?_eq_getElem hx00⟩
  refine hG' ?_
  clear hG' G'
  have hat0 : atI (xs.map V.int) 0 = some (.int x0) := atI_nat (j := 0) (by rw [List.getElem?_map, hx0']; rfl)
  refine ⟨_, rfl, _, rfl, d, _, 0, _, rfl, rfl, SqL.of hd, hat0, _, _, rfl, rfl, (by show (0 : Int) < 3; decide), _, _, rfl, rfl, _, rfl, ln, _, rfl, SqL.of hln2, fun lk hlk => ?_⟩
  have z0 : 0 ≤ x0 % 3 := Int.emod_nonneg _ (by decide)
  have z1 : x0 % 3 < 3 := Int.emod_lt_of_pos _ (by decide)
  refine asG fun G' hG' => ?_
  obtain ⟨m, hm, m1, m3⟩ : ∃ m : Nat, 1 + x0 % 3 = (m : Int) ∧ 1 ≤ m ∧ m ≤ 3 := ⟨(1 + x0 % 3).toNat, by omega, by omega, by omega⟩
  refine hG' ?_
  clear hG' G'
  rw [hm, cutTo]
  refine asG fun G' hG' => ?_
  obtain ⟨kn, ekn⟩ : ∃ kn, kn = (pns c 9).take m := ⟨_, rfl⟩
  refine hG' ?_
  clear hG' G'
  have ekv : ((pns c 9).map V.str).take m = kn.map V.str := by rw [ekn, List.map_take]
  rw [ekv]
  refine hKK _ _ ?_
  clear hKK KK
  have hkl : kn.length = m := by rw [ekn, List.length_take, List.length_map, List.length_range]; omega
  have hknd : kn.Nodup := by
    rw [ekn]
    refine List.Nodup.sublist (List.take_sublist _ _) ?_
    rw [List.nodup_iff_pairwise_ne, List.pairwise_map]
    refine List.Pairwise.imp_of_mem (fun {i j} hi hj hne e => hne ?_) (List.nodup_iff_pairwise_ne.mp List.nodup_range)
    have hi' := List.mem_range.mp hi
    have hj' := List.mem_range.mp hj
    have := pn_inj (c := c) (k := (i : Int)) (k' := (j : Int)) (by omega) (by omega) (by omega) (by omega) e
    omega
  have hkok : ∀ x ∈ kn, PyData.strOk x = true := fun x hx => by
    rw [ekn] at hx
    obtain ⟨i, _, rfl⟩ := List.mem_map.mp (List.mem_of_mem_take hx)
    exact pn_ok _ _
  have gk := same_new hlk (.lst (kn.map V.str))
  refine cutK fun KK hKK => ?_
  refine ⟨(by show 0 ≤ sizeLine; decide), fun lw hlw => ?_⟩
  refine hKK _ _ ?_
  clear hKK KK
  have gw := same_new hlw (.lst [])
  have gkw := gk.trans gw
  have hlw3 : (upd (upd H2 lk (.lst (kn.map V.str))) lw (.lst [])) lw = some (.lst []) := upd_same
  have hlk3 := gw _ _ (show (upd H2 lk (.lst (kn.map V.str))) lk = _ from upd_same)
  have hd3 := gkw _ _ hd
  have hln3 := gkw _ _ hln2
  have gH3 := g12.trans gkw
  have hdH : H d = none := g1.free hd0
  have hlwH : H lw = none := (g12.trans gk).free hlw
  have dln : d ≠ ln := fun z => by rw [z, hln] at hd0; cases hd0
  have dlk : d ≠ lk := fun z => by rw [← z, hd] at hlk; cases hlk
  have dlw : d ≠ lw := fun z => by rw [← z, gk _ _ hd] at hlw; cases hlw
  have lwln : lw ≠ ln := fun z => by rw [z, gk _ _ hln2] at hlw; cases hlw
  have lwlk : lw ≠ lk := fun z => by rw [z, upd_same] at hlw; cases hlw
  generalize upd (upd H2 lk (.lst (kn.map V.str))) lw (.lst []) = H3 at hlw3 hlk3 hd3 hln3 gH3 ⊢
  refine ⟨_, rfl, lk, rfl, ⟨_, SqL.of hlk3⟩, ?_⟩
  refine for_list (K := K) (xs := kn.map V.str) (fun i σ H' => ∃ (ks : List KdT) (xs' : List Int) (c5 c6 c7 c8 c9 c10 : Option V), σ = [some (.ref a), some (.ref ln), some (.ref d), some (.ref lk), some (.ref lw), c5, c6, c7, c8, c9, c10] ∧ Same H H' ∧ H' ln = some (.lst ((pns c 9).map V.str)) ∧ H' lk = some (.lst (kn.map V.str)) ∧ H' d = some (.lst (NI xs')) ∧ 32 ≤ xs'.length + 10 * i ∧ H' lw = some (.lst (ks.map fun k => V.ref k.1)) ∧ ks.map (fun k => k.2.1) = kn.take i ∧ ∀ k ∈ ks, KdAt K H' d lw k ∧ RowsOk k.2.2.2 ∧ 0 < k.2.2.2.length ∧ k.2.2.2.length ≤ 3)
    ⟨[], xs, none, none, none, none, none, none, rfl, gH3, hln3, hlk3, hd3, by omega, hlw3, rfl, fun k hk => (nomatch hk)⟩ ?_ ?_ ?_
  · rintro i σ H' _ ⟨_, _, _, _, _, _, _, _, _, _, _, h, _⟩
    exact SqL.of h
  · intro i x σ H' hx hinv
    refine asG fun G' hG' => ?_
    obtain ⟨ks, xs', c5, c6, c7, c8, c9, c10, rfl, g, hln', hlk', hd', hxl', hlw', hkk, hat⟩ := hinv
    refine hG' ?_
    clear hG' G'
    have hik : i < kn.length := by have := (List.getElem?_eq_some_iff.mp hx).1; simpa using this
    obtain rfl : x = .str kn[i] := by
      rw [List.getElem?_map, List.getElem?_eq_getElem hik] at hx
      exact (Option.some.inj hx).symm
    refine asG fun G' hG' => ?_
    obtain ⟨x1, hx1⟩ := last_int (xs := xs') (by omega)
    refine hG' ?_
    clear hG' G'
    refine cutK fun KK hKK => ?_
    refine ⟨_, rfl, .inl ⟨rfl, _, SqL.of hd'⟩, d, _, _, rfl, rfl, hd', hx1, _, _, rfl, rfl, (by show (0 : Int) < 6; decide), ?_⟩
    show gName 6 (V.int (x1 % 6)) _ _ _
    have f0 : 0 ≤ x1 % 6 := Int.emod_nonneg _ (by decide)
    have f1 : x1 % 6 < 6 := Int.emod_lt_of_pos _ (by decide)
    generalize x1 % 6 = first at f0 f1 ⊢
    rw [dropL]
    have ga : SameD d H' (upd H' d (.lst (NI xs'.dropLast))) := fun b u hb e => by rw [upd_ne hb]; exact e
    have hxa : xs'.dropLast.length + 1 = xs'.length := by rw [List.length_dropLast]; omega
    have hda : (upd H' d (.lst (NI xs'.dropLast))) d = some (.lst (NI xs'.dropLast)) := upd_same
    have hnone : ∀ b, (upd H' d (.lst (NI xs'.dropLast))) b = none → H' b = none := fun b hb => by
      by_cases z : b = d
      · rw [z, upd_same] at hb; cases hb
      · rw [upd_ne z] at hb; exact hb
    generalize upd H' d (.lst (NI xs'.dropLast)) = Ha at ga hda hnone ⊢
    generalize xs'.dropLast = xa at hxa hda
    refine hKK _ _ ?_
    clear hKK KK
    refine cutK fun KK hKK => ?_
    have hlna := ga _ _ (Ne.symm dln) hln'
    refine ⟨_, rfl, _, rfl, _, _, rfl, rfl, ln, _, _, _, rfl, rfl, SqL.of hlna, rix_at (c := c) f0 f1 0, (by show 0 ≤ sizeLine; decide), fun pe hpe => ⟨(by show 2 ≤ sizeLine; decide), fun pr hpr => ⟨(by show 1 ≤ sizeLine; decide), fun lr hlr => ?_⟩⟩⟩
    have e1 := same_new hpe (.tup [])
    have e2 := same_new hpr (.tup [.str (pn c (rix first 0)), .ref pe])
    have e3 := same_new hlr (.lst [.ref pr])
    have e123 := e1.trans (e2.trans e3)
    have hlrb : (upd (upd (upd Ha pe (.tup [])) pr (.tup [.str (pn c (rix first 0)), .ref pe])) lr (.lst [.ref pr])) lr = some (.lst [.ref pr]) := upd_same
    have hrow0 : RowAt K (upd (upd (upd Ha pe (.tup [])) pr (.tup [.str (pn c (rix first 0)), .ref pe])) lr (.lst [.ref pr])) (pr, pn c (rix first 0), pe, []) := ⟨e3.seqT (SqT.of upd_same), (e2.trans e3).seqT (SqT.of upd_same)⟩
    have hlrH : H' lr = none := hnone lr ((e1.trans e2).free hlr)
    have hdb := e123 _ _ hda
    have hdlr : lr ≠ d := fun z => by rw [z, (e1.trans e2) _ _ hda] at hlr; cases hlr
    have gb : SameD d H' (upd (upd (upd Ha pe (.tup [])) pr (.tup [.str (pn c (rix first 0)), .ref pe])) lr (.lst [.ref pr])) := ga.trans (SameD.of e123)
    generalize upd (upd (upd Ha pe (.tup [])) pr (.tup [.str (pn c (rix first 0)), .ref pe])) lr (.lst [.ref pr]) = Hb at hlrb hrow0 hdb gb ⊢
    refine hKK _ _ ?_
    clear hKK KK
    refine ⟨fun v H4 => ∃ (cnt : Nat) (xb : List Int), v = .int (cnt : Int) ∧ cnt ≤ 2 ∧ SameD d Hb H4 ∧ H4 d = some (.lst (NI xb)) ∧ xb.length + 1 = xa.length, ?_, ?_⟩
    · refine ⟨(by show 4 ≤ sizeLine; decide), fun l4 hl4 => ?_⟩
      have e4 := same_new hl4 (.lst [.int 2, .int 1, .int 2, .int 0])
      refine asG fun G' hG' => ?_
      obtain ⟨x2, hx2⟩ := last_int (xs := xa) (by omega)
      refine hG' ?_
      clear hG' G'
      have hd4 := e4 _ _ hdb
      have hl4d : l4 ≠ d := fun z => by rw [z, hdb] at hl4; cases hl4
      obtain ⟨y, hy, hyat⟩ := at_rest (xs := [V.int 2, .int 1, .int 2, .int 0]) (k := 4) rfl (by show 0 < 4; decide) x2
      refine ⟨_, rfl, .inl ⟨rfl, _, SqL.of hd4⟩, d, _, _, rfl, rfl, hd4, hx2, _, _, rfl, rfl, (by show (0 : Int) < 4; decide), l4, _, _, y, rfl, rfl, SqL.of (by rw [upd_ne hl4d]; exact upd_same), hyat, ?_⟩
      obtain ⟨cnt, rfl, hc2⟩ : ∃ cnt : Nat, y = .int (cnt : Int) ∧ cnt ≤ 2 := by
        simp only [List.mem_cons, List.mem_nil_iff, or_false] at hy
        rcases hy with rfl | rfl | rfl | rfl
        · exact ⟨2, rfl, by decide⟩
        · exact ⟨1, rfl, by decide⟩
        · exact ⟨2, rfl, by decide⟩
        · exact ⟨0, rfl, by decide⟩
      refine ⟨cnt, xa.dropLast, rfl, hc2, fun b u hb e => ?_, ?_, by rw [List.length_dropLast]; omega⟩
      · rw [upd_ne hb]; exact e4 _ _ e
      · rw [upd_same, dropL]
    intro v H4 hinv
    refine asG fun G' hG' => ?_
    obtain ⟨cnt, xb, rfl, hc2, g4, hd4, hxb⟩ := hinv
    refine hG' ?_
    clear hG' G'
    refine ⟨_, rfl, (by show -(2 ^ 62 : Int) ≤ (cnt : Int); omega), (by show (cnt : Int) < 2 ^ 62; omega), ?_⟩
    have gb4 := gb.trans g4
    have hdkb : Dk Hb d := ⟨xa, hdb⟩
    refine for_range (lo := 0) (n := (cnt : Int).toNat) (fun q σ Hk => ∃ (rs : List PNx) (xk : List Int) (c8 c9 c10 : Option V), σ = [some (.ref a), some (.ref ln), some (.ref d), some (.ref lk), some (.ref lw), some (.str kn[i]), some (.int first), some (.ref lr), c8, c9, c10] ∧ SameD d H' Hk ∧ Hk d = some (.lst (NI xk)) ∧ xs'.length ≤ xk.length + 2 + 4 * q ∧ Hk lr = some (.lst (rs.map fun r => V.ref r.1)) ∧ rs.length = q + 1 ∧ RowsF c first rs ∧ ∀ r ∈ rs, RowAt K Hk r)
      ⟨[(pr, pn c (rix first 0), pe, [])], xb, _, _, _, rfl, gb4, hd4, by omega, g4 _ _ hdlr hlrb, rfl, ⟨rfl, fun r hr => by
        obtain rfl : r = (pr, pn c (rix first 0), pe, []) := by simpa using hr
        exact ⟨fun x hx => (nomatch hx), by simp⟩⟩, fun r hr => by
        obtain rfl : r = (pr, pn c (rix first 0), pe, []) := by simpa using hr
        exact ⟨g4.seqT hdkb hrow0.1, g4.seqT hdkb hrow0.2⟩⟩ ?_ ?_
    · clear gb4 hd4 g4 hxb xb hdb hrow0 hlrb gb e123 e1 e2 e3 hdkb c5 c6 c7 c8 c9 c10
      intro q σ Hk hq hinv
      refine asG fun G' hG' => ?_
      obtain ⟨rs, xk, c8, c9, c10, rfl, gk', hdk, hxk, hlrk, hrl, hrf, hrat⟩ := hinv
      refine hG' ?_
      clear hG' G'
      rw [Int.toNat_natCast] at hq
      refine ⟨(by show 0 ≤ sizeLine; decide), fun lb hlb => ?_⟩
      have e5 := same_new hlb (.lst [])
      have hd5 := e5 _ _ hdk
      have hlbd : lb ≠ d := fun z => by rw [z, hdk] at hlb; cases hlb
      refine asG fun G' hG' => ?_
      obtain ⟨x3, hx3⟩ := last_int (xs := xk) (by omega)
      refine hG' ?_
      clear hG' G'
      have b0 : 0 ≤ x3 % 4 := Int.emod_nonneg _ (by decide)
      have b1 : x3 % 4 < 4 := Int.emod_lt_of_pos _ (by decide)
      refine ⟨_, rfl, .inl ⟨rfl, _, SqL.of hd5⟩, d, _, _, rfl, rfl, hd5, hx3, _, _, rfl, rfl, (by show (0 : Int) < 4; decide), _, rfl, (by show -(2 ^ 62 : Int) ≤ x3 % 4; omega), (by show x3 % 4 < 2 ^ 62; omega), ?_⟩
      have hdkk : Dk Hk d := ⟨xk, hdk⟩
      refine for_range (lo := 0) (n := (x3 % 4).toNat) (fun j σ Hj => ∃ (bs : List Str) (xj : List Int) (c10 : Option V), σ = [some (.ref a), some (.ref ln), some (.ref d), some (.ref lk), some (.ref lw), some (.str kn[i]), some (.int first), some (.ref lr), some (.int (0 + (q : Int))), some (.ref lb), c10] ∧ SameD d Hk Hj ∧ Hj d = some (.lst (NI xj)) ∧ xk.length ≤ xj.length + 1 + j ∧ Hj lb = some (.lst (bs.map V.str)) ∧ bs.length = j ∧ ∀ x ∈ bs, PyData.strOk x = true)
        ⟨[], xk.dropLast, _, rfl, fun b u hb e => by rw [upd_ne hb]; exact e5 _ _ e, by rw [upd_same, dropL], by rw [List.length_dropLast]; omega, by rw [upd_ne hlbd]; exact upd_same, rfl, fun x hx => (nomatch hx)⟩ ?_ ?_
      · intro j σ Hj hj hinv
        refine asG fun G' hG' => ?_
        obtain ⟨bs, xj, c10, rfl, gj, hdj, hxj, hlbj, hbl, hbok⟩ := hinv
        refine hG' ?_
        clear hG' G'
        have hlkj : Hj lk = some (.lst (kn.map V.str)) := gj _ _ (Ne.symm dlk) (gk' _ _ (Ne.symm dlk) hlk')
        refine asG fun G' hG' => ?_
        obtain ⟨x4, hx4⟩ := last_int (xs := xj) (by omega)
        refine hG' ?_
        clear hG' G'
        have hlk6 : (upd Hj d (.lst (NI xj).dropLast)) lk = some (.lst (kn.map V.str)) := by rw [upd_ne (Ne.symm dlk)]; exact hlkj
        obtain ⟨y, hy, hyat⟩ := at_rest (xs := kn.map V.str) (k := ((kn.map V.str).length : Int)) rfl (by rw [List.length_map]; omega) x4
        obtain ⟨z, hz, rfl⟩ := List.mem_map.mp hy
        refine ⟨_, rfl, .inl ⟨rfl, _, SqL.of hlbj⟩, _, rfl, _, rfl, .inl ⟨rfl, _, SqL.of hdj⟩, d, _, _, rfl, rfl, hdj, hx4, _, rfl, lk, _, rfl, .inl (SqL.of hlk6), _, _, rfl, rfl, (by rw [List.length_map]; show (0 : Int) < (kn.length : Int); omega), lk, _, _, _, rfl, rfl, SqL.of hlk6, hyat, lb, _, _, rfl, rfl, (by rw [upd_ne hlbd]; exact hlbj), by rw [List.length_map, size_line]; omega, ?_⟩
        refine ⟨bs ++ [z], xj.dropLast, _, rfl, fun b u hb e => ?_, ?_, by rw [List.length_dropLast]; omega, ?_, by simp [hbl], fun x hx => ?_⟩
        · rw [upd_ne (ne_of_none e hlb), upd_ne hb]; exact gj _ _ hb e
        · rw [upd_ne (Ne.symm hlbd), upd_same, dropL]
        · rw [upd_same, List.map_append]; rfl
        · rcases List.mem_append.mp hx with h | h
          · exact hbok x h
          · obtain rfl : x = z := by simpa using h
            exact hkok x hz
      · intro σ Hj hinv
        refine asG fun G' hG' => ?_
        obtain ⟨bs, xj, c10, rfl, gj, hdj, hxj, hlbj, hbl, hbok⟩ := hinv
        refine hG' ?_
        clear hG' G'
        have hdlr' : Hj lr = some (.lst (rs.map fun r => V.ref r.1)) := gj _ _ hdlr hlrk
        have hlnj : Hj ln = some (.lst ((pns c 9).map V.str)) := gj _ _ (Ne.symm dln) (gk' _ _ (Ne.symm dln) hln')
        have hat6 : atI ((pns c 9).map V.str) (3 + (first + (0 + (q : Int)) + 1) % 6) = some (.str (pn c (rix first (q + 1)))) := by
          have := rix_at (c := c) f0 f1 (q + 1)
          rw [Int.zero_add]
          exact this
        refine ⟨_, rfl, .inl ⟨rfl, _, SqL.of hdlr'⟩, _, rfl, _, rfl, _, rfl, _, _, rfl, rfl, _, _, rfl, rfl, _, _, rfl, rfl, (by show (0 : Int) < 6; decide), _, _, rfl, rfl, ln, _, _, _, rfl, rfl, SqL.of hlnj, hat6, _, rfl, lb, _, rfl, .inl ⟨SqL.of hlbj, fun pt hpt => ⟨(by show 2 ≤ sizeLine; decide), fun pq hpq => ?_⟩⟩⟩
        have e7 := same_new hpt (.tup (bs.map V.str))
        have e8 := same_new hpq (.tup [.str (pn c (rix first (q + 1))), .ref pt])
        have e78 := e7.trans e8
        have hlr8 := e78 _ _ hdlr'
        refine ⟨lr, _, _, rfl, rfl, hlr8, by rw [List.length_map, size_line]; omega, ?_⟩
        have hdkj : Dk Hj d := ⟨xj, hdj⟩
        refine ⟨rs ++ [(pq, pn c (rix first (q + 1)), pt, bs)], xj, _, _, _, rfl, fun b u hb e => ?_, ?_, by omega, ?_, by simp [hrl], ?_, fun r hr => ?_⟩
        · rw [upd_ne (ne_of_none e hlrH)]; exact e78 _ _ (gj _ _ hb (gk' _ _ hb e))
        · rw [upd_ne (Ne.symm hdlr)]; exact e78 _ _ hdj
        · rw [upd_same, List.map_append]; rfl
        · refine ⟨?_, fun r hr => ?_⟩
          · rw [List.map_append, hrf.1, List.length_append, List.length_singleton, List.range_succ, List.map_append, hrl]; rfl
          · rcases List.mem_append.mp hr with h | h
            · exact hrf.2 r h
            · obtain rfl : r = (pq, pn c (rix first (q + 1)), pt, bs) := by simpa using h
              exact ⟨hbok, by show bs.length ≤ 3; omega⟩
        · rcases List.mem_append.mp hr with h | h
          · obtain ⟨r1, r2⟩ := hrat r h
            exact ⟨(e78.seqT (gj.seqT hdkk r1)).put hlr8, (e78.seqT (gj.seqT hdkk r2)).put hlr8⟩
          · obtain rfl : r = (pq, pn c (rix first (q + 1)), pt, bs) := by simpa using h
            exact ⟨SqT.put (SqT.of upd_same) hlr8, SqT.put (e8.seqT (SqT.of upd_same)) hlr8⟩
    · intro σ Hk hinv
      refine asG fun G' hG' => ?_
      obtain ⟨rs, xk, c8, c9, c10, rfl, gk', hdk, hxk, hlrk, hrl, hrf, hrat⟩ := hinv
      refine hG' ?_
      clear hG' G'
      rw [Int.toNat_natCast] at hrl hxk
      have hlwk := gk' _ _ (Ne.symm dlw) hlw'
      have hr3 : rs.length ≤ 3 := by omega
      have ro := rowsF_ok hrf f0 f1 hr3 (List.Perm.refl rs)
      refine ⟨_, rfl, .inl ⟨rfl, _, SqL.of hlwk⟩, _, rfl, _, rfl, lr, rs, rfl, SqL.of hlrk, fun t ht => ⟨(hrat t ht).1, (hrat t ht).2, (hrf.2 t ht).1⟩, ro.nd, by omega, fun out p hperm hsrt hp => ⟨(by show 2 ≤ sizeLine; decide), fun pk hpk => ?_⟩⟩
      have e7 := same_new hp (.lst (out.map fun t => V.ref t.1))
      have e8 := same_new hpk (.tup [.str kn[i], .ref p])
      have e78 := e7.trans e8
      have hlw8 := e78 _ _ hlwk
      have hkl' := congrArg List.length hkk
      rw [List.length_map, List.length_take] at hkl'
      refine ⟨lw, _, _, rfl, rfl, hlw8, by rw [List.length_map, size_line]; omega, ?_⟩
      have hpd : p ≠ d := fun z => by rw [z, hdk] at hp; cases hp
      have hpw : p ≠ lw := fun z => by rw [z, hlwk] at hp; cases hp
      have hdkH : Dk H' d := ⟨xs', hd'⟩
      refine ⟨ks ++ [(pk, kn[i], p, out)], xk, _, _, _, _, _, _, rfl, fun b u e => ?_, ?_, ?_, ?_, by omega, ?_, ?_, fun k hk => ?_⟩
      · rw [upd_ne (ne_of_none e hlwH)]; exact e78 _ _ (gk' _ _ (ne_of_none e hdH) (g _ _ e))
      · rw [upd_ne (Ne.symm lwln)]; exact e78 _ _ (gk' _ _ (Ne.symm dln) hln')
      · rw [upd_ne (Ne.symm lwlk)]; exact e78 _ _ (gk' _ _ (Ne.symm dlk) hlk')
      · rw [upd_ne dlw]; exact e78 _ _ hdk
      · rw [upd_same, List.map_append]; rfl
      · rw [List.map_append, hkk, List.take_add_one, List.getElem?_eq_getElem hik]; rfl
      · rcases List.mem_append.mp hk with h | h
        · obtain ⟨⟨a1, a2, a3, a4, a5⟩, a6⟩ := hat k h
          refine ⟨⟨(e78.seqT (gk'.seqT hdkH a1)).put hlw8, ?_, a3, a4, fun t ht => ⟨(e78.seqT (gk'.seqT hdkH (a5 t ht).1)).put hlw8, (e78.seqT (gk'.seqT hdkH (a5 t ht).2)).put hlw8⟩⟩, a6⟩
          rw [upd_ne a4]; exact e78 _ _ (gk' _ _ a3 a2)
        · obtain rfl : k = (pk, kn[i], p, out) := by simpa using h
          have hol := hperm.length_eq
          refine ⟨⟨SqT.put (SqT.of upd_same) hlw8, ?_, hpd, hpw, fun t ht => ?_⟩, rowsF_ok hrf f0 f1 hr3 hperm, by show 0 < out.length; omega, by show out.length ≤ 3; omega⟩
          · show (upd _ lw _) p = _
            rw [upd_ne hpw]; exact e8 _ _ upd_same
          · obtain ⟨r1, r2⟩ := hrat t (hperm.mem_iff.mp ht)
            exact ⟨(e78.seqT r1).put hlw8, (e78.seqT r2).put hlw8⟩
  · intro σ H' hinv
    refine asG fun G' hG' => ?_
    obtain ⟨ks, xs', c5, c6, c7, c8, c9, c10, rfl, g, _, _, _, _, hlw', hkk, hat⟩ := hinv
    refine hG' ?_
    clear hG' G'
    rw [List.length_map, List.take_length] at hkk
    have hkl' := congrArg List.length hkk
    rw [List.length_map] at hkl'
    refine ⟨_, rfl, q lw ks H' g ⟨SqL.of hlw', fun k hk => ?_⟩ ⟨⟨by rw [hkk]; exact hknd, by omega, fun k hk => (hat k hk).2.1⟩, by omega, by omega, fun k hk => ?_, fun k hk => (hat k hk).2.2⟩⟩
    · obtain ⟨⟨a1, a2, a3, a4, a5⟩, _⟩ := hat k hk
      exact ⟨a1, SqL.of a2, a5⟩
    · exact hkok _ (by rw [← hkk]; exact List.mem_map.mpr ⟨k, hk, rfl⟩)
end
end K51
namespace K51
open PySem L2 TM TT ST K9 K11
structure T51 (ks : List KdT) (st : Tm) (ms : List MdT) : Prop where
  pos : 0 < ms.length
  three : ms.length ≤ 3
  sc : ∀ k0, ks[0]? = some k0 → TPr (fun a _ => 0 ≤ a ∧ a < (ms.length : Int) ∧ ∃ m, ms[a.toNat]? = some m ∧ m.2.1 = k0.2.1) st
  sl : lv st ≤ 3 ∧ kp st = false
  md : ∀ m ∈ ms, ∃ kd ∈ ks, kd.2.1 = m.2.1 ∧ m.2.2.2.2.length = kd.2.2.2.length ∧ ∀ t ∈ m.2.2.2.2, TPr (Pn ms.length) t ∧ lv t ≤ 4
def spTurn (K : PySem.W.Frag) : Sp := fun vs H Q _ => ∃ (a : Addr) (ns : List Int) (wd : Addr) (ks : List KdT), vs = [.ref a, .ref wd] ∧ SqL K H a (ns.map V.int) ∧ WoodAt K H wd ks ∧ WD ks ∧
  ∀ (tu lm : Addr) (sv : V) (st : Tm) (ms : List MdT) (H' : Hp), Same H H' → TurnD K H' tu wd lm sv ks st ms → T51 ks st ms → Q (.ref tu) H'
def MoAt (K : PySem.W.Frag) (H : Hp) (lm : Addr) (m : MdT) : Prop := SqT K H m.1 [.str m.2.1, .ref m.2.2.1] ∧ H m.2.2.1 = some (.lst m.2.2.2.1) ∧ m.2.2.1 ≠ lm ∧ TmAll K H m.2.2.2.1 m.2.2.2.2
theorem pn_strs (c : Int) (n : Nat) : ∀ x ∈ pns c n, PyData.strOk x = true := fun x hx => by
  obtain ⟨i, _, rfl⟩ := List.mem_map.mp hx
  exact pn_ok _ _
theorem sameD_fresh {d : Addr} {H H1 H2 : Hp} (g : Same H H1) (h : H d = none) (k : SameD d H1 H2) : Same H H2 := fun b u e => k b u (ne_of_none e h) (g b u e)
section
variable {P : Program} {w : World} {K : PySem.W.Frag} {mg : Str → Option Value} {base : Heap} {f : Addr} {fd : FuncData}
theorem scTurn : FnScope ["_law_script", "_law_wood_here", "_law_names_here", "_law_xs", "_law_far", "_law_kinds", "_law_modes", "_law_k", "_law_rules", "_law_name", "_law_branches", "_law_ys", "_law_leaf", "_law_start"] ["_law_script", "_law_wood_here"] (defScope sTurn) := ⟨rfl, rfl, rfl, by decide +kernel, rfl, by decide +kernel, by decide +kernel⟩
theorem ok_turn (F : Fun K "_law_turning" "_law_turning" sTurn f fd) (G : Gm mg) (RC : Fn P w K mg base 1 "_law_cell_at" ["_law_script", "_law_k"] (spCell K)) (RS : Fn P w K mg base 1 "_law_stream" ["_law_cell", "_law_count"] spStream) (RN : Fn P w K mg base 1 "_law_names" ["_law_cell", "_law_count"] spNames)
    (RR : Fn P w K mg base 1 "_law_rows" ["_law_wood_here", "_law_kind"] (spRows K)) (RL : Fn P w K mg base 1 "_law_calls" ["_law_branches", "_law_kinds"] (spCalls K)) (RT : Fn P w K mg base 4 "_law_term" ["_law_xs", "_law_calls_here", "_law_names_here", "_law_far", "_law_deep"] (spTerm K 3)) (RU : Fn P w K mg base 4 "_law_unkept" ["_law_term_here"] (spUnk K 4)) : FnOk P w K mg base CX0 5 f fd ["_law_script", "_law_wood_here"] (spTurn K) := by
  refine F.ok scTurn (fun vs H Q E h => ?_) (fun cdv A outer s H vs Q E hr h => ?_)
  · obtain ⟨a, ns, wd, ks, rfl, _⟩ := h
    rfl
  obtain ⟨a, ns, wd, ks, rfl, hS, hw, hW, q⟩ := h
  refine ⟨_, (pss_cons (ps_cut (ps_set (i := 2) scTurn.nd rfl (Or.inr rfl) (pe_fn RN hr (pa_cons (pe_fn RC hr (pa_cons (pv 0) (pa_cons (pe_int) pa_nil))) (pa_cons (pe_int) pa_nil)))))
    (pss_cons (ps_cut (ps_set (i := 3) scTurn.nd rfl (Or.inl rfl) (pe_fn RS hr (pa_cons (pe_fn RC hr (pa_cons (pv 0) (pa_cons (pe_int) pa_nil))) (pa_cons (pe_int) pa_nil)))))
    (pss_cons (ps_cut (ps_set (i := 4) scTurn.nd rfl (Or.inr rfl) (pe_op op_mod (pe_fn RC hr (pa_cons (pv 0) (pa_cons (pe_int) pa_nil))) (pe_op op_pow pe_int pe_int))))
    (pss_cons (ps_cut (ps_set (i := 5) scTurn.nd rfl (Or.inl rfl) (pe_op op_catL (pe_lst (pa_cons (pe_ix ix_tup (pe_ix ix_list (pv 1) pe_int (fun _ _ => rfl)) pe_int (fun _ _ => rfl)) pa_nil)) (pe_lcompG (CompG.many (xs := ["_law_x"]) (caps := ["_law_wood_here"]) (cap := [1]) (cs := [_]) rfl rfl (by decide +kernel) (by decide +kernel) (by decide +kernel) (by decide +kernel) (by decide +kernel) (by decide +kernel) rfl rfl rfl) rfl (pi_list (pe_slice sl_list (pv 3) po_none (po_some (pe_op op_mod (pe_ix ix_list (pv 3) pe_int (fun _ _ => rfl)) pe_int)))) (pg_c1 (CompG.many (xs := ["_law_x"]) (caps := ["_law_wood_here"]) (cap := [1]) (cs := [_]) rfl rfl (by decide +kernel) (by decide +kernel) (by decide +kernel) (by decide +kernel) (by decide +kernel) (by decide +kernel) rfl rfl rfl)) (fun _ _ _ _ => pf_nil) (fun _ _ _ _ => pe_ix (r := rIxT K) ix_tup (pe_ix (r := rIxL K) ix_list (pv 1) (pe_op op_mod (pv 0) (pe_callB (r := rLenS K) call_len_seq rfl G.len PySem.boot_len (pa_cons (pv 1) pa_nil))) (fun _ _ => rfl)) pe_int (fun _ _ => rfl))))))
    (pss_cons (ps_cut (ps_set (i := 6) scTurn.nd rfl (Or.inl rfl) (pe_lst pa_nil)))
    (pss_cons (ps_for PassesOwn.never rfl (pi_range1 rfl G.rng (pa_cons (pe_callB call_len_seq rfl G.len PySem.boot_len (pa_cons (pv 5) pa_nil)) pa_nil)) (pg_name (i := 7) scTurn.nd rfl (Or.inl rfl)) (pss_cons (ps_cut (ps_set (i := 8) scTurn.nd rfl (Or.inl rfl) (pe_lst pa_nil)))
    (pss_cons (ps_for PassesOwn.never rfl (pi_list (pe_fn RR hr (pa_cons (pv 1) (pa_cons (pe_ix ix_list (pv 5) (pv 7) (fun _ _ => rfl)) pa_nil)))) (pg_tup rfl (pgs_cons (pg_name (i := 9) scTurn.nd rfl (Or.inl rfl)) (pgs_cons (pg_name (i := 10) scTurn.nd rfl (Or.inl rfl)) pgs_nil))) (pss_cons (ps_set (i := 11) scTurn.nd rfl (Or.inl rfl) (pe_fn RS hr (pa_cons (pe_fn RC hr (pa_cons (pv 0) (pa_cons (pe_op op_add (pe_op op_add pe_int (pe_op op_mul pe_int (pv 7))) (pe_callB call_len_seq rfl G.len PySem.boot_len (pa_cons (pv 8) pa_nil))) pa_nil))) (pa_cons (pe_int) pa_nil))))
    (pss_one (ps_expr (pe_bm PySem.F.plainAttrs_list PySem.F.slot_list_append PySem.F.type_list_append mt_append (pv 8) (pa_cons (pe_fn RT hr (pa_cons (pv 11) (pa_cons (pe_fn RL hr (pa_cons (pv 10) (pa_cons (pv 5) pa_nil))) (pa_cons (pv 2) (pa_cons (pv 4) (pa_cons (pe_int) pa_nil)))))) pa_nil))))))
    (pss_cons (ps_cut (ps_if (pt_cmpR op_eq (pe_op op_mod (pe_ix ix_list (pv 3) (pe_op op_add pe_int (pv 7)) (fun _ _ => rfl)) pe_int) pe_int (nomark _)) (pss_cons (ps_set (i := 12) scTurn.nd rfl (Or.inr rfl) (pe_tup (pa_cons (pe_str) (pa_cons (pe_ix ix_list (pv 2) pe_int (fun _ _ => rfl)) (pa_cons (pe_bl) (pa_cons (pe_int) (pa_cons (pe_tup pa_nil) pa_nil)))))))
    (pss_one (ps_setG (i := 8) (CompG.many (xs := ["_law_rule"]) (caps := ["_law_far", "_law_leaf", "_law_names_here"]) (cap := [4, 12, 2]) (cs := [_, _, _]) rfl rfl (by decide +kernel) (by decide +kernel) (by decide +kernel) (by decide +kernel) (by decide +kernel) (by decide +kernel) rfl rfl rfl) rfl (pi_list (pv 8)) (pg_c1 (CompG.many (xs := ["_law_rule"]) (caps := ["_law_far", "_law_leaf", "_law_names_here"]) (cap := [4, 12, 2]) (cs := [_, _, _]) rfl rfl (by decide +kernel) (by decide +kernel) (by decide +kernel) (by decide +kernel) (by decide +kernel) (by decide +kernel) rfl rfl rfl)) (fun _ _ _ _ => pf_nil) (fun _ _ _ _ => (pe_tup (pa_cons (pe_str) (pa_cons (pe_ix (r := rIxL K) ix_list (pv 3) pe_int (fun _ _ => rfl)) (pa_cons (pe_bl) (pa_cons (pv 1) (pa_cons ((pe_tup (pa_cons (pv 0) (pa_cons (pv 2) pa_nil)))) pa_nil))))))) scTurn.nd rfl rfl))) pss_nil))
    (pss_one (ps_expr (pe_bm PySem.F.plainAttrs_list PySem.F.slot_list_append PySem.F.type_list_append mt_append (pv 6) (pa_cons ((pe_tup (pa_cons (pe_ix ix_list (pv 5) (pv 7) (fun _ _ => rfl)) (pa_cons (pv 8) pa_nil)))) pa_nil))))))))
    (pss_cons (ps_cut (ps_set (i := 11) scTurn.nd rfl (Or.inl rfl) (pe_fn RS hr (pa_cons (pe_fn RC hr (pa_cons (pv 0) (pa_cons (pe_int) pa_nil))) (pa_cons (pe_int) pa_nil)))))
    (pss_cons (ps_cut (ps_set (i := 13) scTurn.nd rfl (Or.inl rfl) (pe_fn RT hr (pa_cons (pv 11) (pa_cons (pe_fn RL hr (pa_cons ((pe_tup (pa_cons (pe_ix ix_tup (pe_ix ix_list (pv 1) pe_int (fun _ _ => rfl)) pe_int (fun _ _ => rfl)) pa_nil))) (pa_cons (pv 5) pa_nil))) (pa_cons (pv 2) (pa_cons (pv 4) (pa_cons (pe_int) pa_nil))))))))
    (pss_one (ps_ret (pe_tup (pa_cons (pv 1) (pa_cons (pe_fn RU hr (pa_cons (pv 13) pa_nil)) (pa_cons (pv 6) pa_nil)))))))))))))), ?_⟩
  refine cutK fun KK hKK => ?_
  refine ⟨_, rfl, a, ns, 0, rfl, hS, _, 9, rfl, by decide, fun ln H1 g1 _ hln => ?_⟩
  generalize (ns[0]?).getD 0 = c at hln ⊢
  refine hKK _ _ ?_
  clear hKK KK
  refine cutK fun KK hKK => ?_
  refine ⟨_, rfl, a, ns, 2, rfl, g1.seq hS, _, 8, rfl, by decide, fun d xs H2 g2 _ hd hxl hx0 => ?_⟩
  refine hKK _ _ ?_
  clear hKK KK
  refine cutK fun KK hKK => ?_
  have g12 := g1.trans g2
  refine ⟨_, rfl, a, ns, 3, rfl, g12.seq hS, _, _, rfl, rfl, ⟨by decide, by decide, by decide⟩, _, _, rfl, rfl, (by show (0 : Int) < 10 ^ 59; decide), ?_⟩
  show gName 4 (V.int ((ns[3]?).getD 0 % 10 ^ 59)) _ _ _
  generalize (ns[3]?).getD 0 % 10 ^ 59 = far
  refine hKK _ _ ?_
  clear hKK KK
  refine cutK fun KK hKK => ?_
  have kpos := hW.pos
  have hk0 := List.getElem_mem kpos
  have hw2 := hw.same g12
  have hatw : atI (ks.map fun k => V.ref k.1) 0 = some (.ref ks[0].1) := atI_nat (j := 0) (by rw [List.getElem?_map, List.getElem?_eq_getElem kpos]; rfl)
  refine ⟨_, rfl, wd, _, 0, _, rfl, rfl, hw2.1, hatw, ks[0].1, _, 0, _, rfl, rfl, (hw2.2 _ hk0).1, rfl, (by show 1 ≤ sizeLine; decide), fun l1 hl1 => ?_⟩
  have gl1 := same_new hl1 (.lst [.str ks[0].2.1])
  have hd1 := gl1 _ _ hd
  have h7 : 7 < xs.length := by omega
  refine asG fun G' hG' => ?_
  obtain ⟨x7, hx7⟩ : ∃ x7 : Int, xs[7]? = some x7 := ⟨_, List.getElem?_eq_getElem h7⟩
  refine hG' ?_
  clear hG' G'
  have hat7 : atI (xs.map V.int) 7 = some (.int x7) := atI_nat (j := 7) (by rw [List.getElem?_map, hx7]; rfl)
  refine ⟨_, rfl, _, rfl, d, _, 7, _, rfl, rfl, SqL.of hd1, hat7, _, _, rfl, rfl, (by show (0 : Int) < 3; decide), _, rfl, d, _, rfl, SqL.of hd1, fun ls hls => ⟨ls, rfl, ⟨_, SqL.of upd_same⟩, fun acc hacc => ?_⟩⟩
  have z0 : 0 ≤ x7 % 3 := Int.emod_nonneg _ (by decide)
  have z1 : x7 % 3 < 3 := Int.emod_lt_of_pos _ (by decide)
  refine asG fun G' hG' => ?_
  obtain ⟨m, hm, m2⟩ : ∃ m : Nat, x7 % 3 = (m : Int) ∧ m ≤ 2 := ⟨(x7 % 3).toNat, by omega, by omega⟩
  refine hG' ?_
  clear hG' G'
  have ecut : cutV (xs.map V.int) none (some (x7 % 3)) = (xs.take m).map V.int := by rw [hm, cutTo, List.map_take]
  have gls := same_new hls (.lst (cutV (xs.map V.int) none (some (x7 % 3))))
  have hlsv : (upd (upd H2 l1 (.lst [.str ks[0].2.1])) ls (.lst (cutV (xs.map V.int) none (some (x7 % 3))))) ls = some (.lst ((xs.take m).map V.int)) := by rw [upd_same, ecut]
  have g1s := gl1.trans gls
  generalize upd (upd H2 l1 (.lst [.str ks[0].2.1])) ls (.lst (cutV (xs.map V.int) none (some (x7 % 3)))) = Hs at gls hlsv g1s hacc ⊢
  have hl1s := gls _ _ (show (upd H2 l1 (.lst [.str ks[0].2.1])) l1 = _ from upd_same)
  have g2s := g12.trans g1s
  have hws := hw.same g2s
  refine c1_list (K := K) (xs := (xs.take m).map V.int) (cs := [some (.ref wd)]) (tt := fun _ H Q => Q true H) (fun i ys H' => ∃ zs : List Str, ys = zs.map V.str ∧ zs.length = i ∧ (∀ z ∈ zs, ∃ kd ∈ ks, kd.2.1 = z) ∧ H' acc = some (.lst ys) ∧ Same Hs H')
    ⟨[], rfl, rfl, fun z hz => (nomatch hz), upd_same, same_new hacc _⟩ ?_ ?_ ?_
  · rintro i ys H' _ ⟨zs, _, _, _, _, g⟩
    exact SqL.of (g _ _ hlsv)
  · rintro i x ys H' hi hx ⟨zs, rfl, hzl, hz, hya, g⟩
    obtain ⟨n, rfl⟩ : ∃ n : Int, x = .int n := by
      rw [List.getElem?_map] at hx
      cases e : (xs.take m)[i]? with
      | none => rw [e] at hx; cases hx
      | some n => rw [e] at hx; exact ⟨n, (Option.some.inj hx).symm⟩
    have hw' := hws.same g
    obtain ⟨y, hy, hyat⟩ := at_rest (xs := ks.map fun k => V.ref k.1) (k := ((ks.map fun k => V.ref k.1).length : Int)) rfl (by rw [List.length_map]; exact kpos) n
    obtain ⟨kd, hkd, rfl⟩ := List.mem_map.mp hy
    have hi2 : i < 3 := by rw [List.length_map, List.length_take] at hi; omega
    refine iteT ⟨_, rfl, _, rfl, _, rfl, wd, _, rfl, .inl hw'.1, _, _, rfl, rfl, (by rw [List.length_map]; show (0 : Int) < (ks.length : Int); omega), wd, _, _, _, rfl, rfl, hw'.1, hyat, kd.1, _, 0, _, rfl, rfl, (hw'.2 kd hkd).1, rfl, ?_⟩
    refine comp_next (ys := zs.map V.str) hi hya (by rw [List.length_map]; omega) ⟨zs ++ [kd.2.1], by simp, by simp [hzl], fun z hz' => ?_, upd_same, fun b u e => ?_⟩
    · rcases List.mem_append.mp hz' with h | h
      · exact hz z h
      · have h' : z = kd.2.1 := by simpa using h
        exact ⟨kd, hkd, h'.symm⟩
    · rw [upd_ne (ne_of_none e hacc)]; exact g _ _ e
  intro ys H3 hinv
  refine asG fun G' hG' => ?_
  obtain ⟨zs, rfl, hzl, hz, hya, g3⟩ := hinv
  refine hG' ?_
  clear hG' G'
  have hzl2 : zs.length ≤ 2 := by rw [List.length_map, List.length_take] at hzl; omega
  refine ⟨l1, acc, _, _, rfl, rfl, SqL.of (g3 _ _ hl1s), SqL.of hya, (by rw [List.length_map, List.length_singleton]; exact line_of (by omega)), fun lk hlk => ?_⟩
  refine hKK _ _ ?_
  clear hKK KK
  refine cutK fun KK hKK => ?_
  refine asG fun G' hG' => ?_
  obtain ⟨kn, ekn⟩ : ∃ kn, kn = ks[0].2.1 :: zs := ⟨_, rfl⟩
  refine hG' ?_
  clear hG' G'
  have ekv : [V.str ks[0].2.1] ++ zs.map V.str = kn.map V.str := by rw [ekn]; rfl
  rw [ekv]
  have hkl3 : kn.length ≤ 3 := by rw [ekn, List.length_cons]; omega
  have hkl1 : 0 < kn.length := by rw [ekn, List.length_cons]; omega
  have hkin : ∀ z ∈ kn, ∃ kd ∈ ks, kd.2.1 = z := fun z hz' => by
    rw [ekn] at hz'
    rcases List.mem_cons.mp hz' with h | h
    · exact ⟨ks[0], hk0, h.symm⟩
    · exact hz z h
  have glk := same_new hlk (.lst (kn.map V.str))
  have hlkv : (upd H3 lk (.lst (kn.map V.str))) lk = some (.lst (kn.map V.str)) := upd_same
  have gH4 : Same H (upd H3 lk (.lst (kn.map V.str))) := g2s.trans (g3.trans glk)
  have hln4 := (g2.trans (g1s.trans (g3.trans glk))) _ _ hln
  have hd4 := (g1s.trans (g3.trans glk)) _ _ hd
  generalize upd H3 lk (.lst (kn.map V.str)) = H4 at hlkv gH4 hln4 hd4 ⊢
  have hw4 := hw.same gH4
  have hS4 := gH4.seq hS
  refine ⟨(by show 0 ≤ sizeLine; decide), fun lm hlm => ?_⟩
  refine hKK _ _ ?_
  clear hKK KK
  have glm := same_new hlm (.lst [])
  have hlk5 := glm _ _ hlkv
  have ekl : (kn.map V.str).length = kn.length := List.length_map ..
  refine ⟨_, rfl, lk, _, rfl, .inl (SqL.of hlk5), ?_⟩
  rw [ekl]
  refine ⟨_, rfl, (by show -(2 ^ 62 : Int) ≤ (kn.length : Int); omega), (by show (kn.length : Int) < 2 ^ 62; omega), ?_⟩
  refine for_range (lo := 0) (n := (kn.length : Int).toNat) (fun k σ H' => ∃ (ms : List MdT) (c7 c8 c9 c10 c11 c12 : Option V), σ = [some (.ref a), some (.ref wd), some (.ref ln), some (.ref d), some (.int far), some (.ref lk), some (.ref lm), c7, c8, c9, c10, c11, c12, none] ∧ Same H4 H' ∧ H' lm = some (.lst (ms.map fun m => V.ref m.1)) ∧ ms.map (fun m => m.2.1) = kn.take k ∧ ∀ m ∈ ms, MoAt K H' lm m ∧ ∃ kd ∈ ks, kd.2.1 = m.2.1 ∧ m.2.2.2.2.length = kd.2.2.2.length ∧ ∀ t ∈ m.2.2.2.2, TPr (Pn kn.length) t ∧ lv t ≤ 4)
    ⟨[], none, none, none, none, none, none, rfl, glm, upd_same, rfl, fun m hm => (nomatch hm)⟩ ?_ ?_
  · intro k σ H' hk hinv
    refine asG fun G' hG' => ?_
    obtain ⟨ms, c7, c8, c9, c10, c11, c12, rfl, g, hlm', hmk, hmo⟩ := hinv
    refine hG' ?_
    clear hG' G'
    rw [Int.toNat_natCast] at hk
    refine asG fun G' hG' => ?_
    obtain ⟨kd, hkd, ekd⟩ := hkin _ (List.getElem_mem hk)
    refine hG' ?_
    clear hG' G'
    have hatk : atI (kn.map V.str) (0 + (k : Int)) = some (.str kd.2.1) := by rw [Int.zero_add]; exact atI_nat (by rw [List.getElem?_map, List.getElem?_eq_getElem hk, ekd]; rfl)
    refine cutK fun KK hKK => ?_
    refine ⟨(by show 0 ≤ sizeLine; decide), fun lr hlr => ?_⟩
    refine hKK _ _ ?_
    clear hKK KK
    have glr := same_new hlr (.lst [])
    have gr := g.trans glr
    refine ⟨_, rfl, _, rfl, _, rfl, lk, _, _, _, rfl, rfl, SqL.of (gr _ _ hlkv), hatk, wd, ks, kd, rfl, hw4.same gr, hW.ok.nd, hkd, kd.2.2.1, rfl, ⟨_, (hw4.same gr).2 kd hkd |>.2.1⟩, ?_⟩
    have hr3 := (hW.rws kd hkd).2
    have hkb := (hW.ok.rows kd hkd)
    refine for_list (K := K) (xs := kd.2.2.2.map fun t => V.ref t.1) (fun i σ Hi => ∃ (us : List V) (ts : List Tm) (c9 c10 c11 : Option V), σ = [some (.ref a), some (.ref wd), some (.ref ln), some (.ref d), some (.int far), some (.ref lk), some (.ref lm), some (.int (0 + (k : Int))), some (.ref lr), c9, c10, c11, c12, none] ∧ Same H' Hi ∧ Hi lr = some (.lst us) ∧ TmAll K Hi us ts ∧ ts.length = i ∧ ∀ t ∈ ts, TPr (Pn kn.length) t ∧ lv t ≤ 3)
      ⟨[], [], _, _, _, rfl, glr, upd_same, .nil, rfl, fun t ht => (nomatch ht)⟩ ?_ ?_ ?_
    · rintro i σ Hi _ ⟨_, _, _, _, _, _, gi, _⟩
      exact ((hw4.same (g.trans gi)).2 kd hkd).2.1
    · intro i x σ Hi hx hinv
      refine asG fun G' hG' => ?_
      obtain ⟨us, ts, c9, c10, c11, rfl, gi, hlri, hts, htl, hok⟩ := hinv
      refine hG' ?_
      clear hG' G'
      have hir : i < kd.2.2.2.length := by have := (List.getElem?_eq_some_iff.mp hx).1; simpa using this
      obtain rfl : x = .ref kd.2.2.2[i].1 := by
        rw [List.getElem?_map, List.getElem?_eq_getElem hir] at hx
        exact (Option.some.inj hx).symm
      have g4i := g.trans gi
      have hra := ((hw4.same g4i).2 kd hkd).2.2 _ (List.getElem_mem hir)
      have hlen := hts.length
      refine ⟨kd.2.2.2[i].1, _, rfl, hra.1, rfl, _, _, rfl, _, _, rfl, rfl, ?_⟩
      refine ⟨_, rfl, _, rfl, _, _, rfl, rfl, .inl ⟨by decide, by decide⟩, _, _, rfl, rfl, _, rfl, lr, _, rfl, .inl (SqL.of hlri), _, _, rfl, rfl, a, ns, 4 + 3 * k + us.length, ?_, g4i.seq hS4, _, 8, rfl, by decide, fun ly ysl Hy gy hly0 hly hyl hy0 => ?_⟩
      · have e5 : (4 + 3 * (0 + (k : Int)) + (us.length : Int)) = ((4 + 3 * k + us.length : Nat) : Int) := by omega
        show [V.ref a, V.int (4 + 3 * (0 + (k : Int)) + (us.length : Int))] ++ [] = _
        rw [e5]; rfl
      have g4y := g4i.trans gy
      refine ⟨_, rfl, .inl ⟨rfl, _, SqL.of (gy _ _ hlri)⟩, _, rfl, _, rfl, _, rfl, kd.2.2.2[i].2.2.1, lk, kd.2.2.2[i].2.2.2, kn, rfl, gy.seqT hra.2, SqL.of (g4y _ _ hlkv), hkb.kl _ (List.getElem_mem hir), by omega, fun lc ws tc Hc gc hlc0 hlc htc hcl hc16 => ?_⟩
      have hlcy : lc ≠ ly := fun z => by rw [z, hly] at hlc0; cases hlc0
      have g4c := g4y.trans gc
      have hlnc := g4c _ _ hln4
      have hlny : ln ≠ ly := fun z => by rw [← z, g4i _ _ hln4] at hly0; cases hly0
      refine ⟨_, rfl, _, rfl, ly, lc, ln, far, 2, ysl, ws, tc, pns c 9, Pn kn.length, rfl, gc _ _ hly, by rw [hyl]; decide, SqL.of hlc, htc, fun t ht => (by
        obtain ⟨k2, j2, e, z, e1, _⟩ := hcl t ht
        have := (List.getElem?_eq_some_iff.mp e1).1
        exact ⟨_, _, e, by show (0 : Int) ≤ (k2 : Int); omega, by show (k2 : Int) < (kn.length : Int); omega⟩), hc16, hlcy, SqL.of hlnc, by simp, pn_strs c 9, hlny, by decide, by decide, fun v5 H5 t5 xs5 g5 hd5 _ hv5 ht5 hl5 => ?_⟩
      have gi5 : Same Hi H5 := sameD_fresh (gy.trans gc) hly0 g5
      have hlr5 := gi5 _ _ hlri
      refine ⟨lr, us, _, rfl, rfl, hlr5, by rw [size_line]; omega, ?_⟩
      refine ⟨us ++ [v5], ts ++ [t5], _, _, _, rfl, fun b u e => ?_, upd_same, ?_, by simp [htl], fun t ht => ?_⟩
      · rw [upd_ne (ne_of_none e hlr)]; exact gi5 _ _ (gi _ _ e)
      · exact TmAll.append (hts.mono fun _ _ h => (gi5.seqT h).put hlr5) (.cons (hv5.mono fun _ _ h => h.put hlr5) .nil)
      · rcases List.mem_append.mp ht with h | h
        · exact hok t h
        · obtain rfl : t = t5 := by simpa using h
          exact ⟨ht5, hl5⟩
    · intro σ Hi hinv
      refine asG fun G' hG' => ?_
      obtain ⟨us, ts, c9, c10, c11, rfl, gi, hlri, hts, htl, hok⟩ := hinv
      refine hG' ?_
      clear hG' G'
      rw [List.length_map] at htl
      have g4i := g.trans gi
      have hlen := hts.length
      refine ⟨fun σ' H6 => ∃ (l : Addr) (us' : List V) (ts' : List Tm) (c12' : Option V), σ' = [some (.ref a), some (.ref wd), some (.ref ln), some (.ref d), some (.int far), some (.ref lk), some (.ref lm), some (.int (0 + (k : Int))), some (.ref l), c9, c10, c11, c12', none] ∧ Same H' H6 ∧ H6 l = some (.lst us') ∧ l ≠ lm ∧ TmAll K H6 us' ts' ∧ ts'.length = kd.2.2.2.length ∧ ∀ t ∈ ts', TPr (Pn kn.length) t ∧ lv t ≤ 4, ?_, ?_⟩
      · have h3k : 3 + k < xs.length := by omega
        have hat3 : atI (xs.map V.int) (3 + (0 + (k : Int))) = some (.int xs[3 + k]) := by
          have e5 : (3 + (0 + (k : Int))) = ((3 + k : Nat) : Int) := by omega
          rw [e5]; exact atI_nat (by rw [List.getElem?_map, List.getElem?_eq_getElem h3k]; rfl)
        have hlrlm : lr ≠ lm := fun z => by rw [z, hlm'] at hlr; cases hlr
        refine ⟨_, rfl, _, rfl, _, _, rfl, rfl, d, _, _, _, rfl, rfl, SqL.of (g4i _ _ hd4), hat3, _, _, rfl, rfl, (by show (0 : Int) < 3; decide), rfl, _, rfl, ite2 (fun _ => ?_) (fun _ => ?_)⟩
        · have hlni := g4i _ _ hln4
          have hatn : ∀ i : Nat, i < 9 → atI ((pns c 9).map V.str) (i : Int) = some (.str (pn c (i : Int))) := fun i hi => atI_nat (by rw [List.getElem?_map, List.getElem?_map, List.getElem?_range hi]; rfl)
          refine ⟨_, rfl, ln, _, 3, _, rfl, rfl, SqL.of hlni, hatn 3 (by decide), (by show 0 ≤ sizeLine; decide), fun p0 hp0 => ⟨(by show 5 ≤ sizeLine; decide), fun pl hpl => ?_⟩⟩
          have e1 := same_new hp0 (.tup [])
          have e2 := same_new hpl (.tup [.str PUT, .str (pn c 3), .bl false, .int 0, .ref p0])
          have e12 := e1.trans e2
          have hleaf : TmV K (upd (upd Hi p0 (.tup [])) pl (.tup [.str PUT, .str (pn c 3), .bl false, .int 0, .ref p0])) (.ref pl) (.node (.put (pn c 3) false 0) 0 []) := .put (SqT.of upd_same) (e2.seqT (SqT.of upd_same)) .nil (by simp)
          generalize upd (upd Hi p0 (.tup [])) pl (.tup [.str PUT, .str (pn c 3), .bl false, .int 0, .ref p0]) = Hl at e12 hleaf ⊢
          have hlrl := e12 _ _ hlri
          refine ⟨_, rfl, lr, rfl, ⟨_, SqL.of hlrl⟩, fun acc2 hacc2 => ?_⟩
          refine c1_list (K := K) (xs := us) (cs := [some (.int far), some (.ref pl), some (.ref ln)]) (tt := fun _ H Q => Q true H) (fun i ys Hj => ∃ ps : List Tm, Hj acc2 = some (.lst ys) ∧ Same Hl Hj ∧ TmAll K Hj ys ps ∧ ps.length = i ∧ ∀ t ∈ ps, TPr (Pn kn.length) t ∧ lv t ≤ 4)
            ⟨[], upd_same, same_new hacc2 _, .nil, rfl, fun t ht => (nomatch ht)⟩ ?_ ?_ ?_
          · rintro i ys Hj _ ⟨_, _, gj, _⟩
            exact SqL.of (gj _ _ hlrl)
          · rintro i x ys Hj hi hx ⟨ps, hya2, gj, hps, hpl2, hpok⟩
            have hit : i < ts.length := by omega
            have hlenp := hps.length
            obtain ⟨cv, hcv, hct⟩ := hts.get (List.getElem?_eq_getElem hit)
            obtain rfl : cv = x := Option.some.inj (hcv.symm.trans hx)
            obtain ⟨o1, o2⟩ := hok _ (List.getElem_mem hit)
            refine iteT ⟨_, rfl, ln, _, 4, _, rfl, rfl, SqL.of (gj _ _ (e12 _ _ hlni)), hatn 4 (by decide), _, rfl, _, rfl, _, rfl, (by show 2 ≤ sizeLine; decide), fun p1 hp1 => ⟨(by show 5 ≤ sizeLine; decide), fun p2 hp2 => ?_⟩⟩
            have e3 := same_new hp1 (.tup [cv, .ref pl])
            have e4 := same_new hp2 (.tup [.str PUT, .str (pn c 4), .bl false, .int far, .ref p1])
            have e34 := e3.trans e4
            have hya4 := e34 _ _ hya2
            have gl4 := gj.trans e34
            refine comp_next (ys := ys) hi hya4 (by omega) ⟨ps ++ [.node (.put (pn c 4) false far) 0 [ts[i], .node (.put (pn c 3) false 0) 0 []]], upd_same, fun b u e => ?_, ?_, by simp [hpl2], fun t ht => ?_⟩
            · rw [upd_ne (ne_of_none e hacc2)]; exact e34 _ _ (gj _ _ e)
            · refine TmAll.append (hps.mono fun _ _ h => (e34.seqT h).put hya4) (.cons (.put (SqT.put (SqT.of upd_same) hya4) (SqT.put (e4.seqT (SqT.of upd_same)) hya4) (.cons (hct.mono fun _ _ h => (gl4.seqT (e12.seqT h)).put hya4) (.cons (hleaf.mono fun _ _ h => (gl4.seqT h).put hya4) .nil)) (by simp)) .nil)
            · rcases List.mem_append.mp ht with h | h
              · exact hpok t h
              · obtain rfl : t = .node (.put (pn c 4) false far) 0 [ts[i], .node (.put (pn c 3) false 0) 0 []] := by simpa using h
                refine ⟨?_, ?_⟩
                · simp only [TPr, TPrs]
                  exact ⟨pn_ok _ _, by simp, o1, ⟨pn_ok _ _, by simp, trivial⟩, trivial⟩
                · simp only [lv, lvs]; omega
          rintro ys Hj ⟨ps, hya2, gj, hps, hpl2, hpok⟩
          have haclm : acc2 ≠ lm := fun z => by rw [z, (e12 _ _ (gi _ _ hlm'))] at hacc2; cases hacc2
          exact ⟨acc2, ys, ps, _, rfl, gi.trans (e12.trans gj), hya2, haclm, hps, by omega, hpok⟩
        · exact ⟨lr, us, ts, _, rfl, gi, hlri, hlrlm, hts, htl, fun t ht => ⟨(hok t ht).1, by have := (hok t ht).2; omega⟩⟩
      intro σ' H6 hinv
      refine asG fun G' hG' => ?_
      obtain ⟨l, us', ts', c12', rfl, g6, hl6, hllm, hts6, htl6, hok6⟩ := hinv
      refine hG' ?_
      clear hG' G'
      have g46 := g.trans g6
      have hlm6 := g6 _ _ hlm'
      refine ⟨_, rfl, .inl ⟨rfl, _, SqL.of hlm6⟩, _, rfl, _, rfl, lk, _, _, _, rfl, rfl, SqL.of (g46 _ _ hlkv), hatk, _, rfl, (by show 2 ≤ sizeLine; decide), fun pm hpm => ?_⟩
      have e7 := same_new hpm (.tup [.str kd.2.1, .ref l])
      have hlm7 := e7 _ _ hlm6
      have hml := congrArg List.length hmk
      rw [List.length_map, List.length_take] at hml
      refine ⟨lm, _, _, rfl, rfl, hlm7, by rw [List.length_map, size_line]; omega, ?_⟩
      refine ⟨ms ++ [(pm, kd.2.1, l, us', ts')], _, _, _, _, _, _, rfl, fun b u e => ?_, by rw [upd_same, List.map_append]; rfl, ?_, fun m hm => ?_⟩
      · rw [upd_ne (ne_of_none e hlm)]; exact e7 _ _ (g46 _ _ e)
      · rw [List.map_append, hmk, List.take_add_one, List.getElem?_eq_getElem hk, ← ekd]; rfl
      · rcases List.mem_append.mp hm with h | h
        · obtain ⟨⟨a1, a2, a3, a4⟩, a5⟩ := hmo m h
          have g67 := g6.trans e7
          refine ⟨⟨(g67.seqT a1).put hlm7, by rw [upd_ne a3]; exact g67 _ _ a2, a3, a4.mono fun _ _ h => (g67.seqT h).put hlm7⟩, a5⟩
        · obtain rfl : m = (pm, kd.2.1, l, us', ts') := by simpa using h
          refine ⟨⟨SqT.put (SqT.of upd_same) hlm7, ?_, hllm, hts6.mono fun _ _ h => (e7.seqT h).put hlm7⟩, kd, hkd, rfl, htl6, hok6⟩
          show (upd _ lm _) l = _
          rw [upd_ne hllm]; exact e7 _ _ hl6
  · intro σ H' hinv
    refine asG fun G' hG' => ?_
    obtain ⟨ms, c7, c8, c9, c10, c11, c12, rfl, g, hlm', hmk, hmo⟩ := hinv
    refine hG' ?_
    clear hG' G'
    rw [Int.toNat_natCast, List.take_length] at hmk
    have hml := congrArg List.length hmk
    rw [List.length_map] at hml
    refine cutK fun KK hKK => ?_
    refine ⟨_, rfl, a, ns, 13, rfl, g.seq hS4, _, 8, rfl, by decide, fun ly ysl Hy gy hly0 hly hyl hy0 => ?_⟩
    refine hKK _ _ ?_
    clear hKK KK
    refine cutK fun KK hKK => ?_
    have g4y := g.trans gy
    have hwy := hw4.same g4y
    refine ⟨_, rfl, _, rfl, wd, _, 0, _, rfl, rfl, hwy.1, hatw, ks[0].1, _, 0, _, rfl, rfl, (hwy.2 _ hk0).1, rfl, (by show 1 ≤ sizeLine; decide), fun pb hpb => ?_⟩
    have e9 := same_new hpb (.tup [.str ks[0].2.1])
    refine ⟨_, rfl, pb, lk, [ks[0].2.1], kn, rfl, SqT.of upd_same, SqL.of (e9 _ _ (g4y _ _ hlkv)), by simp, by omega, fun lc ws tc Hc gc hlc0 hlc htc hcl hc16 => ?_⟩
    have gyc := e9.trans gc
    have hlcy : lc ≠ ly := fun z => by rw [z, e9 _ _ hly] at hlc0; cases hlc0
    have hlnc := gyc _ _ (g4y _ _ hln4)
    have hlny : ln ≠ ly := fun z => by rw [← z, g _ _ hln4] at hly0; cases hly0
    refine ⟨_, rfl, _, rfl, ly, lc, ln, far, 2, ysl, ws, tc, pns c 9, fun a _ => 0 ≤ a ∧ a < (kn.length : Int) ∧ kn[a.toNat]? = some ks[0].2.1, rfl, gyc _ _ hly, by rw [hyl]; decide, SqL.of hlc, htc, fun t ht => (by
        obtain ⟨k2, j2, e, z, e1, e2⟩ := hcl t ht
        have h2 := (List.getElem?_eq_some_iff.mp e1).1
        have h3 : z ∈ [ks[0].2.1] := List.mem_of_getElem? e2
        have h4 : z = ks[0].2.1 := by simpa using h3
        exact ⟨_, _, e, by omega, by omega, by rw [Int.toNat_natCast, e1, h4]⟩), hc16, hlcy, SqL.of hlnc, by simp, pn_strs c 9, hlny, by decide, by decide, fun v5 H5 t5 xs5 g5 hd5 _ hv5 ht5 hl5 => ?_⟩
    refine hKK _ _ ?_
    clear hKK KK
    have g45 : Same H' H5 := sameD_fresh (gy.trans gyc) hly0 g5
    refine ⟨_, rfl, _, rfl, v5, t5, _, rfl, hv5, ht5, by omega, fun v6 H6 t6 g6 hv6 ht6 hl6 hk6 => ⟨_, rfl, (by show 3 ≤ sizeLine; decide), fun tu htu => ?_⟩⟩
    have e10 := same_new htu (.tup [.ref wd, v6, .ref lm])
    have g4t := g45.trans (g6.trans e10)
    have gT := gH4.trans (g.trans g4t)
    refine q tu lm v6 t6 ms _ gT ⟨SqT.of upd_same, hw.same gT, hv6.mono fun _ _ => e10.seqT, SqL.of (g4t _ _ hlm'), fun m hm => ?_⟩ ⟨by omega, by omega, fun k0 hk0' => ?_, ⟨by omega, hk6⟩, fun m hm => ?_⟩
    · obtain ⟨⟨a1, a2, a3, a4⟩, _⟩ := hmo m hm
      exact ⟨g4t.seqT a1, SqL.of (g4t _ _ a2), a4.mono fun _ _ => g4t.seqT⟩
    · rw [List.getElem?_eq_getElem kpos] at hk0'
      obtain rfl := Option.some.inj hk0'
      refine ht6.mono fun a b h => ⟨h.1, by rw [hml]; exact h.2.1, ?_⟩
      have h3 := h.2.2
      rw [← hmk, List.getElem?_map] at h3
      cases em : ms[a.toNat]? with
      | none => rw [em] at h3; cases h3
      | some m => rw [em] at h3; exact ⟨m, rfl, Option.some.inj h3⟩
    · obtain ⟨_, kd, hkd, e1, e2, e3⟩ := hmo m hm
      exact ⟨kd, hkd, e1, e2, fun t ht => by rw [hml]; exact e3 t ht⟩
end
end K51
namespace L2
open PySem PySem.Spec PyProof.Rows PySem.W
section
variable {X : Cx}
theorem call_rngV : CallR X (.type "range") (fun xs H Q => ∃ n : Int, xs = [.int n] ∧ 0 ≤ n ∧ n < 2 ^ 20 ∧ ∀ p, H p = none → Q (.ref p) (upd H p (.rng 0 n))) := by
  intro pins s σ H xs us Q I r h
  obtain ⟨n, rfl, h0, h1, q⟩ := h
  cases r with
  | cons r rr =>
    cases rr
    obtain ⟨t, rfl⟩ := r
    refine call_range_1 ?_
    refine ⟨.ref s.heap.objs.size, _, I.laid (a := s.heap.objs.size) (o := .rng 0 n) (fun b o e => Heap.get?_push_of_some _ e) (Nat.le_refl _) ⟨_, _, _, Heap.get?_push_size _ rfl⟩, rfl, q _ (I.hok.fresh (Nat.le_refl _))⟩
end
section
variable {prog : Program} {w : World} {A : Around} {E : Value → Shared → Prop} {s : Shared}
end
section
variable {X : Cx} {tg : Expr}
end
end L2
namespace L2
open PySem PySem.Spec PyProof.Rows
theorem vals_of_carried : ∀ {ys : List Value} {is : List Int}, CarriedAll ys (is.map PyData.int) → Vals (is.map V.int) ys
  | _, [], h => by cases h; exact .nil
  | _, i :: r, h => by
    cases h with
    | cons a b =>
      cases a
      exact .cons ⟨_, rfl⟩ (vals_of_carried b)
section
variable {X : Cx}
theorem call_list_rng (hc : X.calm = true) : CallR X (.type "list") (fun xs H Q => ∃ (r : Addr) (n : Nat), xs = [.ref r] ∧ H r = some (.rng 0 (n : Int)) ∧ n ≤ 1000 ∧ ∀ l, H l = none → Q (.ref l) (upd H l (.lst ((List.range n).map fun (i : Nat) => V.int (i : Int))))) := by
  intro pins s σ H xs us Q I rr h
  obtain ⟨r, n, rfl, hr, hn, q⟩ := h
  obtain ⟨u, rfl, rx⟩ := vals1 rr
  cases rx
  obtain ⟨t, u, v, hro⟩ := (show ObjOk X.prog X.w H s.heap r (.rng 0 (n : Int)) from I.hok r _ hr)
  obtain ⟨m, hfr⟩ := I.fr
  have hsz : Builtin.Range.rangeSize 0 (n : Int) 1 = (n : Int) := by
    unfold Builtin.Range.rangeSize
    by_cases h0 : (0 : Int) < (n : Int)
    · rw [if_pos (by decide), if_pos h0]; omega
    · rw [if_pos (by decide), if_neg h0]; omega
  have fits : ∀ z : Int, 0 ≤ z → z ≤ 2000 → Builtin.Range.rangeFitsLong z = true := fun z h0 h1 => by
    unfold Builtin.Range.rangeFitsLong
    simp only [Bool.and_eq_true, decide_eq_true_eq]
    constructor <;> omega
  have hsm : Builtin.Range.small 0 (n : Int) 1 = true := by
    unfold Builtin.Range.small
    rw [hsz, if_pos (by decide), fits 0 (by decide) (by decide), fits (n : Int) (by omega) (by omega), fits 1 (by decide) (by decide), fits ((n : Int) + (1 - 1)) (by omega) (by omega)]
    simp
  refine list_rangeD (news := []) (I.ok.hd hc) hfr (fun p hp => nomatch hp) hro hsm hsz (Nat.le_trans hn (by decide)) fun h' tk ys F' N' kp h0 hil hpl hca => ?_
  have ev : (rangeInts 0 1 n).map PyData.int = (((List.range n).map fun (i : Nat) => (i : Int))).map PyData.int := by
    have e1 : rangeInts 0 1 n = (List.range n).map fun (i : Nat) => (i : Int) := by
      unfold rangeInts
      refine List.map_congr_left fun i _ => ?_
      show 0 + (i : Int) * 1 = (i : Int)
      rw [Int.mul_one, Int.zero_add]
    rw [e1]
  rw [ev] at hca
  have rv := vals_of_carried hca
  rw [List.map_map] at rv
  obtain ⟨k, hk⟩ : ∃ k, h'.get? s.heap.objs.size = some { cls := .type "list", data := .seq ys.toArray k } := hpl.1
  exact ⟨.ref s.heap.objs.size, _, I.laid (t' := tk) kp (Nat.le_refl _) (show ObjOk X.prog X.w _ h' _ (.lst ((List.range n).map fun (i : Nat) => V.int (i : Int))) from ⟨by rw [List.length_map, List.length_range]; exact line_of (by omega), ys, k, rv, hk⟩), rfl, q _ (I.hok.fresh (Nat.le_refl _))⟩
end
end L2
namespace K51
open PySem L2 TM TT ST K9 K11
theorem pi_listK {X : Cx} {K : PySem.W.Frag} {tg e : Expr} {te : TE} (hK : X.K = K) (h : PE X e te) : PI X tg e (iList K te) := by
  subst hK
  exact pi_list h
abbrev rSumG (K : PySem.W.Frag) : List V → Hp → VK → Prop := fun xs H Q => ∃ (l : Addr) (ns : List Int), xs = [.ref l] ∧ SqL K H l (ns.map V.int) ∧ Q (.int ns.sum) H
def spSize (K : PySem.W.Frag) (n : Nat) : Sp := fun vs H Q _ => ∃ (v : V) (t : Tm), vs = [v] ∧ TmV K H v t ∧ lv t ≤ n ∧ ∀ (z : Int) (H' : Hp), Same H H' → Q (.int z) H'
def spMany (K : PySem.W.Frag) : Sp := fun vs H Q _ => ∃ (tu lm : Addr) (x sv : V) (st : Tm) (ms : List MdT), vs = [.ref tu] ∧ SqT K H tu [x, sv, .ref lm] ∧ TmV K H sv st ∧ lv st ≤ 8 ∧ ModesL K H lm ms ∧ ms.length ≤ 10 ∧ (∀ m ∈ ms, m.2.2.2.2.length ≤ 10 ∧ ∀ t ∈ m.2.2.2.2, lv t ≤ 8) ∧ ∀ (z : Int) (H' : Hp), Same H H' → Q (.int z) H'
section
variable {P : Program} {w : World} {K : PySem.W.Frag} {mg : Str → Option Value} {base : Heap} {f : Addr} {fd : FuncData}
theorem scSize : FnScope ["_law_term_here"] ["_law_term_here"] (defScope sSize) := ⟨rfl, rfl, rfl, by decide +kernel, rfl, by decide +kernel, by decide +kernel⟩
theorem ok_size {n : Nat} (F : Fun K "_law_size" "_law_size" sSize f fd) (G : Gm mg) (R : Fn P w K mg base (n + 1) "_law_size" ["_law_term_here"] (spSize K n)) : FnOk P w K mg base CX0 (n + 2) f fd ["_law_term_here"] (spSize K (n + 1)) := by
  refine F.ok scSize (fun vs H Q E h => ?_) (fun cdv A outer s H vs Q E hr h => ?_)
  · obtain ⟨v, t, rfl, _⟩ := h
    rfl
  obtain ⟨v, t, rfl, ht, hlv, q⟩ := h
  refine ⟨_, (pss_cons (ps_if (pt_cmpR op_eq (pe_ix ix_tup (pv 0) pe_int (fun _ _ => rfl)) pe_str (nomark _)) (pss_one (ps_ret pe_int)) pss_nil)
    (pss_one (ps_ret (pe_op op_add pe_int (pe_callB (call_sumG rfl) rfl G.sum PyProof.Rows.boot_sum (pa_cons (pe_lcompG (CompG.many (xs := ["_law_part"]) (caps := []) (cap := []) (cs := []) rfl rfl (by decide +kernel) (by decide +kernel) (by decide +kernel) (by decide +kernel) (by decide +kernel) (by decide +kernel) rfl rfl rfl) rfl (pi_tup (pe_ix ix_tup (pv 0) pe_int (fun _ _ => rfl))) (pg_c1 (CompG.many (xs := ["_law_part"]) (caps := []) (cap := []) (cs := []) rfl rfl (by decide +kernel) (by decide +kernel) (by decide +kernel) (by decide +kernel) (by decide +kernel) (by decide +kernel) rfl rfl rfl)) (fun _ _ _ _ => pf_nil) (fun _ _ _ _ => pe_fn R hr (pa_cons (pv 0) pa_nil) (Nat.le_refl _))) pa_nil)))))), ?_⟩
  have ePC : ¬ V.str PUT = V.str CALL := by decide +kernel
  rcases tm_open ht with ⟨a, m, b, rfl, rfl, h1⟩ | ⟨a, b, bs, nm, k, ad, rfl, et, h1, h2, h3, h4⟩
  · exact ⟨_, rfl, a, _, 0, _, rfl, rfl, h1, rfl, rfl, _, rfl, iteP rfl (q 1 H (Same.refl _))⟩
  refine ⟨_, rfl, a, _, 0, _, rfl, rfl, h1, rfl, rfl, _, rfl, iteN ePC ?_⟩
  have hlen := h3.length
  rw [lv_bs] at hlv
  refine ⟨_, rfl, a, _, 4, _, rfl, rfl, h1, rfl, b, rfl, ⟨_, h2⟩, fun acc hacc => ?_⟩
  refine c1_tup (K := K) (xs := bs) (cs := []) (tt := fun _ H Q => Q true H) (te := tCall (spSize K n) [] E0 (tCons (tVar 0) tNil)) (fun i ys H' => ∃ zs : List Int, ys = zs.map V.int ∧ zs.length = i ∧ H' acc = some (.lst ys) ∧ Same H H')
    ⟨[], rfl, rfl, upd_same, same_new hacc _⟩ ?_ ?_ ?_
  · rintro i ys H' _ ⟨_, _, _, _, g⟩
    exact g.seqT h2
  · rintro i x ys H' hi hx ⟨zs, rfl, hzl, hya, g⟩
    obtain ⟨c, hc⟩ : ∃ c, t.bs[i]? = some c := ⟨_, List.getElem?_eq_getElem (by omega)⟩
    obtain ⟨cv, hcv, hct⟩ := h3.get hc
    obtain rfl : cv = x := Option.some.inj (hcv.symm.trans hx)
    have a1 := lv_le (List.mem_of_getElem? hc)
    refine iteT ⟨_, rfl, cv, c, rfl, hct.mono fun _ _ => g.seqT, by omega, fun z H4 g4 => ?_⟩
    refine comp_next hi (g4 _ _ hya) (by rw [List.length_map]; omega) ⟨zs ++ [z], by simp, by simp [hzl], upd_same, fun x u e => ?_⟩
    rw [upd_ne (ne_of_none e hacc)]; exact g4 _ _ (g _ _ e)
  rintro ys H1 ⟨zs, rfl, hzl, hya, g⟩
  exact ⟨acc, zs, rfl, SqL.of hya, _, _, rfl, rfl, q _ H1 g⟩
theorem none_size {k : Nat} : FnOk P w K mg base CX0 k f fd ["_law_term_here"] (spSize K 0) := by
  have no : ∀ vs H Q E, ¬ spSize K 0 vs H Q E := fun vs H Q E h => by
    obtain ⟨v, t, _, _, h0, _⟩ := h
    rw [lv_bs] at h0; omega
  exact ⟨fun vs H Q E h => absurd h (no vs H Q E), fun A outer s H args us vs Q E _ _ _ _ h => absurd h (no vs H Q E)⟩
theorem all_size (F : Fun K "_law_size" "_law_size" sSize f fd) (G : Gm mg) (hb : Binds K fd ["_law_term_here"] []) (hm : mg "_law_size" = some (.ref f)) : ∀ n : Nat, FnOk P w K mg base CX0 (n + 1) f fd ["_law_term_here"] (spSize K n)
  | 0 => none_size
  | n + 1 => ok_size F G ⟨f, fd, all_size F G hb hm n, hb, F.kp, hm⟩
theorem scMany : FnScope ["_law_turning_here"] ["_law_turning_here"] (defScope sMany) := ⟨rfl, rfl, rfl, by decide +kernel, rfl, by decide +kernel, by decide +kernel⟩
theorem ok_many (F : Fun K "_law_many" "_law_many" sMany f fd) (G : Gm mg) (RZ : Fn P w K mg base 9 "_law_size" ["_law_term_here"] (spSize K 8)) : FnOk P w K mg base CX0 10 f fd ["_law_turning_here"] (spMany K) := by
  refine F.ok scMany (fun vs H Q E h => ?_) (fun cdv A outer s H vs Q E hr h => ?_)
  · obtain ⟨tu, lm, x, sv, st, ms, rfl, _⟩ := h
    rfl
  obtain ⟨tu, lm, x, sv, st, ms, rfl, htu, hs, hls, hM, hm10, hmt, q⟩ := h
  refine ⟨_, (pss_one (ps_ret (pe_op op_add (pe_fn RZ hr (pa_cons (pe_ix ix_tup (pv 0) pe_int (fun _ _ => rfl)) pa_nil)) (pe_callB (call_sumG rfl) rfl G.sum PyProof.Rows.boot_sum (pa_cons (pe_lcompG (CompG.many (xs := ["_law_kind", "_law_rules"]) (caps := []) (cap := []) (cs := []) rfl rfl (by decide +kernel) (by decide +kernel) (by decide +kernel) (by decide +kernel) (by decide +kernel) (by decide +kernel) rfl rfl rfl) rfl (pi_list (pe_ix ix_tup (pv 0) pe_int (fun _ _ => rfl))) (pg_c2 (CompG.many (xs := ["_law_kind", "_law_rules"]) (caps := []) (cap := []) (cs := []) rfl rfl (by decide +kernel) (by decide +kernel) (by decide +kernel) (by decide +kernel) (by decide +kernel) (by decide +kernel) rfl rfl rfl) rfl) (fun _ _ _ _ => pf_nil)
    (fun _ _ _ _ => pe_callB (r := rSumG K) (call_sumG rfl) rfl G.sum PyProof.Rows.boot_sum (pa_cons (pe_lcompG (CompG.many (xs := ["_law_rule"]) (caps := []) (cap := []) (cs := []) rfl rfl (by decide +kernel) (by decide +kernel) (by decide +kernel) (by decide +kernel) (by decide +kernel) (by decide +kernel) rfl rfl rfl) rfl (pi_listK (K := K) rfl (pv 1)) (pg_c1 (CompG.many (xs := ["_law_rule"]) (caps := []) (cap := []) (cs := []) rfl rfl (by decide +kernel) (by decide +kernel) (by decide +kernel) (by decide +kernel) (by decide +kernel) (by decide +kernel) rfl rfl rfl)) (fun _ _ _ _ => pf_nil) (fun _ _ _ _ => pe_fn RZ hr (pa_cons (pv 0) pa_nil))) pa_nil))) pa_nil))))), ?_⟩
  refine ⟨_, rfl, tu, _, 1, _, rfl, rfl, htu, rfl, sv, st, rfl, hs, hls, fun z0 H1 g1 => ?_⟩
  have hM1 := hM.same g1
  refine ⟨_, rfl, tu, _, 2, _, rfl, rfl, g1.seqT htu, rfl, lm, rfl, ⟨_, hM1.1⟩, fun acc hacc => ?_⟩
  refine c2_list (K := K) (xs := ms.map fun m => V.ref m.1) (cs := []) (tt := fun _ H Q => Q true H) (fun i ys H' => ∃ zs : List Int, ys = zs.map V.int ∧ zs.length = i ∧ H' acc = some (.lst ys) ∧ Same H1 H')
    ⟨[], rfl, rfl, upd_same, same_new hacc _⟩ ?_ ?_ ?_
  · rintro i ys H' _ ⟨_, _, _, _, g⟩
    exact (hM1.same g).1
  · rintro i x ys H' hi hx ⟨zs, rfl, hzl, hya, g⟩
    have him : i < ms.length := by simpa using hi
    obtain rfl : x = .ref ms[i].1 := by
      rw [List.getElem?_map, List.getElem?_eq_getElem him] at hx
      exact (Option.some.inj hx).symm
    have hmm := List.getElem_mem him
    obtain ⟨m1, m2, m3⟩ := (hM1.same g).2 _ hmm
    obtain ⟨hl10, htl⟩ := hmt _ hmm
    have hlen := m3.length
    refine ⟨ms[i].1, _, _, rfl, m1, iteT ⟨_, rfl, ms[i].2.2.1, rfl, ⟨_, m2⟩, fun acc2 hacc2 => ?_⟩⟩
    refine c1_list (K := K) (xs := ms[i].2.2.2.1) (cs := []) (tt := fun _ H Q => Q true H) (te := tCall (spSize K 8) [] E0 (tCons (tVar 0) tNil)) (fun j ys2 H2 => ∃ zs2 : List Int, ys2 = zs2.map V.int ∧ zs2.length = j ∧ H2 acc2 = some (.lst ys2) ∧ Same H' H2)
      ⟨[], rfl, rfl, upd_same, same_new hacc2 _⟩ ?_ ?_ ?_
    · rintro j ys2 H2 _ ⟨_, _, _, _, g2⟩
      exact g2.seq m2
    · rintro j y ys2 H2 hj hy ⟨zs2, rfl, hzl2, hya2, g2⟩
      have hjt : j < ms[i].2.2.2.2.length := by omega
      obtain ⟨cv, hcv, hct⟩ := m3.get (List.getElem?_eq_getElem hjt)
      obtain rfl : cv = y := Option.some.inj (hcv.symm.trans hy)
      refine iteT ⟨_, rfl, cv, _, rfl, hct.mono fun _ _ => g2.seqT, htl _ (List.getElem_mem hjt), fun z H4 g4 => ?_⟩
      refine comp_next hj (g4 _ _ hya2) (by rw [List.length_map]; omega) ⟨zs2 ++ [z], by simp, by simp [hzl2], upd_same, fun b u e => ?_⟩
      rw [upd_ne (ne_of_none e hacc2)]; exact g4 _ _ (g2 _ _ e)
    rintro ys2 H2 ⟨zs2, rfl, hzl2, hya2, g2⟩
    refine ⟨acc2, zs2, rfl, SqL.of hya2, ?_⟩
    refine comp_next (ys := zs.map V.int) hi (g2 _ _ hya) (by rw [List.length_map]; omega) ⟨zs ++ [zs2.sum], by simp, by simp [hzl], upd_same, fun b u e => ?_⟩
    rw [upd_ne (ne_of_none e hacc)]; exact g2 _ _ (g _ _ e)
  rintro ys H2 ⟨zs, rfl, hzl, hya, g⟩
  exact ⟨acc, zs, rfl, SqL.of hya, _, _, rfl, rfl, q _ H2 (g1.trans g)⟩
end
end K51
namespace K51
open PySem L2 TM TT ST K9 K11
mutual
theorem sub_lv' {p : Int → Int → Prop} {f : Int → Int → Tm} {L : Nat} (hL : 1 ≤ L) (h : ∀ m b, p m b → lv (f m b) ≤ L) : ∀ {t : Tm}, TPr p t → lv (TT.sub f t) + 1 ≤ lv t + L
  | .node (.call m b) mk bs, k => by
    simp only [TPr] at k
    obtain ⟨k, rfl⟩ := k
    simp only [TT.sub, hdF, lv, lvs]
    have := h m b k
    omega
  | .node (.put n kk a) mk bs, k => by
    simp only [TPr] at k
    simp only [TT.sub, hdF, lv]
    have := subs_lv' hL h k.2.2
    omega
theorem subs_lv' {p : Int → Int → Prop} {f : Int → Int → Tm} {L : Nat} (hL : 1 ≤ L) (h : ∀ m b, p m b → lv (f m b) ≤ L) : ∀ {bs : List Tm}, TPrs p bs → lvs (TT.subs f bs) + 1 ≤ lvs bs + L
  | [], _ => by simp only [TT.subs, lvs]; omega
  | b :: r, k => by
    simp only [TPrs] at k
    simp only [TT.subs, lvs]
    have h1 := sub_lv' hL h k.1
    have h2 := subs_lv' hL h k.2
    omega
end
structure OneT (ks : List KdT) (st1 : Tm) (ms1 : List MdT) : Prop where
  few : ms1.length ≤ 4
  pos : 0 < ms1.length
  s1 : TPr (Pn ms1.length) st1 ∧ lv st1 ≤ 3
  r1 : ∀ m ∈ ms1, ∃ kd ∈ ks, kd.2.1 = m.2.1 ∧ m.2.2.2.2.length = kd.2.2.2.length ∧ ∀ t ∈ m.2.2.2.2, TPr (Pn ms1.length) t ∧ lv t ≤ 6
theorem T51.s {ks : List KdT} {st : Tm} {ms : List MdT} (h : T51 ks st ms) (hW : WD ks) : TPr (Pn ms.length) st := (h.sc _ (List.getElem?_eq_getElem hW.pos)).mono fun a b k => ⟨k.1, k.2.1⟩
theorem ren_ok {n m : Nat} {ns : List Int} (hl : ns.length = n) (h : ∀ x ∈ ns, 0 ≤ x ∧ x < (m : Int)) {t : Tm} (ht : TPr (Pn n) t) : TPr (Pn m) (TT.sub (fun a b => leaf (rf ns a) b) t) ∧ lv (TT.sub (fun a b => leaf (rf ns a) b) t) ≤ lv t := by
  refine ⟨ht.sub fun a b k => ?_, ?_⟩
  · have ha : a.toNat < ns.length := by have h1 := k.1; have h2 := k.2; omega
    have e : rf ns a = ns[a.toNat] := by unfold rf; rw [List.getElem?_eq_getElem ha]; rfl
    simp only [leaf, TPr]
    exact ⟨by rw [e]; exact h _ (List.getElem_mem ha), trivial⟩
  · have := sub_lv' (L := 1) (Nat.le_refl 1) (f := fun a b => leaf (rf ns a) b) (fun a b _ => by simp [leaf, lv, lvs]) ht
    omega
def spHB (K : PySem.W.Frag) : Sp := fun vs H Q _ => ∃ (tu wd lm : Addr) (sv : V) (ks : List KdT) (st : Tm) (ms : List MdT), vs = [.ref tu] ∧ TurnD K H tu wd lm sv ks st ms ∧ WD ks ∧ T51 ks st ms ∧
  ∀ (tu1 lm1 : Addr) (sv1 : V) (st1 : Tm) (ms1 : List MdT) (H' : Hp), Same H H' → TurnD K H' tu1 wd lm1 sv1 ks st1 ms1 → OneT ks st1 ms1 → ms1.length = ms.length + 1 → Q (.ref tu1) H'
def spTA (K : PySem.W.Frag) : Sp := fun vs H Q _ => ∃ (tu wd lm : Addr) (sv : V) (ks : List KdT) (st : Tm) (ms : List MdT) (step : Int), vs = [.ref tu, .int step] ∧ TurnD K H tu wd lm sv ks st ms ∧ WD ks ∧ T51 ks st ms ∧
  ∀ (tu1 lm1 : Addr) (sv1 : V) (st1 : Tm) (ms1 : List MdT) (H' : Hp), Same H H' → TurnD K H' tu1 wd lm1 sv1 ks st1 ms1 → OneT ks st1 ms1 → ms1.length = ms.length → Q (.ref tu1) H'
section
variable {P : Program} {w : World} {K : PySem.W.Frag} {mg : Str → Option Value} {base : Heap} {f : Addr} {fd : FuncData}
theorem scHeldB : FnScope ["_law_turning_here", "_law_wood_here", "_law_start", "_law_modes", "_law_rules"] ["_law_turning_here"] (defScope sHeldB) := ⟨rfl, rfl, rfl, by decide +kernel, rfl, by decide +kernel, by decide +kernel⟩
theorem ok_hb (F : Fun K "_law_held_back" "_law_held_back" sHeldB f fd) (G : Gm mg) (RU : Fn P w K mg base 5 "_law_ruled" ["_law_term_here", "_law_modes", "_law_row"] (spRul K 4)) : FnOk P w K mg base CX0 6 f fd ["_law_turning_here"] (spHB K) := by
  refine F.ok scHeldB (fun vs H Q E h => ?_) (fun cdv A outer s H vs Q E hr h => ?_)
  · obtain ⟨tu, wd, lm, sv, ks, st, ms, rfl, _⟩ := h
    rfl
  obtain ⟨tu, wd, lm, sv, ks, st, ms, rfl, hT, hW, hD, q⟩ := h
  refine ⟨_, (pss_cons (ps_asg (pv 0) (pg_tup rfl (pgs_cons (pg_name (i := 1) scHeldB.nd rfl (Or.inl rfl)) (pgs_cons (pg_name (i := 2) scHeldB.nd rfl (Or.inr rfl)) (pgs_cons (pg_name (i := 3) scHeldB.nd rfl (Or.inr rfl)) pgs_nil)))))
    (pss_cons (ps_setG (i := 4) (CompG.many (xs := ["_law_row"]) (caps := ["_law_modes", "_law_start"]) (cap := [3, 2]) (cs := [_, _]) rfl rfl (by decide +kernel) (by decide +kernel) (by decide +kernel) (by decide +kernel) (by decide +kernel) (by decide +kernel) rfl rfl rfl) rfl (pi_range1 rfl G.rng (pa_cons (pe_callB call_len_seq rfl G.len PySem.boot_len (pa_cons (pe_ix ix_tup (pe_ix ix_list (pv 1) pe_int (fun _ _ => rfl)) pe_int (fun _ _ => rfl)) pa_nil)) pa_nil)) (pg_c1 (CompG.many (xs := ["_law_row"]) (caps := ["_law_modes", "_law_start"]) (cap := [3, 2]) (cs := [_, _]) rfl rfl (by decide +kernel) (by decide +kernel) (by decide +kernel) (by decide +kernel) (by decide +kernel) (by decide +kernel) rfl rfl rfl)) (fun _ _ _ _ => pf_nil) (fun _ _ _ _ => pe_fn RU hr (pa_cons (pv 2) (pa_cons (pv 1) (pa_cons (pv 0) pa_nil)))) scHeldB.nd rfl rfl)
    (pss_one (ps_ret (pe_tup (pa_cons (pv 1) (pa_cons ((pe_tup (pa_cons (pe_str) (pa_cons (pe_callB call_len_seq rfl G.len PySem.boot_len (pa_cons (pv 3) pa_nil)) (pa_cons (pe_int) pa_nil))))) (pa_cons (pe_op op_catL (pv 3) (pe_lst (pa_cons ((pe_tup (pa_cons (pe_ix ix_tup (pe_ix ix_list (pv 1) pe_int (fun _ _ => rfl)) pe_int (fun _ _ => rfl)) (pa_cons (pv 4) pa_nil)))) pa_nil))) pa_nil)))))))), ?_⟩
  have kpos := hW.pos
  have hk0 := List.getElem_mem kpos
  have hatw : atI (ks.map fun k => V.ref k.1) 0 = some (.ref ks[0].1) := atI_nat (j := 0) (by rw [List.getElem?_map, List.getElem?_eq_getElem kpos]; rfl)
  have hrw := hW.rws _ hk0
  have m3 := hD.three
  have hs0 := hD.sc _ (List.getElem?_eq_getElem kpos)
  have erl : (ks[0].2.2.2.map fun t => V.ref t.1).length = ks[0].2.2.2.length := List.length_map ..
  refine ⟨_, rfl, tu, _, rfl, hT.tu, rfl, _, _, rfl, _, _, rfl, _, _, rfl, rfl, ?_⟩
  refine ⟨_, rfl, wd, _, 0, _, rfl, rfl, hT.w.1, hatw, ks[0].1, _, 1, _, rfl, rfl, (hT.w.2 _ hk0).1, rfl, ks[0].2.2.1, _, rfl, .inl (hT.w.2 _ hk0).2.1, ?_⟩
  rw [erl]
  refine ⟨_, rfl, (by show -(2 ^ 62 : Int) ≤ (ks[0].2.2.2.length : Int); omega), (by show (ks[0].2.2.2.length : Int) < 2 ^ 62; omega), fun acc hacc => ?_⟩
  have ruleOk : ∀ (j : Nat) (m : Int), TPr (Pn ms.length) (ruleAt ms j m) ∧ lv (ruleAt ms j m) ≤ 4 ∨ ∀ md : MdT, ms[m.toNat]? = some md → md.2.2.2.2.length ≤ j := fun j m => by
    cases e : ms[m.toNat]? with
    | none => exact .inr fun md h => by cases h
    | some md =>
      by_cases hj : j < md.2.2.2.2.length
      · obtain ⟨kd, _, _, _, h5⟩ := hD.md md (List.mem_of_getElem? e)
        have er : ruleAt ms j m = md.2.2.2.2[j] := by
          unfold ruleAt; rw [e]
          show (md.2.2.2.2[j]?).getD _ = _
          rw [List.getElem?_eq_getElem hj]; rfl
        rw [er]; exact .inl (h5 _ (List.getElem_mem hj))
      · exact .inr fun md' h => by rw [← Option.some.inj h]; omega
  refine c1_range (lo := 0) (n := (ks[0].2.2.2.length : Int).toNat) (cs := [some (.ref lm), some sv]) (tt := fun _ H Q => Q true H) (fun i ys H' => ∃ ps : List Tm, H' acc = some (.lst ys) ∧ Same H H' ∧ TmAll K H' ys ps ∧ ps.length = i ∧ ∀ t ∈ ps, TPr (Pn ms.length) t ∧ lv t ≤ 6)
    ⟨[], upd_same, same_new hacc _, .nil, rfl, fun t ht => (nomatch ht)⟩ ?_ ?_
  · rintro i ys H' hi ⟨ps, hya, g, hps, hpl, hok⟩
    rw [Int.toNat_natCast] at hi
    have hlen := hps.length
    have rl : ∀ md : MdT, md ∈ ms → md.2.1 = ks[0].2.1 → i < md.2.2.2.2.length := fun md hmd e => by
      obtain ⟨kd, hkd, e1, e2, _⟩ := hD.md md hmd
      have := kind_only hW.ok.nd hkd hk0 (e1.trans e)
      rw [e2, this]; exact hi
    have hp : ∀ a b : Int, (0 ≤ a ∧ a < (ms.length : Int) ∧ ∃ m, ms[a.toNat]? = some m ∧ m.2.1 = ks[0].2.1) → TPr (Pn ms.length) (ruleAt ms i a) ∧ lv (ruleAt ms i a) ≤ 4 := fun a b h => by
      obtain ⟨_, _, md, e1, e2⟩ := h
      rcases ruleOk i a with z | z
      · exact z
      · have := z md e1
        have := rl md (List.mem_of_getElem? e1) e2
        omega
    refine iteT ⟨_, rfl, _, rfl, _, rfl, sv, st, lm, ms, i, by rw [Int.zero_add]; rfl, hT.s.mono fun _ _ => g.seqT, by have := hD.sl.1; omega, hT.m.same g, fun c hc => ?_, fun v4 H4 g4 hv4 => ?_⟩
    · obtain ⟨c0, _, md, e1, e2⟩ := hs0.calls c hc
      exact ⟨c0, md, e1, rl md (List.mem_of_getElem? e1) e2⟩
    have hya4 := g4 _ _ hya
    refine comp_next (ys := ys) (by rw [Int.toNat_natCast]; exact hi) hya4 (by omega) ⟨ps ++ [TT.sub (fun m _ => ruleAt ms i m) st], upd_same, fun b u e => ?_, ?_, by simp [hpl], fun t ht => ?_⟩
    · rw [upd_ne (ne_of_none e hacc)]; exact g4 _ _ (g _ _ e)
    · exact TmAll.append (hps.mono fun _ _ h => (g4.seqT h).put hya4) (.cons (hv4.mono fun _ _ h => h.put hya4) .nil)
    · rcases List.mem_append.mp ht with z | z
      · exact hok t z
      · obtain rfl : t = TT.sub (fun m _ => ruleAt ms i m) st := by simpa using z
        have h6 := sub_lv' (L := 4) (by decide) (f := fun m _ => ruleAt ms i m) (fun a b h => (hp a b h).2) hs0
        have := hD.sl.1
        exact ⟨hs0.sub fun a b h => (hp a b h).1, by omega⟩
  rintro ys H1 ⟨ps, hya, g, hps, hpl, hok⟩
  rw [Int.toNat_natCast] at hpl
  have hT1 := hT.same g
  have hlen := hps.length
  have elm : (ms.map fun m => V.ref m.1).length = ms.length := List.length_map ..
  refine ⟨_, rfl, _, rfl, lm, _, rfl, .inl hT1.m.1, ?_⟩
  rw [elm]
  refine ⟨(by show 3 ≤ sizeLine; decide), fun pc hpc => ?_⟩
  have e1 := same_new hpc (.tup [.str CALL, .int (ms.length : Int), .int 0])
  have hT2 := hT1.same e1
  refine ⟨_, rfl, _, rfl, wd, _, 0, _, rfl, rfl, hT2.w.1, hatw, ks[0].1, _, 0, _, rfl, rfl, (hT2.w.2 _ hk0).1, rfl, _, rfl, (by show 2 ≤ sizeLine; decide), fun pm hpm => ⟨(by show 1 ≤ sizeLine; decide), fun l1 hl1 => ?_⟩⟩
  have e2 := same_new hpm (.tup [.str ks[0].2.1, .ref acc])
  have e3 := same_new hl1 (.lst [.ref pm])
  have e23 := e2.trans e3
  refine ⟨lm, l1, _, _, rfl, rfl, (hT2.same e23).m.1, SqL.of upd_same, by rw [elm, List.length_singleton]; exact line_of (by omega), fun l2 hl2 => ⟨(by show 3 ≤ sizeLine; decide), fun tu1 htu1 => ?_⟩⟩
  have e4 := same_new hl2 (.lst ((ms.map fun m => V.ref m.1) ++ [.ref pm]))
  have e5 := same_new htu1 (.tup [.ref wd, .ref pc, .ref l2])
  have e45 := e4.trans e5
  have ee := e23.trans e45
  have gA := g.trans (e1.trans ee)
  refine q tu1 l2 (.ref pc) (leaf (ms.length : Int) 0) (ms ++ [(pm, ks[0].2.1, acc, ys, ps)]) _ gA ⟨SqT.of upd_same, (hT.same gA).w, .call (ee.seqT (SqT.of upd_same)), SqL.of (by rw [List.map_append]; exact e5 _ _ upd_same), fun m hm => ?_⟩ ⟨by simp; omega, by simp, ?_, fun m hm => ?_⟩ (by simp)
  · rcases List.mem_append.mp hm with h | h
    · exact (hT.same gA).m.2 m h
    · obtain rfl : m = (pm, ks[0].2.1, acc, ys, ps) := by simpa using h
      have g6 := e1.trans ee
      exact ⟨(e3.trans e45).seqT (SqT.of upd_same), SqL.of (g6 _ _ hya), hps.mono fun _ _ => g6.seqT⟩
  · refine ⟨?_, by simp [leaf, lv, lvs]⟩
    simp only [leaf, TPr, Pn]
    exact ⟨⟨by omega, by simp only [List.length_append, List.length_singleton]; omega⟩, trivial⟩
  · rcases List.mem_append.mp hm with h | h
    · obtain ⟨kd, hkd, a1, a2, a3⟩ := hD.md m h
      exact ⟨kd, hkd, a1, a2, fun t ht => ⟨(a3 t ht).1.mono fun a b k => ⟨k.1, by have := k.2; simp; omega⟩, by have := (a3 t ht).2; omega⟩⟩
    · obtain rfl : m = (pm, ks[0].2.1, acc, ys, ps) := by simpa using h
      exact ⟨ks[0], hk0, rfl, hpl, fun t ht => ⟨(hok t ht).1.mono fun a b k => ⟨k.1, by have := k.2; simp; omega⟩, (hok t ht).2⟩⟩
end
end K51
namespace K51
open PySem L2 TM TT ST K9 K11
def spDo (K : PySem.W.Frag) : Sp := fun vs H Q _ => ∃ (tu wd lm : Addr) (sv : V) (ks : List KdT) (st : Tm) (ms : List MdT) (mo : Nat) (bits : Int), vs = [.ref tu, .int (mo : Int), .int bits] ∧ TurnD K H tu wd lm sv ks st ms ∧ WD ks ∧ T51 ks st ms ∧ mo < ms.length ∧
  ∀ (tu1 lm1 : Addr) (sv1 : V) (st1 : Tm) (ms1 : List MdT) (H' : Hp), Same H H' → TurnD K H' tu1 wd lm1 sv1 ks st1 ms1 → OneT ks st1 ms1 → ms1.length = ms.length + 1 → Q (.ref tu1) H'
def MoR (ks : List KdT) (n : Nat) (m : MdT) : Prop := ∃ kd ∈ ks, kd.2.1 = m.2.1 ∧ m.2.2.2.2.length = kd.2.2.2.length ∧ ∀ t ∈ m.2.2.2.2, TPr (Pn n) t ∧ lv t ≤ 6
section
variable {P : Program} {w : World} {K : PySem.W.Frag} {mg : Str → Option Value} {base : Heap} {f : Addr} {fd : FuncData}
theorem scTurA : FnScope ["_law_turning_here", "_law_step", "_law_modes", "_law_names_here", "_law_found", "_law_k", "_law_kind", "_law_rules"] ["_law_turning_here", "_law_step"] (defScope sTurA) := ⟨rfl, rfl, rfl, by decide +kernel, rfl, by decide +kernel, by decide +kernel⟩
theorem ok_ta (F : Fun K "_law_turned_about" "_law_turned_about" sTurA f fd) (G : Gm mg) (RR : Fn P w K mg base 5 "_law_renamed" ["_law_term_here", "_law_names_here"] (spRen K 4)) : FnOk P w K mg base CX0 6 f fd ["_law_turning_here", "_law_step"] (spTA K) := by
  refine F.ok scTurA (fun vs H Q E h => ?_) (fun cdv A outer s H vs Q E hr h => ?_)
  · obtain ⟨tu, wd, lm, sv, ks, st, ms, step, rfl, _⟩ := h
    rfl
  obtain ⟨tu, wd, lm, sv, ks, st, ms, step, rfl, hT, hW, hD, q⟩ := h
  refine ⟨_, (pss_cons (ps_cut (ps_set (i := 2) scTurA.nd rfl (Or.inr rfl) (pe_ix ix_tup (pv 0) pe_int (fun _ _ => rfl))))
    (pss_cons (ps_cut (ps_set (i := 3) scTurA.nd rfl (Or.inr rfl) (pe_lcompG (CompG.many (xs := ["_law_k"]) (caps := ["_law_modes", "_law_step"]) (cap := [2, 1]) (cs := [_, _]) rfl rfl (by decide +kernel) (by decide +kernel) (by decide +kernel) (by decide +kernel) (by decide +kernel) (by decide +kernel) rfl rfl rfl) rfl (pi_range1 rfl G.rng (pa_cons (pe_callB call_len_seq rfl G.len PySem.boot_len (pa_cons (pv 2) pa_nil)) pa_nil)) (pg_c1 (CompG.many (xs := ["_law_k"]) (caps := ["_law_modes", "_law_step"]) (cap := [2, 1]) (cs := [_, _]) rfl rfl (by decide +kernel) (by decide +kernel) (by decide +kernel) (by decide +kernel) (by decide +kernel) (by decide +kernel) rfl rfl rfl)) (fun _ _ _ _ => pf_nil) (fun _ _ _ _ => pe_op op_mod (pe_op op_add (pv 0) (pv 2)) (pe_callB (r := rLenS K) call_len_seq rfl G.len PySem.boot_len (pa_cons (pv 1) pa_nil))))))
    (pss_cons (ps_cut (ps_set (i := 4) scTurA.nd rfl (Or.inl rfl) (pe_lst pa_nil)))
    (pss_cons (ps_for PassesOwn.never rfl (pi_range1 rfl G.rng (pa_cons (pe_callB call_len_seq rfl G.len PySem.boot_len (pa_cons (pv 2) pa_nil)) pa_nil)) (pg_name (i := 5) scTurA.nd rfl (Or.inl rfl)) (pss_cons (ps_asg (pe_ix ix_list (pv 2) (pe_op op_mod (pe_op op_sub (pv 5) (pv 1)) (pe_callB call_len_seq rfl G.len PySem.boot_len (pa_cons (pv 2) pa_nil))) (fun _ _ => rfl)) (pg_tup rfl (pgs_cons (pg_name (i := 6) scTurA.nd rfl (Or.inl rfl)) (pgs_cons (pg_name (i := 7) scTurA.nd rfl (Or.inl rfl)) pgs_nil))))
    (pss_one (ps_expr (pe_bm PySem.F.plainAttrs_list PySem.F.slot_list_append PySem.F.type_list_append mt_append (pv 4) (pa_cons ((pe_tup (pa_cons (pv 6) (pa_cons (pe_lcompG (CompG.many (xs := ["_law_rule"]) (caps := ["_law_names_here"]) (cap := [3]) (cs := [_]) rfl rfl (by decide +kernel) (by decide +kernel) (by decide +kernel) (by decide +kernel) (by decide +kernel) (by decide +kernel) rfl rfl rfl) rfl (pi_list (pv 7)) (pg_c1 (CompG.many (xs := ["_law_rule"]) (caps := ["_law_names_here"]) (cap := [3]) (cs := [_]) rfl rfl (by decide +kernel) (by decide +kernel) (by decide +kernel) (by decide +kernel) (by decide +kernel) (by decide +kernel) rfl rfl rfl)) (fun _ _ _ _ => pf_nil) (fun _ _ _ _ => pe_fn RR hr (pa_cons (pv 0) (pa_cons (pv 1) pa_nil)))) pa_nil)))) pa_nil))))))
    (pss_one (ps_ret (pe_tup (pa_cons (pe_ix ix_tup (pv 0) pe_int (fun _ _ => rfl)) (pa_cons (pe_fn RR hr (pa_cons (pe_ix ix_tup (pv 0) pe_int (fun _ _ => rfl)) (pa_cons (pv 3) pa_nil))) (pa_cons (pv 4) pa_nil)))))))))), ?_⟩
  have m3 := hD.three
  have m1 := hD.pos
  have elm : (ms.map fun m => V.ref m.1).length = ms.length := List.length_map ..
  refine cutK fun KK hKK => ?_
  refine ⟨_, rfl, tu, _, 2, _, rfl, rfl, hT.tu, rfl, ?_⟩
  refine hKK _ _ ?_
  clear hKK KK
  refine cutK fun KK hKK => ?_
  refine ⟨_, rfl, lm, _, rfl, .inl hT.m.1, ?_⟩
  rw [elm]
  refine ⟨_, rfl, (by show -(2 ^ 62 : Int) ≤ (ms.length : Int); omega), (by show (ms.length : Int) < 2 ^ 62; omega), fun ln hln => ?_⟩
  refine c1_range (lo := 0) (n := (ms.length : Int).toNat) (cs := [some (.ref lm), some (.int step)]) (tt := fun _ H Q => Q true H) (fun i ys H' => ∃ ns : List Int, ys = ns.map V.int ∧ ns.length = i ∧ (∀ x ∈ ns, 0 ≤ x ∧ x < (ms.length : Int)) ∧ H' ln = some (.lst ys) ∧ Same H H')
    ⟨[], rfl, rfl, fun x hx => (nomatch hx), upd_same, same_new hln _⟩ ?_ ?_
  · rintro i ys H' hi ⟨ns, rfl, hnl, hns, hya, g⟩
    rw [Int.toNat_natCast] at hi
    have hpos : (0 : Int) < (ms.length : Int) := by omega
    refine iteT ⟨_, rfl, _, rfl, _, _, rfl, rfl, _, rfl, lm, _, rfl, .inl (hT.m.same g).1, ?_⟩
    rw [elm]
    refine ⟨_, _, rfl, rfl, hpos, ?_⟩
    refine comp_next (ys := ns.map V.int) (by rw [Int.toNat_natCast]; exact hi) hya (by rw [List.length_map]; omega) ⟨ns ++ [(0 + (i : Int) + step) % (ms.length : Int)], by simp, by simp [hnl], fun x hx => ?_, upd_same, fun b u e => ?_⟩
    · rcases List.mem_append.mp hx with h | h
      · exact hns x h
      · obtain rfl : x = (0 + (i : Int) + step) % (ms.length : Int) := by simpa using h
        exact ⟨Int.emod_nonneg _ (by omega), Int.emod_lt_of_pos _ hpos⟩
    · rw [upd_ne (ne_of_none e hln)]; exact g _ _ e
  rintro ys H1 ⟨ns, rfl, hnl, hns, hln1, g1⟩
  refine hKK _ _ ?_
  clear hKK KK
  rw [Int.toNat_natCast] at hnl
  refine cutK fun KK hKK => ?_
  refine ⟨(by show 0 ≤ sizeLine; decide), fun lf hlf => ?_⟩
  refine hKK _ _ ?_
  clear hKK KK
  have gf := same_new hlf (.lst [])
  have gHf := g1.trans gf
  refine ⟨_, rfl, lm, _, rfl, .inl (hT.m.same gHf).1, ?_⟩
  rw [elm]
  refine ⟨_, rfl, (by show -(2 ^ 62 : Int) ≤ (ms.length : Int); omega), (by show (ms.length : Int) < 2 ^ 62; omega), ?_⟩
  refine for_range (lo := 0) (n := (ms.length : Int).toNat) (fun k σ H' => ∃ (fs : List MdT) (c5 c6 c7 : Option V), σ = [some (.ref tu), some (.int step), some (.ref lm), some (.ref ln), some (.ref lf), c5, c6, c7] ∧ Same H1 H' ∧ H' lf = some (.lst (fs.map fun m => V.ref m.1)) ∧ fs.length = k ∧ ∀ m ∈ fs, MoAt K H' lf m ∧ MoR ks ms.length m)
    ⟨[], none, none, none, rfl, gf, upd_same, rfl, fun m hm => (nomatch hm)⟩ ?_ ?_
  · rintro k σ H' hk ⟨fs, c5, c6, c7, rfl, g, hlf', hfl, hfo⟩
    rw [Int.toNat_natCast] at hk
    have gH := g1.trans g
    have hM' := hT.m.same gH
    obtain ⟨y, hy, hyat⟩ := at_rest (xs := ms.map fun m => V.ref m.1) (k := (ms.length : Int)) (by rw [elm]) (by omega) (0 + (k : Int) - step)
    obtain ⟨md, hmd, rfl⟩ := List.mem_map.mp hy
    obtain ⟨kd, hkd, q1, q2, q3⟩ := hD.md md hmd
    have hr3 := (hW.rws kd hkd).2
    obtain ⟨d1, d2, d3⟩ := hM'.2 md hmd
    have hlen := d3.length
    refine ⟨_, rfl, _, rfl, _, rfl, _, _, rfl, rfl, _, rfl, lm, _, rfl, .inl hM'.1, ?_⟩
    rw [elm]
    refine ⟨_, _, rfl, rfl, (by show (0 : Int) < (ms.length : Int); omega), lm, _, _, _, rfl, rfl, hM'.1, hyat, md.1, _, rfl, d1, rfl, _, _, rfl, _, _, rfl, rfl, ?_⟩
    refine ⟨_, rfl, .inl ⟨rfl, _, SqL.of hlf'⟩, _, rfl, _, rfl, md.2.2.1, rfl, ⟨_, d2⟩, fun acc hacc => ?_⟩
    refine c1_list (K := K) (xs := md.2.2.2.1) (cs := [some (.ref ln)]) (tt := fun _ H Q => Q true H) (te := tCall (spRen K 4) [] E0 (tCons (tVar 0) (tCons (tVar 1) tNil))) (fun j ys H2 => ∃ ps : List Tm, H2 acc = some (.lst ys) ∧ Same H' H2 ∧ TmAll K H2 ys ps ∧ ps.length = j ∧ ∀ t ∈ ps, TPr (Pn ms.length) t ∧ lv t ≤ 6)
      ⟨[], upd_same, same_new hacc _, .nil, rfl, fun t ht => (nomatch ht)⟩ ?_ ?_ ?_
    · rintro j ys H2 _ ⟨_, _, g2, _⟩
      exact g2.seq d2
    · rintro j x ys H2 hj hx ⟨ps, hya, g2, hps, hpl, hok⟩
      have hjt : j < md.2.2.2.2.length := by omega
      have hlen2 := hps.length
      obtain ⟨cv, hcv, hct⟩ := d3.get (List.getElem?_eq_getElem hjt)
      obtain rfl : cv = x := Option.some.inj (hcv.symm.trans hx)
      obtain ⟨o1, o2⟩ := q3 _ (List.getElem_mem hjt)
      refine iteT ⟨_, rfl, _, rfl, cv, _, ln, ns, rfl, hct.mono fun _ _ => g2.seqT, o2, SqL.of (g2 _ _ (g _ _ hln1)), fun c hc => ?_, fun v4 H4 g4 hv4 => ?_⟩
      · rw [hnl]; exact o1.calls c hc
      have hya4 := g4 _ _ hya
      obtain ⟨r1, r2⟩ := ren_ok hnl hns o1
      refine comp_next (ys := ys) hj hya4 (by omega) ⟨ps ++ [_], upd_same, fun b u e => ?_, TmAll.append (hps.mono fun _ _ h => (g4.seqT h).put hya4) (.cons (hv4.mono fun _ _ h => h.put hya4) .nil), by simp [hpl], fun t ht => ?_⟩
      · rw [upd_ne (ne_of_none e hacc)]; exact g4 _ _ (g2 _ _ e)
      · rcases List.mem_append.mp ht with z | z
        · exact hok t z
        · have e := List.mem_singleton.mp z
          rw [e]; exact ⟨r1, by omega⟩
    rintro ys H2 ⟨ps, hya, g2, hps, hpl, hok⟩
    refine ⟨(by show 2 ≤ sizeLine; decide), fun pm hpm => ?_⟩
    have e7 := same_new hpm (.tup [.str md.2.1, .ref acc])
    have g27 := g2.trans e7
    have hlf7 := g27 _ _ hlf'
    refine ⟨lf, _, _, rfl, rfl, hlf7, by rw [List.length_map, size_line]; omega, ?_⟩
    have hacl : acc ≠ lf := fun z => by rw [z, hlf'] at hacc; cases hacc
    refine ⟨fs ++ [(pm, md.2.1, acc, ys, ps)], _, _, _, rfl, fun b u e => ?_, by rw [upd_same, List.map_append]; rfl, by simp [hfl], fun m hm => ?_⟩
    · rw [upd_ne (ne_of_none e hlf)]; exact g27 _ _ (g _ _ e)
    · rcases List.mem_append.mp hm with h | h
      · obtain ⟨⟨a1, a2, a3, a4⟩, a5⟩ := hfo m h
        exact ⟨⟨(g27.seqT a1).put hlf7, by rw [upd_ne a3]; exact g27 _ _ a2, a3, a4.mono fun _ _ h => (g27.seqT h).put hlf7⟩, a5⟩
      · obtain rfl : m = (pm, md.2.1, acc, ys, ps) := by simpa using h
        refine ⟨⟨SqT.put (SqT.of upd_same) hlf7, ?_, hacl, hps.mono fun _ _ h => (e7.seqT h).put hlf7⟩, kd, hkd, q1, by show ps.length = _; omega, hok⟩
        show (upd _ lf _) acc = _
        rw [upd_ne hacl]; exact e7 _ _ hya
  · rintro σ H' ⟨fs, c5, c6, c7, rfl, g, hlf', hfl, hfo⟩
    rw [Int.toNat_natCast] at hfl
    have gH := g1.trans g
    have hT' := hT.same gH
    have hs := hD.s hW
    obtain ⟨r1, r2⟩ := ren_ok hnl hns hs
    refine ⟨_, rfl, tu, _, 0, _, rfl, rfl, hT'.tu, rfl, _, rfl, tu, _, 1, _, rfl, rfl, hT'.tu, rfl, _, rfl, sv, st, ln, ns, rfl, hT'.s, by have := hD.sl.1; omega, SqL.of (g _ _ hln1), fun c hc => (by rw [hnl]; exact hs.calls c hc), fun v4 H4 g4 hv4 => ⟨_, rfl, (by show 3 ≤ sizeLine; decide), fun tu1 htu1 => ?_⟩⟩
    have e8 := same_new htu1 (.tup [.ref wd, v4, .ref lf])
    have g48 := g4.trans e8
    have gA := gH.trans g48
    refine q tu1 lf v4 _ fs _ gA ⟨SqT.of upd_same, (hT.same gA).w, hv4.mono fun _ _ => e8.seqT, SqL.of (g48 _ _ hlf'), fun m hm => ?_⟩ ⟨by omega, by omega, ⟨by rw [hfl]; exact r1, by have := hD.sl.1; omega⟩, fun m hm => ?_⟩ hfl
    · obtain ⟨⟨a1, a2, a3, a4⟩, _⟩ := hfo m hm
      exact ⟨g48.seqT a1, SqL.of (g48 _ _ a2), a4.mono fun _ _ => g48.seqT⟩
    · obtain ⟨_, kd, hkd, b1, b2, b3⟩ := hfo m hm
      exact ⟨kd, hkd, b1, b2, fun t ht => by rw [hfl]; exact b3 t ht⟩
theorem scDou : FnScope ["_law_turning_here", "_law_mode", "_law_bits", "_law_modes", "_law_found", "_law_k", "_law_names_here"] ["_law_turning_here", "_law_mode", "_law_bits"] (defScope sDou) := ⟨rfl, rfl, rfl, by decide +kernel, rfl, by decide +kernel, by decide +kernel⟩
theorem ok_dou (F : Fun K "_law_doubled" "_law_doubled" sDou f fd) (G : Gm mg) (RR : Fn P w K mg base 5 "_law_renamed" ["_law_term_here", "_law_names_here"] (spRen K 4)) : FnOk P w K mg base CX0 6 f fd ["_law_turning_here", "_law_mode", "_law_bits"] (spDo K) := by
  refine F.ok scDou (fun vs H Q E h => ?_) (fun cdv A outer s H vs Q E hr h => ?_)
  · obtain ⟨tu, wd, lm, sv, ks, st, ms, mo, bits, rfl, _⟩ := h
    rfl
  obtain ⟨tu, wd, lm, sv, ks, st, ms, mo, bits, rfl, hT, hW, hD, hmo, q⟩ := h
  refine ⟨_, (pss_cons (ps_cut (ps_set (i := 3) scDou.nd rfl (Or.inl rfl) (pe_op op_catL (pe_ix ix_tup (pv 0) pe_int (fun _ _ => rfl)) (pe_lst (pa_cons (pe_ix ix_list (pe_ix ix_tup (pv 0) pe_int (fun _ _ => rfl)) (pv 1) (fun _ _ => rfl)) pa_nil)))))
    (pss_cons (ps_cut (ps_set (i := 4) scDou.nd rfl (Or.inl rfl) (pe_lst pa_nil)))
    (pss_cons (ps_for PassesOwn.never rfl (pi_range1 rfl G.rng (pa_cons (pe_op op_add (pe_callB call_len_seq rfl G.len PySem.boot_len (pa_cons (pv 3) pa_nil)) pe_int) pa_nil)) (pg_name (i := 5) scDou.nd rfl (Or.inl rfl)) (pss_cons (ps_set (i := 6) scDou.nd rfl (Or.inr rfl) (pe_callTy (call_list_rng rfl) rfl G.lst PyProof.Rows.boot_list (pa_cons (pe_callTy call_rngV rfl G.rng PyProof.Rows.boot_range (pa_cons (pe_callB call_len_seq rfl G.len PySem.boot_len (pa_cons (pv 3) pa_nil)) pa_nil)) pa_nil)))
    (pss_cons (ps_cut (ps_if (pt_cut (PW.pt (pw_or ((PW.pt (pw_and (pt_cmpR op_eq (pe_op op_mod (pe_op op_fdiv (pv 2) pe_int) pe_int) pe_int (nomark _)) (pw_and1 (pt_cmpR op_eq (pe_op op_mod (pv 5) pe_int) pe_int (nomark _)))))) (pw_or1 ((PW.pt (pw_and (pt_cmpR op_eq (pe_op op_mod (pv 2) pe_int) pe_int (nomark _)) (pw_and1 (pt_cmpR op_eq (pe_op op_mod (pv 5) pe_int) pe_int (nomark _)))))))))) (pss_one (ps_asg (pe_op op_sub (pe_callB call_len_seq rfl G.len PySem.boot_len (pa_cons (pv 3) pa_nil)) pe_int) (pg_sub (pv 6) (pv 1) set_list))) pss_nil))
    (pss_one (ps_if (pt_cmpR op_lt (pv 5) (pe_callB call_len_seq rfl G.len PySem.boot_len (pa_cons (pv 3) pa_nil)) (nomark _)) (pss_one (ps_expr (pe_bm PySem.F.plainAttrs_list PySem.F.slot_list_append PySem.F.type_list_append mt_append (pv 4) (pa_cons ((pe_tup (pa_cons (pe_ix ix_tup (pe_ix ix_list (pv 3) (pv 5) (fun _ _ => rfl)) pe_int (fun _ _ => rfl)) (pa_cons (pe_lcompG (CompG.many (xs := ["_law_rule"]) (caps := ["_law_names_here"]) (cap := [6]) (cs := [_]) rfl rfl (by decide +kernel) (by decide +kernel) (by decide +kernel) (by decide +kernel) (by decide +kernel) (by decide +kernel) rfl rfl rfl) rfl (pi_list (pe_ix ix_tup (pe_ix ix_list (pv 3) (pv 5) (fun _ _ => rfl)) pe_int (fun _ _ => rfl))) (pg_c1 (CompG.many (xs := ["_law_rule"]) (caps := ["_law_names_here"]) (cap := [6]) (cs := [_]) rfl rfl (by decide +kernel) (by decide +kernel) (by decide +kernel) (by decide +kernel) (by decide +kernel) (by decide +kernel) rfl rfl rfl)) (fun _ _ _ _ => pf_nil) (fun _ _ _ _ => pe_fn RR hr (pa_cons (pv 0) (pa_cons (pv 1) pa_nil)))) pa_nil)))) pa_nil)))) pss_nil)))))
    (pss_one (ps_ret (pe_tup (pa_cons (pe_ix ix_tup (pv 0) pe_int (fun _ _ => rfl)) (pa_cons (pe_fn RR hr (pa_cons (pe_ix ix_tup (pv 0) pe_int (fun _ _ => rfl)) (pa_cons (pv 6) pa_nil))) (pa_cons (pv 4) pa_nil))))))))), ?_⟩
  have m3 := hD.three
  have elm : (ms.map fun m => V.ref m.1).length = ms.length := List.length_map ..
  have hatm : atI (ms.map fun m => V.ref m.1) (mo : Int) = some (.ref ms[mo].1) := atI_nat (by rw [List.getElem?_map, List.getElem?_eq_getElem hmo]; rfl)
  refine cutK fun KK hKK => ?_
  refine ⟨_, rfl, tu, _, 2, _, rfl, rfl, hT.tu, rfl, _, rfl, tu, _, 2, _, rfl, rfl, hT.tu, rfl, _, rfl, lm, _, _, _, rfl, rfl, hT.m.1, hatm, (by show 1 ≤ sizeLine; decide), fun l1 hl1 => ?_⟩
  have e1 := same_new hl1 (.lst [.ref ms[mo].1])
  refine ⟨lm, l1, _, _, rfl, rfl, e1.seq hT.m.1, SqL.of upd_same, by rw [elm, List.length_singleton]; exact line_of (by omega), fun l3 hl3 => ?_⟩
  refine hKK _ _ ?_
  clear hKK KK
  obtain ⟨ms3, ems3⟩ : ∃ ms3, ms3 = ms ++ [ms[mo]] := ⟨_, rfl⟩
  have ev : (ms.map fun m => V.ref m.1) ++ [V.ref ms[mo].1] = ms3.map fun m => V.ref m.1 := by rw [ems3, List.map_append]; rfl
  rw [ev]
  have hl3n : ms3.length = ms.length + 1 := by rw [ems3, List.length_append]; rfl
  have hin : ∀ m ∈ ms3, m ∈ ms := fun m hm => by
    rw [ems3] at hm
    rcases List.mem_append.mp hm with h | h
    · exact h
    · rw [List.mem_singleton.mp h]; exact List.getElem_mem hmo
  have e2 := same_new hl3 (.lst (ms3.map fun m => V.ref m.1))
  have hl3v : (upd (upd H l1 (.lst [.ref ms[mo].1])) l3 (.lst (ms3.map fun m => V.ref m.1))) l3 = some (.lst (ms3.map fun m => V.ref m.1)) := upd_same
  have gB := e1.trans e2
  generalize upd (upd H l1 (.lst [.ref ms[mo].1])) l3 (.lst (ms3.map fun m => V.ref m.1)) = Hb at hl3v gB ⊢
  have el3 : (ms3.map fun m => V.ref m.1).length = ms3.length := List.length_map ..
  refine cutK fun KK hKK => ?_
  refine ⟨(by show 0 ≤ sizeLine; decide), fun lf hlf => ?_⟩
  refine hKK _ _ ?_
  clear hKK KK
  have gf := same_new hlf (.lst [])
  refine ⟨_, rfl, l3, _, rfl, .inl (SqL.of (gf _ _ hl3v)), ?_⟩
  rw [el3]
  refine ⟨_, _, rfl, rfl, _, rfl, (by show -(2 ^ 62 : Int) ≤ (ms3.length : Int) + 1; omega), (by show (ms3.length : Int) + 1 < 2 ^ 62; omega), ?_⟩
  refine for_range (lo := 0) (n := ((ms3.length : Int) + 1).toNat) (fun k σ H' => ∃ (fs : List MdT) (c5 c6 : Option V), σ = [some (.ref tu), some (.int (mo : Int)), some (.int bits), some (.ref l3), some (.ref lf), c5, c6] ∧ Same Hb H' ∧ H' lf = some (.lst (fs.map fun m => V.ref m.1)) ∧ fs.length = min k ms3.length ∧ (∀ m ∈ fs, MoAt K H' lf m ∧ MoR ks ms3.length m) ∧ (0 < k → ∃ (lnm : Addr) (ns : List Int), c6 = some (.ref lnm) ∧ H' lnm = some (.lst (NI ns)) ∧ ns.length = ms3.length ∧ ∀ x ∈ ns, 0 ≤ x ∧ x < (ms3.length : Int)))
    ⟨[], none, none, rfl, gf, upd_same, by simp, fun m hm => (nomatch hm), fun h => absurd h (Nat.lt_irrefl 0)⟩ ?_ ?_
  · rintro k σ H' hk ⟨fs, c5, c6, rfl, g, hlf', hfl, hfo, _⟩
    have hl3' := g _ _ hl3v
    refine ⟨_, rfl, l3, _, rfl, .inl (SqL.of hl3'), ?_⟩
    rw [el3]
    refine ⟨_, rfl, by omega, (by show (ms3.length : Int) < 2 ^ 20; omega), fun pr hpr => ⟨pr, ms3.length, rfl, upd_same, by omega, fun lnm hlnm => ?_⟩⟩
    have e3 := same_new hpr (.rng 0 (ms3.length : Int))
    have e4 := same_new hlnm (.lst ((List.range ms3.length).map fun (i : Nat) => V.int (i : Int)))
    have e34 := e3.trans e4
    have hlnv : (upd (upd H' pr (.rng 0 (ms3.length : Int))) lnm (.lst ((List.range ms3.length).map fun (i : Nat) => V.int (i : Int)))) lnm = some (.lst (NI ((List.range ms3.length).map fun (i : Nat) => (i : Int)))) := by rw [upd_same]; show _ = some (HO.lst (((List.range ms3.length).map fun (i : Nat) => (i : Int)).map V.int)); rw [List.map_map]; rfl
    have hlnH : H' lnm = none := e3.free hlnm
    generalize upd (upd H' pr (.rng 0 (ms3.length : Int))) lnm (.lst ((List.range ms3.length).map fun (i : Nat) => V.int (i : Int))) = Hy at e34 hlnv ⊢
    have r0 : ∀ x ∈ (List.range ms3.length).map fun (i : Nat) => (i : Int), 0 ≤ x ∧ x < (ms3.length : Int) := fun x hx => by
      obtain ⟨i, hi, rfl⟩ := List.mem_map.mp hx
      have := List.mem_range.mp hi
      omega
    have r1 : ((List.range ms3.length).map fun (i : Nat) => (i : Int)).length = ms3.length := by rw [List.length_map, List.length_range]
    refine ⟨fun σ' H2 => ∃ ns : List Int, σ' = [some (.ref tu), some (.int (mo : Int)), some (.int bits), some (.ref l3), some (.ref lf), some (.int (0 + (k : Int))), some (.ref lnm)] ∧ Same H' H2 ∧ H2 lnm = some (.lst (NI ns)) ∧ ns.length = ms3.length ∧ ∀ x ∈ ns, 0 ≤ x ∧ x < (ms3.length : Int), ?_, ?_⟩
    · refine ⟨fun b Hx => Hx = Hy, ?_, ?_⟩
      · refine ⟨_, rfl, _, _, rfl, rfl, ⟨by decide, by decide⟩, _, _, rfl, rfl, (by show (0 : Int) < 2; decide), rfl, _, rfl, ite2 (fun _ => ?_) (fun _ => ?_)⟩
        · refine ⟨_, rfl, _, _, rfl, rfl, (by show (0 : Int) < 2; decide), rfl, _, rfl, ite2 (fun _ => rfl) (fun _ => ?_)⟩
          exact ⟨_, rfl, _, _, rfl, rfl, (by show (0 : Int) < 2; decide), rfl, _, rfl, ite2 (fun _ => ⟨_, rfl, _, _, rfl, rfl, (by show (0 : Int) < 2; decide), rfl, _, rfl, rfl⟩) (fun _ => rfl)⟩
        · exact iteF ⟨_, rfl, _, _, rfl, rfl, (by show (0 : Int) < 2; decide), rfl, _, rfl, ite2 (fun _ => ⟨_, rfl, _, _, rfl, rfl, (by show (0 : Int) < 2; decide), rfl, _, rfl, rfl⟩) (fun _ => rfl)⟩
      rintro b Hx rfl
      refine iteB (fun _ => ?_) (fun _ => ?_)
      · refine ⟨_, rfl, l3, _, rfl, .inl (SqL.of (e34 _ _ hl3')), ?_⟩
        rw [el3]
        refine ⟨_, _, rfl, rfl, _, rfl, _, rfl, lnm, _, _, mo, rfl, rfl, hlnv, ixN_nat (by rw [List.length_map, r1]; omega), ?_⟩
        refine ⟨((List.range ms3.length).map fun (i : Nat) => (i : Int)).set mo ((ms3.length : Int) - 1), rfl, fun b u e => ?_, ?_, by rw [List.length_set, r1], fun x hx => ?_⟩
        · rw [upd_ne (ne_of_none e hlnH)]; exact e34 _ _ e
        · rw [upd_same]
          show some (HO.lst ((((List.range ms3.length).map fun (i : Nat) => (i : Int)).map V.int).set mo (V.int ((ms3.length : Int) - 1)))) = some (HO.lst ((((List.range ms3.length).map fun (i : Nat) => (i : Int)).set mo ((ms3.length : Int) - 1)).map V.int))
          rw [List.map_set]
        · rcases List.mem_or_eq_of_mem_set hx with h | h
          · exact r0 x h
          · omega
      · exact ⟨_, rfl, e34, hlnv, r1, r0⟩
    rintro σ' H2 ⟨ns, rfl, g2, hln2, hnl, hns⟩
    have hl32 := g2 _ _ hl3'
    have hlf2 := g2 _ _ hlf'
    have gB2 := gB.trans (g.trans g2)
    refine ⟨_, rfl, _, rfl, l3, _, rfl, .inl (SqL.of hl32), ?_⟩
    rw [el3]
    refine ⟨_, _, rfl, rfl, _, rfl, ite2 (fun hc => ?_) (fun hc => ?_)⟩
    · have hc' : 0 + (k : Int) < (ms3.length : Int) := of_decide_eq_true hc
      have hk3 : k < ms3.length := by omega
      have hmd := hin _ (List.getElem_mem hk3)
      obtain ⟨kd, hkd, q1, q2, q3⟩ := hD.md _ hmd
      have hr3 := (hW.rws kd hkd).2
      obtain ⟨d1, d2, d3⟩ := (hT.m.same gB2).2 _ hmd
      have hlen := d3.length
      have hat3 : atI (ms3.map fun m => V.ref m.1) (0 + (k : Int)) = some (.ref ms3[k].1) := by rw [Int.zero_add]; exact atI_nat (by rw [List.getElem?_map, List.getElem?_eq_getElem hk3]; rfl)
      refine ⟨_, rfl, .inl ⟨rfl, _, SqL.of hlf2⟩, _, rfl, _, rfl, l3, _, _, _, rfl, rfl, SqL.of hl32, hat3, ms3[k].1, _, 0, _, rfl, rfl, d1, rfl, _, rfl, _, rfl, l3, _, _, _, rfl, rfl, SqL.of hl32, hat3, ms3[k].1, _, 1, _, rfl, rfl, d1, rfl, ms3[k].2.2.1, rfl, ⟨_, d2⟩, fun acc hacc => ?_⟩
      refine c1_list (K := K) (xs := ms3[k].2.2.2.1) (cs := [some (.ref lnm)]) (tt := fun _ H Q => Q true H) (te := tCall (spRen K 4) [] E0 (tCons (tVar 0) (tCons (tVar 1) tNil))) (fun j ys H3 => ∃ ps : List Tm, H3 acc = some (.lst ys) ∧ Same H2 H3 ∧ TmAll K H3 ys ps ∧ ps.length = j ∧ ∀ t ∈ ps, TPr (Pn ms3.length) t ∧ lv t ≤ 6)
        ⟨[], upd_same, same_new hacc _, .nil, rfl, fun t ht => (nomatch ht)⟩ ?_ ?_ ?_
      · rintro j ys H3 _ ⟨_, _, g3, _⟩
        exact g3.seq d2
      · rintro j x ys H3 hj hx ⟨ps, hya, g3, hps, hpl, hok⟩
        have hjt : j < ms3[k].2.2.2.2.length := by omega
        have hlen2 := hps.length
        obtain ⟨cv, hcv, hct⟩ := d3.get (List.getElem?_eq_getElem hjt)
        obtain rfl : cv = x := Option.some.inj (hcv.symm.trans hx)
        obtain ⟨o1, o2⟩ := q3 _ (List.getElem_mem hjt)
        have o1' : TPr (Pn ms3.length) ms3[k].2.2.2.2[j] := o1.mono fun a b h => ⟨h.1, by have := h.2; omega⟩
        refine iteT ⟨_, rfl, _, rfl, cv, _, lnm, ns, rfl, hct.mono fun _ _ => g3.seqT, o2, SqL.of (g3 _ _ hln2), fun c hc => ?_, fun v4 H4 g4 hv4 => ?_⟩
        · rw [hnl]; exact o1'.calls c hc
        have hya4 := g4 _ _ hya
        obtain ⟨s1, s2⟩ := ren_ok hnl hns o1'
        refine comp_next (ys := ys) hj hya4 (by omega) ⟨ps ++ [_], upd_same, fun b u e => ?_, TmAll.append (hps.mono fun _ _ h => (g4.seqT h).put hya4) (.cons (hv4.mono fun _ _ h => h.put hya4) .nil), by simp [hpl], fun t ht => ?_⟩
        · rw [upd_ne (ne_of_none e hacc)]; exact g4 _ _ (g3 _ _ e)
        · rcases List.mem_append.mp ht with z | z
          · exact hok t z
          · have e := List.mem_singleton.mp z
            rw [e]; exact ⟨s1, by omega⟩
      rintro ys H3 ⟨ps, hya, g3, hps, hpl, hok⟩
      refine ⟨(by show 2 ≤ sizeLine; decide), fun pm hpm => ?_⟩
      have e7 := same_new hpm (.tup [.str ms3[k].2.1, .ref acc])
      have g37 := g3.trans e7
      have hlf7 := g37 _ _ hlf2
      refine ⟨lf, _, _, rfl, rfl, hlf7, by rw [List.length_map, size_line]; omega, ?_⟩
      have hacl : acc ≠ lf := fun z => by rw [z, hlf2] at hacc; cases hacc
      have hnlf : lnm ≠ lf := fun z => by rw [z, hlf'] at hlnH; cases hlnH
      have g27 := g2.trans g37
      refine ⟨fs ++ [(pm, ms3[k].2.1, acc, ys, ps)], _, _, rfl, fun b u e => ?_, by rw [upd_same, List.map_append]; rfl, by rw [List.length_append, List.length_singleton, hfl, Nat.min_eq_left (Nat.le_of_lt hk3), Nat.min_eq_left (Nat.succ_le_of_lt hk3)], fun m hm => ?_, fun _ => ⟨lnm, ns, rfl, by rw [upd_ne hnlf]; exact g37 _ _ hln2, hnl, hns⟩⟩
      · rw [upd_ne (ne_of_none e hlf)]; exact g27 _ _ (g _ _ e)
      · rcases List.mem_append.mp hm with h | h
        · obtain ⟨⟨a1, a2, a3, a4⟩, a5⟩ := hfo m h
          exact ⟨⟨(g27.seqT a1).put hlf7, by rw [upd_ne a3]; exact g27 _ _ a2, a3, a4.mono fun _ _ h => (g27.seqT h).put hlf7⟩, a5⟩
        · obtain rfl : m = (pm, ms3[k].2.1, acc, ys, ps) := by simpa using h
          refine ⟨⟨SqT.put (SqT.of upd_same) hlf7, ?_, hacl, hps.mono fun _ _ h => (e7.seqT h).put hlf7⟩, kd, hkd, q1, by show ps.length = _; omega, hok⟩
          show (upd _ lf _) acc = _
          rw [upd_ne hacl]; exact e7 _ _ hya
    · have hc' : ¬ 0 + (k : Int) < (ms3.length : Int) := fun z => hc (decide_eq_true z)
      have hkn : ms3.length ≤ k := Nat.le_of_not_lt fun z => hc' (by rw [Int.zero_add]; exact Int.ofNat_lt.mpr z)
      refine ⟨fs, _, _, rfl, g.trans g2, hlf2, by rw [hfl, Nat.min_eq_right hkn, Nat.min_eq_right (Nat.le_succ_of_le hkn)], fun m hm => ?_, fun _ => ⟨lnm, ns, rfl, hln2, hnl, hns⟩⟩
      obtain ⟨⟨a1, a2, a3, a4⟩, a5⟩ := hfo m hm
      exact ⟨⟨g2.seqT a1, g2 _ _ a2, a3, a4.mono fun _ _ => g2.seqT⟩, a5⟩
  · rintro σ H' ⟨fs, c5, c6, rfl, g, hlf', hfl, hfo, hnm⟩
    have et : ((ms3.length : Int) + 1).toNat = ms3.length + 1 := Int.toNat_natCast (ms3.length + 1)
    have hfl' : fs.length = ms3.length := by rw [hfl, et, Nat.min_eq_right (Nat.le_succ _)]
    obtain ⟨lnm, ns, rfl, hln', hnl, hns⟩ := hnm (by rw [et]; exact Nat.succ_pos _)
    clear hfl
    have gH := gB.trans g
    have hT' := hT.same gH
    have hs : TPr (Pn ms3.length) st := (hD.s hW).mono fun a b h => ⟨h.1, by have := h.2; omega⟩
    obtain ⟨r1, r2⟩ := ren_ok hnl hns hs
    refine ⟨_, rfl, tu, _, 0, _, rfl, rfl, hT'.tu, rfl, _, rfl, tu, _, 1, _, rfl, rfl, hT'.tu, rfl, _, rfl, sv, st, lnm, ns, rfl, hT'.s, by have := hD.sl.1; omega, SqL.of hln', fun c hc => (by rw [hnl]; exact hs.calls c hc), fun v4 H4 g4 hv4 => ⟨_, rfl, (by show 3 ≤ sizeLine; decide), fun tu1 htu1 => ?_⟩⟩
    have e8 := same_new htu1 (.tup [.ref wd, v4, .ref lf])
    have g48 := g4.trans e8
    have gA := gH.trans g48
    refine q tu1 lf v4 _ fs _ gA ⟨SqT.of upd_same, (hT.same gA).w, hv4.mono fun _ _ => e8.seqT, SqL.of (g48 _ _ hlf'), fun m hm => ?_⟩ ⟨by omega, by omega, ⟨by rw [hfl']; exact r1, by have := hD.sl.1; omega⟩, fun m hm => ?_⟩ (by omega)
    · obtain ⟨⟨a1, a2, a3, a4⟩, _⟩ := hfo m hm
      exact ⟨g48.seqT a1, SqL.of (g48 _ _ a2), a4.mono fun _ _ => g48.seqT⟩
    · obtain ⟨_, kd, hkd, b1, b2, b3⟩ := hfo m hm
      exact ⟨kd, hkd, b1, b2, fun t ht => by rw [hfl']; exact b3 t ht⟩
end
end K51
namespace K51
open PySem L2 TM TT ST K9 K11
structure OneP (ks : List KdT) (st1 : Tm) (ms1 : List MdT) (ts : List (Option Tm)) : Prop where
  one : OneT ks st1 ms1
  l : ts.length = ms1.length
  t : TsOk ts
  some : ∀ o ∈ ts, ∃ t, o = some t
def spWP2 (K : PySem.W.Frag) : Sp := fun vs H Q _ => ∃ (tu wd lm : Addr) (sv : V) (ks : List KdT) (st : Tm) (ms : List MdT) (x : Int), vs = [.ref tu, .int x] ∧ TurnD K H tu wd lm sv ks st ms ∧ WD ks ∧ T51 ks st ms ∧
  ∀ (p tu1 lm1 lt : Addr) (sv1 : V) (st1 : Tm) (ms1 : List MdT) (us : List V) (ts : List (Option Tm)) (H2 H' : Hp), Same H H2 → Same H2 H' → SqT K H' p [.ref tu1, .ref lt] → TurnD K H2 tu1 wd lm1 sv1 ks st1 ms1 → H2 lt = none → H' lt = some (.lst us) → OAll K H' us ts → OneP ks st1 ms1 ts → Q (.ref p) H'
theorem oall_of {K : PySem.W.Frag} {H : Hp} : ∀ {vs : List V} {ts : List Tm}, TmAll K H vs ts → OAll K H vs (ts.map some)
  | _, _, .nil => .nil
  | _, _, .cons h r => .cons h (oall_of r)
def GoodT (t : Tm) : Prop := TPr (fun a _ => 0 ≤ a) t ∧ kp t = false ∧ lv t ≤ 4
theorem good_leaf (k : Nat) (b : Int) : GoodT (leaf (k : Int) b) := ⟨by simp only [leaf, TPr]; exact ⟨by omega, trivial⟩, by simp [leaf, kp, kpl, kps], by simp [leaf, lv, lvs]⟩
theorem oneP_mk {ks : List KdT} {st1 : Tm} {ms1 : List MdT} {ts : List Tm} (h : OneT ks st1 ms1) (hl : ts.length = ms1.length) (hg : ∀ t ∈ ts, GoodT t) : OneP ks st1 ms1 (ts.map some) := by
  have f := h.few
  refine ⟨h, by rw [List.length_map]; exact hl, ⟨by rw [List.length_map]; omega, fun t ht => ?_⟩, fun o ho => ?_⟩
  · obtain ⟨u, hu, e⟩ := List.mem_map.mp ht
    obtain rfl := Option.some.inj e
    exact hg u hu
  · obtain ⟨u, _, rfl⟩ := List.mem_map.mp ho
    exact ⟨u, rfl⟩
section
variable {P : Program} {w : World} {K : PySem.W.Frag} {mg : Str → Option Value} {base : Heap} {f : Addr} {fd : FuncData}
theorem scWithP : FnScope ["_law_turning_here", "_law_x", "_law_count", "_law_calls_here", "_law_mode"] ["_law_turning_here", "_law_x"] (defScope sWithP) := ⟨rfl, rfl, rfl, by decide +kernel, rfl, by decide +kernel, by decide +kernel⟩
theorem ok_wp2 (F : Fun K "_law_with_paper" "_law_with_paper" sWithP f fd) (G : Gm mg) (RDo : Fn P w K mg base 6 "_law_doubled" ["_law_turning_here", "_law_mode", "_law_bits"] (spDo K)) (RHB : Fn P w K mg base 6 "_law_held_back" ["_law_turning_here"] (spHB K)) (RMa : Fn P w K mg base 10 "_law_many" ["_law_turning_here"] (spMany K)) (RTA : Fn P w K mg base 6 "_law_turned_about" ["_law_turning_here", "_law_step"] (spTA K)) : FnOk P w K mg base CX0 11 f fd ["_law_turning_here", "_law_x"] (spWP2 K) := by
  refine F.ok scWithP (fun vs H Q E h => ?_) (fun cdv A outer s H vs Q E hr h => ?_)
  · obtain ⟨tu, wd, lm, sv, ks, st, ms, x, rfl, _⟩ := h
    rfl
  obtain ⟨tu, wd, lm, sv, ks, st, ms, x, rfl, hT, hW, hD, q⟩ := h
  refine ⟨_, (pss_cons (ps_set (i := 2) scWithP.nd rfl (Or.inr rfl) (pe_callB call_len_seq rfl G.len PySem.boot_len (pa_cons (pe_ix ix_tup (pv 0) pe_int (fun _ _ => rfl)) pa_nil)))
    (pss_cons (ps_set (i := 3) scWithP.nd rfl (Or.inr rfl) (pe_lcompG (CompG.many (xs := ["_law_k"]) (caps := []) (cap := []) (cs := []) rfl rfl (by decide +kernel) (by decide +kernel) (by decide +kernel) (by decide +kernel) (by decide +kernel) (by decide +kernel) rfl rfl rfl) rfl (pi_range1 rfl G.rng (pa_cons (pv 2) pa_nil)) (pg_c1 (CompG.many (xs := ["_law_k"]) (caps := []) (cap := []) (cs := []) rfl rfl (by decide +kernel) (by decide +kernel) (by decide +kernel) (by decide +kernel) (by decide +kernel) (by decide +kernel) rfl rfl rfl)) (fun _ _ _ _ => pf_nil) (fun _ _ _ _ => (pe_tup (pa_cons (pe_str) (pa_cons (pv 0) (pa_cons (pe_int) pa_nil)))))))
    (pss_cons (ps_set (i := 4) scWithP.nd rfl (Or.inr rfl) (pe_op op_mod (pe_op op_fdiv (pv 1) pe_int) (pv 2)))
    (pss_cons (ps_if (pt_cmpR op_eq (pe_op op_mod (pv 1) pe_int) pe_int (nomark _)) (pss_one (ps_ret (pe_tup (pa_cons (pe_fn RDo hr (pa_cons (pv 0) (pa_cons (pv 4) (pa_cons (pe_op op_fdiv (pv 1) pe_int) pa_nil)))) (pa_cons (pe_op op_catL (pv 3) (pe_lst (pa_cons (pe_ix ix_list (pv 3) (pv 4) (fun _ _ => rfl)) pa_nil))) pa_nil))))) pss_nil)
    (pss_cons (ps_if (pt_cut (PW.pt (pw_and (pt_cmpR op_eq (pe_op op_mod (pv 1) pe_int) pe_int (nomark _)) (pw_and1 (pt_cmpR op_le (pe_fn RMa hr (pa_cons (pe_fn RHB hr (pa_cons (pv 0) pa_nil)) pa_nil)) pe_int (nomark _)))))) (pss_one (ps_ret (pe_tup (pa_cons (pe_fn RHB hr (pa_cons (pv 0) pa_nil)) (pa_cons (pe_op op_catL (pv 3) (pe_lst (pa_cons (pe_ix ix_tup (pv 0) pe_int (fun _ _ => rfl)) pa_nil))) pa_nil))))) pss_nil)
    (pss_cons (ps_if (pt_cmpR op_eq (pe_op op_mod (pv 1) pe_int) pe_int (nomark _)) (pss_one (ps_ret (pe_tup (pa_cons ((pe_tup (pa_cons (pe_ix ix_tup (pv 0) pe_int (fun _ _ => rfl)) (pa_cons (pe_ix ix_tup (pv 0) pe_int (fun _ _ => rfl)) (pa_cons (pe_op op_catL (pe_ix ix_tup (pv 0) pe_int (fun _ _ => rfl)) (pe_lst (pa_cons (pe_ix ix_list (pe_ix ix_tup (pv 0) pe_int (fun _ _ => rfl)) (pv 4) (fun _ _ => rfl)) pa_nil))) pa_nil))))) (pa_cons (pe_op op_catL (pv 3) (pe_lst (pa_cons (pe_ix ix_list (pv 3) (pv 4) (fun _ _ => rfl)) pa_nil))) pa_nil))))) pss_nil)
    (pss_one (ps_ret (pe_tup (pa_cons (pe_fn RTA hr (pa_cons (pv 0) (pa_cons (pe_op op_add pe_int (pv 4)) pa_nil))) (pa_cons (pe_lcompG (CompG.many (xs := ["_law_k"]) (caps := ["_law_calls_here", "_law_count", "_law_mode"]) (cap := [3, 2, 4]) (cs := [_, _, _]) rfl rfl (by decide +kernel) (by decide +kernel) (by decide +kernel) (by decide +kernel) (by decide +kernel) (by decide +kernel) rfl rfl rfl) rfl (pi_range1 rfl G.rng (pa_cons (pv 2) pa_nil)) (pg_c1 (CompG.many (xs := ["_law_k"]) (caps := ["_law_calls_here", "_law_count", "_law_mode"]) (cap := [3, 2, 4]) (cs := [_, _, _]) rfl rfl (by decide +kernel) (by decide +kernel) (by decide +kernel) (by decide +kernel) (by decide +kernel) (by decide +kernel) rfl rfl rfl)) (fun _ _ _ _ => pf_nil) (fun _ _ _ _ => pe_ix (r := rIxL K) ix_list (pv 1) (pe_op op_mod (pe_op op_sub (pe_op op_sub (pv 0) pe_int) (pv 3)) (pv 2)) (fun _ _ => rfl))) pa_nil))))))))))), ?_⟩
  have m3 := hD.three
  have m1 := hD.pos
  have elm : (ms.map fun m => V.ref m.1).length = ms.length := List.length_map ..
  refine ⟨_, rfl, tu, _, 2, _, rfl, rfl, hT.tu, rfl, lm, _, rfl, .inl hT.m.1, ?_⟩
  rw [elm]
  refine ⟨_, rfl, _, rfl, (by show -(2 ^ 62 : Int) ≤ (ms.length : Int); omega), (by show (ms.length : Int) < 2 ^ 62; omega), fun lc hlc => ?_⟩
  refine c1_range (lo := 0) (n := (ms.length : Int).toNat) (cs := []) (tt := fun _ H Q => Q true H) (fun i ys H' => H' lc = some (.lst ys) ∧ Same H H' ∧ TmAll K H' ys ((List.range i).map fun (k : Nat) => leaf (k : Int) 0))
    ⟨upd_same, same_new hlc _, .nil⟩ ?_ ?_
  · rintro i ys H' hi ⟨hya, g, hys⟩
    rw [Int.toNat_natCast] at hi
    have hlen := hys.length
    rw [List.length_map, List.length_range] at hlen
    refine iteT ⟨_, rfl, (by show 3 ≤ sizeLine; decide), fun p hp => ?_⟩
    have gp := same_new hp (.tup [.str CALL, .int (0 + (i : Int)), .int 0])
    have hya2 := gp _ _ hya
    refine comp_next (ys := ys) (by rw [Int.toNat_natCast]; exact hi) hya2 (by omega) ⟨upd_same, fun b u e => ?_, ?_⟩
    · rw [upd_ne (ne_of_none e hlc)]; exact gp _ _ (g _ _ e)
    · rw [List.range_succ, List.map_append]
      refine TmAll.append (hys.mono fun _ _ h => (gp.seqT h).put hya2) (.cons (.call (SqT.put ?_ hya2)) .nil)
      have e0 : (0 : Int) + (i : Int) = (i : Int) := Int.zero_add _
      rw [e0]; exact SqT.of upd_same
  rintro ws H1 ⟨hlc1, g1, hws⟩
  rw [Int.toNat_natCast] at hws
  have hwl := hws.length
  rw [List.length_map, List.length_range] at hwl
  have hT1 := hT.same g1
  have hpos : (0 : Int) < (ms.length : Int) := by omega
  refine ⟨_, rfl, _, _, rfl, rfl, ⟨by decide, by decide⟩, _, rfl, _, _, rfl, rfl, hpos, ?_⟩
  show gName 4 (V.int (x / 4 % (ms.length : Int))) _ _ _
  have z0 : 0 ≤ x / 4 % (ms.length : Int) := Int.emod_nonneg _ (by omega)
  have z1 : x / 4 % (ms.length : Int) < (ms.length : Int) := Int.emod_lt_of_pos _ hpos
  obtain ⟨mo, hmo, mo1⟩ : ∃ mo : Nat, x / 4 % (ms.length : Int) = (mo : Int) ∧ mo < ms.length := ⟨(x / 4 % (ms.length : Int)).toNat, by omega, by omega⟩
  rw [hmo]
  have goodC : ∀ t ∈ (List.range ms.length).map fun (k : Nat) => leaf (k : Int) 0, GoodT t := fun t ht => by
    obtain ⟨k, _, rfl⟩ := List.mem_map.mp ht
    exact good_leaf k 0
  have hmw : mo < ws.length := by omega
  obtain ⟨cm, hcm, hcmt⟩ := hws.get (i := mo) (t := leaf (mo : Int) 0) (by rw [List.getElem?_map, List.getElem?_range mo1]; rfl)
  have hatc : atI ws (mo : Int) = some cm := atI_nat hcm
  have hlcN : H lc = none := hlc
  /- the calls with one more behind them -/
  have plus : ∀ (Hx : Hp) (v : V) (t : Tm) (l1 l2 : Addr), Same H1 Hx → TmV K Hx v t → Hx l1 = none → upd Hx l1 (.lst [v]) l2 = none → TmAll K (upd (upd Hx l1 (.lst [v])) l2 (.lst (ws ++ [v]))) (ws ++ [v]) (((List.range ms.length).map fun (k : Nat) => leaf (k : Int) 0) ++ [t]) := fun Hx v t l1 l2 g hv h1 h2 => by
    have a := same_new h1 (.lst [v])
    have b := same_new h2 (.lst (ws ++ [v]))
    have ab := a.trans b
    exact TmAll.append (hws.mono fun _ _ => (g.trans ab).seqT) (.cons (hv.mono fun _ _ => ab.seqT) .nil)
  refine ⟨_, rfl, _, _, rfl, rfl, (by show (0 : Int) < 4; decide), rfl, _, rfl, ite2 (fun _ => ?_) (fun _ => ?_)⟩
  · refine ⟨_, rfl, _, rfl, _, rfl, _, _, rfl, rfl, ⟨by decide, by decide⟩, tu, wd, lm, sv, ks, st, ms, mo, _, rfl, hT1, hW, hD, mo1, fun tu1 lm1 sv1 st1 ms1 H2 g2 hT2 hO hl2 => ?_⟩
    have hlc2 := g2 _ _ hlc1
    refine ⟨_, rfl, _, rfl, _, rfl, lc, _, _, _, rfl, rfl, SqL.of hlc2, hatc, (by show 1 ≤ sizeLine; decide), fun l1 hl1 => ?_⟩
    have a := same_new hl1 (.lst [cm])
    refine ⟨lc, l1, ws, [cm], rfl, rfl, SqL.of (a _ _ hlc2), SqL.of upd_same, by rw [List.length_singleton]; exact line_of (by omega), fun lt hlt => ⟨(by show 2 ≤ sizeLine; decide), fun p hp => ?_⟩⟩
    have b := same_new hlt (.lst (ws ++ [cm]))
    have c := same_new hp (.tup [.ref tu1, .ref lt])
    have abc := a.trans (b.trans c)
    have hlt0 : H2 lt = none := a.free hlt
    refine q p tu1 lm1 lt sv1 st1 ms1 (ws ++ [cm]) _ H2 _ (g1.trans g2) abc (SqT.of upd_same) hT2 hlt0 (c _ _ upd_same) (oall_of ((plus H2 cm _ l1 lt g2 (hcmt.mono fun _ _ => g2.seqT) hl1 hlt).mono fun _ _ => c.seqT)) (oneP_mk hO ?_ ?_)
    · rw [List.length_append, List.length_map, List.length_range, hl2]; rfl
    · intro t ht
      rcases List.mem_append.mp ht with h | h
      · exact goodC t h
      · rw [List.mem_singleton.mp h]; exact good_leaf mo 0
  refine ⟨fun b Hx => Same H1 Hx, ?_, ?_⟩
  · refine ⟨_, rfl, _, _, rfl, rfl, (by show (0 : Int) < 4; decide), rfl, _, rfl, ite2 (fun _ => ?_) (fun _ => Same.refl _)⟩
    refine ⟨_, rfl, tu, wd, lm, sv, ks, st, ms, rfl, hT1, hW, hD, fun tu1 lm1 sv1 st1 ms1 H2 g2 hT2 hO hl2 => ?_⟩
    have f4 := hO.few
    refine ⟨tu1, lm1, .ref wd, sv1, st1, ms1, rfl, hT2.tu, hT2.s, by have := hO.s1.2; omega, hT2.m, by omega, fun m hm => ?_, fun z H3 g3 => ⟨_, _, rfl, rfl, _, rfl, g2.trans g3⟩⟩
    obtain ⟨kd, hkd, _, e2, e3⟩ := hO.r1 m hm
    have := (hW.rws kd hkd).2
    exact ⟨by omega, fun t ht => by have := (e3 t ht).2; omega⟩
  rintro b Hx gx
  have hTx := hT1.same gx
  have hlcx := gx _ _ hlc1
  refine iteB (fun _ => ?_) (fun _ => ?_)
  · refine ⟨_, rfl, tu, wd, lm, sv, ks, st, ms, rfl, hTx, hW, hD, fun tu1 lm1 sv1 st1 ms1 H2 g2 hT2 hO hl2 => ?_⟩
    have hlc2 := g2 _ _ hlcx
    refine ⟨_, rfl, _, rfl, tu, _, 1, _, rfl, rfl, (hTx.same g2).tu, rfl, (by show 1 ≤ sizeLine; decide), fun l1 hl1 => ?_⟩
    have a := same_new hl1 (.lst [sv])
    refine ⟨lc, l1, ws, [sv], rfl, rfl, SqL.of (a _ _ hlc2), SqL.of upd_same, by rw [List.length_singleton]; exact line_of (by omega), fun lt hlt => ⟨(by show 2 ≤ sizeLine; decide), fun p hp => ?_⟩⟩
    have b := same_new hlt (.lst (ws ++ [sv]))
    have c := same_new hp (.tup [.ref tu1, .ref lt])
    have abc := a.trans (b.trans c)
    have gx2 := gx.trans g2
    have hlt0 : H2 lt = none := a.free hlt
    refine q p tu1 lm1 lt sv1 st1 ms1 (ws ++ [sv]) _ H2 _ (g1.trans gx2) abc (SqT.of upd_same) hT2 hlt0 (c _ _ upd_same) (oall_of ((plus H2 sv st l1 lt gx2 (hTx.same g2).s hl1 hlt).mono fun _ _ => c.seqT)) (oneP_mk hO ?_ ?_)
    · rw [List.length_append, List.length_map, List.length_range, hl2]; rfl
    · intro t ht
      rcases List.mem_append.mp ht with h | h
      · exact goodC t h
      · rw [List.mem_singleton.mp h]
        exact ⟨(hD.s hW).mono fun a _ h => h.1, hD.sl.2, by have := hD.sl.1; omega⟩
  have hatm : atI (ms.map fun m => V.ref m.1) (mo : Int) = some (.ref ms[mo].1) := atI_nat (by rw [List.getElem?_map, List.getElem?_eq_getElem mo1]; rfl)
  refine ⟨_, rfl, _, _, rfl, rfl, (by show (0 : Int) < 4; decide), rfl, _, rfl, ite2 (fun _ => ?_) (fun _ => ?_)⟩
  · refine ⟨_, rfl, tu, _, 0, _, rfl, rfl, hTx.tu, rfl, _, rfl, tu, _, 1, _, rfl, rfl, hTx.tu, rfl, _, rfl, tu, _, 2, _, rfl, rfl, hTx.tu, rfl, _, rfl, tu, _, 2, _, rfl, rfl, hTx.tu, rfl, _, rfl, lm, _, _, _, rfl, rfl, hTx.m.1, hatm, (by show 1 ≤ sizeLine; decide), fun l0 hl0 => ?_⟩
    have a0 := same_new hl0 (.lst [.ref ms[mo].1])
    refine ⟨lm, l0, _, _, rfl, rfl, a0.seq hTx.m.1, SqL.of upd_same, by rw [elm, List.length_singleton]; exact line_of (by omega), fun lm1 hlm1 => ⟨(by show 3 ≤ sizeLine; decide), fun tu1 htu1 => ?_⟩⟩
    have a1 := same_new hlm1 (.lst ((ms.map fun m => V.ref m.1) ++ [.ref ms[mo].1]))
    have a2 := same_new htu1 (.tup [.ref wd, sv, .ref lm1])
    have a012 := a0.trans (a1.trans a2)
    have hlmv := a2 _ _ (show (upd (upd Hx l0 (.lst [.ref ms[mo].1])) lm1 (.lst ((ms.map fun m => V.ref m.1) ++ [.ref ms[mo].1]))) lm1 = _ from upd_same)
    have htuv : SqT K (upd (upd (upd Hx l0 (.lst [.ref ms[mo].1])) lm1 (.lst ((ms.map fun m => V.ref m.1) ++ [.ref ms[mo].1]))) tu1 (.tup [.ref wd, sv, .ref lm1])) tu1 [.ref wd, sv, .ref lm1] := SqT.of upd_same
    generalize upd (upd (upd Hx l0 (.lst [.ref ms[mo].1])) lm1 (.lst ((ms.map fun m => V.ref m.1) ++ [.ref ms[mo].1]))) tu1 (.tup [.ref wd, sv, .ref lm1]) = H2 at a012 hlmv htuv ⊢
    have hlc2 := a012 _ _ hlcx
    refine ⟨_, rfl, _, rfl, _, rfl, lc, _, _, _, rfl, rfl, SqL.of hlc2, hatc, (by show 1 ≤ sizeLine; decide), fun l1 hl1 => ?_⟩
    have a := same_new hl1 (.lst [cm])
    refine ⟨lc, l1, ws, [cm], rfl, rfl, SqL.of (a _ _ hlc2), SqL.of upd_same, by rw [List.length_singleton]; exact line_of (by omega), fun lt hlt => ⟨(by show 2 ≤ sizeLine; decide), fun p hp => ?_⟩⟩
    have b := same_new hlt (.lst (ws ++ [cm]))
    have c := same_new hp (.tup [.ref tu1, .ref lt])
    have abc := a.trans (b.trans c)
    have gx2 := gx.trans a012
    have hlt0 : H2 lt = none := a.free hlt
    have hTA := hTx.same a012
    refine q p tu1 lm1 lt sv st (ms ++ [ms[mo]]) (ws ++ [cm]) _ H2 _ (g1.trans gx2) abc (SqT.of upd_same) ⟨htuv, hTA.w, hTA.s, SqL.of (by rw [List.map_append]; exact hlmv), fun m hm => ?_⟩ hlt0 (c _ _ upd_same) (oall_of ((plus H2 cm _ l1 lt gx2 (hcmt.mono fun _ _ => gx2.seqT) hl1 hlt).mono fun _ _ => c.seqT)) (oneP_mk ⟨by rw [List.length_append, List.length_singleton]; omega, by rw [List.length_append, List.length_singleton]; omega, ⟨(hD.s hW).mono fun a b h => ⟨h.1, by have := h.2; rw [List.length_append, List.length_singleton]; omega⟩, hD.sl.1⟩, fun m hm => ?_⟩ ?_ ?_)
    · rcases List.mem_append.mp hm with h | h
      · exact hTA.m.2 m h
      · rw [List.mem_singleton.mp h]; exact hTA.m.2 _ (List.getElem_mem mo1)
    · have hm' : m ∈ ms := by
        rcases List.mem_append.mp hm with h | h
        · exact h
        · rw [List.mem_singleton.mp h]; exact List.getElem_mem mo1
      obtain ⟨kd, hkd, q1, q2, q3⟩ := hD.md m hm'
      exact ⟨kd, hkd, q1, q2, fun t ht => ⟨(q3 t ht).1.mono fun a b h => ⟨h.1, by have := h.2; rw [List.length_append, List.length_singleton]; omega⟩, by have := (q3 t ht).2; omega⟩⟩
    · rw [List.length_append, List.length_map, List.length_range, List.length_append]; rfl
    · intro t ht
      rcases List.mem_append.mp ht with h | h
      · exact goodC t h
      · rw [List.mem_singleton.mp h]; exact good_leaf mo 0
  refine ⟨_, rfl, _, rfl, _, _, rfl, rfl, tu, wd, lm, sv, ks, st, ms, _, rfl, hTx, hW, hD, fun tu1 lm1 sv1 st1 ms1 H2 g2 hT2 hO hl2 => ?_⟩
  have hlc2 := g2 _ _ hlcx
  refine ⟨_, rfl, _, rfl, (by show -(2 ^ 62 : Int) ≤ (ms.length : Int); omega), (by show (ms.length : Int) < 2 ^ 62; omega), fun lt hlt => ?_⟩
  have gx2 := gx.trans g2
  have hws2 := hws.mono fun a xs => gx2.seqT (a := a) (xs := xs)
  refine c1_range (lo := 0) (n := (ms.length : Int).toNat) (cs := [some (.ref lc), some (.int (ms.length : Int)), some (.int (mo : Int))]) (tt := fun _ H Q => Q true H) (fun i ys H' => ∃ ts : List Tm, H' lt = some (.lst ys) ∧ Same H2 H' ∧ TmAll K H' ys ts ∧ ts.length = i ∧ ∀ t ∈ ts, GoodT t)
    ⟨[], upd_same, same_new hlt _, .nil, rfl, fun t ht => (nomatch ht)⟩ ?_ ?_
  · rintro i ys H' hi ⟨ts, hya, g, hts, htl, hok⟩
    rw [Int.toNat_natCast] at hi
    have hlen := hts.length
    obtain ⟨y, hy, hyat⟩ := at_rest (xs := ws) (k := (ms.length : Int)) (by rw [hwl]) (by omega) (0 + (i : Int) - 1 - (mo : Int))
    obtain ⟨j, hj, ej⟩ := List.getElem_of_mem hy
    have hjm : j < ms.length := by omega
    obtain ⟨cv, hcv, hct⟩ := hws2.get (i := j) (t := leaf (j : Int) 0) (by rw [List.getElem?_map, List.getElem?_range hjm]; rfl)
    have ecv : cv = y := by rw [List.getElem?_eq_getElem hj, ej] at hcv; exact (Option.some.inj hcv).symm
    rw [ecv] at hct
    refine iteT ⟨_, rfl, _, rfl, _, _, rfl, rfl, _, rfl, _, _, rfl, rfl, _, rfl, _, _, rfl, rfl, hpos, lc, ws, _, y, rfl, rfl, SqL.of (g _ _ hlc2), hyat, ?_⟩
    refine comp_next (ys := ys) (by rw [Int.toNat_natCast]; exact hi) hya (by omega) ⟨ts ++ [leaf (j : Int) 0], upd_same, fun b u e => ?_, ?_, by simp [htl], fun t ht => ?_⟩
    · rw [upd_ne (ne_of_none e hlt)]; exact g _ _ e
    · exact TmAll.append (hts.mono fun _ _ h => h.put hya) (.cons (hct.mono fun _ _ h => (g.seqT h).put hya) .nil)
    · rcases List.mem_append.mp ht with h | h
      · exact hok t h
      · rw [List.mem_singleton.mp h]; exact good_leaf j 0
  rintro ys H3 ⟨ts, hlt3, g3, hts, htl, hok⟩
  rw [Int.toNat_natCast] at htl
  refine ⟨(by show 2 ≤ sizeLine; decide), fun p hp => ?_⟩
  have c := same_new hp (.tup [.ref tu1, .ref lt])
  have g3c := g3.trans c
  exact q p tu1 lm1 lt sv1 st1 ms1 ys _ H2 _ (g1.trans gx2) g3c (SqT.of upd_same) hT2 hlt (c _ _ hlt3) (oall_of (hts.mono fun _ _ => c.seqT)) (oneP_mk hO (by rw [htl, hl2]) hok)
end
end K51
namespace K51
open PySem L2 TM TT ST K9 K11
theorem clss_all (p : Int × Int → Bool) : ∀ ts : List Tm, (clss ts).all p = ts.all fun t => (cls t).all p
  | [] => rfl
  | t :: r => by rw [clss, List.all_append, clss_all p r, List.all_cons]
theorem put_all {p : Int × Int → Bool} {t : Tm} (h : cls t = clss t.bs) : (cls t).all p = t.bs.all fun t => (cls t).all p := by rw [h, clss_all]
theorem none_left {α : Type} {g : α → Bool} {l : List α} : decide (V.int (((l.filter fun u => !g u).length : Nat) : Int) = V.int 0) = l.all g := by
  cases e : l.all g with
  | true =>
    have : l.filter (fun u => !g u) = [] := List.filter_eq_nil_iff.mpr fun u hu => by
      have := List.all_eq_true.mp e u hu
      simp [this]
    rw [this]; rfl
  | false =>
    refine decide_eq_false fun z => ?_
    have h0 : (l.filter fun u => !g u).length = 0 := by have := V.int.inj z; omega
    have h1 := List.length_eq_zero_iff.mp h0
    have : l.all g = true := List.all_eq_true.mpr fun u hu => by
      have := List.filter_eq_nil_iff.mp h1 u hu
      simpa using this
    rw [e] at this; cases this
def spKeys (K : PySem.W.Frag) (n : Nat) : Sp := fun vs H Q _ => ∃ (v : V) (t : Tm) (kind : Str) (tu lm : Addr) (x y : V) (ms2 : List MdT), vs = [v, .str kind, .ref tu] ∧ TmV K H v t ∧ TPr (fun a _ => 0 ≤ a) t ∧ lv t ≤ n ∧ SqT K H tu [x, y, .ref lm] ∧ ModesL K H lm ms2 ∧ ∀ H', Same H H' → Q (.bl (fitT (mks (mds ms2)) [kind] t)) H'
def spHas (K : PySem.W.Frag) (n : Nat) : Sp := fun vs H Q _ => ∃ (v : V) (t : Tm) (lt : Addr) (us : List V) (ts : List (Option Tm)), vs = [v, .ref lt] ∧ TmV K H v t ∧ TPr (fun a _ => 0 ≤ a ∧ a < (ts.length : Int)) t ∧ lv t ≤ n ∧ SqL K H lt us ∧ OAll K H us ts ∧ ∀ H', Same H H' → Q (.bl (hasT ts t)) H'
section
variable {P : Program} {w : World} {K : PySem.W.Frag} {mg : Str → Option Value} {base : Heap} {f : Addr} {fd : FuncData}
theorem scKeys : FnScope ["_law_term_here", "_law_kind", "_law_other"] ["_law_term_here", "_law_kind", "_law_other"] (defScope sKeys) := ⟨rfl, rfl, rfl, by decide +kernel, rfl, by decide +kernel, by decide +kernel⟩
theorem ok_keys {n : Nat} (F : Fun K "_law_keys" "_law_keys" sKeys f fd) (G : Gm mg) (R : Fn P w K mg base (n + 1) "_law_keys" ["_law_term_here", "_law_kind", "_law_other"] (spKeys K n)) : FnOk P w K mg base CX0 (n + 2) f fd ["_law_term_here", "_law_kind", "_law_other"] (spKeys K (n + 1)) := by
  refine F.ok scKeys (fun vs H Q E h => ?_) (fun cdv A outer s H vs Q E hr h => ?_)
  · obtain ⟨v, t, kind, tu, lm, x, y, ms2, rfl, _⟩ := h
    rfl
  obtain ⟨v, t, kind, tu, lm, x, y, ms2, rfl, ht, htp, hlv, htu, hM, q⟩ := h
  refine ⟨_, (pss_cons (ps_if (pt_cmpR op_eq (pe_ix ix_tup (pv 0) pe_int (fun _ _ => rfl)) pe_str (nomark _)) (pss_one (ps_ret (pe_cmpR op_eq (pe_callB call_len_seq rfl G.len PySem.boot_len (pa_cons (pe_lcompG (CompG.many (xs := ["_law_part"]) (caps := ["_law_kind", "_law_other"]) (cap := [1, 2]) (cs := [_, _]) rfl rfl (by decide +kernel) (by decide +kernel) (by decide +kernel) (by decide +kernel) (by decide +kernel) (by decide +kernel) rfl rfl rfl) rfl (pi_tup (pe_ix ix_tup (pv 0) pe_int (fun _ _ => rfl))) (pg_c1 (CompG.many (xs := ["_law_part"]) (caps := ["_law_kind", "_law_other"]) (cap := [1, 2]) (cs := [_, _]) rfl rfl (by decide +kernel) (by decide +kernel) (by decide +kernel) (by decide +kernel) (by decide +kernel) (by decide +kernel) rfl rfl rfl)) (fun _ _ _ _ => pf_one (pt_not (pt_val (pe_fn R hr (pa_cons (pv 0) (pa_cons (pv 1) (pa_cons (pv 2) pa_nil))) (Nat.le_refl _))))) (fun _ _ _ _ => pv 0)) pa_nil)) pe_int (nomark _)))) pss_nil)
    (pss_one (ps_ret (pe_and (pe_cmpR op_eq (pe_ix ix_tup (pv 0) pe_int (fun _ _ => rfl)) pe_int (nomark _)) (pe_and (pe_cmpR op_lt (pe_ix ix_tup (pv 0) pe_int (fun _ _ => rfl)) (pe_callB call_len_seq rfl G.len PySem.boot_len (pa_cons (pe_ix ix_tup (pv 2) pe_int (fun _ _ => rfl)) pa_nil)) (nomark _)) (pe_one (pe_cmpR op_eq (pe_ix ix_tup (pe_ix ix_list (pe_ix ix_tup (pv 2) pe_int (fun _ _ => rfl)) (pe_ix ix_tup (pv 0) pe_int (fun _ _ => rfl)) (fun _ _ => rfl)) pe_int (fun _ _ => rfl)) (pv 1) (nomark _)))))))), ?_⟩
  have eCP : ¬ V.str CALL = V.str PUT := by decide +kernel
  have elm : (ms2.map fun m => V.ref m.1).length = ms2.length := List.length_map ..
  rcases tm_open ht with ⟨a, m, b, rfl, rfl, h1⟩ | ⟨a, b, bs, nm, k, ad, rfl, et, h1, h2, h3, h4⟩
  · refine ⟨_, rfl, a, _, 0, _, rfl, rfl, h1, rfl, rfl, _, rfl, iteN eCP ?_⟩
    have m0 : 0 ≤ m := by simp only [leaf, TPr] at htp; exact htp.1
    have ef : fitT (mks (mds ms2)) [kind] (leaf m b) = fit1 (mks (mds ms2)) [kind] (m, b) := by simp [fitT, leaf, cls, lcl, clss]
    rw [ef] at q
    refine ⟨_, rfl, a, _, 2, _, rfl, rfl, h1, rfl, rfl, _, rfl, ?_⟩
    by_cases hb : b = 0
    · subst hb
      refine iteP rfl ⟨_, rfl, a, _, 1, _, rfl, rfl, h1, rfl, _, rfl, tu, _, 2, _, rfl, rfl, htu, rfl, lm, _, rfl, .inl hM.1, ?_⟩
      rw [elm]
      refine ⟨_, _, rfl, rfl, _, rfl, ?_⟩
      by_cases hm : m < (ms2.length : Int)
      · rw [decide_eq_true hm]
        obtain ⟨i, rfl⟩ : ∃ i : Nat, m = (i : Int) := ⟨m.toNat, by omega⟩
        have hi : i < ms2.length := by omega
        have hat : atI (ms2.map fun m => V.ref m.1) (i : Int) = some (.ref ms2[i].1) := atI_nat (by rw [List.getElem?_map, List.getElem?_eq_getElem hi]; rfl)
        refine iteT ⟨_, rfl, tu, _, 2, _, rfl, rfl, htu, rfl, _, rfl, a, _, 1, _, rfl, rfl, h1, rfl, lm, _, _, _, rfl, rfl, hM.1, hat, ms2[i].1, _, 0, _, rfl, rfl, (hM.2 _ (List.getElem_mem hi)).1, rfl, _, rfl, rfl, ?_⟩
        have em : (mks (mds ms2))[i]? = some ms2[i].2.1 := by simp [List.getElem?_eq_getElem hi, MdT.md]
        have e2 := fit1_yes (ks := [kind]) (j := 0) em rfl
        have e3 : (((0 : Nat) : Int)) = 0 := rfl
        rw [e3] at e2
        rw [e2] at q
        have e : decide (V.str ms2[i].2.1 = V.str kind) = decide (ms2[i].2.1 = kind) := by simp
        show Q (.bl (decide (V.str ms2[i].2.1 = V.str kind))) H
        rw [e]
        exact q H (Same.refl _)
      · rw [decide_eq_false hm]
        rw [fit1_no (fun z => hm (by have := z.2; simpa using this))] at q
        exact iteF (q H (Same.refl _))
    · rw [fit1_no2 (fun z => hb (by have h5 := z.1; have h6 := z.2; simp at h6; omega))] at q
      refine iteN (fun z => hb (V.int.inj z)) ?_
      exact q H (Same.refl _)
  have ecls : cls t = clss t.bs := by
    have := congrArg cls et
    rw [this]; simp [cls, lcl]
  have htps : ∀ u ∈ t.bs, TPr (fun a _ => 0 ≤ a) u := by
    rw [et] at htp
    simp only [TPr] at htp
    exact (TPrs_iff _ _).mp htp.2.2
  have hlen := h3.length
  rw [lv_bs] at hlv
  refine ⟨_, rfl, a, _, 0, _, rfl, rfl, h1, rfl, rfl, _, rfl, iteP rfl ?_⟩
  refine ⟨_, rfl, a, _, 4, _, rfl, rfl, h1, rfl, b, rfl, ⟨_, h2⟩, fun acc hacc => ?_⟩
  refine c1_tup (K := K) (xs := bs) (cs := [some (.str kind), some (.ref tu)]) (te := tVar 0) (fun i ys H' => H' acc = some (.lst ys) ∧ Same H H' ∧ ys.length = ((t.bs.take i).filter fun u => !fitT (mks (mds ms2)) [kind] u).length)
    ⟨upd_same, same_new hacc _, rfl⟩ ?_ ?_ ?_
  · rintro i ys H' _ ⟨_, g, _⟩
    exact g.seqT h2
  · rintro i x ys H' hi hx ⟨hya, g, hyl⟩
    have hit : i < t.bs.length := by omega
    obtain ⟨cv, hcv, hct⟩ := h3.get (List.getElem?_eq_getElem hit)
    obtain rfl : cv = x := Option.some.inj (hcv.symm.trans hx)
    have hm := List.getElem_mem hit
    have a1 := lv_le hm
    have hy1 : ys.length ≤ i := by
      rw [hyl]
      exact Nat.le_trans (List.length_filter_le _ _) (by rw [List.length_take]; omega)
    refine ⟨_, rfl, _, rfl, _, rfl, cv, t.bs[i], kind, tu, lm, _, _, ms2, rfl, hct.mono fun _ _ => g.seqT, htps _ hm, by omega, g.seqT htu, hM.same g, fun H4 g4 => ⟨_, rfl, ?_⟩⟩
    have hya4 := g4 _ _ hya
    cases hf : fitT (mks (mds ms2)) [kind] t.bs[i] with
    | true =>
      refine iteF (comp_skip hi (ys := ys) ⟨hya4, g.trans g4, ?_⟩)
      rw [List.take_add_one, List.getElem?_eq_getElem hit, List.filter_append, List.length_append, hyl]
      show _ = _ + ([t.bs[i]].filter fun u => !fitT (mks (mds ms2)) [kind] u).length
      rw [List.filter_cons, if_neg (by rw [hf]; decide)]; rfl
    | false =>
      refine iteT ⟨_, rfl, comp_next (ys := ys) hi hya4 (by omega) ⟨upd_same, fun b u e => ?_, ?_⟩⟩
      · rw [upd_ne (ne_of_none e hacc)]; exact g4 _ _ (g _ _ e)
      · rw [List.take_add_one, List.getElem?_eq_getElem hit, List.filter_append, List.length_append, List.length_append, hyl]
        show _ + 1 = _ + ([t.bs[i]].filter fun u => !fitT (mks (mds ms2)) [kind] u).length
        rw [List.filter_cons, if_pos (by rw [hf]; rfl)]; rfl
  rintro ys H1 ⟨hya, g, hyl⟩
  rw [List.take_of_length_le (by omega)] at hyl
  refine ⟨acc, ys, rfl, .inl (SqL.of hya), rfl, ?_⟩
  show Q (.bl (decide (V.int ((ys.length : Nat) : Int) = V.int 0))) H1
  rw [hyl, none_left]
  have e : t.bs.all (fitT (mks (mds ms2)) [kind]) = fitT (mks (mds ms2)) [kind] t := by
    show _ = (cls t).all _
    rw [put_all ecls]; rfl
  rw [e]
  exact q H1 g
theorem none_keys {k : Nat} : FnOk P w K mg base CX0 k f fd ["_law_term_here", "_law_kind", "_law_other"] (spKeys K 0) := by
  have no : ∀ vs H Q E, ¬ spKeys K 0 vs H Q E := fun vs H Q E h => by
    obtain ⟨v, t, kind, tu, lm, x, y, ms2, _, _, _, h0, _⟩ := h
    rw [lv_bs] at h0; omega
  exact ⟨fun vs H Q E h => absurd h (no vs H Q E), fun A outer s H args us vs Q E _ _ _ _ h => absurd h (no vs H Q E)⟩
theorem all_keys (F : Fun K "_law_keys" "_law_keys" sKeys f fd) (G : Gm mg) (hb : Binds K fd ["_law_term_here", "_law_kind", "_law_other"] []) (hm : mg "_law_keys" = some (.ref f)) : ∀ n : Nat, FnOk P w K mg base CX0 (n + 1) f fd ["_law_term_here", "_law_kind", "_law_other"] (spKeys K n)
  | 0 => none_keys
  | n + 1 => ok_keys F G ⟨f, fd, all_keys F G hb hm n, hb, F.kp, hm⟩
theorem scHas : FnScope ["_law_term_here", "_law_terms"] ["_law_term_here", "_law_terms"] (defScope sHas) := ⟨rfl, rfl, rfl, by decide +kernel, rfl, by decide +kernel, by decide +kernel⟩
theorem ok_has {n : Nat} (F : Fun K "_law_has" "_law_has" sHas f fd) (G : Gm mg) (R : Fn P w K mg base (n + 1) "_law_has" ["_law_term_here", "_law_terms"] (spHas K n)) : FnOk P w K mg base CX0 (n + 2) f fd ["_law_term_here", "_law_terms"] (spHas K (n + 1)) := by
  refine F.ok scHas (fun vs H Q E h => ?_) (fun cdv A outer s H vs Q E hr h => ?_)
  · obtain ⟨v, t, lt, us, ts, rfl, _⟩ := h
    rfl
  obtain ⟨v, t, lt, us, ts, rfl, ht, htp, hlv, hlt, hus, q⟩ := h
  refine ⟨_, (pss_cons (ps_if (pt_cmpR op_eq (pe_ix ix_tup (pv 0) pe_int (fun _ _ => rfl)) pe_str (nomark _)) (pss_one (ps_ret (pe_cmpR op_eq (pe_callB call_len_seq rfl G.len PySem.boot_len (pa_cons (pe_lcompG (CompG.many (xs := ["_law_part"]) (caps := ["_law_terms"]) (cap := [1]) (cs := [_]) rfl rfl (by decide +kernel) (by decide +kernel) (by decide +kernel) (by decide +kernel) (by decide +kernel) (by decide +kernel) rfl rfl rfl) rfl (pi_tup (pe_ix ix_tup (pv 0) pe_int (fun _ _ => rfl))) (pg_c1 (CompG.many (xs := ["_law_part"]) (caps := ["_law_terms"]) (cap := [1]) (cs := [_]) rfl rfl (by decide +kernel) (by decide +kernel) (by decide +kernel) (by decide +kernel) (by decide +kernel) (by decide +kernel) rfl rfl rfl)) (fun _ _ _ _ => pf_one (pt_not (pt_val (pe_fn R hr (pa_cons (pv 0) (pa_cons (pv 1) pa_nil)) (Nat.le_refl _))))) (fun _ _ _ _ => pv 0)) pa_nil)) pe_int (nomark _)))) pss_nil)
    (pss_one (ps_ret (pe_cmpR op_notN (pe_ix ix_list (pv 1) (pe_ix ix_tup (pv 0) pe_int (fun _ _ => rfl)) (fun _ _ => rfl)) pe_non (nomark _))))), ?_⟩
  have eCP : ¬ V.str CALL = V.str PUT := by decide +kernel
  rcases tm_open ht with ⟨a, m, b, rfl, rfl, h1⟩ | ⟨a, b, bs, nm, k, ad, rfl, et, h1, h2, h3, h4⟩
  · refine ⟨_, rfl, a, _, 0, _, rfl, rfl, h1, rfl, rfl, _, rfl, iteN eCP ?_⟩
    have mm : 0 ≤ m ∧ m < (ts.length : Int) := by simp only [leaf, TPr] at htp; exact htp.1
    have ef : hasT ts (leaf m b) = hasB ts (m, b) := by simp [hasT, leaf, cls, lcl, clss]
    rw [ef] at q
    have hci : m.toNat < ts.length := by omega
    obtain ⟨hv, hv1, hv2⟩ := hus.get (List.getElem?_eq_getElem hci)
    have em : m = ((m.toNat : Nat) : Int) := by omega
    have hat : atI us m = some hv := by rw [em]; exact atI_nat hv1
    refine ⟨_, rfl, _, rfl, a, _, 1, _, rfl, rfl, h1, rfl, lt, us, m, hv, rfl, rfl, hlt, hat, rfl, ?_⟩
    have eb : (!decide (hv = V.non)) = hasB ts (m, b) := by
      unfold hasB
      show _ = (match ts[m.toNat]? with | some (some _) => true | _ => false)
      rw [List.getElem?_eq_getElem hci]
      cases eo : ts[m.toNat] with
      | none =>
        rw [eo] at hv2
        have : hv = .non := hv2
        rw [this]; rfl
      | some u =>
        rw [eo] at hv2
        have h3 : TmV K H hv u := hv2
        have : hv ≠ .non := fun z => by rw [z] at h3; cases h3
        simp [this]
    rw [eb]
    exact q H (Same.refl _)
  have ecls : cls t = clss t.bs := by
    have := congrArg cls et
    rw [this]; simp [cls, lcl]
  have htps : ∀ u ∈ t.bs, TPr (fun a _ => 0 ≤ a ∧ a < (ts.length : Int)) u := by
    rw [et] at htp
    simp only [TPr] at htp
    exact (TPrs_iff _ _).mp htp.2.2
  have hlen := h3.length
  rw [lv_bs] at hlv
  refine ⟨_, rfl, a, _, 0, _, rfl, rfl, h1, rfl, rfl, _, rfl, iteP rfl ?_⟩
  refine ⟨_, rfl, a, _, 4, _, rfl, rfl, h1, rfl, b, rfl, ⟨_, h2⟩, fun acc hacc => ?_⟩
  refine c1_tup (K := K) (xs := bs) (cs := [some (.ref lt)]) (te := tVar 0) (fun i ys H' => H' acc = some (.lst ys) ∧ Same H H' ∧ ys.length = ((t.bs.take i).filter fun u => !hasT ts u).length)
    ⟨upd_same, same_new hacc _, rfl⟩ ?_ ?_ ?_
  · rintro i ys H' _ ⟨_, g, _⟩
    exact g.seqT h2
  · rintro i x ys H' hi hx ⟨hya, g, hyl⟩
    have hit : i < t.bs.length := by omega
    obtain ⟨cv, hcv, hct⟩ := h3.get (List.getElem?_eq_getElem hit)
    obtain rfl : cv = x := Option.some.inj (hcv.symm.trans hx)
    have hm := List.getElem_mem hit
    have a1 := lv_le hm
    have hy1 : ys.length ≤ i := by
      rw [hyl]
      exact Nat.le_trans (List.length_filter_le _ _) (by rw [List.length_take]; omega)
    refine ⟨_, rfl, _, rfl, cv, t.bs[i], lt, us, ts, rfl, hct.mono fun _ _ => g.seqT, htps _ hm, by omega, g.seq hlt, hus.mono fun _ _ => g.seqT, fun H4 g4 => ⟨_, rfl, ?_⟩⟩
    have hya4 := g4 _ _ hya
    cases hf : hasT ts t.bs[i] with
    | true =>
      refine iteF (comp_skip hi (ys := ys) ⟨hya4, g.trans g4, ?_⟩)
      rw [List.take_add_one, List.getElem?_eq_getElem hit, List.filter_append, List.length_append, hyl]
      simp [hf]
    | false =>
      refine iteT ⟨_, rfl, comp_next (ys := ys) hi hya4 (by omega) ⟨upd_same, fun b u e => ?_, ?_⟩⟩
      · rw [upd_ne (ne_of_none e hacc)]; exact g4 _ _ (g _ _ e)
      · rw [List.take_add_one, List.getElem?_eq_getElem hit, List.filter_append, List.length_append, List.length_append, hyl]
        simp [hf]
  rintro ys H1 ⟨hya, g, hyl⟩
  rw [List.take_of_length_le (by omega)] at hyl
  refine ⟨acc, ys, rfl, .inl (SqL.of hya), rfl, ?_⟩
  show Q (.bl (decide (V.int ((ys.length : Nat) : Int) = V.int 0))) H1
  rw [hyl, none_left]
  have e : t.bs.all (hasT ts) = hasT ts t := by
    show _ = (cls t).all _
    rw [put_all ecls]; rfl
  rw [e]
  exact q H1 g
theorem none_has {k : Nat} : FnOk P w K mg base CX0 k f fd ["_law_term_here", "_law_terms"] (spHas K 0) := by
  have no : ∀ vs H Q E, ¬ spHas K 0 vs H Q E := fun vs H Q E h => by
    obtain ⟨v, t, lt, us, ts, _, _, _, h0, _⟩ := h
    rw [lv_bs] at h0; omega
  exact ⟨fun vs H Q E h => absurd h (no vs H Q E), fun A outer s H args us vs Q E _ _ _ _ h => absurd h (no vs H Q E)⟩
theorem all_has (F : Fun K "_law_has" "_law_has" sHas f fd) (G : Gm mg) (hb : Binds K fd ["_law_term_here", "_law_terms"] []) (hm : mg "_law_has" = some (.ref f)) : ∀ n : Nat, FnOk P w K mg base CX0 (n + 1) f fd ["_law_term_here", "_law_terms"] (spHas K n)
  | 0 => none_has
  | n + 1 => ok_has F G ⟨f, fd, all_has F G hb hm n, hb, F.kp, hm⟩
end
end K51
namespace K51
open PySem L2 TM TT ST K9 K11
section
variable {P : Program} {w : World} {K : PySem.W.Frag} {mg : Str → Option Value} {base : Heap} {f : Addr} {fd : FuncData}
theorem scLIsP : FnScope ["_law_one", "_law_terms", "_law_other", "_law_k", "_law_kind", "_law_rules", "_law_row"] ["_law_one", "_law_terms", "_law_other"] (defScope sLIsP) := ⟨rfl, rfl, rfl, by decide +kernel, rfl, by decide +kernel, by decide +kernel⟩
theorem ok_lisP (F : Fun K "_law_is_paper" "_law_is_paper" sLIsP f fd) (G : Gm mg) (RK : Fn P w K mg base 5 "_law_keys" ["_law_term_here", "_law_kind", "_law_other"] (spKeys K 4)) (RH : Fn P w K mg base 7 "_law_has" ["_law_term_here", "_law_terms"] (spHas K 6)) (RT : Fn P w K mg base 12 "_law_termed" ["_law_term_here", "_law_terms"] (spTed K 6)) (RU : Fn P w K mg base 5 "_law_ruled" ["_law_term_here", "_law_modes", "_law_row"] (spRul K 4)) : FnOk P w K mg base CX0 13 f fd ["_law_one", "_law_terms", "_law_other"] (spIsP K) := by
  refine F.ok scLIsP (fun vs H Q E h => ?_) (fun cdv A outer s H vs Q E hr h => ?_)
  · obtain ⟨nr, t1, w1, lm1, lt, t2, w2, lm2, s1, s2, us, ts, st1, st2, ms1, ms2, d, rfl, _⟩ := h
    rfl
  obtain ⟨nr, t1, w1, lm1, lt, t2, w2, lm2, s1, s2, us, ts, st1, st2, ms1, ms2, d, rfl, h1, h2, cl, dd, hlt, hus, pq, q⟩ := h
  refine ⟨_, (pss_cons (ps_for PassesOwn.never rfl (pi_range1 rfl G.rng (pa_cons (pe_callB call_len_seq rfl G.len PySem.boot_len (pa_cons (pv 1) pa_nil)) pa_nil)) (pg_name (i := 3) scLIsP.nd rfl (Or.inl rfl)) (pss_one (ps_if (PW.pt (pw_and (pt_cmpR op_notN (pe_ix ix_list (pv 1) (pv 3) (fun _ _ => rfl)) pe_non (nomark _)) (pw_and1 (pt_not (pt_val (pe_fn RK hr (pa_cons (pe_ix ix_list (pv 1) (pv 3) (fun _ _ => rfl)) (pa_cons (pe_ix ix_tup (pe_ix ix_list (pe_ix ix_tup (pv 0) pe_int (fun _ _ => rfl)) (pv 3) (fun _ _ => rfl)) pe_int (fun _ _ => rfl)) (pa_cons (pv 2) pa_nil))))))))) (pss_one (ps_ret pe_bl)) pss_nil)))
    (pss_cons (ps_if (PW.pt (pw_or (pt_not (pt_val (pe_fn RH hr (pa_cons (pe_ix ix_tup (pv 0) pe_int (fun _ _ => rfl)) (pa_cons (pv 1) pa_nil))))) (pw_or1 (pt_cmpR op_neD (pe_fn RT hr (pa_cons (pe_ix ix_tup (pv 0) pe_int (fun _ _ => rfl)) (pa_cons (pv 1) pa_nil))) (pe_ix ix_tup (pv 2) pe_int (fun _ _ => rfl)) (nomark _))))) (pss_one (ps_ret pe_bl)) pss_nil)
    (pss_cons (ps_for PassesOwn.never rfl (pi_range1 rfl G.rng (pa_cons (pe_callB call_len_seq rfl G.len PySem.boot_len (pa_cons (pv 1) pa_nil)) pa_nil)) (pg_name (i := 3) scLIsP.nd rfl (Or.inl rfl)) (pss_cons (ps_asg (pe_ix ix_list (pe_ix ix_tup (pv 0) pe_int (fun _ _ => rfl)) (pv 3) (fun _ _ => rfl)) (pg_tup rfl (pgs_cons (pg_name (i := 4) scLIsP.nd rfl (Or.inl rfl)) (pgs_cons (pg_name (i := 5) scLIsP.nd rfl (Or.inl rfl)) pgs_nil))))
    (pss_one (ps_for PassesOwn.never rfl (pi_range1 rfl G.rng (pa_cons (pe_callB call_len_seq rfl G.len PySem.boot_len (pa_cons (pv 5) pa_nil)) pa_nil)) (pg_name (i := 6) scLIsP.nd rfl (Or.inl rfl)) (pss_one (ps_if (pt_cmpR op_notN (pe_ix ix_list (pv 1) (pv 3) (fun _ _ => rfl)) pe_non (nomark _)) (pss_cons (ps_if (pt_not (pt_val (pe_fn RH hr (pa_cons (pe_ix ix_list (pv 5) (pv 6) (fun _ _ => rfl)) (pa_cons (pv 1) pa_nil))))) (pss_one (ps_ret pe_bl)) pss_nil)
    (pss_one (ps_if (pt_cmpR op_neD (pe_fn RT hr (pa_cons (pe_ix ix_list (pv 5) (pv 6) (fun _ _ => rfl)) (pa_cons (pv 1) pa_nil))) (pe_fn RU hr (pa_cons (pe_ix ix_list (pv 1) (pv 3) (fun _ _ => rfl)) (pa_cons (pe_ix ix_tup (pv 2) pe_int (fun _ _ => rfl)) (pa_cons (pv 6) pa_nil)))) (nomark _)) (pss_one (ps_ret pe_bl)) pss_nil))) pss_nil))))))
    (pss_one (ps_ret pe_bl))))), ?_⟩
  have hul := hus.length
  have hl := pq.l
  have f1 := pq.few1
  have hl' : (ts.length : Int) = (ms1.length : Int) := by omega
  have s1o : TPr (fun a _ => 0 ≤ a ∧ a < (ts.length : Int)) st1 := pq.s1.1.mono fun a _ h => by rw [hl']; exact h
  have r1o : ∀ m ∈ ms1, ∀ t ∈ m.2.2.2.2, TPr (fun a _ => 0 ≤ a ∧ a < (ts.length : Int)) t ∧ lv t ≤ 6 := fun m hm t ht => ⟨((pq.r1 m hm).2 t ht).1.mono fun a _ h => by rw [hl']; exact h, ((pq.r1 m hm).2 t ht).2⟩
  refine ⟨_, rfl, lt, us, rfl, .inl hlt, _, rfl, (by show -(2 ^ 62 : Int) ≤ (us.length : Int); omega), (by show (us.length : Int) < 2 ^ 62; omega), ?_⟩
  refine for_range (lo := 0) (n := (us.length : Int).toNat) (fun k σ H' => ∃ c3 : Option V, σ = [some (.ref t1), some (.ref lt), some (.ref t2), c3, none, none, none] ∧ Same H H' ∧ ∀ (j : Nat) (md : MdT) (t : Tm), j < k → ms1[j]? = some md → ts[j]? = some (some t) → fitT (mks (mds ms2)) [md.2.1] t = true)
    ⟨none, rfl, Same.refl _, fun j md t h => absurd h (Nat.not_lt_zero _)⟩ ?_ ?_
  · rintro k σ H' hk ⟨c3, rfl, g, hfit⟩
    rw [Int.toNat_natCast] at hk
    have hkt : k < ts.length := by omega
    have hkm : k < ms1.length := by omega
    obtain ⟨cv, hcv, hct⟩ := hus.get (List.getElem?_eq_getElem hkt)
    have hatt : atI us (0 + (k : Int)) = some cv := by rw [Int.zero_add]; exact atI_nat hcv
    have hatm : atI (ms1.map fun m => V.ref m.1) (0 + (k : Int)) = some (.ref ms1[k].1) := by rw [Int.zero_add]; exact atI_nat (by rw [List.getElem?_map, List.getElem?_eq_getElem hkm]; rfl)
    refine ⟨_, rfl, _, rfl, lt, us, _, cv, rfl, rfl, g.seq hlt, hatt, rfl, _, rfl, ?_⟩
    have next : ∀ H2, Same H H2 → (∀ t, ts[k]? = some (some t) → fitT (mks (mds ms2)) [ms1[k].2.1] t = true) → ∃ c3' : Option V, [some (V.ref t1), some (.ref lt), some (.ref t2), some (.int (0 + (k : Int))), none, none, none] = [some (V.ref t1), some (.ref lt), some (.ref t2), c3', none, none, none] ∧ Same H H2 ∧ ∀ (j : Nat) (md : MdT) (t : Tm), j < k + 1 → ms1[j]? = some md → ts[j]? = some (some t) → fitT (mks (mds ms2)) [md.2.1] t = true := fun H2 g2 hf => ⟨_, rfl, g2, fun j md t hj hmd ht => by
      by_cases hjk : j < k
      · exact hfit j md t hjk hmd ht
      · obtain rfl : j = k := by omega
        rw [List.getElem?_eq_getElem hkm] at hmd
        obtain rfl := Option.some.inj hmd
        exact hf t ht⟩
    cases eo : ts[k] with
    | none =>
      rw [eo] at hct
      have hv : cv = .non := hct
      subst hv
      refine iteF (iteF (next H' g fun t ht => ?_))
      rw [List.getElem?_eq_getElem hkt, eo] at ht
      cases ht
    | some t =>
      rw [eo] at hct
      have hct' : TmV K H cv t := hct
      have hvn : cv ≠ .non := fun z => by rw [z] at hct'; cases hct'
      have e : (!decide (cv = V.non)) = true := by simp [hvn]
      rw [e]
      have hts : some t ∈ ts := by rw [← eo]; exact List.getElem_mem hkt
      obtain ⟨tp, tk, tl⟩ := pq.t.tm t hts
      refine iteT ⟨_, rfl, _, rfl, lt, us, _, cv, rfl, rfl, g.seq hlt, hatt, _, rfl, t1, _, 2, _, rfl, rfl, g.seqT h1.tu, rfl, _, rfl, lm1, _, _, _, rfl, rfl, (h1.m.same g).1, hatm, ms1[k].1, _, 0, _, rfl, rfl, ((h1.m.same g).2 _ (List.getElem_mem hkm)).1, rfl, _, rfl, cv, t, ms1[k].2.1, t2, lm2, .ref w2, s2, ms2, rfl, hct'.mono fun _ _ => g.seqT, tp, tl, g.seqT h2.tu, h2.m.same g, fun H4 g4 => ⟨_, rfl, ?_⟩⟩
      cases hf : fitT (mks (mds ms2)) [ms1[k].2.1] t with
      | false =>
        refine iteT (q false H4 (g.trans g4) ⟨fun z => absurd z Bool.false_ne_true, fun z => ?_⟩)
        have := z.fit k _ t (List.getElem?_eq_getElem hkm) (by rw [List.getElem?_eq_getElem hkt, eo])
        rw [hf] at this; cases this
      | true =>
        refine iteF (next H4 (g.trans g4) fun t' ht' => ?_)
        rw [List.getElem?_eq_getElem hkt, eo] at ht'
        have : t = t' := Option.some.inj (Option.some.inj ht')
        rw [← this]; exact hf
  rintro σ H1 ⟨c3, rfl, g1, hfit0⟩
  rw [Int.toNat_natCast] at hfit0
  have hfit : ∀ (j : Nat) (md : MdT) (t : Tm), ms1[j]? = some md → ts[j]? = some (some t) → fitT (mks (mds ms2)) [md.2.1] t = true := fun j md t a b => hfit0 j md t (by have := (List.getElem?_eq_some_iff.mp b).1; omega) a b
  refine ⟨_, rfl, t1, _, 1, _, rfl, rfl, g1.seqT h1.tu, rfl, _, rfl, s1, st1, lt, us, ts, rfl, h1.s.mono fun _ _ => g1.seqT, s1o, pq.s1.2, g1.seq hlt, hus.mono fun _ _ => g1.seqT, fun H2 g2 => ⟨_, rfl, ?_⟩⟩
  have g12 := g1.trans g2
  cases hHs : hasT ts st1 with
  | false =>
    refine iteT (iteT (q false H2 g12 ⟨fun z => absurd z Bool.false_ne_true, fun z => ?_⟩))
    have := z.hs
    rw [hHs] at this; cases this
  | true =>
  refine iteF ⟨_, rfl, t1, _, 1, _, rfl, rfl, g12.seqT h1.tu, rfl, _, rfl, s1, st1, lt, us, tf ts, rfl, h1.s.mono fun _ _ => g12.seqT, pq.s1.2, g12.seq hlt, (modes_terms hus pq.t pq.s1.1 hHs).mono fun _ _ => g12.seqT, fun v3 H3 g3 hv3 => ?_⟩
  have g13 := g12.trans g3
  have k1 := tin_ok pq.t pq.s1.1 pq.s1.2
  have k2 := pq.s2.1.mok
  refine ⟨_, rfl, t2, _, 1, _, rfl, rfl, g13.seqT h2.tu, rfl, tmd (tin ts st1), tmd st2, hv3.rd, (h2.s.mono fun _ _ => g13.seqT).rd, k1.1, k2.1, hr.fit (by have := k1.2; omega), _, rfl, ?_⟩
  rw [if_pos rfl]
  have eq0 : PyData.eqv (tmd (tin ts st1)) (tmd st2) = eqT (tin ts st1) st2 := rfl
  rw [eq0]
  cases hE : eqT (tin ts st1) st2 with
  | false =>
    refine iteT (q false H3 g13 ⟨fun z => absurd z Bool.false_ne_true, fun z => ?_⟩)
    have := z.es
    rw [hE] at this; cases this
  | true =>
  refine iteF ?_
  refine ⟨_, rfl, lt, us, rfl, .inl (g13.seq hlt), _, rfl, (by show -(2 ^ 62 : Int) ≤ (us.length : Int); omega), (by show (us.length : Int) < 2 ^ 62; omega), ?_⟩
  refine for_range (lo := 0) (n := (us.length : Int).toNat) (fun k σ H' => ∃ c3 c4 c5 c6 : Option V, σ = [some (.ref t1), some (.ref lt), some (.ref t2), c3, c4, c5, c6] ∧ Same H H' ∧ ∀ (j : Nat) (md : MdT) (t : Tm), j < k → ms1[j]? = some md → ts[j]? = some (some t) → ∀ (i : Nat) (r : Tm), md.2.2.2.2[i]? = some r → hasT ts r = true ∧ eqT (tin ts r) (rin ms2 i t) = true)
    ⟨_, _, _, _, rfl, g13, fun j md t h => absurd h (Nat.not_lt_zero _)⟩ ?_ ?_
  · clear c3
    rintro k σ H' hk ⟨c3, c4, c5, c6, rfl, g, hag⟩
    rw [Int.toNat_natCast] at hk
    have hkt : k < ts.length := by omega
    have hkm : k < ms1.length := by omega
    obtain ⟨cv, hcv, hct⟩ := hus.get (List.getElem?_eq_getElem hkt)
    have hatt : atI us (0 + (k : Int)) = some cv := by rw [Int.zero_add]; exact atI_nat hcv
    have hatm : atI (ms1.map fun m => V.ref m.1) (0 + (k : Int)) = some (.ref ms1[k].1) := by rw [Int.zero_add]; exact atI_nat (by rw [List.getElem?_map, List.getElem?_eq_getElem hkm]; rfl)
    have hmm := List.getElem_mem hkm
    obtain ⟨d1, d2, d3⟩ := h1.m.2 _ hmm
    have hrl := (pq.r1 _ hmm).1
    have hn := pq.ten ms1[k].2.1
    have hlen := d3.length
    refine ⟨_, rfl, t1, _, 2, _, rfl, rfl, g.seqT h1.tu, rfl, _, rfl, lm1, _, _, _, rfl, rfl, (h1.m.same g).1, hatm, ms1[k].1, _, rfl, g.seqT d1, rfl, _, _, rfl, _, _, rfl, rfl, ?_⟩
    refine ⟨_, rfl, ms1[k].2.2.1, _, rfl, .inl (g.seq d2), _, rfl, (by show -(2 ^ 62 : Int) ≤ (ms1[k].2.2.2.1.length : Int); omega), (by show (ms1[k].2.2.2.1.length : Int) < 2 ^ 62; omega), ?_⟩
    refine for_range (lo := 0) (n := (ms1[k].2.2.2.1.length : Int).toNat) (fun i σ H2 => ∃ c6 : Option V, σ = [some (.ref t1), some (.ref lt), some (.ref t2), some (.int (0 + (k : Int))), some (.str ms1[k].2.1), some (.ref ms1[k].2.2.1), c6] ∧ Same H H2 ∧ ∀ (t : Tm), ts[k]? = some (some t) → ∀ (j : Nat) (r : Tm), j < i → ms1[k].2.2.2.2[j]? = some r → hasT ts r = true ∧ eqT (tin ts r) (rin ms2 j t) = true)
      ⟨_, rfl, g, fun t _ j r h => absurd h (Nat.not_lt_zero _)⟩ ?_ ?_
    · rintro i σ H2 hi ⟨c6, rfl, g2, hin⟩
      rw [Int.toNat_natCast] at hi
      have hit : i < ms1[k].2.2.2.2.length := by omega
      refine ⟨_, rfl, _, rfl, lt, us, _, cv, rfl, rfl, g2.seq hlt, hatt, rfl, _, rfl, ?_⟩
      cases eo : ts[k] with
      | none =>
        rw [eo] at hct
        have hv : cv = .non := hct
        subst hv
        refine iteF ⟨_, rfl, g2, fun t ht => ?_⟩
        rw [List.getElem?_eq_getElem hkt, eo] at ht
        cases ht
      | some t =>
        rw [eo] at hct
        have hct' : TmV K H cv t := hct
        have hvn : cv ≠ .non := fun z => by rw [z] at hct'; cases hct'
        have e : (!decide (cv = V.non)) = true := by simp [hvn]
        rw [e]
        have hts : some t ∈ ts := by rw [← eo]; exact List.getElem_mem hkt
        have htk : ts[k]? = some (some t) := by rw [List.getElem?_eq_getElem hkt, eo]
        obtain ⟨tp, tk, tl⟩ := pq.t.tm t hts
        obtain ⟨rv, hrv, hrt⟩ := d3.get (List.getElem?_eq_getElem hit)
        have hatr : atI ms1[k].2.2.2.1 (0 + (i : Int)) = some rv := by rw [Int.zero_add]; exact atI_nat hrv
        obtain ⟨o1, o2⟩ := r1o _ hmm _ (List.getElem_mem hit)
        obtain ⟨o3, _⟩ := (pq.r1 _ hmm).2 _ (List.getElem_mem hit)
        refine iteT ⟨_, rfl, _, rfl, ms1[k].2.2.1, _, _, rv, rfl, rfl, g2.seq d2, hatr, _, rfl, rv, _, lt, us, ts, rfl, hrt.mono fun _ _ => g2.seqT, o1, o2, g2.seq hlt, hus.mono fun _ _ => g2.seqT, fun H3 g3 => ⟨_, rfl, ?_⟩⟩
        have g23 := g2.trans g3
        cases hHr : hasT ts ms1[k].2.2.2.2[i] with
        | false =>
          refine iteT (q false H3 g23 ⟨fun z => absurd z Bool.false_ne_true, fun z => ?_⟩)
          have := z.hr k _ t (List.getElem?_eq_getElem hkm) htk _ (List.getElem_mem hit)
          rw [hHr] at this; cases this
        | true =>
        refine iteF ⟨_, rfl, _, rfl, ms1[k].2.2.1, _, _, rv, rfl, rfl, g23.seq d2, hatr, _, rfl, rv, _, lt, us, tf ts, rfl, hrt.mono fun _ _ => g23.seqT, o2, g23.seq hlt, (modes_terms hus pq.t o3 hHr).mono fun _ _ => g23.seqT, fun v5 H5 g5 hv5 => ?_⟩
        have g25 := g23.trans g5
        have hmc := fit_at (hfit k _ t (List.getElem?_eq_getElem hkm) htk)
        refine ⟨_, rfl, _, rfl, lt, us, _, cv, rfl, rfl, g25.seq hlt, hatt, _, rfl, t2, _, 2, _, rfl, rfl, g25.seqT h2.tu, rfl, _, rfl, cv, t, lm2, ms2, i, by rw [Int.zero_add]; rfl, hct'.mono fun _ _ => g25.seqT, tl, h2.m.same g25, fun c hc => ?_, fun v6 H6 g6 hv6 => ?_⟩
        · obtain ⟨c0, _, md2, e1, e2⟩ := hmc c hc
          refine ⟨c0, md2, e1, ?_⟩
          rw [(pq.r2 md2 (List.mem_of_getElem? e1)).1, e2, ← hrl]; exact hit
        have k3 := tin_ok pq.t o3 o2
        have k4 := rin_ok pq hts i
        refine ⟨tmd (tin ts ms1[k].2.2.2.2[i]), tmd (rin ms2 i t), (hv5.mono fun _ _ => g6.seqT).rd, hv6.rd, k3.1, k4.1, hr.fit (by have := k3.2; omega), _, rfl, ?_⟩
        rw [if_pos rfl]
        have eq1 : PyData.eqv (tmd (tin ts ms1[k].2.2.2.2[i])) (tmd (rin ms2 i t)) = eqT (tin ts ms1[k].2.2.2.2[i]) (rin ms2 i t) := rfl
        rw [eq1]
        cases hEr : eqT (tin ts ms1[k].2.2.2.2[i]) (rin ms2 i t) with
        | false =>
          refine iteT (q false H6 (g25.trans g6) ⟨fun z => absurd z Bool.false_ne_true, fun z => ?_⟩)
          have := z.er k _ t (List.getElem?_eq_getElem hkm) htk i _ (List.getElem?_eq_getElem hit)
          rw [hEr] at this; cases this
        | true =>
          refine iteF ⟨_, rfl, g25.trans g6, fun t' ht' j r hj hjr => ?_⟩
          have et : t = t' := Option.some.inj (Option.some.inj (htk.symm.trans ht'))
          by_cases hji : j < i
          · exact hin t' ht' j r hji hjr
          · obtain rfl : j = i := by omega
            rw [List.getElem?_eq_getElem hit] at hjr
            rw [← Option.some.inj hjr, ← et]
            exact ⟨hHr, hEr⟩
    · rintro σ H2 ⟨c6, rfl, g2, hin⟩
      rw [Int.toNat_natCast] at hin
      refine ⟨_, _, _, _, rfl, g2, fun j md t hj hmd ht i r hir => ?_⟩
      by_cases hjk : j < k
      · exact hag j md t hjk hmd ht i r hir
      · obtain rfl : j = k := by omega
        rw [List.getElem?_eq_getElem hkm] at hmd
        obtain rfl := Option.some.inj hmd
        exact hin t ht i r (by have := (List.getElem?_eq_some_iff.mp hir).1; omega) hir
  · rintro σ H' ⟨c3, c4, c5, c6, rfl, g, hag⟩
    rw [Int.toNat_natCast] at hag
    have hag' : ∀ (j : Nat) (md : MdT) (t : Tm), ms1[j]? = some md → ts[j]? = some (some t) → ∀ (i : Nat) (r : Tm), md.2.2.2.2[i]? = some r → hasT ts r = true ∧ eqT (tin ts r) (rin ms2 i t) = true := fun j md t a b => hag j md t (by have := (List.getElem?_eq_some_iff.mp b).1; omega) a b
    refine q true H' g ⟨fun _ => ⟨hfit, hHs, fun k md t a b r hr' => ?_, hE, fun k md t a b i r hir => (hag' k md t a b i r hir).2⟩, fun _ => rfl⟩
    obtain ⟨i, hi, e⟩ := List.getElem_of_mem hr'
    exact (hag' k md t a b i r ((List.getElem?_eq_getElem hi).trans (congrArg some e))).1
end
end K51
namespace L2
open PySem PySem.Spec PyProof.Rows HT
section
variable {prog : Program} {w : World} {A : Around} {E : Value → Shared → Prop} {s : Shared}
theorem getItem_tuple_all {t sl : Addr} {items : Array Value} {vl vu : Value} {lo hi : Option Int} {Q : Value → Shared → Prop} (ht : IsTup s.heap t items) (hs : s.heap.IsSliceOf sl vl vu .none) (pl : IsPart vl lo) (pu : IsPart vu hi)
    (hw : sIx items.size 0 lo = 0 ∧ sIx items.size items.size hi = items.size) (h : Q (.ref t) s) : wpAny (model prog w) A (getItem (.ref t) (.ref sl)) Q E s := by
  obtain ⟨os, hos, hcs, hds⟩ := id hs
  have hTs : s.TypeIs (.ref sl) "slice" := ⟨os, hos, hcs⟩
  unfold getItem
  try with_reducible refine wpAny_holding ?_
  first | refine wpAny_bind (wpAny_pure ?_) | skip
  refine wpAny_bind (wpAny_sequenceKey ht.typeIs (by decide) ?_)
  refine wpAny_bind (wpAny_callSpecial?_slot (name := Str.ofString "__getitem__") ht.typeIs PyProof.Rows.slot_tuple_getitem
    (wpAny_call_entry PyProof.Rows.slot_tuple_getitem ht.typeIs entry_tuple_getitem ?_ (args_tuple_getitem _ _)))
  show wpAny _ _ (Builtin.Tuple.tupleItemsOf (.ref t) >>= _) _ _ s
  refine wpAny_bind (tupleItemsOf_ ht ?_)
  refine wpAny_bind (wpAny_typeOf hTs ?_)
  rw [if_pos (by decide)]
  refine wpAny_bind (sliceApplied_gen hs pl pu ?_)
  have hyes : ((((sIx items.size 0 lo : Nat) : Int) == 0 && (1 : Int) == 1 && (sIx items.size items.size hi - sIx items.size 0 lo) == items.size) = true) := by
    rw [hw.1, hw.2]; simp
  show wpAny _ _ (if (((sIx items.size 0 lo : Nat) : Int) == 0 && (1 : Int) == 1 && (sIx items.size items.size hi - sIx items.size 0 lo) == items.size) = true then _ else _) _ _ s
  rw [if_pos hyes]
  first
    | refine wpAny_bind (m := Builtin.Tuple.tupleIsExact _) (wpAny_bind (wpAny_typeOf ht.typeIs (wpAny_pure ?_)))
    | refine wpAny_bind (wpAny_bind (m := Builtin.Tuple.tupleIsExact _) (wpAny_bind (wpAny_typeOf ht.typeIs (wpAny_pure ?_))))
  rw [if_pos (by decide)]
  exact wpAny_bind (wpAny_rule (wpAny_pure ⟨_, rfl, wpAny_pure h⟩))
end
section
variable {X : Cx}
def rSlG (K : PySem.W.Frag) : V → Option Int → Option Int → Hp → VK → Prop := fun x lo hi H Q => ∃ a xs, x = .ref a ∧ SqT K H a xs ∧ ∀ p H', Same H H' → SqT K H' p (cutV xs lo hi) → Q (.ref p) H'
theorem sl_tupG : SlR X (rSlG X.K) := by
  intro pins s σ H x v vl vu lo hi sl Q I rx hs pl pu h
  obtain ⟨a, xs, rfl, hx, q⟩ := h
  by_cases hw : HT.sIx xs.length 0 lo = 0 ∧ HT.sIx xs.length xs.length hi = xs.length
  · cases rx
    obtain ⟨its, r, ht, hz⟩ := I.tuple hx
    have hlen : its.toArray.size = xs.length := by rw [List.size_toArray]; exact r.length.symm
    refine ⟨"tuple", _, PyProof.Rows.slot_tuple_getitem.lookup, ht.typeIs, ?_⟩
    refine getItem_tuple_all ht hs pl pu (by rw [hlen]; exact hw) ⟨.ref a, H, I, rfl, q a H (Same.refl _) ?_⟩
    have e : cutV xs lo hi = xs := by
      unfold cutV
      rw [hw.1, hw.2, List.drop_zero, Nat.sub_zero, List.take_length]
    rw [e]; exact hx
  · exact sl_tup pins s σ H _ v vl vu lo hi sl Q I rx hs pl pu ⟨a, xs, rfl, hx, hw, fun p hp => q p _ (same_new hp _) (SqT.of upd_same)⟩
end
end L2
namespace K51
open PySem L2 TM TT ST K9 K11
def moreT (add : Int) : Tm → Tm
  | .node (.call m b) _ _ => .node (.put (Str.ofString "a") false add) 0 [leaf m b]
  | .node (.put n k a) _ bs => .node (.put n k (a + add)) 0 bs
def spMore (K : PySem.W.Frag) : Sp := fun vs H Q _ => ∃ (v : V) (t : Tm) (add : Int), vs = [v, .int add] ∧ TmV K H v t ∧ ∀ (v' : V) (H' : Hp), Same H H' → TmV K H' v' (moreT add t) → Q v' H'
theorem more_ok {p : Int → Int → Prop} {add : Int} {t : Tm} (h : TPr p t) : TPr p (moreT add t) ∧ lv (moreT add t) ≤ max 2 (lv t) ∧ (kp t = false → kp (moreT add t) = false) := by
  match t, h with
  | .node (.call m b) mk bs, h =>
    simp only [TPr] at h
    simp only [moreT]
    refine ⟨?_, ?_, fun _ => ?_⟩
    · simp only [TPr, TPrs, leaf]
      exact ⟨by decide +kernel, by simp, ⟨h.1, trivial⟩, trivial⟩
    · simp only [lv, lvs, leaf]; omega
    · simp [kp, kpl, kps, leaf]
  | .node (.put n k a) mk bs, h =>
    simp only [TPr] at h
    simp only [moreT]
    refine ⟨?_, ?_, fun hk => ?_⟩
    · simp only [TPr]; exact h
    · simp only [lv]; omega
    · simp only [kp, kpl] at hk ⊢; exact hk
def spOthR (K : PySem.W.Frag) : Sp := fun vs H Q _ => ∃ (tu wd lm : Addr) (sv : V) (ks : List KdT) (st : Tm) (ms : List MdT) (mo j : Nat) (v : V) (t : Tm), vs = [.ref tu, .int (mo : Int), .int (j : Int), v] ∧ TurnD K H tu wd lm sv ks st ms ∧ TmV K H v t ∧ ms.length ≤ 10 ∧ mo < ms.length ∧ (∀ m, ms[mo]? = some m → j < m.2.2.2.2.length) ∧
  ∀ (tu1 lm1 : Addr) (ms1 : List MdT) (H' : Hp), Same H H' → TurnD K H' tu1 wd lm1 sv ks st ms1 → ms1.length = ms.length → (∀ (i : Nat) (m1 : MdT), ms1[i]? = some m1 → ∃ m : MdT, ms[i]? = some m ∧ m1.2.1 = m.2.1 ∧ m1.2.2.2.2.length = m.2.2.2.2.length ∧ ∀ u ∈ m1.2.2.2.2, u = t ∨ u ∈ m.2.2.2.2) → Q (.ref tu1) H'
section
variable {P : Program} {w : World} {K : PySem.W.Frag} {mg : Str → Option Value} {base : Heap} {f : Addr} {fd : FuncData}
theorem scMore : FnScope ["_law_term_here", "_law_add"] ["_law_term_here", "_law_add"] (defScope sMore) := ⟨rfl, rfl, rfl, by decide +kernel, rfl, by decide +kernel, by decide +kernel⟩
theorem ok_more (F : Fun K "_law_more" "_law_more" sMore f fd) : FnOk P w K mg base CX0 1 f fd ["_law_term_here", "_law_add"] (spMore K) := by
  refine F.ok scMore (fun vs H Q E h => ?_) (fun cdv A outer s H vs Q E hr h => ?_)
  · obtain ⟨v, t, add, rfl, _⟩ := h
    rfl
  obtain ⟨v, t, add, rfl, ht, q⟩ := h
  refine ⟨_, (pss_cons (ps_if (pt_cmpR op_eq (pe_ix ix_tup (pv 0) pe_int (fun _ _ => rfl)) pe_str (nomark _)) (pss_one (ps_ret (pe_tup (pa_cons (pe_str) (pa_cons (pe_str) (pa_cons (pe_bl) (pa_cons (pv 1) (pa_cons ((pe_tup (pa_cons (pv 0) pa_nil))) pa_nil)))))))) pss_nil)
    (pss_one (ps_ret (pe_op op_catG (pe_op op_catG (pe_slice sl_tupG (pv 0) po_none (po_some pe_int)) (pe_tup (pa_cons (pe_op op_add (pe_ix ix_tup (pv 0) pe_int (fun _ _ => rfl)) (pv 1)) pa_nil))) (pe_slice sl_tupG (pv 0) (po_some pe_int) po_none))))), ?_⟩
  have ePC : ¬ V.str PUT = V.str CALL := by decide +kernel
  rcases tm_op ht with ⟨a, m, b, rfl, rfl, h1⟩ | ⟨a, b, bs, nm, k, ad, ts, rfl, rfl, h1, h2, h3, h4⟩
  · refine ⟨_, rfl, a, _, 0, _, rfl, rfl, h1, rfl, rfl, _, rfl, iteP rfl ⟨_, rfl, _, rfl, (by show 1 ≤ sizeLine; decide), fun p1 hp1 => ⟨(by show 5 ≤ sizeLine; decide), fun p2 hp2 => ?_⟩⟩⟩
    have e1 := same_new hp1 (.tup [.ref a])
    have e2 := same_new hp2 (.tup [.str PUT, .str (Str.ofString "a"), .bl false, .int add, .ref p1])
    have e12 := e1.trans e2
    exact q (.ref p2) _ e12 (.put (SqT.of upd_same) (e2.seqT (SqT.of upd_same)) (.cons (.call (e12.seqT h1)) .nil) (by simp))
  refine ⟨_, rfl, a, _, 0, _, rfl, rfl, h1, rfl, rfl, _, rfl, iteN ePC ?_⟩
  refine ⟨_, rfl, _, rfl, a, _, rfl, h1, fun p1 H1 g1 hp1 => ⟨_, rfl, a, _, 3, _, rfl, rfl, g1.seqT h1, rfl, _, rfl, _, _, rfl, rfl, (by show 1 ≤ sizeLine; decide), fun p2 hp2 => ?_⟩⟩
  have e2 := same_new hp2 (.tup [.int (ad + add)])
  refine ⟨p1, p2, [.str PUT, .str nm, .bl k], [.int (ad + add)], rfl, rfl, e2.seqT hp1, SqT.of upd_same, (by show 3 + 1 ≤ sizeLine; decide), fun p3 H3 g3 hp3 => ?_⟩
  have g13 := g1.trans (e2.trans g3)
  refine ⟨_, rfl, _, rfl, a, _, rfl, g13.seqT h1, fun p4 H4 g4 hp4 => ?_⟩
  refine ⟨p3, p4, [.str PUT, .str nm, .bl k, .int (ad + add)], [.ref b], rfl, rfl, g4.seqT hp3, hp4, (by show 4 + 1 ≤ sizeLine; decide), fun p5 H5 g5 hp5 => ?_⟩
  have g15 := g13.trans (g4.trans g5)
  exact q (.ref p5) H5 g15 (.put hp5 (g15.seqT h2) (h3.mono fun _ _ => g15.seqT) h4)
theorem TmAll.set' {K : PySem.W.Frag} {H : Hp} {v : V} {t : Tm} (h : TmV K H v t) : ∀ {vs : List V} {ts : List Tm} (j : Nat), TmAll K H vs ts → TmAll K H (vs.set j v) (ts.set j t)
  | _, _, _, .nil => .nil
  | _, _, 0, .cons _ r => .cons h r
  | _, _, j + 1, .cons k r => .cons k (TmAll.set' h j r)
theorem scOthR : FnScope ["_law_turning_here", "_law_mode", "_law_row", "_law_rule", "_law_modes"] ["_law_turning_here", "_law_mode", "_law_row", "_law_rule"] (defScope sOthR) := ⟨rfl, rfl, rfl, by decide +kernel, rfl, by decide +kernel, by decide +kernel⟩
theorem ok_othR (F : Fun K "_law_other_rule" "_law_other_rule" sOthR f fd) (G : Gm mg) : FnOk P w K mg base CX0 1 f fd ["_law_turning_here", "_law_mode", "_law_row", "_law_rule"] (spOthR K) := by
  refine F.ok scOthR (fun vs H Q E h => ?_) (fun cdv A outer s H vs Q E hr h => ?_)
  · obtain ⟨tu, wd, lm, sv, ks, st, ms, mo, j, v, t, rfl, _⟩ := h
    rfl
  obtain ⟨tu, wd, lm, sv, ks, st, ms, mo, j, v, t, rfl, hT, hv, hm10, hmo, hj, q⟩ := h
  refine ⟨_, (pss_cons (ps_setG (i := 4) (CompG.many (xs := ["_law_kind", "_law_rules"]) (caps := []) (cap := []) (cs := []) rfl rfl (by decide +kernel) (by decide +kernel) (by decide +kernel) (by decide +kernel) (by decide +kernel) (by decide +kernel) rfl rfl rfl) rfl (pi_list (pe_ix ix_tup (pv 0) pe_int (fun _ _ => rfl))) (pg_c2 (CompG.many (xs := ["_law_kind", "_law_rules"]) (caps := []) (cap := []) (cs := []) rfl rfl (by decide +kernel) (by decide +kernel) (by decide +kernel) (by decide +kernel) (by decide +kernel) (by decide +kernel) rfl rfl rfl) rfl) (fun _ _ _ _ => pf_nil) (fun _ _ _ _ => (pe_tup (pa_cons (pv 0) (pa_cons (pe_callTy (r := rLstOf K) call_list_of rfl G.lst PyProof.Rows.boot_list (pa_cons (pv 1) pa_nil)) pa_nil)))) scOthR.nd rfl rfl)
    (pss_cons (ps_asg (pv 3) (pg_sub (pe_ix ix_tup (pe_ix ix_list (pv 4) (pv 1) (fun _ _ => rfl)) pe_int (fun _ _ => rfl)) (pv 2) set_list))
    (pss_one (ps_ret (pe_tup (pa_cons (pe_ix ix_tup (pv 0) pe_int (fun _ _ => rfl)) (pa_cons (pe_ix ix_tup (pv 0) pe_int (fun _ _ => rfl)) (pa_cons (pv 4) pa_nil)))))))), ?_⟩
  refine ⟨_, rfl, tu, _, 2, _, rfl, rfl, hT.tu, rfl, lm, rfl, ⟨_, hT.m.1⟩, fun ly hly => ?_⟩
  refine c2_list (K := K) (xs := ms.map fun k => V.ref k.1) (cs := []) (tt := fun _ H Q => Q true H) (te := tTup (tCons (tVar 0) (tCons (tCB (rLstOf K) (tCons (tVar 1) tNil)) tNil))) (fun i ys H' => ∃ ns : List MdT, ys = ns.map (fun k => V.ref k.1) ∧ ns.map MdT.md = (ms.take i).map MdT.md ∧ (∀ m ∈ ns, SqT K H' m.1 [.str m.2.1, .ref m.2.2.1] ∧ (H' m.2.2.1 = some (.lst m.2.2.2.1) ∧ m.2.2.1 ≠ ly ∧ H m.2.2.1 = none) ∧ TmAll K H' m.2.2.2.1 m.2.2.2.2) ∧ (ns.map fun m => m.2.2.1).Nodup ∧ H' ly = some (.lst ys) ∧ Same H H')
    ⟨[], rfl, rfl, fun k hk => (nomatch hk), List.nodup_nil, upd_same, same_new hly _⟩ ?_ ?_ ?_
  · rintro i ys H' _ ⟨_, _, _, _, _, _, g⟩
    exact (hT.m.same g).1
  · rintro i x ys H' hi hx ⟨ns, rfl, hkm, hat, hnd, hyb, g⟩
    have hjk : i < ms.length := by simpa using hi
    obtain rfl : x = .ref ms[i].1 := by
      rw [List.getElem?_map, List.getElem?_eq_getElem hjk] at hx
      exact (Option.some.inj hx).symm
    obtain ⟨hk1, hk2, hk3⟩ := (hT.m.same g).2 _ (List.getElem_mem hjk)
    have hhl : ns.length = i := by
      have := congrArg List.length hkm
      rw [List.length_map, List.length_map, List.length_take] at this
      omega
    refine ⟨ms[i].1, _, _, rfl, hk1, iteT ⟨_, rfl, _, rfl, ms[i].2.2.1, _, rfl, .inl hk2, fun l2 hl2 => ⟨(by show 2 ≤ sizeLine; decide), fun p2 hp2 => ?_⟩⟩⟩
    have e1 := same_new hl2 (.lst ms[i].2.2.2.1)
    have e2 := same_new hp2 (.tup [.str ms[i].2.1, .ref l2])
    have e12 := e1.trans e2
    have hya2 := e12 _ _ hyb
    have hl2x : l2 ≠ ly := fun z => by rw [z, hyb] at hl2; cases hl2
    refine comp_next (ys := ns.map fun k => V.ref k.1) hi hya2 (by rw [List.length_map]; omega) ⟨ns ++ [(p2, ms[i].2.1, l2, ms[i].2.2.2.1, ms[i].2.2.2.2)], by simp, ?_, fun m hm => ?_, ?_, upd_same, fun x u e => by rw [upd_ne (ne_of_none e hly)]; exact e12 _ _ (g _ _ e)⟩
    · rw [List.map_append, hkm, List.take_add_one, List.getElem?_eq_getElem hjk, List.map_append]
      rfl
    · rcases List.mem_append.mp hm with z | z
      · obtain ⟨a1, ⟨a2, a3, a3'⟩, a4⟩ := hat m z
        exact ⟨(e12.seqT a1).put hya2, ⟨by rw [upd_ne a3]; exact e12 _ _ a2, a3, a3'⟩, a4.mono fun _ _ h => (e12.seqT h).put hya2⟩
      · obtain rfl : m = (p2, ms[i].2.1, l2, ms[i].2.2.2.1, ms[i].2.2.2.2) := by simpa using z
        refine ⟨SqT.put (SqT.of upd_same) hya2, ⟨?_, hl2x, g.free hl2⟩, hk3.mono fun _ _ h => (e12.seqT h).put hya2⟩
        show (upd _ ly _) l2 = _
        rw [upd_ne hl2x]; exact e2 _ _ upd_same
    · rw [List.map_append, List.nodup_append]
      refine ⟨hnd, by simp, fun a ha b hb => ?_⟩
      obtain ⟨m, hm, rfl⟩ := List.mem_map.mp ha
      obtain rfl : b = l2 := by simpa using hb
      intro z
      have := (hat m hm).2.1.1
      rw [z, hl2] at this; cases this
  rintro ys H1 ⟨ns, rfl, hkm, hat, hnd, hly1, g1⟩
  rw [List.length_map, List.take_length] at hkm
  have hnl : ns.length = ms.length := by have := congrArg List.length hkm; rw [List.length_map, List.length_map] at this; exact this
  have hmn : mo < ns.length := by omega
  have hmm := List.getElem_mem hmn
  have same_md : ∀ i (h : i < ns.length), ∃ m, ms[i]? = some m ∧ ns[i].2.1 = m.2.1 ∧ ns[i].2.2.2.2 = m.2.2.2.2 := fun i h => by
    have hi : i < ms.length := by omega
    have e := congrArg (fun l => l[i]?) hkm
    simp only [List.getElem?_map, List.getElem?_eq_getElem h, List.getElem?_eq_getElem hi, Option.map_some, Option.some.injEq] at e
    have f1 := congrArg Prod.fst e
    have f2 := congrArg Prod.snd e
    exact ⟨ms[i], List.getElem?_eq_getElem hi, f1, f2⟩
  obtain ⟨m0, hm0, ek0, er0⟩ := same_md mo hmn
  have hj0 := hj m0 hm0
  obtain ⟨a1, ⟨a2, a3, a3'⟩, a4⟩ := hat _ hmm
  have hlen := a4.length
  have hjl : j < ns[mo].2.2.2.1.length := by rw [hlen, er0]; exact hj0
  have hatn : atI (ns.map fun k => V.ref k.1) (mo : Int) = some (.ref ns[mo].1) := atI_nat (by rw [List.getElem?_map, List.getElem?_eq_getElem hmn]; rfl)
  refine ⟨_, rfl, _, rfl, _, rfl, ly, _, _, _, rfl, rfl, SqL.of hly1, hatn, ns[mo].1, _, 1, _, rfl, rfl, a1, rfl, _, rfl, ns[mo].2.2.1, _, _, j, rfl, rfl, a2, ixN_nat hjl, ?_⟩
  have kT : ∀ a xs, SqT K H1 a xs → SqT K (upd H1 ns[mo].2.2.1 (.lst (ns[mo].2.2.2.1.set j v))) a xs := fun _ _ h => h.put a2
  have g2 : Same H (upd H1 ns[mo].2.2.1 (.lst (ns[mo].2.2.2.1.set j v))) := fun b u e => by rw [upd_ne (ne_of_none e a3')]; exact g1 _ _ e
  have hly2 : (upd H1 ns[mo].2.2.1 (.lst (ns[mo].2.2.2.1.set j v))) ly = some (.lst (ns.map fun k => V.ref k.1)) := by rw [upd_ne (Ne.symm a3)]; exact hly1
  have hlr2 : (upd H1 ns[mo].2.2.1 (.lst (ns[mo].2.2.2.1.set j v))) ns[mo].2.2.1 = some (.lst (ns[mo].2.2.2.1.set j v)) := upd_same
  have keep : ∀ b u, b ≠ ns[mo].2.2.1 → H1 b = some u → (upd H1 ns[mo].2.2.1 (.lst (ns[mo].2.2.2.1.set j v))) b = some u := fun b u hb e => by rw [upd_ne hb]; exact e
  generalize upd H1 ns[mo].2.2.1 (.lst (ns[mo].2.2.2.1.set j v)) = H2 at kT g2 hly2 hlr2 keep ⊢
  have hT2 := hT.same g2
  refine ⟨_, rfl, tu, _, 0, _, rfl, rfl, hT2.tu, rfl, _, rfl, tu, _, 1, _, rfl, rfl, hT2.tu, rfl, _, rfl, (by show 3 ≤ sizeLine; decide), fun tu1 htu1 => ?_⟩
  have e9 := same_new htu1 (.tup [.ref wd, sv, .ref ly])
  obtain ⟨mN, emN⟩ : ∃ mN : MdT, mN = (ns[mo].1, ns[mo].2.1, ns[mo].2.2.1, ns[mo].2.2.2.1.set j v, ns[mo].2.2.2.2.set j t) := ⟨_, rfl⟩
  have emap : (ns.set mo mN).map (fun k => V.ref k.1) = ns.map fun k => V.ref k.1 := by
    rw [List.map_set, emN]
    have h5 : mo < (ns.map fun k => V.ref k.1).length := by rw [List.length_map]; exact hmn
    have h6 : (ns.map fun k => V.ref k.1)[mo] = V.ref ns[mo].1 := List.getElem_map ..
    show (ns.map fun k => V.ref k.1).set mo (V.ref ns[mo].1) = _
    rw [← h6, List.set_getElem_self]
  have hTA := hT.same (g2.trans e9)
  have hndp := List.pairwise_iff_getElem.mp (List.nodup_iff_pairwise_ne.mp hnd)
  have ndif : ∀ i (h : i < ns.length), i ≠ mo → ns[i].2.2.1 ≠ ns[mo].2.2.1 := fun i h hne => by
    have e1 : (ns.map fun m => m.2.2.1)[i]'(by rw [List.length_map]; exact h) = ns[i].2.2.1 := List.getElem_map ..
    have e2 : (ns.map fun m => m.2.2.1)[mo]'(by rw [List.length_map]; exact hmn) = ns[mo].2.2.1 := List.getElem_map ..
    rcases Nat.lt_or_gt_of_ne hne with z | z
    · have := hndp i mo (by rw [List.length_map]; exact h) (by rw [List.length_map]; exact hmn) z
      rw [e1, e2] at this; exact this
    · have := hndp mo i (by rw [List.length_map]; exact hmn) (by rw [List.length_map]; exact h) z
      rw [e1, e2] at this; exact fun q => this q.symm
  refine q tu1 ly (ns.set mo mN) _ (g2.trans e9) ⟨SqT.of upd_same, hTA.w, hTA.s, SqL.of (by rw [emap]; exact e9 _ _ hly2), fun m hm => ?_⟩ (by rw [List.length_set]; exact hnl) fun i m1 hm1 => ?_
  · obtain ⟨i, hi, em⟩ := List.getElem_of_mem hm
    have hi' : i < ns.length := by rw [List.length_set] at hi; exact hi
    by_cases him : i = mo
    · subst him
      rw [List.getElem_set_self] at em
      rw [← em, emN]
      exact ⟨e9.seqT (kT _ _ a1), SqL.of (e9 _ _ hlr2), TmAll.set' (hv.mono fun _ _ => (g2.trans e9).seqT) j (a4.mono fun _ _ h => e9.seqT (kT _ _ h))⟩
    · rw [List.getElem_set_ne (Ne.symm him)] at em
      obtain ⟨b1, ⟨b2, _, _⟩, b4⟩ := hat _ (List.getElem_mem hi')
      rw [← em]
      exact ⟨e9.seqT (kT _ _ b1), SqL.of (e9 _ _ (keep _ _ (ndif i hi' him) b2)), b4.mono fun _ _ h => e9.seqT (kT _ _ h)⟩
  · have hi := (List.getElem?_eq_some_iff.mp hm1).1
    have hi' : i < ns.length := by rw [List.length_set] at hi; exact hi
    obtain ⟨m, hm, ek, er⟩ := same_md i hi'
    refine ⟨m, hm, ?_⟩
    have em := (List.getElem?_eq_some_iff.mp hm1).2
    by_cases him : i = mo
    · subst him
      rw [List.getElem_set_self] at em
      rw [← em, emN]
      refine ⟨ek, by show (ns[i].2.2.2.2.set j t).length = _; rw [List.length_set, er], fun u hu => ?_⟩
      rcases List.mem_or_eq_of_mem_set (show u ∈ ns[i].2.2.2.2.set j t from hu) with h | h
      · exact .inr (by rw [← er]; exact h)
      · exact .inl h
    · rw [List.getElem_set_ne (Ne.symm him)] at em
      rw [← em]
      exact ⟨ek, by rw [er], fun u hu => .inr (by rw [← er]; exact hu)⟩
end
end K51
namespace K51
open PySem L2 TM TT ST K9 K11
def spLaw (K : PySem.W.Frag) : Sp := fun vs H Q _ => ∃ (a : Addr) (ns : List Int), vs = [.ref a] ∧ SqL K H a (ns.map V.int) ∧ ns.length ≤ 63 ∧ ∀ H', Q (.bl true) H'
structure T2 (ks : List KdT) (st : Tm) (ms : List MdT) : Prop where
  pos : 0 < ms.length
  three : ms.length ≤ 3
  s : TPr (fun _ _ => True) st ∧ lv st ≤ 6
  md : ∀ m ∈ ms, ∃ kd ∈ ks, kd.2.1 = m.2.1 ∧ m.2.2.2.2.length = kd.2.2.2.length ∧ ∀ t ∈ m.2.2.2.2, TPr (fun _ _ => True) t ∧ lv t ≤ 4
theorem T51.t2 {ks : List KdT} {st : Tm} {ms : List MdT} (h : T51 ks st ms) (hW : WD ks) : T2 ks st ms := ⟨h.pos, h.three, ⟨(h.s hW).mono fun _ _ _ => trivial, by have := h.sl.1; omega⟩, fun m hm => by
  obtain ⟨kd, a, b, c, d⟩ := h.md m hm
  exact ⟨kd, a, b, c, fun t ht => ⟨(d t ht).1.mono fun _ _ _ => trivial, (d t ht).2⟩⟩⟩
theorem pq_mk {ks : List KdT} {st1 st2 : Tm} {ms1 ms2 : List MdT} {ts : List (Option Tm)} (hW : WD ks) (o : OneT ks st1 ms1) (l : ts.length = ms1.length) (t : TsOk ts) (h2 : T2 ks st2 ms2) : PQ (fun k => min 10 (rowsK ks k).length) st1 ms1 ts st2 ms2 := by
  have f := o.few
  have g := h2.three
  have nrk : ∀ kd ∈ ks, min 10 (rowsK ks kd.2.1).length = kd.2.2.2.length := fun kd hkd => by
    have e : rowsK ks kd.2.1 = kd.2.2.2 := by
      unfold rowsK
      have e2 : ks.find? (fun k => decide (k.2.1 = kd.2.1)) = some kd := by
        cases e3 : ks.find? (fun k => decide (k.2.1 = kd.2.1)) with
        | none => exact absurd (List.find?_eq_none.mp e3 kd hkd) (by simp)
        | some k2 =>
          have h5 := List.mem_of_find?_eq_some e3
          have h6 := List.find?_some e3
          rw [kind_only hW.ok.nd h5 hkd (of_decide_eq_true h6)]
      rw [e2]; rfl
    have := (hW.rws kd hkd).2
    rw [e]; exact Nat.min_eq_right (by omega)
  refine ⟨l, t, by omega, by omega, fun k => Nat.min_le_left _ _, ⟨o.s1.1, by have := o.s1.2; omega⟩, fun m hm => ?_, h2.s, fun m hm => ?_⟩
  · obtain ⟨kd, hkd, e1, e2, e3⟩ := o.r1 m hm
    exact ⟨by rw [e2, ← e1]; exact (nrk kd hkd).symm, e3⟩
  · obtain ⟨kd, hkd, e1, e2, e3⟩ := h2.md m hm
    exact ⟨by rw [e2, ← e1]; exact (nrk kd hkd).symm, e3⟩
theorem TurnD.off {K : PySem.W.Frag} {H H' : Hp} {lt tu wd lm : Addr} {sv : V} {ks : List KdT} {st : Tm} {ms : List MdT} (h0 : H lt = none) (g : ∀ b u, b ≠ lt → H b = some u → H' b = some u) (h : TurnD K H tu wd lm sv ks st ms) : TurnD K H' tu wd lm sv ks st ms := h.same fun b u e => g b u (ne_of_none e h0) e
def woodD (ks : List KdT) : PyData := .list ((ks.map keyW).map datKind)
theorem TurnD.tuAt {K : PySem.W.Frag} {H : Hp} {tu wd lm : Addr} {sv : V} {ks : List KdT} {st : Tm} {ms : List MdT} (h : TurnD K H tu wd lm sv ks st ms) : TuAt K H tu wd sv lm st ms (woodD ks) := ⟨h.tu, h.s, h.m, .lst h.w.1 (rd_kinds h.w.2)⟩
theorem lay_modes' : ∀ {ms : List MdT}, (∀ m ∈ ms, PyData.strOk m.2.1 = true ∧ ∀ t ∈ m.2.2.2.2, MOk 12 t) → PyData.canLayAll0 ((ms.map MdT.md).map mddD) = true ∧ PyData.depthAll ((ms.map MdT.md).map mddD) ≤ 18
  | [], _ => by simp [PyData.canLayAll0, PyData.depthAll]
  | m :: r, h => by
    obtain ⟨h1, h2⟩ := lay_modes' fun x hx => h x (List.mem_cons_of_mem _ hx)
    obtain ⟨h5, hm⟩ := h m List.mem_cons_self
    obtain ⟨h3, h4⟩ := tmds_ok (d := 12) m.2.2.2.2 hm
    have h5' : PyData.strOk m.md.1 = true := h5
    have h3' : PyData.canLayAll0 (tmds m.md.2) = true := h3
    have h4' : PyData.depthAll (tmds m.md.2) ≤ 12 := h4
    constructor
    · simp only [List.map_cons, PyData.canLayAll0, mddD, PyData.canLay0, h5', h3', h1, Bool.and_self]
    · have e : ((m :: r).map MdT.md).map mddD = mddD m.md :: (r.map MdT.md).map mddD := rfl
      rw [e]
      have e2 : PyData.depthAll (mddD m.md :: (r.map MdT.md).map mddD) = max (mddD m.md).depth (PyData.depthAll ((r.map MdT.md).map mddD)) := by simp only [PyData.depthAll]
      have e3 : (mddD m.md).depth ≤ 17 := by simp only [mddD, PyData.depth, PyData.depthAll]; omega
      rw [e2]
      omega
theorem lay_turn' {ks : List KdT} {t : Tm} {ms : List MdT} (h1 : ∀ k ∈ ks, PyData.strOk k.2.1 = true) (h2 : ∀ k ∈ ks, RowsOk k.2.2.2) (ht : MOk 12 t) (hm : ∀ m ∈ ms, PyData.strOk m.2.1 = true ∧ ∀ t ∈ m.2.2.2.2, MOk 12 t) : (turnDat ks t ms).canLay0 = true ∧ (turnDat ks t ms).depth ≤ 30 := by
  have a1 := lay_kinds h1 h2
  have a2 := depth_kinds (ks.map keyW)
  obtain ⟨b1, b2⟩ := ht
  obtain ⟨c1, c2⟩ := lay_modes' hm
  constructor
  · simp only [PyData.canLay0, PyData.canLayAll0, a1, b1, c1, Bool.and_self]
  · simp only [PyData.depth, PyData.depthAll]
    omega
theorem md_get {ms ms' : List MdT} (e : ms'.map MdT.md = ms.map MdT.md) {i : Nat} {m' : MdT} (h : ms'[i]? = some m') : ∃ m, ms[i]? = some m ∧ m.2.1 = m'.2.1 ∧ m.2.2.2.2 = m'.2.2.2.2 := by
  have e1 := congrArg (fun l => l[i]?) e
  simp only [List.getElem?_map, h, Option.map_some] at e1
  cases em : ms[i]? with
  | none => rw [em] at e1; cases e1
  | some m =>
    rw [em] at e1
    have e2 : m'.md = m.md := Option.some.inj e1
    have f1 := congrArg Prod.fst e2
    have f2 := congrArg Prod.snd e2
    exact ⟨m, rfl, f1.symm, f2.symm⟩
theorem ruleAt_congr {ms ms' : List MdT} (e : ms'.map MdT.md = ms.map MdT.md) (j : Nat) : ruleAt ms' j = ruleAt ms j := by
  funext m
  unfold ruleAt
  cases em : ms'[m.toNat]? with
  | none =>
    have hl := congrArg List.length e
    rw [List.length_map, List.length_map] at hl
    have : ms[m.toNat]? = none := List.getElem?_eq_none (by have := List.getElem?_eq_none_iff.mp em; omega)
    rw [this]
  | some m' =>
    obtain ⟨m0, e1, _, e3⟩ := md_get e em
    rw [e1]
    show (m'.2.2.2.2[j]?).getD _ = (m0.2.2.2.2[j]?).getD _
    rw [e3]
theorem Paper.congr {st1 st2 : Tm} {ms1 ms1' ms2 ms2' : List MdT} {ts : List (Option Tm)} (e1 : ms1'.map MdT.md = ms1.map MdT.md) (e2 : ms2'.map MdT.md = ms2.map MdT.md) (h : Paper st1 ms1 ts st2 ms2) : Paper st1 ms1' ts st2 ms2' := by
  have em : mks (mds ms2') = mks (mds ms2) := by show (ms2'.map MdT.md).map _ = (ms2.map MdT.md).map _; rw [e2]
  refine ⟨fun k md t a b => ?_, h.hs, fun k md t a b r hr => ?_, h.es, fun k md t a b j r hj => ?_⟩
  · obtain ⟨m, c1, c2, c3⟩ := md_get e1 a
    rw [em, ← c2]; exact h.fit k m t c1 b
  · obtain ⟨m, c1, c2, c3⟩ := md_get e1 a
    exact h.hr k m t c1 b r (by rw [c3]; exact hr)
  · obtain ⟨m, c1, c2, c3⟩ := md_get e1 a
    have := h.er k m t c1 b j r (by rw [c3]; exact hj)
    unfold rin at this ⊢
    rw [ruleAt_congr e2]; exact this
theorem PQ.congr {nr : Str → Nat} {st1 st2 : Tm} {ms1 ms1' ms2 ms2' : List MdT} {ts : List (Option Tm)} (e1 : ms1'.map MdT.md = ms1.map MdT.md) (e2 : ms2'.map MdT.md = ms2.map MdT.md) (h : PQ nr st1 ms1 ts st2 ms2) : PQ nr st1 ms1' ts st2 ms2' := by
  have l1 : ms1'.length = ms1.length := by have := congrArg List.length e1; rw [List.length_map, List.length_map] at this; exact this
  have l2 : ms2'.length = ms2.length := by have := congrArg List.length e2; rw [List.length_map, List.length_map] at this; exact this
  refine ⟨by rw [l1]; exact h.l, h.t, by rw [l1]; exact h.few1, by rw [l2]; exact h.few2, h.ten, by rw [l1]; exact h.s1, fun m hm => ?_, h.s2, fun m hm => ?_⟩
  · obtain ⟨i, hi⟩ := List.mem_iff_getElem?.mp hm
    obtain ⟨m0, c1, c2, c3⟩ := md_get e1 hi
    rw [l1, ← c2, ← c3]; exact h.r1 m0 (List.mem_of_getElem? c1)
  · obtain ⟨i, hi⟩ := List.mem_iff_getElem?.mp hm
    obtain ⟨m0, c1, c2, c3⟩ := md_get e2 hi
    rw [← c2, ← c3]; exact h.r2 m0 (List.mem_of_getElem? c1)
structure S51 (K : PySem.W.Frag) (H : Hp) (wd lt lr d : Addr) (ks : List KdT) (xs : List Int) (us0 : List V) (ts0 : List (Option Tm)) (t1 lm1 : Addr) (s1 : V) (st1 : Tm) (ms1 : List MdT) (us : List V) (ts : List (Option Tm)) (t2 lm2 : Addr) (s2 : V) (st2 : Tm) (ms2 : List MdT) : Prop where
  fT1 : TurnD K H t1 wd lm1 s1 ks st1 ms1
  fo : OneT ks st1 ms1
  flt : H lt = some (.lst us)
  fus : OAll K H us ts
  fok : TsOk ts
  fl : ts.length = ms1.length
  fT2 : TurnD K H t2 wd lm2 s2 ks st2 ms2
  ft2 : T2 ks st2 ms2
  flr : H lr = some (.lst us0)
  fu0 : OAll K H us0 ts0
  fl0 : ts0.length = ms1.length
  fd : H d = some (.lst (xs.map V.int))
section
variable {K : PySem.W.Frag} {H H' : Hp} {wd lt lr d : Addr} {ks : List KdT} {xs : List Int} {us0 : List V} {ts0 : List (Option Tm)} {t1 lm1 : Addr} {s1 : V} {st1 : Tm} {ms1 : List MdT} {us : List V} {ts : List (Option Tm)} {t2 lm2 : Addr} {s2 : V} {st2 : Tm} {ms2 : List MdT}
theorem S51.same (g : Same H H') (h : S51 K H wd lt lr d ks xs us0 ts0 t1 lm1 s1 st1 ms1 us ts t2 lm2 s2 st2 ms2) : S51 K H' wd lt lr d ks xs us0 ts0 t1 lm1 s1 st1 ms1 us ts t2 lm2 s2 st2 ms2 :=
  ⟨h.fT1.same g, h.fo, g _ _ h.flt, h.fus.mono fun _ _ => g.seqT, h.fok, h.fl, h.fT2.same g, h.ft2, g _ _ h.flr, h.fu0.mono fun _ _ => g.seqT, h.fl0, g _ _ h.fd⟩
theorem S51.set {HH : Hp} {mo : Nat} {v : V} {o : Option Tm} (h : S51 K H wd lt lr d ks xs us0 ts0 t1 lm1 s1 st1 ms1 us ts t2 lm2 s2 st2 ms2) (h0 : HH lt = none) (g : ∀ b u, b ≠ lt → HH b = some u → H b = some u) (q1 : TurnD K HH t1 wd lm1 s1 ks st1 ms1) (q2 : TurnD K HH t2 wd lm2 s2 ks st2 ms2) (nlr : lr ≠ lt) (nd : d ≠ lt) (hv : TmO K H v o) (ho : ∀ t, o = some t → GoodT t) :
    S51 K (upd H lt (.lst (us.set mo v))) wd lt lr d ks xs us0 ts0 t1 lm1 s1 st1 ms1 (us.set mo v) (ts.set mo o) t2 lm2 s2 st2 ms2 := by
  have kT : ∀ a xs, SqT K H a xs → SqT K (upd H lt (.lst (us.set mo v))) a xs := fun _ _ k => k.put h.flt
  have g' : ∀ b u, b ≠ lt → HH b = some u → (upd H lt (.lst (us.set mo v))) b = some u := fun b u hb e => by rw [upd_ne hb]; exact g b u hb e
  refine ⟨TurnD.off h0 g' q1, h.fo, upd_same, OAll.set (TmO.mono kT hv) mo (h.fus.mono kT), ⟨by rw [List.length_set]; exact h.fok.few, fun t ht => ?_⟩, by rw [List.length_set]; exact h.fl, TurnD.off h0 g' q2, h.ft2, by rw [upd_ne nlr]; exact h.flr, h.fu0.mono kT, h.fl0, by rw [upd_ne nd]; exact h.fd⟩
  rcases List.mem_or_eq_of_mem_set ht with z | z
  · exact h.fok.tm t z
  · exact ho t z.symm
end
end K51
namespace K51
open PySem L2 TM TT ST K9 K11
mutual
theorem kp_leaf {f : Int → Int → Tm} (h : ∀ m b, kp (f m b) = false) : ∀ {t : Tm}, kp t = false → kp (TT.sub f t) = false
  | .node (.call m b) mk bs, _ => by simp only [TT.sub, hdF]; exact h m b
  | .node (.put n k a) mk bs, q => by
    simp only [kp, kpl, Bool.or_eq_false_iff] at q
    simp only [TT.sub, hdF, kp, kpl, Bool.or_eq_false_iff]
    exact ⟨q.1, kps_leaf h q.2⟩
theorem kps_leaf {f : Int → Int → Tm} (h : ∀ m b, kp (f m b) = false) : ∀ {bs : List Tm}, kps bs = false → kps (TT.subs f bs) = false
  | [], _ => by simp only [TT.subs, kps]
  | b :: r, q => by
    simp only [kps, Bool.or_eq_false_iff] at q
    simp only [TT.subs, kps, Bool.or_eq_false_iff]
    exact ⟨kp_leaf h q.1, kps_leaf h q.2⟩
end
theorem good_more {add : Int} {t : Tm} (h : GoodT t) : GoodT (moreT add t) := by
  obtain ⟨a, b, c⟩ := more_ok (add := add) h.1
  exact ⟨a, c h.2.1, by have := h.2.2; omega⟩
theorem good_on {br : Int} {t : Tm} (h : GoodT t) : GoodT (TT.sub (fun m _ => leaf m br) t) := by
  have e := sub_lv' (L := 1) (Nat.le_refl 1) (f := fun m _ => leaf m br) (fun _ _ _ => by simp [leaf, lv, lvs]) h.1
  exact ⟨h.1.sub fun m b k => by simp only [leaf, TPr]; exact ⟨k, trivial⟩, kp_leaf (fun m b => by simp [leaf, kp, kpl, kps]) h.2.1, by have := h.2.2; omega⟩
theorem one_rel {ks : List KdT} {st1 : Tm} {ms1 ms1' : List MdT} {t : Tm} (o : OneT ks st1 ms1) (hl : ms1'.length = ms1.length) (ht : TPr (Pn ms1.length) t ∧ lv t ≤ 6) (hrel : ∀ (i : Nat) (m1 : MdT), ms1'[i]? = some m1 → ∃ m : MdT, ms1[i]? = some m ∧ m1.2.1 = m.2.1 ∧ m1.2.2.2.2.length = m.2.2.2.2.length ∧ ∀ u ∈ m1.2.2.2.2, u = t ∨ u ∈ m.2.2.2.2) : OneT ks st1 ms1' := by
  refine ⟨by rw [hl]; exact o.few, by rw [hl]; exact o.pos, by rw [hl]; exact o.s1, fun m1 hm => ?_⟩
  obtain ⟨i, hi⟩ := List.mem_iff_getElem?.mp hm
  obtain ⟨m, e1, e2, e3, e4⟩ := hrel i m1 hi
  obtain ⟨kd, a, b, c, d⟩ := o.r1 m (List.mem_of_getElem? e1)
  refine ⟨kd, a, by rw [e2]; exact b, by rw [e3]; exact c, fun u hu => ?_⟩
  rw [hl]
  rcases e4 u hu with z | z
  · rw [z]; exact ht
  · exact d u z
theorem t2_rel {ks : List KdT} {st2 : Tm} {ms1 ms1' : List MdT} {t : Tm} (o : T2 ks st2 ms1) (hl : ms1'.length = ms1.length) (ht : TPr (fun _ _ => True) t ∧ lv t ≤ 4) (hrel : ∀ (i : Nat) (m1 : MdT), ms1'[i]? = some m1 → ∃ m : MdT, ms1[i]? = some m ∧ m1.2.1 = m.2.1 ∧ m1.2.2.2.2.length = m.2.2.2.2.length ∧ ∀ u ∈ m1.2.2.2.2, u = t ∨ u ∈ m.2.2.2.2) : T2 ks st2 ms1' := by
  refine ⟨by rw [hl]; exact o.pos, by rw [hl]; exact o.three, o.s, fun m1 hm => ?_⟩
  obtain ⟨i, hi⟩ := List.mem_iff_getElem?.mp hm
  obtain ⟨m, e1, e2, e3, e4⟩ := hrel i m1 hi
  obtain ⟨kd, a, b, c, d⟩ := o.md m (List.mem_of_getElem? e1)
  refine ⟨kd, a, by rw [e2]; exact b, by rw [e3]; exact c, fun u hu => ?_⟩
  rcases e4 u hu with z | z
  · rw [z]; exact ht
  · exact d u z
theorem lay_ts {d : Nat} : ∀ {ts : List (Option Tm)}, (∀ t, some t ∈ ts → MOk d t) → PyData.canLayAll0 (ts.map otd) = true ∧ PyData.depthAll (ts.map otd) ≤ max d 1
  | [], _ => by simp [PyData.canLayAll0, PyData.depthAll]
  | o :: r, h => by
    obtain ⟨a, b⟩ := lay_ts (ts := r) fun t ht => h t (List.mem_cons_of_mem _ ht)
    cases o with
    | none =>
      simp only [List.map_cons, otd, PyData.canLayAll0, PyData.depthAll, PyData.canLay0, PyData.depth, a, Bool.and_self, true_and]
      omega
    | some t =>
      obtain ⟨c, e⟩ := h t List.mem_cons_self
      simp only [List.map_cons, otd, PyData.canLayAll0, PyData.depthAll, a, c, Bool.and_self, true_and]
      omega
inductive St51 (K : PySem.W.Frag) (a wd d lt lr : Addr) (ks : List KdT) (xs : List Int) (us0 : List V) (ts0 : List (Option Tm)) (add way : Int) (done : List Int) : L2.St → Hp → Prop where
  | mk (t1 lm1 : Addr) (s1 : V) (st1 : Tm) (ms1 : List MdT) (us : List V) (ts : List (Option Tm)) (t2 lm2 : Addr) (s2 : V) (st2 : Tm) (ms2 : List MdT) (mo : Nat) (c10 : Option V) {H' : Hp} (hs : S51 K H' wd lt lr d ks xs us0 ts0 t1 lm1 s1 st1 ms1 us ts t2 lm2 s2 st2 ms2)
    (safe : way ∉ done → (∀ o ∈ ts, ∃ t, o = some t) ∧ mo < ts.length ∧ ∃ HH : Hp, HH lt = none ∧ (∀ b u, b ≠ lt → HH b = some u → H' b = some u) ∧ TurnD K HH t1 wd lm1 s1 ks st1 ms1 ∧ TurnD K HH t2 wd lm2 s2 ks st2 ms2) :
    St51 K a wd d lt lr ks xs us0 ts0 add way done [some (.ref a), some (.ref wd), some (.ref t2), some (.ref d), some (.ref t1), some (.ref lt), some (.ref lr), some (.int add), some (.int (mo : Int)), some (.int way), c10, none, none, none] H'
theorem St51.all {K : PySem.W.Frag} {a wd d lt lr : Addr} {ks : List KdT} {xs : List Int} {us0 : List V} {ts0 : List (Option Tm)} {add way : Int} {done : List Int} {G : L2.St → Hp → Prop}
    (k : ∀ (H' : Hp) (t1 lm1 : Addr) (s1 : V) (st1 : Tm) (ms1 : List MdT) (us : List V) (ts : List (Option Tm)) (t2 lm2 : Addr) (s2 : V) (st2 : Tm) (ms2 : List MdT) (mo : Nat) (c10 : Option V), S51 K H' wd lt lr d ks xs us0 ts0 t1 lm1 s1 st1 ms1 us ts t2 lm2 s2 st2 ms2 →
      (way ∉ done → (∀ o ∈ ts, ∃ t, o = some t) ∧ mo < ts.length ∧ ∃ HH : Hp, HH lt = none ∧ (∀ b u, b ≠ lt → HH b = some u → H' b = some u) ∧ TurnD K HH t1 wd lm1 s1 ks st1 ms1 ∧ TurnD K HH t2 wd lm2 s2 ks st2 ms2) →
      G [some (.ref a), some (.ref wd), some (.ref t2), some (.ref d), some (.ref t1), some (.ref lt), some (.ref lr), some (.int add), some (.int (mo : Int)), some (.int way), c10, none, none, none] H') : ∀ σ H', St51 K a wd d lt lr ks xs us0 ts0 add way done σ H' → G σ H' := by
  intro σ H' h
  cases h with
  | mk t1 lm1 s1 st1 ms1 us ts t2 lm2 s2 st2 ms2 mo c10 hs safe => exact k _ _ _ _ _ _ _ _ _ _ _ _ _ _ _ hs safe
theorem St51.skip {K : PySem.W.Frag} {a wd d lt lr : Addr} {ks : List KdT} {xs : List Int} {us0 : List V} {ts0 : List (Option Tm)} {add way i : Int} {done : List Int} {σ : L2.St} {H' : Hp} (h : St51 K a wd d lt lr ks xs us0 ts0 add way done σ H') : St51 K a wd d lt lr ks xs us0 ts0 add way (i :: done) σ H' := by
  cases h with
  | mk t1 lm1 s1 st1 ms1 us ts t2 lm2 s2 st2 ms2 mo c10 hs safe => exact ⟨_, _, _, _, _, _, _, _, _, _, _, _, _, _, hs, fun hn => safe fun z => hn (List.mem_cons_of_mem _ z)⟩
section
variable {P : Program} {w : World} {K : PySem.W.Frag} {mg : Str → Option Value} {base : Heap} {f : Addr} {fd : FuncData}
theorem scLaw : FnScope ["_law_script", "_law_wood_here", "_law_other", "_law_xs", "_law_one", "_law_terms", "_law_right", "_law_add", "_law_mode", "_law_way", "_law_row", "_law_handed", "_law_due", "_law_found"] ["_law_script"] (defScope sLaw) := ⟨rfl, rfl, rfl, by decide +kernel, rfl, by decide +kernel, by decide +kernel⟩
theorem ok_law (F : Fun K "law" "law" sLaw f fd) (G : Gm mg) (RC : Fn P w K mg base 1 "_law_cell_at" ["_law_script", "_law_k"] (spCell K)) (RS : Fn P w K mg base 1 "_law_stream" ["_law_cell", "_law_count"] spStream) (RW : Fn P w K mg base 2 "_law_wood" ["_law_script"] (spWood K)) (RTu : Fn P w K mg base 5 "_law_turning" ["_law_script", "_law_wood_here"] (spTurn K)) (RWP : Fn P w K mg base 11 "_law_with_paper" ["_law_turning_here", "_law_x"] (spWP2 K))
    (RM : Fn P w K mg base 1 "_law_more" ["_law_term_here", "_law_add"] (spMore K)) (RO : Fn P w K mg base 1 "_law_other_rule" ["_law_turning_here", "_law_mode", "_law_row", "_law_rule"] (spOthR K)) (RN : Fn P w K mg base 6 "_law_on" ["_law_term_here", "_law_branch"] (spLOn K 5)) (RA : Fn P w K mg base 1 "_law_again" ["_law_turning_here"] (spAgain K)) (RL : Fn P w K mg base 13 "_law_is_paper" ["_law_one", "_law_terms", "_law_other"] (spIsP K)) (RI : Fn P w K mg base 13 "is_paper" ["one", "terms", "other"] (spIsP K)) : FnOk P w K mg base CX0 14 f fd ["_law_script"] (spLaw K) := by
  refine F.ok scLaw (fun vs H Q E h => ?_) (fun cdv A outer s H vs Q E hr h => ?_)
  · obtain ⟨a, ns, rfl, _⟩ := h
    rfl
  obtain ⟨a, ns, rfl, hS, h63, q⟩ := h
  refine ⟨_, (pss_cons (ps_cut (ps_set (i := 1) scLaw.nd rfl (Or.inl rfl) (pe_fn RW hr (pa_cons (pv 0) pa_nil))))
    (pss_cons (ps_cut (ps_set (i := 2) scLaw.nd rfl (Or.inl rfl) (pe_fn RTu hr (pa_cons (pv 0) (pa_cons (pv 1) pa_nil)))))
    (pss_cons (ps_cut (ps_set (i := 3) scLaw.nd rfl (Or.inl rfl) (pe_fn RS hr (pa_cons (pe_fn RC hr (pa_cons (pv 0) (pa_cons (pe_int) pa_nil))) (pa_cons (pe_int) pa_nil)))))
    (pss_cons (ps_cut (ps_asg (pe_fn RWP hr (pa_cons (pv 2) (pa_cons (pe_op op_add (pe_ix ix_list (pv 3) pe_int (fun _ _ => rfl)) (pe_op op_mod (pe_fn RC hr (pa_cons (pv 0) (pa_cons (pe_int) pa_nil))) pe_int)) pa_nil))) (pg_tup rfl (pgs_cons (pg_name (i := 4) scLaw.nd rfl (Or.inl rfl)) (pgs_cons (pg_name (i := 5) scLaw.nd rfl (Or.inl rfl)) pgs_nil)))))
    (pss_cons (ps_cut (ps_set (i := 6) scLaw.nd rfl (Or.inl rfl) (pe_callTy call_list_of rfl G.lst PyProof.Rows.boot_list (pa_cons (pv 5) pa_nil))))
    (pss_cons (ps_cut (ps_set (i := 7) scLaw.nd rfl (Or.inl rfl) (pe_op op_add pe_int (pe_op op_mod (pe_fn RC hr (pa_cons (pv 0) (pa_cons (pe_int) pa_nil))) (pe_op op_pow pe_int pe_int)))))
    (pss_cons (ps_cut (ps_set (i := 8) scLaw.nd rfl (Or.inl rfl) (pe_op op_mod (pe_ix ix_list (pv 3) pe_int (fun _ _ => rfl)) (pe_callB call_len_seq rfl G.len PySem.boot_len (pa_cons (pv 5) pa_nil)))))
    (pss_cons (ps_cut (ps_set (i := 9) scLaw.nd rfl (Or.inl rfl) (pe_op op_mod (pe_fn RC hr (pa_cons (pv 0) (pa_cons (pe_int) pa_nil))) pe_int)))
    (pss_cons (ps_cut (ps_if (pt_cmpR op_eq (pv 9) pe_int (nomark _)) (pss_one (ps_asg (pe_tup (pa_cons (pe_str) (pa_cons (pe_op op_mod (pe_ix ix_list (pv 3) pe_int (fun _ _ => rfl)) (pe_op op_add (pe_callB call_len_seq rfl G.len PySem.boot_len (pa_cons (pe_ix ix_tup (pv 2) pe_int (fun _ _ => rfl)) pa_nil)) pe_int)) (pa_cons (pe_op op_fdiv (pe_op op_mod (pe_op op_fdiv (pe_ix ix_list (pv 3) pe_int (fun _ _ => rfl)) pe_int) pe_int) pe_int) pa_nil)))) (pg_sub (pv 5) (pv 8) set_list))) pss_nil))
    (pss_cons (ps_cut (ps_if (pt_cmpR op_eq (pv 9) pe_int (nomark _)) (pss_one (ps_asg pe_non (pg_sub (pv 5) (pv 8) set_list))) pss_nil))
    (pss_cons (ps_cut (ps_if (pt_cmpR op_eq (pv 9) pe_int (nomark _)) (pss_one (ps_asg (pe_fn RM hr (pa_cons (pe_ix ix_list (pv 5) (pv 8) (fun _ _ => rfl)) (pa_cons (pv 7) pa_nil))) (pg_sub (pv 5) (pv 8) set_list))) pss_nil))
    (pss_cons (ps_cut (ps_if (pt_cmpR op_eq (pv 9) pe_int (nomark _)) (pss_cons (ps_cut (ps_set (i := 10) scLaw.nd rfl (Or.inl rfl) (pe_op op_mod (pe_ix ix_list (pv 3) pe_int (fun _ _ => rfl)) (pe_callB call_len_seq rfl G.len PySem.boot_len (pa_cons (pe_ix ix_tup (pe_ix ix_list (pe_ix ix_tup (pv 4) pe_int (fun _ _ => rfl)) (pv 8) (fun _ _ => rfl)) pe_int (fun _ _ => rfl)) pa_nil)))))
    (pss_one (ps_set (i := 4) scLaw.nd rfl (Or.inl rfl) (pe_fn RO hr (pa_cons (pv 4) (pa_cons (pv 8) (pa_cons (pv 10) (pa_cons (pe_fn RM hr (pa_cons (pe_ix ix_list (pe_ix ix_tup (pe_ix ix_list (pe_ix ix_tup (pv 4) pe_int (fun _ _ => rfl)) (pv 8) (fun _ _ => rfl)) pe_int (fun _ _ => rfl)) (pv 10) (fun _ _ => rfl)) (pa_cons (pv 7) pa_nil))) pa_nil)))))))) pss_nil))
    (pss_cons (ps_cut (ps_if (pt_cmpR op_eq (pv 9) pe_int (nomark _)) (pss_cons (ps_cut (ps_set (i := 8) scLaw.nd rfl (Or.inl rfl) (pe_op op_mod (pe_ix ix_list (pv 3) pe_int (fun _ _ => rfl)) (pe_callB call_len_seq rfl G.len PySem.boot_len (pa_cons (pe_ix ix_tup (pv 2) pe_int (fun _ _ => rfl)) pa_nil)))))
    (pss_cons (ps_cut (ps_set (i := 10) scLaw.nd rfl (Or.inl rfl) (pe_op op_mod (pe_ix ix_list (pv 3) pe_int (fun _ _ => rfl)) (pe_callB call_len_seq rfl G.len PySem.boot_len (pa_cons (pe_ix ix_tup (pe_ix ix_list (pe_ix ix_tup (pv 2) pe_int (fun _ _ => rfl)) (pv 8) (fun _ _ => rfl)) pe_int (fun _ _ => rfl)) pa_nil)))))
    (pss_one (ps_set (i := 2) scLaw.nd rfl (Or.inl rfl) (pe_fn RO hr (pa_cons (pv 2) (pa_cons (pv 8) (pa_cons (pv 10) (pa_cons (pe_fn RM hr (pa_cons (pe_ix ix_list (pe_ix ix_tup (pe_ix ix_list (pe_ix ix_tup (pv 2) pe_int (fun _ _ => rfl)) (pv 8) (fun _ _ => rfl)) pe_int (fun _ _ => rfl)) (pv 10) (fun _ _ => rfl)) (pa_cons (pv 7) pa_nil))) pa_nil))))))))) pss_nil))
    (pss_cons (ps_cut (ps_if (pt_cmpR op_eq (pv 9) pe_int (nomark _)) (pss_one (ps_set (i := 2) scLaw.nd rfl (Or.inl rfl) (pe_tup (pa_cons (pv 1) (pa_cons (pe_fn RM hr (pa_cons (pe_ix ix_tup (pv 2) pe_int (fun _ _ => rfl)) (pa_cons (pv 7) pa_nil))) (pa_cons (pe_ix ix_tup (pv 2) pe_int (fun _ _ => rfl)) pa_nil)))))) pss_nil))
    (pss_cons (ps_cut (ps_if (pt_cmpR op_eq (pv 9) pe_int (nomark _)) (pss_one (ps_asg (pe_fn RN hr (pa_cons (pe_ix ix_list (pv 5) (pv 8) (fun _ _ => rfl)) (pa_cons (pe_op op_add pe_int (pe_op op_mod (pe_op op_fdiv (pe_ix ix_list (pv 3) pe_int (fun _ _ => rfl)) pe_int) pe_int)) pa_nil))) (pg_sub (pv 5) (pv 8) set_list))) pss_nil))
    (pss_cons (ps_cut (ps_set (i := 11) scLaw.nd rfl (Or.inl rfl) (pe_lst (pa_cons (pe_fn RA hr (pa_cons (pv 4) pa_nil)) (pa_cons (pe_callTy call_list_of rfl G.lst PyProof.Rows.boot_list (pa_cons (pv 5) pa_nil)) (pa_cons (pe_fn RA hr (pa_cons (pv 2) pa_nil)) pa_nil))))))
    (pss_cons (ps_cut (ps_set (i := 12) scLaw.nd rfl (Or.inl rfl) (pe_fn RL hr (pa_cons (pv 4) (pa_cons (pv 5) (pa_cons (pv 2) pa_nil))))))
    (pss_cons (ps_cut (ps_set (i := 13) scLaw.nd rfl (Or.inl rfl) (pe_fn RI hr (pa_cons (pe_ix ix_list (pv 11) pe_int (fun _ _ => rfl)) (pa_cons (pe_ix ix_list (pv 11) pe_int (fun _ _ => rfl)) (pa_cons (pe_ix ix_list (pv 11) pe_int (fun _ _ => rfl)) pa_nil))))))
    (pss_cons (ps_cut (ps_if (PW.pt (pw_or (pt_not (pt_val (pe_callB call_isinst rfl G.isi PyProof.Rows.boot_isinstance (pa_cons (pv 13) (pa_cons (pe_bltn (v := .ty "bool") rfl G.boo PyProof.Rows.boot_bool rfl) pa_nil))))) (pw_or (pt_cmpR op_ne (pv 13) (pv 12) (nomark _)) (pw_or1 (pt_cmpR op_neD (pv 11) (pe_lst (pa_cons (pv 4) (pa_cons (pv 5) (pa_cons (pv 2) pa_nil)))) (nomark _)))))) (pss_one (ps_ret pe_bl)) pss_nil))
    (pss_cons (ps_cut (ps_expr (pe_fn RI hr (pa_cons (pv 4) (pa_cons (pv 6) (pa_cons (pv 2) pa_nil))))))
    (pss_one (ps_ret (pe_cmpR op_eq (pe_fn RI hr (pa_cons (pe_ix ix_list (pv 11) pe_int (fun _ _ => rfl)) (pa_cons (pe_ix ix_list (pv 11) pe_int (fun _ _ => rfl)) (pa_cons (pe_ix ix_list (pv 11) pe_int (fun _ _ => rfl)) pa_nil)))) (pv 12) (nomark _)))))))))))))))))))))))), ?_⟩
  refine cutK fun KK hKK => ?_
  refine ⟨_, rfl, a, ns, rfl, hS, fun wd ks H1 g1 hw hW => ?_⟩
  refine hKK _ _ ?_
  clear hKK KK
  refine cutK fun KK hKK => ?_
  refine ⟨_, rfl, _, rfl, a, ns, wd, ks, rfl, g1.seq hS, hw, hW, fun t2 lm2 s2 st2 ms2 H2 g2 hT2 hD => ?_⟩
  refine hKK _ _ ?_
  clear hKK KK
  refine cutK fun KK hKK => ?_
  have hS2 := (g1.trans g2).seq hS
  refine ⟨_, rfl, a, ns, 14, rfl, hS2, _, 6, rfl, by decide, fun d xs H3 g3 _ hd hxl hx0 => ?_⟩
  refine hKK _ _ ?_
  clear hKK KK
  refine cutK fun KK hKK => ?_
  have hT23 := hT2.same g3
  have xat : ∀ i : Nat, i < 6 → ∃ z : Int, atI (xs.map V.int) (i : Int) = some (.int z) := fun i hi => ⟨xs[i], atI_nat (by rw [List.getElem?_map, List.getElem?_eq_getElem (by omega)]; rfl)⟩
  obtain ⟨x0, hx0'⟩ := xat 0 (by decide)
  obtain ⟨x1, hx1'⟩ := xat 1 (by decide)
  obtain ⟨x2, hx2'⟩ := xat 2 (by decide)
  obtain ⟨x3, hx3'⟩ := xat 3 (by decide)
  refine ⟨_, rfl, _, rfl, d, _, 0, _, rfl, rfl, SqL.of hd, hx0', _, rfl, a, ns, 14, rfl, g3.seq hS2, _, _, rfl, rfl, (by show (0 : Int) < 4; decide), _, _, rfl, rfl, t2, wd, lm2, s2, ks, st2, ms2, _, rfl, hT23, hW, hD, fun p t1 lm1 lt s1 st1 ms1 us ts H4 H5 g4 g5 hp hT1 hlt0 hlt hus hO => ⟨p, _, rfl, hp, rfl, _, _, rfl, _, _, rfl, rfl, ?_⟩⟩
  refine hKK _ _ ?_
  clear hKK KK
  refine cutK fun KK hKK => ?_
  have hS5 := (g3.trans (g4.trans g5)).seq hS2
  refine ⟨_, rfl, lt, us, rfl, .inl (SqL.of hlt), fun lr hlr => ?_⟩
  refine hKK _ _ ?_
  clear hKK KK
  refine cutK fun KK hKK => ?_
  have g6 := same_new hlr (.lst us)
  have g46 := g5.trans g6
  have hlr6 : (upd H5 lr (.lst us)) lr = some (.lst us) := upd_same
  have hlrlt : lr ≠ lt := fun z => by rw [z, hlt] at hlr; cases hlr
  have hdlt : d ≠ lt := fun z => by rw [← z, g4 _ _ hd] at hlt0; cases hlt0
  have hlt6 := g6 _ _ hlt
  have hd6 := (g4.trans g46) _ _ hd
  have hus6 := hus.mono fun a xs => g6.seqT (a := a) (xs := xs)
  have hS6 := g6.seq hS5
  have hT16 := hT1.same g46
  have hT26 := hT23.same (g4.trans g46)
  generalize upd H5 lr (.lst us) = H6 at g6 g46 hlr6 hlt6 hd6 hus6 hS6 hT16 hT26 ⊢
  have hul := hus.length
  have hol := hO.l
  have h1p := hO.one.pos
  refine ⟨_, rfl, a, ns, 15, rfl, hS6, _, _, rfl, rfl, ⟨by decide, by decide, by decide⟩, _, _, rfl, rfl, (by show (0 : Int) < 10 ^ 58; decide), _, _, rfl, rfl, ?_⟩
  show gName 7 (V.int ((1 : Int) + ((ns[15]?).getD 0 : Int) % (10 : Int) ^ 58)) _ _ _
  generalize (1 : Int) + ((ns[15]?).getD 0 : Int) % (10 : Int) ^ 58 = add
  refine hKK _ _ ?_
  clear hKK KK
  refine cutK fun KK hKK => ?_
  have hup : (0 : Int) < (us.length : Int) := by omega
  refine ⟨_, rfl, d, _, 1, _, rfl, rfl, SqL.of hd6, hx1', _, rfl, lt, _, rfl, .inl (SqL.of hlt6), _, _, rfl, rfl, hup, ?_⟩
  show gName 8 (V.int (x1 % (us.length : Int))) _ _ _
  have z0 : 0 ≤ x1 % (us.length : Int) := Int.emod_nonneg _ (by omega)
  have z1 : x1 % (us.length : Int) < (us.length : Int) := Int.emod_lt_of_pos _ hup
  obtain ⟨mo, hmo, mo1⟩ : ∃ mo : Nat, x1 % (us.length : Int) = (mo : Int) ∧ mo < us.length := ⟨(x1 % (us.length : Int)).toNat, by omega, by omega⟩
  rw [hmo]
  refine hKK _ _ ?_
  clear hKK KK
  refine cutK fun KK hKK => ?_
  refine ⟨_, rfl, a, ns, 16, rfl, hS6, _, _, rfl, rfl, (by show (0 : Int) < 8; decide), ?_⟩
  show gName 9 (V.int (((ns[16]?).getD 0 : Int) % (8 : Int))) _ _ _
  generalize ((ns[16]?).getD 0 : Int) % (8 : Int) = way
  refine hKK _ _ ?_
  clear hKK KK
  have hok0 := hO.t
  have hs0 : S51 K H6 wd lt lr d ks xs us ts t1 lm1 s1 st1 ms1 us ts t2 lm2 s2 st2 ms2 := ⟨hT16, hO.one, hlt6, hus6, hO.t, hO.l, hT26, hD.t2 hW, hlr6, hus6, hO.l, hd6⟩
  have safe0 : (∀ o ∈ ts, ∃ t, o = some t) ∧ mo < ts.length ∧ ∃ HH : Hp, HH lt = none ∧ (∀ b u, b ≠ lt → HH b = some u → H6 b = some u) ∧ TurnD K HH t1 wd lm1 s1 ks st1 ms1 ∧ TurnD K HH t2 wd lm2 s2 ks st2 ms2 := ⟨hO.some, by omega, H4, hlt0, fun b u _ e => g46 _ _ e, hT1, hT23.same g4⟩
  have wayE : ∀ {i : Int}, decide (V.int way = V.int i) = true → way = i := fun h => V.int.inj (of_decide_eq_true h)
  have OP : ∀ {H' : Hp} {t1 lm1 : Addr} {s1 : V} {st1 : Tm} {ms1 : List MdT} {us' : List V} {ts' : List (Option Tm)} {t2 lm2 : Addr} {s2 : V} {st2 : Tm} {ms2 : List MdT} {mo : Nat}, S51 K H' wd lt lr d ks xs us ts t1 lm1 s1 st1 ms1 us' ts' t2 lm2 s2 st2 ms2 → (∀ o ∈ ts', ∃ t, o = some t) → mo < ts'.length → ∃ cv t, atI us' (mo : Int) = some cv ∧ TmV K H' cv t ∧ GoodT t := fun {H' t1 lm1 s1 st1 ms1 us' ts' t2 lm2 s2 st2 ms2 mo} hs hall hmo => by
    obtain ⟨t, et⟩ := hall _ (List.getElem_mem hmo)
    obtain ⟨cv, e1, e2⟩ := hs.fus.get (List.getElem?_eq_getElem hmo)
    rw [et] at e2
    exact ⟨cv, t, atI_nat e1, e2, hs.fok.tm t (by rw [← et]; exact List.getElem_mem hmo)⟩
  refine cutS (St51 K a wd d lt lr ks xs us ts add way [1]) ?_ ?_
  · refine ⟨_, rfl, rfl, _, rfl, ite2 (fun hc => ?_) (fun hc => ?_)⟩
    · have hw' := wayE hc
      obtain ⟨hall, hmo', HH, hh0, hhk, hh1, hh2⟩ := safe0
      have elm : (ms2.map fun m => V.ref m.1).length = ms2.length := List.length_map ..
      refine ⟨_, rfl, d, _, 2, _, rfl, rfl, SqL.of hs0.fd, hx2', _, rfl, t2, _, 2, _, rfl, rfl, hs0.fT2.tu, rfl, lm2, _, rfl, .inl hs0.fT2.m.1, _, _, rfl, rfl, _, _, rfl, rfl, (by show (0 : Int) < ((ms2.map fun m => V.ref m.1).length : Int) + 3; omega), _, rfl, d, _, 3, _, rfl, rfl, SqL.of hs0.fd, hx3', _, _, rfl, rfl, ⟨by decide, by decide⟩, _, _, rfl, rfl, (by show (0 : Int) < 4; decide), _, _, rfl, rfl, ⟨by decide, by decide⟩, (by show 3 ≤ sizeLine; decide), fun pp hpp => ?_⟩
      have e1 := same_new hpp (.tup [.str CALL, .int (x2 % (((ms2.map fun m => V.ref m.1).length : Int) + 3)), .int (x3 / 16 % 4 / 3)])
      have hs2 := hs0.same e1
      have hml := hs0.fus.length
      refine ⟨_, rfl, _, rfl, lt, us, _, mo, rfl, rfl, hs2.flt, ixN_nat (by omega), ?_⟩
      refine ⟨t1, lm1, s1, st1, ms1, _, _, t2, lm2, s2, st2, ms2, mo, none, hs2.set (o := some (leaf (x2 % (((ms2.map fun m => V.ref m.1).length : Int) + 3)) (x3 / 16 % 4 / 3))) hh0 (fun b u hb e => e1 _ _ (hhk b u hb e)) hh1 hh2 hlrlt hdlt (.call (SqT.of upd_same)) fun t ht => ?_, fun hn => absurd (by rw [hw']; simp) hn⟩
      rw [← Option.some.inj ht]
      exact ⟨by simp only [leaf, TPr]; exact ⟨Int.emod_nonneg _ (by omega), trivial⟩, by simp [leaf, kp, kpl, kps], by simp [leaf, lv, lvs]⟩
    · exact St51.skip ⟨t1, lm1, s1, st1, ms1, us, ts, t2, lm2, s2, st2, ms2, mo, none, hs0, fun _ => safe0⟩
  clear hs0 safe0 hT16 hlt6 hus6 hT26 hlr6 hd6 hT1 hT23 hT2 hlt hus hp hd hx0 hD
  refine St51.all fun H7 t1 lm1 s1 st1 ms1 us' ts' t2 lm2 s2 st2 ms2 mo c10 hs safe => ?_
  refine cutS (St51 K a wd d lt lr ks xs us ts add way [2, 1]) ?_ ?_
  · refine ⟨_, rfl, rfl, _, rfl, ite2 (fun hc => ?_) (fun hc => ?_)⟩
    · have hw' := wayE hc
      obtain ⟨hall, hmo', HH, hh0, hhk, hh1, hh2⟩ := safe (by rw [hw']; decide)
      have hml := hs.fus.length
      refine ⟨_, rfl, _, rfl, lt, us', _, mo, rfl, rfl, hs.flt, ixN_nat (by omega), ?_⟩
      exact ⟨t1, lm1, s1, st1, ms1, _, _, t2, lm2, s2, st2, ms2, mo, c10, hs.set (o := none) hh0 hhk hh1 hh2 hlrlt hdlt rfl (fun t ht => nomatch ht), fun hn => absurd (by rw [hw']; simp) hn⟩
    · exact St51.skip ⟨t1, lm1, s1, st1, ms1, us', ts', t2, lm2, s2, st2, ms2, mo, c10, hs, safe⟩
  clear hs safe
  refine St51.all fun H8 t1 lm1 s1 st1 ms1 us' ts' t2 lm2 s2 st2 ms2 mo c10 hs safe => ?_
  refine cutS (St51 K a wd d lt lr ks xs us ts add way [3, 2, 1]) ?_ ?_
  · refine ⟨_, rfl, rfl, _, rfl, ite2 (fun hc => ?_) (fun hc => ?_)⟩
    · have hw' := wayE hc
      obtain ⟨hall, hmo', HH, hh0, hhk, hh1, hh2⟩ := safe (by rw [hw']; decide)
      have hml := hs.fus.length
      obtain ⟨cv, t, hat, hct, hgd⟩ := OP hs hall hmo'
      refine ⟨_, rfl, _, rfl, lt, us', _, cv, rfl, rfl, SqL.of hs.flt, hat, _, rfl, cv, t, add, rfl, hct, fun v' H9 g9 hv' => ?_⟩
      have hs2 := hs.same g9
      refine ⟨_, rfl, _, rfl, lt, us', _, mo, rfl, rfl, hs2.flt, ixN_nat (by omega), ?_⟩
      exact ⟨t1, lm1, s1, st1, ms1, _, _, t2, lm2, s2, st2, ms2, mo, c10, hs2.set (o := some (moreT add t)) hh0 (fun b u hb e => g9 _ _ (hhk b u hb e)) hh1 hh2 hlrlt hdlt hv' (fun u hu => by rw [← Option.some.inj hu]; exact good_more hgd), fun hn => absurd (by rw [hw']; simp) hn⟩
    · exact St51.skip ⟨t1, lm1, s1, st1, ms1, us', ts', t2, lm2, s2, st2, ms2, mo, c10, hs, safe⟩
  clear hs safe
  refine St51.all fun H9 t1 lm1 s1 st1 ms1 us' ts' t2 lm2 s2 st2 ms2 mo c10 hs safe => ?_
  refine cutS (St51 K a wd d lt lr ks xs us ts add way [4, 3, 2, 1]) ?_ ?_
  · refine ⟨_, rfl, rfl, _, rfl, ite2 (fun hc => ?_) (fun hc => ?_)⟩
    · have hw' := wayE hc
      obtain ⟨hall, hmo', _⟩ := safe (by rw [hw']; decide)
      have hmm : mo < ms1.length := by rw [← hs.fl]; exact hmo'
      have hme := List.getElem_mem hmm
      obtain ⟨kd, hkd, b1, b2, b3⟩ := hs.fo.r1 _ hme
      have hrp := (hW.rws kd hkd).1
      have f4 := hs.fo.few
      have hatm : atI (ms1.map fun m => V.ref m.1) (mo : Int) = some (.ref ms1[mo].1) := atI_nat (by rw [List.getElem?_map, List.getElem?_eq_getElem hmm]; rfl)
      obtain ⟨d1, d2, d3⟩ := hs.fT1.m.2 _ hme
      have hlen := d3.length
      have hpos : (0 : Int) < (ms1[mo].2.2.2.1.length : Int) := by omega
      refine cutK fun KK hKK => ?_
      refine ⟨_, rfl, d, _, 2, _, rfl, rfl, SqL.of hs.fd, hx2', _, rfl, t1, _, 2, _, rfl, rfl, hs.fT1.tu, rfl, _, rfl, lm1, _, _, _, rfl, rfl, hs.fT1.m.1, hatm, ms1[mo].1, _, 1, _, rfl, rfl, d1, rfl, ms1[mo].2.2.1, _, rfl, .inl d2, _, _, rfl, rfl, hpos, ?_⟩
      show gName 10 (V.int (x2 % (ms1[mo].2.2.2.1.length : Int))) _ _ _
      have y0 : 0 ≤ x2 % (ms1[mo].2.2.2.1.length : Int) := Int.emod_nonneg _ (by omega)
      have y1 : x2 % (ms1[mo].2.2.2.1.length : Int) < (ms1[mo].2.2.2.1.length : Int) := Int.emod_lt_of_pos _ hpos
      obtain ⟨j, hj, j1⟩ : ∃ j : Nat, x2 % (ms1[mo].2.2.2.1.length : Int) = (j : Int) ∧ j < ms1[mo].2.2.2.2.length := ⟨(x2 % (ms1[mo].2.2.2.1.length : Int)).toNat, by omega, by omega⟩
      rw [hj]
      refine hKK _ _ ?_
      clear hKK KK
      obtain ⟨rv, hrv, hrt⟩ := d3.get (List.getElem?_eq_getElem j1)
      obtain ⟨m1, m2, _⟩ := more_ok (add := add) (b3 _ (List.getElem_mem j1)).1
      refine ⟨_, rfl, _, rfl, _, rfl, _, rfl, t1, _, 2, _, rfl, rfl, hs.fT1.tu, rfl, _, rfl, lm1, _, _, _, rfl, rfl, hs.fT1.m.1, hatm, ms1[mo].1, _, 1, _, rfl, rfl, d1, rfl, _, rfl, ms1[mo].2.2.1, _, _, rv, rfl, rfl, d2, atI_nat hrv, _, rfl, rv, _, add, rfl, hrt, fun v' Ha ga hv' => ⟨t1, wd, lm1, s1, ks, st1, ms1, mo, j, v', _, rfl, hs.fT1.same ga, hv', by omega, hmm, fun m hm => (by rw [List.getElem?_eq_getElem hmm] at hm; rw [← Option.some.inj hm]; exact j1), fun tu1 lmN msN Hb gb hTb hlb hrel => ?_⟩⟩
      have hs2 := hs.same (ga.trans gb)
      exact ⟨tu1, lmN, s1, st1, msN, us', ts', t2, lm2, s2, st2, ms2, mo, _, ⟨hTb, one_rel hs.fo hlb ⟨m1, by have := (b3 _ (List.getElem_mem j1)).2; omega⟩ hrel, hs2.flt, hs2.fus, hs2.fok, by rw [hlb]; exact hs2.fl, hs2.fT2, hs2.ft2, hs2.flr, hs2.fu0, by rw [hlb]; exact hs2.fl0, hs2.fd⟩, fun hn => absurd (by rw [hw']; simp) hn⟩
    · exact St51.skip ⟨t1, lm1, s1, st1, ms1, us', ts', t2, lm2, s2, st2, ms2, mo, c10, hs, safe⟩
  clear hs safe
  refine St51.all fun Ha t1 lm1 s1 st1 ms1 us' ts' t2 lm2 s2 st2 ms2 mo c10 hs safe => ?_
  refine cutS (St51 K a wd d lt lr ks xs us ts add way [5, 4, 3, 2, 1]) ?_ ?_
  · refine ⟨_, rfl, rfl, _, rfl, ite2 (fun hc => ?_) (fun hc => ?_)⟩
    · have hw' := wayE hc
      have hp2 := hs.ft2.pos
      have f4 := hs.ft2.three
      have elm : (ms2.map fun m => V.ref m.1).length = ms2.length := List.length_map ..
      have hpos0 : (0 : Int) < ((ms2.map fun m => V.ref m.1).length : Int) := by rw [elm]; omega
      refine cutK fun KK hKK => ?_
      refine ⟨_, rfl, d, _, 1, _, rfl, rfl, SqL.of hs.fd, hx1', _, rfl, t2, _, 2, _, rfl, rfl, hs.fT2.tu, rfl, lm2, _, rfl, .inl hs.fT2.m.1, _, _, rfl, rfl, hpos0, ?_⟩
      show gName 8 (V.int (x1 % ((ms2.map fun m => V.ref m.1).length : Int))) _ _ _
      have y0 : 0 ≤ x1 % ((ms2.map fun m => V.ref m.1).length : Int) := Int.emod_nonneg _ (by omega)
      have y1 : x1 % ((ms2.map fun m => V.ref m.1).length : Int) < ((ms2.map fun m => V.ref m.1).length : Int) := Int.emod_lt_of_pos _ hpos0
      obtain ⟨mb, hmb, hmm⟩ : ∃ mb : Nat, x1 % ((ms2.map fun m => V.ref m.1).length : Int) = (mb : Int) ∧ mb < ms2.length := ⟨(x1 % ((ms2.map fun m => V.ref m.1).length : Int)).toNat, by omega, by omega⟩
      rw [hmb]
      refine hKK _ _ ?_
      clear hKK KK
      have hme := List.getElem_mem hmm
      obtain ⟨kd, hkd, b1, b2, b3⟩ := hs.ft2.md _ hme
      have hrp := (hW.rws kd hkd).1
      have hatm : atI (ms2.map fun m => V.ref m.1) (mb : Int) = some (.ref ms2[mb].1) := atI_nat (by rw [List.getElem?_map, List.getElem?_eq_getElem hmm]; rfl)
      obtain ⟨d1, d2, d3⟩ := hs.fT2.m.2 _ hme
      have hlen := d3.length
      have hpos : (0 : Int) < (ms2[mb].2.2.2.1.length : Int) := by omega
      refine cutK fun KK hKK => ?_
      refine ⟨_, rfl, d, _, 2, _, rfl, rfl, SqL.of hs.fd, hx2', _, rfl, t2, _, 2, _, rfl, rfl, hs.fT2.tu, rfl, _, rfl, lm2, _, _, _, rfl, rfl, hs.fT2.m.1, hatm, ms2[mb].1, _, 1, _, rfl, rfl, d1, rfl, ms2[mb].2.2.1, _, rfl, .inl d2, _, _, rfl, rfl, hpos, ?_⟩
      show gName 10 (V.int (x2 % (ms2[mb].2.2.2.1.length : Int))) _ _ _
      have w0 : 0 ≤ x2 % (ms2[mb].2.2.2.1.length : Int) := Int.emod_nonneg _ (by omega)
      have w1 : x2 % (ms2[mb].2.2.2.1.length : Int) < (ms2[mb].2.2.2.1.length : Int) := Int.emod_lt_of_pos _ hpos
      obtain ⟨j, hj, j1⟩ : ∃ j : Nat, x2 % (ms2[mb].2.2.2.1.length : Int) = (j : Int) ∧ j < ms2[mb].2.2.2.2.length := ⟨(x2 % (ms2[mb].2.2.2.1.length : Int)).toNat, by omega, by omega⟩
      rw [hj]
      refine hKK _ _ ?_
      clear hKK KK
      obtain ⟨rv, hrv, hrt⟩ := d3.get (List.getElem?_eq_getElem j1)
      obtain ⟨m1, m2, _⟩ := more_ok (add := add) (b3 _ (List.getElem_mem j1)).1
      refine ⟨_, rfl, _, rfl, _, rfl, _, rfl, t2, _, 2, _, rfl, rfl, hs.fT2.tu, rfl, _, rfl, lm2, _, _, _, rfl, rfl, hs.fT2.m.1, hatm, ms2[mb].1, _, 1, _, rfl, rfl, d1, rfl, _, rfl, ms2[mb].2.2.1, _, _, rv, rfl, rfl, d2, atI_nat hrv, _, rfl, rv, _, add, rfl, hrt, fun v' Hb gb hv' => ⟨t2, wd, lm2, s2, ks, st2, ms2, mb, j, v', _, rfl, hs.fT2.same gb, hv', by omega, hmm, fun m hm => (by rw [List.getElem?_eq_getElem hmm] at hm; rw [← Option.some.inj hm]; exact j1), fun tu1 lmN msN Hc gc hTc hlc hrel => ?_⟩⟩
      have hs2 := hs.same (gb.trans gc)
      exact ⟨t1, lm1, s1, st1, ms1, us', ts', tu1, lmN, s2, st2, msN, mb, _, ⟨hs2.fT1, hs2.fo, hs2.flt, hs2.fus, hs2.fok, hs2.fl, hTc, t2_rel hs.ft2 hlc ⟨m1, by have := (b3 _ (List.getElem_mem j1)).2; omega⟩ hrel, hs2.flr, hs2.fu0, hs2.fl0, hs2.fd⟩, fun hn => absurd (by rw [hw']; simp) hn⟩
    · exact St51.skip ⟨t1, lm1, s1, st1, ms1, us', ts', t2, lm2, s2, st2, ms2, mo, c10, hs, safe⟩
  clear hs safe
  refine St51.all fun Hb t1 lm1 s1 st1 ms1 us' ts' t2 lm2 s2 st2 ms2 mo c10 hs safe => ?_
  refine cutS (St51 K a wd d lt lr ks xs us ts add way [6, 5, 4, 3, 2, 1]) ?_ ?_
  · refine ⟨_, rfl, rfl, _, rfl, ite2 (fun hc => ?_) (fun hc => ?_)⟩
    · have hw' := wayE hc
      obtain ⟨m1, m2, _⟩ := more_ok (add := add) hs.ft2.s.1
      refine ⟨_, rfl, _, rfl, t2, _, 1, _, rfl, rfl, hs.fT2.tu, rfl, _, rfl, s2, st2, add, rfl, hs.fT2.s, fun v' Hc gc hv' => ?_⟩
      have hs2 := hs.same gc
      refine ⟨_, rfl, t2, _, 2, _, rfl, rfl, hs2.fT2.tu, rfl, (by show 3 ≤ sizeLine; decide), fun tn htn => ?_⟩
      have e1 := same_new htn (.tup [.ref wd, v', .ref lm2])
      have hs3 := hs2.same e1
      exact ⟨t1, lm1, s1, st1, ms1, us', ts', tn, lm2, v', moreT add st2, ms2, mo, c10, ⟨hs3.fT1, hs3.fo, hs3.flt, hs3.fus, hs3.fok, hs3.fl, ⟨SqT.of upd_same, hs3.fT2.w, hv'.mono fun _ _ => e1.seqT, hs3.fT2.m⟩, ⟨hs.ft2.pos, hs.ft2.three, ⟨m1, by have := hs.ft2.s.2; omega⟩, hs.ft2.md⟩, hs3.flr, hs3.fu0, hs3.fl0, hs3.fd⟩, fun hn => absurd (by rw [hw']; simp) hn⟩
    · exact St51.skip ⟨t1, lm1, s1, st1, ms1, us', ts', t2, lm2, s2, st2, ms2, mo, c10, hs, safe⟩
  clear hs safe
  refine St51.all fun Hc t1 lm1 s1 st1 ms1 us' ts' t2 lm2 s2 st2 ms2 mo c10 hs safe => ?_
  refine cutS (St51 K a wd d lt lr ks xs us ts add way [7, 6, 5, 4, 3, 2, 1]) ?_ ?_
  · refine ⟨_, rfl, rfl, _, rfl, ite2 (fun hc => ?_) (fun hc => ?_)⟩
    · have hw' := wayE hc
      obtain ⟨hall, hmo', HH, hh0, hhk, hh1, hh2⟩ := safe (by rw [hw']; decide)
      have hml := hs.fus.length
      obtain ⟨cv, t, hat, hct, hgd⟩ := OP hs hall hmo'
      refine ⟨_, rfl, _, rfl, lt, us', _, cv, rfl, rfl, SqL.of hs.flt, hat, _, rfl, d, _, 3, _, rfl, rfl, SqL.of hs.fd, hx3', _, _, rfl, rfl, ⟨by decide, by decide⟩, _, _, rfl, rfl, (by show (0 : Int) < 3; decide), _, _, rfl, rfl, cv, t, _, rfl, hct, by have := hgd.2.2; omega, trivial, fun v' Hd gd hv' => ?_⟩
      have hs2 := hs.same gd
      refine ⟨_, rfl, _, rfl, lt, us', _, mo, rfl, rfl, hs2.flt, ixN_nat (by omega), ?_⟩
      exact ⟨t1, lm1, s1, st1, ms1, _, _, t2, lm2, s2, st2, ms2, mo, c10, hs2.set (o := some _) hh0 (fun b u hb e => gd _ _ (hhk b u hb e)) hh1 hh2 hlrlt hdlt hv' (fun u hu => by rw [← Option.some.inj hu]; exact good_on hgd), fun hn => absurd (by rw [hw']; simp) hn⟩
    · exact St51.skip ⟨t1, lm1, s1, st1, ms1, us', ts', t2, lm2, s2, st2, ms2, mo, c10, hs, safe⟩
  clear hs safe
  refine St51.all fun Hd t1 lm1 s1 st1 ms1 us' ts' t2 lm2 s2 st2 ms2 mo c10 hs _ => ?_
  have few1 := hs.fo.few
  have few2 := hs.ft2.three
  refine cutK fun KK hKK => ?_
  refine ⟨_, rfl, t1, wd, lm1, s1, ks, st1, ms1, rfl, hs.fT1, hW.ok, by omega, fun tA wA lA kA mA He ge hTA ekA emA => ?_⟩
  refine ⟨_, rfl, lt, us', rfl, .inl (SqL.of (ge _ _ hs.flt)), fun lc hlc => ?_⟩
  have gf := same_new hlc (.lst us')
  have hsF := hs.same (ge.trans gf)
  refine ⟨_, rfl, t2, wd, lm2, s2, ks, st2, ms2, rfl, hsF.fT2, hW.ok, by omega, fun tB wB lB kB mB Hg gg hTB ekB emB => ?_⟩
  refine ⟨(by show 3 ≤ sizeLine; decide), fun lh hlh => ?_⟩
  refine hKK _ _ ?_
  clear hKK KK
  refine cutK fun KK hKK => ?_
  have gh := same_new hlh (.lst [.ref tA, .ref lc, .ref tB])
  have hsH := hsF.same (gg.trans gh)
  have hTA2 := hTA.same (gf.trans (gg.trans gh))
  have hTB2 := hTB.same gh
  have hlc2 := (gg.trans gh) _ _ (upd_same : (upd He lc (.lst us')) lc = some (.lst us'))
  have hlh2 : (upd Hg lh (.lst [.ref tA, .ref lc, .ref tB])) lh = some (.lst [.ref tA, .ref lc, .ref tB]) := upd_same
  generalize upd Hg lh (.lst [.ref tA, .ref lc, .ref tB]) = Hh at gh hsH hTA2 hTB2 hlc2 hlh2 ⊢
  have lay : (woodD ks).canLay0 = true := by show PyData.canLayAll0 _ = true; exact lay_kinds hW.nm hW.ok.rows
  have dep : (woodD ks).depth ≤ 10 := by have := depth_kinds (ks.map keyW); show PyData.depthAll _ + 1 ≤ 10; omega
  have pq := pq_mk hW hs.fo hs.fl hs.fok hs.ft2
  have eA : woodD kA = woodD ks := by unfold woodD; rw [ekA]
  have eB : woodD kB = woodD ks := by unfold woodD; rw [ekB]
  refine ⟨_, rfl, _, rfl, _, rfl, _, t1, wd, lm1, lt, t2, wd, lm2, s1, s2, us', ts', st1, st2, ms1, ms2, woodD ks, rfl, (K51.TurnD.tuAt hsH.fT1), (K51.TurnD.tuAt hsH.fT2), lay, dep, SqL.of hsH.flt, hsH.fus, pq, fun b Hi gi hb => ?_⟩
  refine hKK _ _ ?_
  clear hKK KK
  refine cutK fun KK hKK => ?_
  have hus2 := hsH.fus.mono fun a xs => gi.seqT (a := a) (xs := xs)
  refine ⟨_, rfl, lh, _, 0, _, rfl, rfl, SqL.of (gi _ _ hlh2), rfl, _, rfl, lh, _, 1, _, rfl, rfl, SqL.of (gi _ _ hlh2), rfl, _, rfl, lh, _, 2, _, rfl, rfl, SqL.of (gi _ _ hlh2), rfl, _, tA, wA, lA, lc, tB, wB, lB, s1, s2, us', ts', st1, st2, mA, mB, woodD ks, rfl, eA ▸ (K51.TurnD.tuAt (hTA2.same gi)), eB ▸ (K51.TurnD.tuAt (hTB2.same gi)), lay, dep, SqL.of (gi _ _ hlc2), hus2, pq.congr emA emB, fun b2 Hj gj hb2 => ?_⟩
  refine hKK _ _ ?_
  clear hKK KK
  refine cutK fun KK hKK => ?_
  have ebb : b2 = b := by
    have : (b2 = true) ↔ (b = true) := by
      rw [hb2, hb]
      exact ⟨fun z => z.congr emA.symm emB.symm, fun z => z.congr emA emB⟩
    cases b <;> cases b2 <;> simp_all
  subst ebb
  have gij := gi.trans gj
  have hsJ := hsH.same gij
  refine ⟨_, rfl, _, "bool", _, true, rfl, .bl _, rfl, _, rfl, iteF ⟨_, rfl, _, rfl, rfl, _, rfl, iteNS rfl ?_⟩⟩
  refine ⟨_, rfl, _, rfl, _, rfl, _, rfl, (by show 3 ≤ sizeLine; decide), fun ln hln => ?_⟩
  have gk := same_new hln (.lst [.ref t1, .ref lt, .ref t2])
  have hsK := hsJ.same gk
  have gik := gij.trans gk
  have mdn : ∀ {ms : List MdT}, (∀ m ∈ ms, ∃ kd ∈ ks, kd.2.1 = m.2.1) → ∀ m ∈ ms, PyData.strOk m.2.1 = true := fun h m hm => by
    obtain ⟨kd, hk, e⟩ := h m hm
    rw [← e]; exact hW.nm kd hk
  obtain ⟨c1, d1⟩ := lay_turn' (t := st1) (ms := ms1) hW.nm hW.ok.rows (hs.fo.s1.1.mok.mono (by have := hs.fo.s1.2; omega)) fun m hm => ⟨mdn (fun m hm => by obtain ⟨kd, a, b, _⟩ := hs.fo.r1 m hm; exact ⟨kd, a, b⟩) m hm, fun t ht => by
    obtain ⟨kd, _, _, _, z⟩ := hs.fo.r1 m hm
    exact (z t ht).1.mok.mono (by have := (z t ht).2; omega)⟩
  obtain ⟨c2, d2⟩ := lay_turn' (t := st2) (ms := ms2) hW.nm hW.ok.rows (hs.ft2.s.1.mok.mono (by have := hs.ft2.s.2; omega)) fun m hm => ⟨mdn (fun m hm => by obtain ⟨kd, a, b, _⟩ := hs.ft2.md m hm; exact ⟨kd, a, b⟩) m hm, fun t ht => by
    obtain ⟨kd, _, _, _, z⟩ := hs.ft2.md m hm
    exact (z t ht).1.mok.mono (by have := (z t ht).2; omega)⟩
  obtain ⟨c3, d3⟩ := lay_ts (d := 12) (fun t ht => (hs.fok.tm t ht).1.mok.mono (by have := (hs.fok.tm t ht).2.2; omega)) (ts := ts')
  have ed1 : turnDat kA st1 mA = turnDat ks st1 ms1 := by unfold turnDat; rw [ekA, emA]
  have ed2 : turnDat kB st2 mB = turnDat ks st2 ms2 := by unfold turnDat; rw [ekB, emB]
  have cD : (PyData.list [turnDat ks st1 ms1, .list (ts'.map otd), turnDat ks st2 ms2]).canLay0 = true := by
    show PyData.canLayAll0 _ = true
    rw [PyData.canLayAll0, PyData.canLayAll0, PyData.canLayAll0, PyData.canLayAll0, c1, c2, PyData.canLay0, c3]; rfl
  have dD : (PyData.list [turnDat ks st1 ms1, .list (ts'.map otd), turnDat ks st2 ms2]).depth ≤ 40 := by
    have e : (PyData.list [turnDat ks st1 ms1, .list (ts'.map otd), turnDat ks st2 ms2]).depth = max (turnDat ks st1 ms1).depth (max (PyData.depthAll (ts'.map otd) + 1) (max (turnDat ks st2 ms2).depth 0)) + 1 := by simp only [PyData.depth, PyData.depthAll]
    rw [e]; omega
  refine ⟨.list [turnDat ks st1 ms1, .list (ts'.map otd), turnDat ks st2 ms2], .list [turnDat ks st1 ms1, .list (ts'.map otd), turnDat ks st2 ms2], .lst (SqL.of (gik _ _ hlh2)) (.cons (ed1 ▸ rd_turn (hTA2.same gik)) (.cons (.lst (SqL.of (gik _ _ hlc2)) (hsH.fus.mono fun _ _ => gik.seqT).rd) (.cons (ed2 ▸ rd_turn (hTB2.same gik)) .nil))), .lst (SqL.of upd_same) (.cons (rd_turn hsK.fT1) (.cons (.lst (SqL.of hsK.flt) hsK.fus.rd) (.cons (rd_turn hsK.fT2) .nil))), cD, cD, hr.fit (by omega), ?_⟩
  rw [if_pos rfl, eqv_self _ cD]
  refine ⟨_, rfl, iteF ?_⟩
  refine hKK _ _ ?_
  clear hKK KK
  refine cutK fun KK hKK => ?_
  have pq0 := pq_mk hW hs.fo hs.fl0 hok0 hs.ft2
  refine ⟨_, rfl, _, rfl, _, rfl, _, t1, wd, lm1, lr, t2, wd, lm2, s1, s2, us, ts, st1, st2, ms1, ms2, woodD ks, rfl, (K51.TurnD.tuAt hsK.fT1), (K51.TurnD.tuAt hsK.fT2), lay, dep, SqL.of hsK.flr, hsK.fu0, pq0, fun b3 Hl gl hb3 => ?_⟩
  refine hKK _ _ ?_
  clear hKK KK
  have gil := gik.trans gl
  have hus3 := hsH.fus.mono fun a xs => gil.seqT (a := a) (xs := xs)
  refine ⟨_, rfl, lh, _, 0, _, rfl, rfl, SqL.of (gil _ _ hlh2), rfl, _, rfl, lh, _, 1, _, rfl, rfl, SqL.of (gil _ _ hlh2), rfl, _, rfl, lh, _, 2, _, rfl, rfl, SqL.of (gil _ _ hlh2), rfl, _, tA, wA, lA, lc, tB, wB, lB, s1, s2, us', ts', st1, st2, mA, mB, woodD ks, rfl, eA ▸ (K51.TurnD.tuAt (hTA2.same gil)), eB ▸ (K51.TurnD.tuAt (hTB2.same gil)), lay, dep, SqL.of (gil _ _ hlc2), hus3, pq.congr emA emB, fun b4 Hm gm hb4 => ?_⟩
  have ebb : b4 = b2 := by
    have : (b4 = true) ↔ (b2 = true) := by rw [hb4, hb2]
    cases b2 <;> cases b4 <;> simp_all
  subst ebb
  refine ⟨_, rfl, rfl, ?_⟩
  have := q Hm
  simpa using this
end
end K51
namespace L2
theorem ln1 {α : Type} {us : List α} (h : us.length = 1) : ∃ a, us = [a] := List.length_eq_one_iff.mp h
theorem ln2 {α : Type} {us : List α} (h : us.length = 2) : ∃ a b, us = [a, b] := by
  match us, h with
  | [a, b], _ => exact ⟨a, b, rfl⟩
theorem ln3 {α : Type} {us : List α} (h : us.length = 3) : ∃ a b c, us = [a, b, c] := by
  match us, h with
  | [a, b, c], _ => exact ⟨a, b, c, rfl⟩
theorem ln4 {α : Type} {us : List α} (h : us.length = 4) : ∃ a b c d, us = [a, b, c, d] := by
  match us, h with
  | [a, b, c, d], _ => exact ⟨a, b, c, d, rfl⟩
theorem ln5 {α : Type} {us : List α} (h : us.length = 5) : ∃ a b c d e, us = [a, b, c, d, e] := by
  match us, h with
  | [a, b, c, d, e], _ => exact ⟨a, b, c, d, e, rfl⟩
end L2
namespace K51
open PySem L2
theorem all_mk {l : PySem.W.OpenLaw} {w : World} {K : PySem.W.Frag} {h : Heap} {mg : Str → Option Value} {fa : Addr} (X : K.In h) (N : h.Ns mainGlobals mg) (hfa : mg "law" = some (.ref fa))
    (d1 : DefAt K "is_call" sIsC) (d2 : DefAt K "calls_of" sCO) (d3 : DefAt K "keeps_mark" sKM) (d4 : DefAt K "terms_in" sTI) (d5 : DefAt K "rules_in" sRI) (d6 : DefAt K "on_branch" sOB) (d7 : DefAt K "with_parts" sWP) (d8 : DefAt K "calls_fit" sCsF) (d9 : DefAt K "call_fits" sCF) (d10 : DefAt K "need_one_wood" sNOW) (d11 : DefAt K "is_paper" sIsP) (d12 : DefAt K "term_fits" sTF) (d13 : DefAt K "has_terms" sHT) (d14 : DefAt K "rules_have_terms" sRHT) (d15 : DefAt K "rules_agree" sRA) (d16 : DefAt K "rules_for" sRFo) (d17 : DefAt K "_law_cell_at" sCell) (d18 : DefAt K "_law_stream" sStream) (d19 : DefAt K "_law_names" sNames) (d20 : DefAt K "_law_wood" sWood) (d21 : DefAt K "_law_rows" sRows) (d22 : DefAt K "_law_calls" sCalls) (d23 : DefAt K "_law_term" sTerm) (d24 : DefAt K "_law_unkept" sUnk) (d25 : DefAt K "_law_turning" sTurn) (d26 : DefAt K "_law_again" sAgain) (d27 : DefAt K "_law_renamed" sRen) (d28 : DefAt K "_law_turned_about" sTurA) (d29 : DefAt K "_law_doubled" sDou) (d30 : DefAt K "_law_ruled" sRuled) (d31 : DefAt K "_law_held_back" sHeldB) (d32 : DefAt K "_law_size" sSize) (d33 : DefAt K "_law_many" sMany) (d34 : DefAt K "_law_with_paper" sWithP) (d35 : DefAt K "_law_on" sOn) (d36 : DefAt K "_law_termed" sTermed) (d37 : DefAt K "_law_keys" sKeys) (d38 : DefAt K "_law_has" sHas) (d39 : DefAt K "_law_is_paper" sLIsP) (d40 : DefAt K "_law_other_rule" sOthR) (d41 : DefAt K "_law_more" sMore) (d42 : DefAt K "law" sLaw)
    (z1 : PySem.W.nsIn K mainGlobals "len" = some none) (z2 : PySem.W.nsIn K mainGlobals "isinstance" = some none) (z3 : PySem.W.nsIn K mainGlobals "bool" = some none) (z4 : PySem.W.nsIn K mainGlobals "tuple" = some none) (z5 : PySem.W.nsIn K mainGlobals "list" = some none) (z6 : PySem.W.nsIn K mainGlobals "range" = some none) (z7 : PySem.W.nsIn K mainGlobals "sum" = some none) (z8 : PySem.W.nsIn K mainGlobals "sorted" = some none) (z9 : PySem.W.nsIn K mainGlobals "zip" = some none) (z10 : PySem.W.nsIn K mainGlobals "all" = some none) (z11 : PySem.W.nsIn K mainGlobals "any" = some none) (z12 : PySem.W.nsIn K mainGlobals "enumerate" = some none)  :
    ∃ fd : FuncData, (∀ (s : Shared) (v : Value), BindsTo s fd ⟨[v], []⟩ [("_law_script", v)]) ∧ ∀ base : Heap, K.In base → base.Ns mainGlobals mg → FnOk l.prog w K mg base CX0 14 fa fd ["_law_script"] (spLaw K) := by
  have G : Gm mg := ⟨PySem.W.mg_none_of X N z1, PySem.W.mg_none_of X N z2, PySem.W.mg_none_of X N z3, PySem.W.mg_none_of X N z4, PySem.W.mg_none_of X N z5, PySem.W.mg_none_of X N z6, PySem.W.mg_none_of X N z7, PySem.W.mg_none_of X N z8, PySem.W.mg_none_of X N z9, PySem.W.mg_none_of X N z10, PySem.W.mg_none_of X N z11, PySem.W.mg_none_of X N z12⟩
  obtain ⟨f, oc, od, kV, doc, pm, an, cdv, ct, osl, a, lk, c, kp⟩ := d42.ex
  have e := hfa.symm.trans (PySem.W.mg_of X N a)
  cases e
  have F := fun_mk (st := sLaw) lk c kp
  refine ⟨PySem.W.fnOf "law" "law" (defArgs sLaw) (defBody sLaw) (defScope sLaw) .none kV doc pm an cdv ct, fun s v => .of_eq rfl, fun base _ _ => ?_⟩
  have rIC : Fn l.prog w K mg base 1 "is_call" ["term"] (spIsC K) := d1.fn X N (fun f fd F => ok_isC F) fun _ _ _ _ _ _ us hl => by obtain ⟨a1, rfl⟩ := ln1 hl; rfl
  have rWP : Fn l.prog w K mg base 1 "with_parts" ["term", "parts"] (spWP K) := d7.fn X N (fun f fd F => ok_wp F G) fun _ _ _ _ _ _ us hl => by obtain ⟨a1, a2, rfl⟩ := ln2 hl; rfl
  have rOB : Fn l.prog w K mg base 5 "on_branch" ["term", "branch"] (spOB K 4) := by
    obtain ⟨f, oc, od, kV, doc, pm, an, cdv, ct, osl, a, lk, c, kp⟩ := d6.ex
    have F := fun_mk (st := sOB) lk c kp
    have hb : Binds K _ ["term", "branch"] [] := F.binds fun _ _ _ _ _ _ us hl => by obtain ⟨a1, a2, rfl⟩ := ln2 hl; rfl
    exact ⟨f, _, all_ob F G rIC rWP hb (PySem.W.mg_of X N a) 4, hb, kp, PySem.W.mg_of X N a⟩
  have rCO : Fn l.prog w K mg base 9 "calls_of" ["term"] (spCO K 8) := by
    obtain ⟨f, oc, od, kV, doc, pm, an, cdv, ct, osl, a, lk, c, kp⟩ := d2.ex
    have F := fun_mk (st := sCO) lk c kp
    have hb : Binds K _ ["term"] [] := F.binds fun _ _ _ _ _ _ us hl => by obtain ⟨a1, rfl⟩ := ln1 hl; rfl
    exact ⟨f, _, all_co F G rIC hb (PySem.W.mg_of X N a) 8, hb, kp, PySem.W.mg_of X N a⟩
  have rRI : Fn l.prog w K mg base 7 "rules_in" ["term", "terms"] (spRI K 6) := by
    obtain ⟨f, oc, od, kV, doc, pm, an, cdv, ct, osl, a, lk, c, kp⟩ := d5.ex
    have F := fun_mk (st := sRI) lk c kp
    have hb : Binds K _ ["term", "terms"] [] := F.binds fun _ _ _ _ _ _ us hl => by obtain ⟨a1, a2, rfl⟩ := ln2 hl; rfl
    exact ⟨f, _, all_ri F G rIC rWP hb (PySem.W.mg_of X N a) 6, hb, kp, PySem.W.mg_of X N a⟩
  have rTI : Fn l.prog w K mg base 11 "terms_in" ["term", "terms"] (spTI K 6) := by
    obtain ⟨f, oc, od, kV, doc, pm, an, cdv, ct, osl, a, lk, c, kp⟩ := d4.ex
    have F := fun_mk (st := sTI) lk c kp
    have hb : Binds K _ ["term", "terms"] [] := F.binds fun _ _ _ _ _ _ us hl => by obtain ⟨a1, a2, rfl⟩ := ln2 hl; rfl
    exact ⟨f, _, all_ti F G rIC rWP rOB hb (PySem.W.mg_of X N a) 6, hb, kp, PySem.W.mg_of X N a⟩
  have rKM : Fn l.prog w K mg base 9 "keeps_mark" ["term"] (spKM K 8) := by
    obtain ⟨f, oc, od, kV, doc, pm, an, cdv, ct, osl, a, lk, c, kp⟩ := d3.ex
    have F := fun_mk (st := sKM) lk c kp
    have hb : Binds K _ ["term"] [] := F.binds fun _ _ _ _ _ _ us hl => by obtain ⟨a1, rfl⟩ := ln1 hl; rfl
    exact ⟨f, _, all_km F G rIC hb (PySem.W.mg_of X N a) 8, hb, kp, PySem.W.mg_of X N a⟩
  have rCF : Fn l.prog w K mg base 1 "call_fits" ["modes", "mode", "branch", "kinds"] (spCF K) := d9.fn X N (fun f fd F => ok_cf F G) fun _ _ _ _ _ _ us hl => by obtain ⟨a1, a2, a3, a4, rfl⟩ := ln4 hl; rfl
  have rCsF : Fn l.prog w K mg base 10 "calls_fit" ["modes", "term", "kinds"] (spCsF K) := d8.fn X N (fun f fd F => ok_csf F G rCO rCF) fun _ _ _ _ _ _ us hl => by obtain ⟨a1, a2, a3, rfl⟩ := ln3 hl; rfl
  have rNOW : Fn l.prog w K mg base 1 "need_one_wood" ["one", "other"] (spNOW K) := d10.fn X N (fun f fd F => ok_now F) fun _ _ _ _ _ _ us hl => by obtain ⟨a1, a2, rfl⟩ := ln2 hl; rfl
  have rTF : Fn l.prog w K mg base 11 "term_fits" ["kind", "term", "other"] (spTF K) := d12.fn X N (fun f fd F => ok_tf F rKM rCsF) fun _ _ _ _ _ _ us hl => by obtain ⟨a1, a2, a3, rfl⟩ := ln3 hl; rfl
  have rHT : Fn l.prog w K mg base 10 "has_terms" ["term", "terms"] (spHT K) := d13.fn X N (fun f fd F => ok_ht F G rCO) fun _ _ _ _ _ _ us hl => by obtain ⟨a1, a2, rfl⟩ := ln2 hl; rfl
  have rRHT : Fn l.prog w K mg base 11 "rules_have_terms" ["rules", "terms"] (spRHT K) := d14.fn X N (fun f fd F => ok_rht F G rHT) fun _ _ _ _ _ _ us hl => by obtain ⟨a1, a2, rfl⟩ := ln2 hl; rfl
  have rRFo : Fn l.prog w K mg base 1 "rules_for" ["turning", "kind", "number"] (spRFo K) := d16.fn X N (fun f fd F => ok_rfo F) fun _ _ _ _ _ _ us hl => by obtain ⟨a1, a2, a3, rfl⟩ := ln3 hl; rfl
  have rRA : Fn l.prog w K mg base 12 "rules_agree" ["mode", "term", "terms", "other"] (spRA K) := d15.fn X N (fun f fd F => ok_ra F G rTI rRI rRFo) fun _ _ _ _ _ _ us hl => by obtain ⟨a1, a2, a3, a4, rfl⟩ := ln4 hl; rfl
  have rIP : Fn l.prog w K mg base 13 "is_paper" ["one", "terms", "other"] (spIsP K) := d11.fn X N (fun f fd F => ok_isP F G rNOW rTF rHT rRHT rTI rRA) fun _ _ _ _ _ _ us hl => by obtain ⟨a1, a2, a3, rfl⟩ := ln3 hl; rfl
  have rC : Fn l.prog w K mg base 1 "_law_cell_at" ["_law_script", "_law_k"] (spCell K) := d17.fn X N (fun f fd F => ok_cell F G) fun _ _ _ _ _ _ us hl => by obtain ⟨a1, a2, rfl⟩ := ln2 hl; rfl
  have rS : Fn l.prog w K mg base 1 "_law_stream" ["_law_cell", "_law_count"] spStream := d18.fn X N (fun f fd F => ok_stream F G) fun _ _ _ _ _ _ us hl => by obtain ⟨a1, a2, rfl⟩ := ln2 hl; rfl
  have rN : Fn l.prog w K mg base 1 "_law_names" ["_law_cell", "_law_count"] spNames := d19.fn X N (fun f fd F => ok_names F G) fun _ _ _ _ _ _ us hl => by obtain ⟨a1, a2, rfl⟩ := ln2 hl; rfl
  have rW : Fn l.prog w K mg base 2 "_law_wood" ["_law_script"] (spWood K) := d20.fn X N (fun f fd F => ok_wood F G rC rS rN) fun _ _ _ _ _ _ us hl => by obtain ⟨a1, rfl⟩ := ln1 hl; rfl
  have rR : Fn l.prog w K mg base 1 "_law_rows" ["_law_wood_here", "_law_kind"] (spRows K) := d21.fn X N (fun f fd F => ok_rows F) fun _ _ _ _ _ _ us hl => by obtain ⟨a1, a2, rfl⟩ := ln2 hl; rfl
  have rL : Fn l.prog w K mg base 1 "_law_calls" ["_law_branches", "_law_kinds"] (spCalls K) := d22.fn X N (fun f fd F => ok_calls F G) fun _ _ _ _ _ _ us hl => by obtain ⟨a1, a2, rfl⟩ := ln2 hl; rfl
  have rT : Fn l.prog w K mg base 4 "_law_term" ["_law_xs", "_law_calls_here", "_law_names_here", "_law_far", "_law_deep"] (spTerm K 3) := by
    obtain ⟨f, oc, od, kV, doc, pm, an, cdv, ct, osl, a, lk, c, kp⟩ := d23.ex
    have F := fun_mk (st := sTerm) lk c kp
    have hb : Binds K _ ["_law_xs", "_law_calls_here", "_law_names_here", "_law_far", "_law_deep"] [] := F.binds fun _ _ _ _ _ _ us hl => by obtain ⟨a1, a2, a3, a4, a5, rfl⟩ := ln5 hl; rfl
    exact ⟨f, _, all_term F G hb (PySem.W.mg_of X N a) 3, hb, kp, PySem.W.mg_of X N a⟩
  have rU : Fn l.prog w K mg base 4 "_law_unkept" ["_law_term_here"] (spUnk K 4) := by
    obtain ⟨f, oc, od, kV, doc, pm, an, cdv, ct, osl, a, lk, c, kp⟩ := d24.ex
    have F := fun_mk (st := sUnk) lk c kp
    have hb : Binds K _ ["_law_term_here"] [] := F.binds fun _ _ _ _ _ _ us hl => by obtain ⟨a1, rfl⟩ := ln1 hl; rfl
    exact ⟨f, _, all_unk F G hb (PySem.W.mg_of X N a) 4, hb, kp, PySem.W.mg_of X N a⟩
  have rTu : Fn l.prog w K mg base 5 "_law_turning" ["_law_script", "_law_wood_here"] (spTurn K) := d25.fn X N (fun f fd F => ok_turn F G rC rS rN rR rL rT rU) fun _ _ _ _ _ _ us hl => by obtain ⟨a1, a2, rfl⟩ := ln2 hl; rfl
  have rA : Fn l.prog w K mg base 1 "_law_again" ["_law_turning_here"] (spAgain K) := d26.fn X N (fun f fd F => ok_again F G) fun _ _ _ _ _ _ us hl => by obtain ⟨a1, rfl⟩ := ln1 hl; rfl
  have rRe : Fn l.prog w K mg base 5 "_law_renamed" ["_law_term_here", "_law_names_here"] (spRen K 4) := by
    obtain ⟨f, oc, od, kV, doc, pm, an, cdv, ct, osl, a, lk, c, kp⟩ := d27.ex
    have F := fun_mk (st := sRen) lk c kp
    have hb : Binds K _ ["_law_term_here", "_law_names_here"] [] := F.binds fun _ _ _ _ _ _ us hl => by obtain ⟨a1, a2, rfl⟩ := ln2 hl; rfl
    exact ⟨f, _, all_ren F G hb (PySem.W.mg_of X N a) 4, hb, kp, PySem.W.mg_of X N a⟩
  have rTA : Fn l.prog w K mg base 6 "_law_turned_about" ["_law_turning_here", "_law_step"] (spTA K) := d28.fn X N (fun f fd F => ok_ta F G rRe) fun _ _ _ _ _ _ us hl => by obtain ⟨a1, a2, rfl⟩ := ln2 hl; rfl
  have rDo : Fn l.prog w K mg base 6 "_law_doubled" ["_law_turning_here", "_law_mode", "_law_bits"] (spDo K) := d29.fn X N (fun f fd F => ok_dou F G rRe) fun _ _ _ _ _ _ us hl => by obtain ⟨a1, a2, a3, rfl⟩ := ln3 hl; rfl
  have rRu : Fn l.prog w K mg base 5 "_law_ruled" ["_law_term_here", "_law_modes", "_law_row"] (spRul K 4) := by
    obtain ⟨f, oc, od, kV, doc, pm, an, cdv, ct, osl, a, lk, c, kp⟩ := d30.ex
    have F := fun_mk (st := sRuled) lk c kp
    have hb : Binds K _ ["_law_term_here", "_law_modes", "_law_row"] [] := F.binds fun _ _ _ _ _ _ us hl => by obtain ⟨a1, a2, a3, rfl⟩ := ln3 hl; rfl
    exact ⟨f, _, all_rul F G hb (PySem.W.mg_of X N a) 4, hb, kp, PySem.W.mg_of X N a⟩
  have rHB : Fn l.prog w K mg base 6 "_law_held_back" ["_law_turning_here"] (spHB K) := d31.fn X N (fun f fd F => ok_hb F G rRu) fun _ _ _ _ _ _ us hl => by obtain ⟨a1, rfl⟩ := ln1 hl; rfl
  have rSz : Fn l.prog w K mg base 9 "_law_size" ["_law_term_here"] (spSize K 8) := by
    obtain ⟨f, oc, od, kV, doc, pm, an, cdv, ct, osl, a, lk, c, kp⟩ := d32.ex
    have F := fun_mk (st := sSize) lk c kp
    have hb : Binds K _ ["_law_term_here"] [] := F.binds fun _ _ _ _ _ _ us hl => by obtain ⟨a1, rfl⟩ := ln1 hl; rfl
    exact ⟨f, _, all_size F G hb (PySem.W.mg_of X N a) 8, hb, kp, PySem.W.mg_of X N a⟩
  have rMa : Fn l.prog w K mg base 10 "_law_many" ["_law_turning_here"] (spMany K) := d33.fn X N (fun f fd F => ok_many F G rSz) fun _ _ _ _ _ _ us hl => by obtain ⟨a1, rfl⟩ := ln1 hl; rfl
  have rW2 : Fn l.prog w K mg base 11 "_law_with_paper" ["_law_turning_here", "_law_x"] (spWP2 K) := d34.fn X N (fun f fd F => ok_wp2 F G rDo rHB rMa rTA) fun _ _ _ _ _ _ us hl => by obtain ⟨a1, a2, rfl⟩ := ln2 hl; rfl
  have rOn : Fn l.prog w K mg base 6 "_law_on" ["_law_term_here", "_law_branch"] (spLOn K 5) := by
    obtain ⟨f, oc, od, kV, doc, pm, an, cdv, ct, osl, a, lk, c, kp⟩ := d35.ex
    have F := fun_mk (st := sOn) lk c kp
    have hb : Binds K _ ["_law_term_here", "_law_branch"] [] := F.binds fun _ _ _ _ _ _ us hl => by obtain ⟨a1, a2, rfl⟩ := ln2 hl; rfl
    exact ⟨f, _, all_lon F G hb (PySem.W.mg_of X N a) 5, hb, kp, PySem.W.mg_of X N a⟩
  have rTe : Fn l.prog w K mg base 12 "_law_termed" ["_law_term_here", "_law_terms"] (spTed K 6) := by
    obtain ⟨f, oc, od, kV, doc, pm, an, cdv, ct, osl, a, lk, c, kp⟩ := d36.ex
    have F := fun_mk (st := sTermed) lk c kp
    have hb : Binds K _ ["_law_term_here", "_law_terms"] [] := F.binds fun _ _ _ _ _ _ us hl => by obtain ⟨a1, a2, rfl⟩ := ln2 hl; rfl
    exact ⟨f, _, all_ted F G rOn hb (PySem.W.mg_of X N a) 6, hb, kp, PySem.W.mg_of X N a⟩
  have rKe : Fn l.prog w K mg base 5 "_law_keys" ["_law_term_here", "_law_kind", "_law_other"] (spKeys K 4) := by
    obtain ⟨f, oc, od, kV, doc, pm, an, cdv, ct, osl, a, lk, c, kp⟩ := d37.ex
    have F := fun_mk (st := sKeys) lk c kp
    have hb : Binds K _ ["_law_term_here", "_law_kind", "_law_other"] [] := F.binds fun _ _ _ _ _ _ us hl => by obtain ⟨a1, a2, a3, rfl⟩ := ln3 hl; rfl
    exact ⟨f, _, all_keys F G hb (PySem.W.mg_of X N a) 4, hb, kp, PySem.W.mg_of X N a⟩
  have rHa : Fn l.prog w K mg base 7 "_law_has" ["_law_term_here", "_law_terms"] (spHas K 6) := by
    obtain ⟨f, oc, od, kV, doc, pm, an, cdv, ct, osl, a, lk, c, kp⟩ := d38.ex
    have F := fun_mk (st := sHas) lk c kp
    have hb : Binds K _ ["_law_term_here", "_law_terms"] [] := F.binds fun _ _ _ _ _ _ us hl => by obtain ⟨a1, a2, rfl⟩ := ln2 hl; rfl
    exact ⟨f, _, all_has F G hb (PySem.W.mg_of X N a) 6, hb, kp, PySem.W.mg_of X N a⟩
  have rLP : Fn l.prog w K mg base 13 "_law_is_paper" ["_law_one", "_law_terms", "_law_other"] (spIsP K) := d39.fn X N (fun f fd F => ok_lisP F G rKe rHa rTe rRu) fun _ _ _ _ _ _ us hl => by obtain ⟨a1, a2, a3, rfl⟩ := ln3 hl; rfl
  have rOt : Fn l.prog w K mg base 1 "_law_other_rule" ["_law_turning_here", "_law_mode", "_law_row", "_law_rule"] (spOthR K) := d40.fn X N (fun f fd F => ok_othR F G) fun _ _ _ _ _ _ us hl => by obtain ⟨a1, a2, a3, a4, rfl⟩ := ln4 hl; rfl
  have rMo : Fn l.prog w K mg base 1 "_law_more" ["_law_term_here", "_law_add"] (spMore K) := d41.fn X N (fun f fd F => ok_more F) fun _ _ _ _ _ _ us hl => by obtain ⟨a1, a2, rfl⟩ := ln2 hl; rfl
  exact ok_law F G rC rS rW rTu rW2 rMo rOt rOn rA rLP rIP
theorem walk {l : PySem.W.OpenLaw} {q : Program} {loose : List Str} {XP : (Str → Option Value) → Heap → Prop} {YP : World → Heap → Prop} {d : DefRec} {K : Params → PySem.W.Frag} (hn : l.most = some 63) (hdf : d.params.defaults = [])
    (hY : ∀ (w : World) (h : Heap), YP w h → (K w.params).In h)
    (F : ∀ (w : World) (mg : Str → Option Value) (fa : Addr) (h : Heap), (K w.params).In h → h.Ns mainGlobals mg → mg d.name = some (.ref fa) →
      ∃ fd : FuncData, (∀ (s : Shared) (u : Value), BindsTo s fd ⟨[u], []⟩ [("_law_script", u)]) ∧ ∀ base : Heap, (K w.params).In base → base.Ns mainGlobals mg → FnOk l.prog w (K w.params) mg base CX0 14 fa fd ["_law_script"] (spLaw (K w.params))) :
    PySem.W.WalkO q loose XP YP l.row.toRowW d [] (fun f vs => PySem.call f vs) :=
  L2.walk_of (n := 63) (k := 14) (x := "_law_script") (CX := fun _ => CX0) (sp := fun w => spLaw (K w.params)) hn (by decide) hdf ⟨rfl, by decide, by decide⟩ hY F (fun _ _ a ns hl hO hS => ⟨a, ns, rfl, hS, hl, fun _ => rfl⟩) fun _ _ _ _ _ z => z
end K51
section
open PySem
noncomputable def K51.vS (x : String) (n : Nat) : Value := .str (Str.ofString x) n
noncomputable def K51.vR (a : Nat) : Value := .ref a
noncomputable def K51.vI (i : Int) (n : Nat) : Value := .int i n
noncomputable def K51.hE (P : Params) (x : String) (n : Nat) (v : Value) : DictEntry := ⟨PyData.keyHash P (Str.ofString x), .str (Str.ofString x) n, v⟩
noncomputable def K51.vN : Value := .none
noncomputable def K51.vF : Value := .type "function"
noncomputable def K51.vT : Value := .bool true
noncomputable def K51.i0 : Value := .int 0 0
noncomputable def K51.i3 : Value := .int 3 0
noncomputable def K51.i1 : Value := .int 181 0
noncomputable def K51.cP (k : Nat) : Value := .str (Str.ofString "/claim/cut.py") k
noncomputable def K51.oT (x : Array Value) : Obj := Obj.mk (Value.type "tuple") none (Data.seq x) #[]
noncomputable def K51.oC (x : Array Value) : Obj := Obj.mk (Value.type "code") none (Data.fields x) #[]
noncomputable def K51.oF (c : Value) (x y : String) (s : Stmt) (k : Nat) (pm cd : Value) : Obj := Obj.mk c none (Data.func (FuncData.mk (Str.ofString x) (Str.ofString y) (L2.defArgs s) (.stmts (L2.defBody s)) (L2.defScope s) k [] Value.none Value.none Value.none pm none cd Value.none 0)) #[]
open K51 in
noncomputable def K51.hp : Params → PySem.W.Frag := fun P => [ (2, Obj.mk vN none (Data.dict #[]) #[])
, (3, Obj.mk (Value.type "dict") none (Data.dict #[hE P "__name__" 165 (vS "law_turnery_k51_papers_asked" 340), hE P "__doc__" 166 vN, hE P "__package__" 167 vN, hE P "__loader__" 168 (Value.builtin "__main__.__loader__#opaque"), hE P "__spec__" 169 vN, hE P "__annotations__" 170 (vR 6), hE P "__builtins__" 171 (vR 4), hE P "__file__" 173 (cP 172), hE P "__cached__" 174 vN, hE P "is_call" 195 (vR 21), hE P "calls_of" 204 (vR 28), hE P "keeps_mark" 210 (vR 33), hE P "terms_in" 216 (vR 38), hE P "rules_in" 222 (vR 43), hE P "on_branch" 228 (vR 48), hE P "with_parts" 236 (vR 55), hE P "TurnError" 256 (vR 65), hE P "OtherWood" 272 (vR 78), hE P "calls_fit" 280 (vR 85), hE P "call_fits" 290 (vR 92), hE P "need_one_wood" 298 (vR 99), hE P "is_paper" 306 (vR 104), hE P "term_fits" 315 (vR 111), hE P "has_terms" 321 (vR 116), hE P "rules_have_terms" 327 (vR 121), hE P "rules_agree" 333 (vR 126), hE P "rules_for" 339 (vR 131), hE P "_law_cell_at" 349 (vR 138), hE P "_law_stream" 360 (vR 145), hE P "_law_names" 376 (vR 152), hE P "_law_wood" 393 (vR 159), hE P "_law_rows" 403 (vR 166), hE P "_law_calls" 414 (vR 173), hE P "_law_term" 420 (vR 178), hE P "_law_unkept" 426 (vR 183), hE P "_law_turning" 432 (vR 188), hE P "_law_again" 438 (vR 193), hE P "_law_renamed" 444 (vR 198), hE P "_law_turned_about" 450 (vR 203), hE P "_law_doubled" 456 (vR 208), hE P "_law_ruled" 462 (vR 213), hE P "_law_held_back" 468 (vR 218), hE P "_law_size" 474 (vR 223), hE P "_law_many" 480 (vR 228), hE P "_law_with_paper" 486 (vR 233), hE P "_law_on" 492 (vR 238), hE P "_law_termed" 498 (vR 243), hE P "_law_keys" 504 (vR 248), hE P "_law_has" 510 (vR 253), hE P "_law_is_paper" 523 (vR 260), hE P "_law_other_rule" 529 (vR 265), hE P "_law_more" 537 (vR 272), hE P "law" 557 (vR 279)] 53) #[])
, (15, oT #[])
, (17, oT #[vS "term" 192])
, (18, oT #[])
, (20, oC #[vS "is_call" 189, vS "is_call" 190, cP 191, vI 2 0, vI 1 0, i0, i0, i3, vR 15, vT, i1, vR 16, vN, vR 17, vR 18, vR 19, vI 193 0, vI 2 0, cP 194])
, (21, oF vF "is_call" "is_call" (top 1) 3 (vS "turnery.terms" 187) (vR 20))
, (22, oT #[])
, (24, oT #[vS "term" 199, vS "told" 200, vS "part" 201])
, (25, oT #[])
, (27, oC #[vS "calls_of" 196, vS "calls_of" 197, cP 198, vI 4 0, vI 1 0, i0, i0, i3, vR 22, vT, i1, vR 23, vN, vR 24, vR 25, vR 26, vI 202 0, vI 4 0, cP 203])
, (28, oF vF "calls_of" "calls_of" (top 2) 3 (vS "turnery.terms" 187) (vR 27))
, (29, oT #[])
, (32, oC #[vS "keeps_mark" 205, vS "keeps_mark" 206, cP 207, vI 11 0, vI 1 0, i0, i0, i3, vR 29, vT, i1, vR 30, vN, vN, vN, vR 31, vI 208 0, vI 11 0, cP 209])
, (33, oF vF "keeps_mark" "keeps_mark" (top 3) 3 (vS "turnery.terms" 187) (vR 32))
, (34, oT #[])
, (37, oC #[vS "terms_in" 211, vS "terms_in" 212, cP 213, vI 15 0, vI 2 0, i0, i0, i3, vR 34, vT, i1, vR 35, vN, vN, vN, vR 36, vI 214 0, vI 15 0, cP 215])
, (38, oF vF "terms_in" "terms_in" (top 4) 3 (vS "turnery.terms" 187) (vR 37))
, (39, oT #[])
, (42, oC #[vS "rules_in" 217, vS "rules_in" 218, cP 219, vI 19 0, vI 2 0, i0, i0, i3, vR 39, vT, i1, vR 40, vN, vN, vN, vR 41, vI 220 0, vI 19 0, cP 221])
, (43, oF vF "rules_in" "rules_in" (top 5) 3 (vS "turnery.terms" 187) (vR 42))
, (44, oT #[])
, (47, oC #[vS "on_branch" 223, vS "on_branch" 224, cP 225, vI 23 0, vI 2 0, i0, i0, i3, vR 44, vT, i1, vR 45, vN, vN, vN, vR 46, vI 226 0, vI 23 0, cP 227])
, (48, oF vF "on_branch" "on_branch" (top 6) 3 (vS "turnery.terms" 187) (vR 47))
, (49, oT #[])
, (51, oT #[vS "term" 232, vS "parts" 233])
, (52, oT #[])
, (54, oC #[vS "with_parts" 229, vS "with_parts" 230, cP 231, vI 27 0, vI 2 0, i0, i0, i3, vR 49, vT, i1, vR 50, vN, vR 51, vR 52, vR 53, vI 234 0, vI 27 0, cP 235])
, (55, oF vF "with_parts" "with_parts" (top 7) 3 (vS "turnery.terms" 187) (vR 54))
, (56, oT #[Value.type "ValueError"])
, (63, oT #[])
, (64, Obj.mk (Value.type "dict") none (Data.dict #[hE P "__module__" 246 (vS "turnery.errors" 237), hE P "__firstlineno__" 250 (vI 30 249), hE P "__static_attributes__" 251 (vR 63), hE P "__weakref__" 253 (vR 66), hE P "__doc__" 254 vN] 3) #[])
, (65, Obj.mk (Value.type "type") none (Data.cls (ClassData.mk (Str.ofString "TurnError") [Value.type "ValueError"] [vR 65, Value.type "ValueError", Value.type "Exception", Value.type "BaseException", Value.type "object"] 64 (Str.ofString "TurnError") true [] [vR 78] false none false)) #[some (vR 56), none, some (vS "TurnError" 239), some (vS "TurnError" 247), some (Value.builtin "ValueError.__new__"), some (Value.bool true)])
, (66, Obj.mk (Value.type "getset_descriptor") none (Data.fields #[vS "__weakref__" 252, vR 65, Value.builtin "ExceptionGroup.__weakref__", vN]) #[])
, (69, oT #[vR 65])
, (76, oT #[])
, (77, Obj.mk (Value.type "dict") none (Data.dict #[hE P "__module__" 264 (vS "turnery.errors" 237), hE P "__firstlineno__" 268 (vI 32 267), hE P "__static_attributes__" 269 (vR 76), hE P "__doc__" 270 vN] 2) #[])
, (78, Obj.mk (Value.type "type") none (Data.cls (ClassData.mk (Str.ofString "OtherWood") [vR 65] [vR 78, vR 65, Value.type "ValueError", Value.type "Exception", Value.type "BaseException", Value.type "object"] 77 (Str.ofString "OtherWood") true [] [] false none false)) #[some (vR 69), none, some (vS "OtherWood" 257), some (vS "OtherWood" 265), some (Value.builtin "ValueError.__new__"), some (Value.bool true)])
, (81, oT #[])
, (84, oC #[vS "calls_fit" 275, vS "calls_fit" 276, cP 277, vI 35 0, vI 3 0, i0, i0, i3, vR 81, vT, i1, vR 82, vN, vN, vN, vR 83, vI 278 0, vI 35 0, cP 279])
, (85, oF vF "calls_fit" "calls_fit" (top 12) 3 (vS "turnery.turnings" 273) (vR 84))
, (86, oT #[])
, (88, oT #[vS "modes" 284, vS "mode" 285, vS "branch" 286, vS "kinds" 287])
, (89, oT #[])
, (91, oC #[vS "call_fits" 281, vS "call_fits" 282, cP 283, vI 37 0, vI 4 0, i0, i0, i3, vR 86, vT, i1, vR 87, vN, vR 88, vR 89, vR 90, vI 288 0, vI 37 0, cP 289])
, (92, oF vF "call_fits" "call_fits" (top 13) 3 (vS "turnery.turnings" 273) (vR 91))
, (93, oT #[])
, (95, oT #[vS "one" 294, vS "other" 295])
, (96, oT #[])
, (98, oC #[vS "need_one_wood" 291, vS "need_one_wood" 292, cP 293, vI 41 0, vI 2 0, i0, i0, i3, vR 93, vT, i1, vR 94, vN, vR 95, vR 96, vR 97, vI 296 0, vI 41 0, cP 297])
, (99, oF vF "need_one_wood" "need_one_wood" (top 14) 3 (vS "turnery.turnings" 273) (vR 98))
, (100, oT #[])
, (103, oC #[vS "is_paper" 301, vS "is_paper" 302, cP 303, vI 45 0, vI 3 0, i0, i0, i3, vR 100, vT, i1, vR 101, vN, vN, vN, vR 102, vI 304 0, vI 45 0, cP 305])
, (104, oF vF "is_paper" "is_paper" (top 16) 3 (vS "turnery.papers" 299) (vR 103))
, (105, oT #[])
, (107, oT #[vS "kind" 310, vS "term" 311, vS "other" 312])
, (108, oT #[])
, (110, oC #[vS "term_fits" 307, vS "term_fits" 308, cP 309, vI 55 0, vI 3 0, i0, i0, i3, vR 105, vT, i1, vR 106, vN, vR 107, vR 108, vR 109, vI 313 0, vI 55 0, cP 314])
, (111, oF vF "term_fits" "term_fits" (top 17) 3 (vS "turnery.papers" 299) (vR 110))
, (112, oT #[])
, (115, oC #[vS "has_terms" 316, vS "has_terms" 317, cP 318, vI 57 0, vI 2 0, i0, i0, i3, vR 112, vT, i1, vR 113, vN, vN, vN, vR 114, vI 319 0, vI 57 0, cP 320])
, (116, oF vF "has_terms" "has_terms" (top 18) 3 (vS "turnery.papers" 299) (vR 115))
, (117, oT #[])
, (120, oC #[vS "rules_have_terms" 322, vS "rules_have_terms" 323, cP 324, vI 59 0, vI 2 0, i0, i0, i3, vR 117, vT, i1, vR 118, vN, vN, vN, vR 119, vI 325 0, vI 59 0, cP 326])
, (121, oF vF "rules_have_terms" "rules_have_terms" (top 19) 3 (vS "turnery.papers" 299) (vR 120))
, (122, oT #[])
, (125, oC #[vS "rules_agree" 328, vS "rules_agree" 329, cP 330, vI 61 0, vI 4 0, i0, i0, i3, vR 122, vT, i1, vR 123, vN, vN, vN, vR 124, vI 331 0, vI 61 0, cP 332])
, (126, oF vF "rules_agree" "rules_agree" (top 20) 3 (vS "turnery.papers" 299) (vR 125))
, (127, oT #[])
, (130, oC #[vS "rules_for" 334, vS "rules_for" 335, cP 336, vI 63 0, vI 3 0, i0, i0, i3, vR 127, vT, i1, vR 128, vN, vN, vN, vR 129, vI 337 0, vI 63 0, cP 338])
, (131, oF vF "rules_for" "rules_for" (top 21) 3 (vS "turnery.papers" 299) (vR 130))
, (132, oT #[])
, (134, oT #[vS "_law_script" 345, vS "_law_k" 346])
, (135, oT #[])
, (137, oC #[vS "_law_cell_at" 342, vS "_law_cell_at" 343, cP 344, vI 66 0, vI 2 0, i0, i0, i3, vR 132, vT, i1, vR 133, vN, vR 134, vR 135, vR 136, vI 347 0, vI 66 0, cP 348])
, (138, oF vF "_law_cell_at" "_law_cell_at" (top 23) 3 (vS "law_turnery_k51_papers_asked" 340) (vR 137))
, (139, oT #[])
, (141, oT #[vS "_law_cell" 353, vS "_law_count" 354, vS "_law_found" 355, vS "_law_x" 356, vS "_law_k" 357])
, (142, oT #[])
, (144, oC #[vS "_law_stream" 350, vS "_law_stream" 351, cP 352, vI 70 0, vI 2 0, i0, i0, i3, vR 139, vT, i1, vR 140, vN, vR 141, vR 142, vR 143, vI 358 0, vI 70 0, cP 359])
, (145, oF vF "_law_stream" "_law_stream" (top 24) 3 (vS "law_turnery_k51_papers_asked" 340) (vR 144))
, (146, oT #[])
, (148, oT #[vS "_law_cell" 364, vS "_law_count" 365, vS "_law_letters" 366, vS "_law_long" 367, vS "_law_spot" 368, vS "_law_found" 369, vS "_law_k" 370, vS "_law_name" 371, vS "_law_j" 372, vS "_law_step" 373])
, (149, oT #[])
, (151, oC #[vS "_law_names" 361, vS "_law_names" 362, cP 363, vI 77 0, vI 2 0, i0, i0, i3, vR 146, vT, i1, vR 147, vN, vR 148, vR 149, vR 150, vI 374 0, vI 77 0, cP 375])
, (152, oF vF "_law_names" "_law_names" (top 25) 3 (vS "law_turnery_k51_papers_asked" 340) (vR 151))
, (153, oT #[])
, (155, oT #[vS "_law_script" 380, vS "_law_names_here" 381, vS "_law_xs" 382, vS "_law_kinds" 383, vS "_law_wood_here" 384, vS "_law_kind" 385, vS "_law_first" 386, vS "_law_rows_here" 387, vS "_law_k" 388, vS "_law_branches" 389, vS "_law_j" 390])
, (156, oT #[])
, (158, oC #[vS "_law_wood" 377, vS "_law_wood" 378, cP 379, vI 91 0, vI 1 0, i0, i0, i3, vR 153, vT, i1, vR 154, vN, vR 155, vR 156, vR 157, vI 391 0, vI 91 0, cP 392])
, (159, oF vF "_law_wood" "_law_wood" (top 26) 3 (vS "law_turnery_k51_papers_asked" 340) (vR 158))
, (160, oT #[])
, (162, oT #[vS "_law_wood_here" 397, vS "_law_kind" 398, vS "_law_told" 399, vS "_law_rows_here" 400])
, (163, oT #[])
, (165, oC #[vS "_law_rows" 394, vS "_law_rows" 395, cP 396, vI 106 0, vI 2 0, i0, i0, i3, vR 160, vT, i1, vR 161, vN, vR 162, vR 163, vR 164, vI 401 0, vI 106 0, cP 402])
, (166, oF vF "_law_rows" "_law_rows" (top 27) 3 (vS "law_turnery_k51_papers_asked" 340) (vR 165))
, (167, oT #[])
, (169, oT #[vS "_law_branches" 407, vS "_law_kinds" 408, vS "_law_found" 409, vS "_law_j" 410, vS "_law_k" 411])
, (170, oT #[])
, (172, oC #[vS "_law_calls" 404, vS "_law_calls" 405, cP 406, vI 111 0, vI 2 0, i0, i0, i3, vR 167, vT, i1, vR 168, vN, vR 169, vR 170, vR 171, vI 412 0, vI 111 0, cP 413])
, (173, oF vF "_law_calls" "_law_calls" (top 28) 3 (vS "law_turnery_k51_papers_asked" 340) (vR 172))
, (174, oT #[])
, (177, oC #[vS "_law_term" 415, vS "_law_term" 416, cP 417, vI 118 0, vI 5 0, i0, i0, i3, vR 174, vT, i1, vR 175, vN, vN, vN, vR 176, vI 418 0, vI 118 0, cP 419])
, (178, oF vF "_law_term" "_law_term" (top 29) 3 (vS "law_turnery_k51_papers_asked" 340) (vR 177))
, (179, oT #[])
, (182, oC #[vS "_law_unkept" 421, vS "_law_unkept" 422, cP 423, vI 127 0, vI 1 0, i0, i0, i3, vR 179, vT, i1, vR 180, vN, vN, vN, vR 181, vI 424 0, vI 127 0, cP 425])
, (183, oF vF "_law_unkept" "_law_unkept" (top 30) 3 (vS "law_turnery_k51_papers_asked" 340) (vR 182))
, (184, oT #[])
, (187, oC #[vS "_law_turning" 427, vS "_law_turning" 428, cP 429, vI 131 0, vI 2 0, i0, i0, i3, vR 184, vT, i1, vR 185, vN, vN, vN, vR 186, vI 430 0, vI 131 0, cP 431])
, (188, oF vF "_law_turning" "_law_turning" (top 31) 3 (vS "law_turnery_k51_papers_asked" 340) (vR 187))
, (189, oT #[])
, (192, oC #[vS "_law_again" 433, vS "_law_again" 434, cP 435, vI 149 0, vI 1 0, i0, i0, i3, vR 189, vT, i1, vR 190, vN, vN, vN, vR 191, vI 436 0, vI 149 0, cP 437])
, (193, oF vF "_law_again" "_law_again" (top 32) 3 (vS "law_turnery_k51_papers_asked" 340) (vR 192))
, (194, oT #[])
, (197, oC #[vS "_law_renamed" 439, vS "_law_renamed" 440, cP 441, vI 152 0, vI 2 0, i0, i0, i3, vR 194, vT, i1, vR 195, vN, vN, vN, vR 196, vI 442 0, vI 152 0, cP 443])
, (198, oF vF "_law_renamed" "_law_renamed" (top 33) 3 (vS "law_turnery_k51_papers_asked" 340) (vR 197))
, (199, oT #[])
, (202, oC #[vS "_law_turned_about" 445, vS "_law_turned_about" 446, cP 447, vI 156 0, vI 2 0, i0, i0, i3, vR 199, vT, i1, vR 200, vN, vN, vN, vR 201, vI 448 0, vI 156 0, cP 449])
, (203, oF vF "_law_turned_about" "_law_turned_about" (top 34) 3 (vS "law_turnery_k51_papers_asked" 340) (vR 202))
, (204, oT #[])
, (207, oC #[vS "_law_doubled" 451, vS "_law_doubled" 452, cP 453, vI 164 0, vI 3 0, i0, i0, i3, vR 204, vT, i1, vR 205, vN, vN, vN, vR 206, vI 454 0, vI 164 0, cP 455])
, (208, oF vF "_law_doubled" "_law_doubled" (top 35) 3 (vS "law_turnery_k51_papers_asked" 340) (vR 207))
, (209, oT #[])
, (212, oC #[vS "_law_ruled" 457, vS "_law_ruled" 458, cP 459, vI 174 0, vI 3 0, i0, i0, i3, vR 209, vT, i1, vR 210, vN, vN, vN, vR 211, vI 460 0, vI 174 0, cP 461])
, (213, oF vF "_law_ruled" "_law_ruled" (top 36) 3 (vS "law_turnery_k51_papers_asked" 340) (vR 212))
, (214, oT #[])
, (217, oC #[vS "_law_held_back" 463, vS "_law_held_back" 464, cP 465, vI 178 0, vI 1 0, i0, i0, i3, vR 214, vT, i1, vR 215, vN, vN, vN, vR 216, vI 466 0, vI 178 0, cP 467])
, (218, oF vF "_law_held_back" "_law_held_back" (top 37) 3 (vS "law_turnery_k51_papers_asked" 340) (vR 217))
, (219, oT #[])
, (222, oC #[vS "_law_size" 469, vS "_law_size" 470, cP 471, vI 182 0, vI 1 0, i0, i0, i3, vR 219, vT, i1, vR 220, vN, vN, vN, vR 221, vI 472 0, vI 182 0, cP 473])
, (223, oF vF "_law_size" "_law_size" (top 38) 3 (vS "law_turnery_k51_papers_asked" 340) (vR 222))
, (224, oT #[])
, (227, oC #[vS "_law_many" 475, vS "_law_many" 476, cP 477, vI 186 0, vI 1 0, i0, i0, i3, vR 224, vT, i1, vR 225, vN, vN, vN, vR 226, vI 478 0, vI 186 0, cP 479])
, (228, oF vF "_law_many" "_law_many" (top 39) 3 (vS "law_turnery_k51_papers_asked" 340) (vR 227))
, (229, oT #[])
, (232, oC #[vS "_law_with_paper" 481, vS "_law_with_paper" 482, cP 483, vI 188 0, vI 2 0, i0, i0, i3, vR 229, vT, i1, vR 230, vN, vN, vN, vR 231, vI 484 0, vI 188 0, cP 485])
, (233, oF vF "_law_with_paper" "_law_with_paper" (top 40) 3 (vS "law_turnery_k51_papers_asked" 340) (vR 232))
, (234, oT #[])
, (237, oC #[vS "_law_on" 487, vS "_law_on" 488, cP 489, vI 199 0, vI 2 0, i0, i0, i3, vR 234, vT, i1, vR 235, vN, vN, vN, vR 236, vI 490 0, vI 199 0, cP 491])
, (238, oF vF "_law_on" "_law_on" (top 41) 3 (vS "law_turnery_k51_papers_asked" 340) (vR 237))
, (239, oT #[])
, (242, oC #[vS "_law_termed" 493, vS "_law_termed" 494, cP 495, vI 203 0, vI 2 0, i0, i0, i3, vR 239, vT, i1, vR 240, vN, vN, vN, vR 241, vI 496 0, vI 203 0, cP 497])
, (243, oF vF "_law_termed" "_law_termed" (top 42) 3 (vS "law_turnery_k51_papers_asked" 340) (vR 242))
, (244, oT #[])
, (247, oC #[vS "_law_keys" 499, vS "_law_keys" 500, cP 501, vI 207 0, vI 3 0, i0, i0, i3, vR 244, vT, i1, vR 245, vN, vN, vN, vR 246, vI 502 0, vI 207 0, cP 503])
, (248, oF vF "_law_keys" "_law_keys" (top 43) 3 (vS "law_turnery_k51_papers_asked" 340) (vR 247))
, (249, oT #[])
, (252, oC #[vS "_law_has" 505, vS "_law_has" 506, cP 507, vI 211 0, vI 2 0, i0, i0, i3, vR 249, vT, i1, vR 250, vN, vN, vN, vR 251, vI 508 0, vI 211 0, cP 509])
, (253, oF vF "_law_has" "_law_has" (top 44) 3 (vS "law_turnery_k51_papers_asked" 340) (vR 252))
, (254, oT #[])
, (256, oT #[vS "_law_one" 514, vS "_law_terms" 515, vS "_law_other" 516, vS "_law_k" 517, vS "_law_kind" 518, vS "_law_rules" 519, vS "_law_row" 520])
, (257, oT #[])
, (259, oC #[vS "_law_is_paper" 511, vS "_law_is_paper" 512, cP 513, vI 215 0, vI 3 0, i0, i0, i3, vR 254, vT, i1, vR 255, vN, vR 256, vR 257, vR 258, vI 521 0, vI 215 0, cP 522])
, (260, oF vF "_law_is_paper" "_law_is_paper" (top 45) 3 (vS "law_turnery_k51_papers_asked" 340) (vR 259))
, (261, oT #[])
, (264, oC #[vS "_law_other_rule" 524, vS "_law_other_rule" 525, cP 526, vI 230 0, vI 4 0, i0, i0, i3, vR 261, vT, i1, vR 262, vN, vN, vN, vR 263, vI 527 0, vI 230 0, cP 528])
, (265, oF vF "_law_other_rule" "_law_other_rule" (top 46) 3 (vS "law_turnery_k51_papers_asked" 340) (vR 264))
, (266, oT #[])
, (268, oT #[vS "_law_term_here" 533, vS "_law_add" 534])
, (269, oT #[])
, (271, oC #[vS "_law_more" 530, vS "_law_more" 531, cP 532, vI 234 0, vI 2 0, i0, i0, i3, vR 266, vT, i1, vR 267, vN, vR 268, vR 269, vR 270, vI 535 0, vI 234 0, cP 536])
, (272, oF vF "_law_more" "_law_more" (top 47) 3 (vS "law_turnery_k51_papers_asked" 340) (vR 271))
, (273, oT #[])
, (275, oT #[vS "_law_script" 541, vS "_law_wood_here" 542, vS "_law_other" 543, vS "_law_xs" 544, vS "_law_one" 545, vS "_law_terms" 546, vS "_law_right" 547, vS "_law_add" 548, vS "_law_mode" 549, vS "_law_way" 550, vS "_law_row" 551, vS "_law_handed" 552, vS "_law_due" 553, vS "_law_found" 554])
, (276, oT #[])
, (278, oC #[vS "law" 538, vS "law" 539, cP 540, vI 238 0, vI 1 0, i0, i0, i3, vR 273, vT, i1, vR 274, vN, vR 275, vR 276, vR 277, vI 555 0, vI 238 0, cP 556])
, (279, oF vF "law" "law" (top 48) 3 (vS "law_turnery_k51_papers_asked" 340) (vR 278)) ]
end
noncomputable def PySem.W.Fast.tw7096962122900600412 : PySem.Params → PySem.W.Frag := K51.hp
theorem PySem.W.Fast.te7096962122900600412 : K51.hp = PySem.W.Fast.tw7096962122900600412 := rfl
namespace PySem.W.Fast
open PySem K51
noncomputable def tw4374082796055128637 : Params → Obj := fun P => oF vF "_law_wood" "_law_wood" (top 26) 3 (vS "law_turnery_k51_papers_asked" 340) (vR 158)
theorem te4374082796055128637 : tw4374082796055128637 = tw4374082796055128637 := rfl
noncomputable def tw7024617002903688718 : Params → Obj := fun P => oF vF "need_one_wood" "need_one_wood" (top 14) 3 (vS "turnery.turnings" 273) (vR 98)
theorem te7024617002903688718 : tw7024617002903688718 = tw7024617002903688718 := rfl
noncomputable def tw8272719347577055813 : Params → Obj := fun P => oF vN "_law_more" "_law_more" (top 47) 0 vN vN
theorem te8272719347577055813 : tw8272719347577055813 = tw8272719347577055813 := rfl
noncomputable def tw10690914373621718098 : Params → Obj := fun P => oF vN "_law_rows" "_law_rows" (top 27) 0 vN vN
theorem te10690914373621718098 : tw10690914373621718098 = tw10690914373621718098 := rfl
noncomputable def tw3067324623807813520 : Params → Obj := fun P => oF vF "_law_renamed" "_law_renamed" (top 33) 3 (vS "law_turnery_k51_papers_asked" 340) (vR 197)
theorem te3067324623807813520 : tw3067324623807813520 = tw3067324623807813520 := rfl
noncomputable def tw5008173152418828831 : Params → Obj := fun P => oF vN "_law_term" "_law_term" (top 29) 0 vN vN
theorem te5008173152418828831 : tw5008173152418828831 = tw5008173152418828831 := rfl
noncomputable def tw4396206362571807441 : Params → Obj := fun P => oF vF "_law_held_back" "_law_held_back" (top 37) 3 (vS "law_turnery_k51_papers_asked" 340) (vR 217)
theorem te4396206362571807441 : tw4396206362571807441 = tw4396206362571807441 := rfl
noncomputable def tw16400352491943424660 : Params → Obj := fun P => oF vN "rules_have_terms" "rules_have_terms" (top 19) 0 vN vN
theorem te16400352491943424660 : tw16400352491943424660 = tw16400352491943424660 := rfl
noncomputable def tw17294071032644691791 : Params → Obj := fun P => oF vF "_law_has" "_law_has" (top 44) 3 (vS "law_turnery_k51_papers_asked" 340) (vR 252)
theorem te17294071032644691791 : tw17294071032644691791 = tw17294071032644691791 := rfl
noncomputable def tw2020108288615549843 : Params → Obj := fun P => oF vF "call_fits" "call_fits" (top 13) 3 (vS "turnery.turnings" 273) (vR 91)
theorem te2020108288615549843 : tw2020108288615549843 = tw2020108288615549843 := rfl
noncomputable def tw9327699145284163723 : Params → Obj := fun P => oF vN "_law_is_paper" "_law_is_paper" (top 45) 0 vN vN
theorem te9327699145284163723 : tw9327699145284163723 = tw9327699145284163723 := rfl
noncomputable def tw1073471326518192471 : Params → Obj := fun P => oF vF "calls_of" "calls_of" (top 2) 3 (vS "turnery.terms" 187) (vR 27)
theorem te1073471326518192471 : tw1073471326518192471 = tw1073471326518192471 := rfl
noncomputable def tw3176052405180031768 : Params → Obj := fun P => oF vN "_law_termed" "_law_termed" (top 42) 0 vN vN
theorem te3176052405180031768 : tw3176052405180031768 = tw3176052405180031768 := rfl
noncomputable def tw17034969144994793604 : Params → Obj := fun P => oF vN "_law_other_rule" "_law_other_rule" (top 46) 0 vN vN
theorem te17034969144994793604 : tw17034969144994793604 = tw17034969144994793604 := rfl
noncomputable def tw1633846358010365437 : Params → Obj := fun P => oF vF "_law_cell_at" "_law_cell_at" (top 23) 3 (vS "law_turnery_k51_papers_asked" 340) (vR 137)
theorem te1633846358010365437 : tw1633846358010365437 = tw1633846358010365437 := rfl
noncomputable def tw6498363921168228637 : Params → Obj := fun P => oF vN "_law_stream" "_law_stream" (top 24) 0 vN vN
theorem te6498363921168228637 : tw6498363921168228637 = tw6498363921168228637 := rfl
noncomputable def tw11611904347390924784 : Params → Obj := fun P => oF vN "_law_many" "_law_many" (top 39) 0 vN vN
theorem te11611904347390924784 : tw11611904347390924784 = tw11611904347390924784 := rfl
noncomputable def tw13290505129747621748 : Params → Obj := fun P => oF vN "is_call" "is_call" (top 1) 0 vN vN
theorem te13290505129747621748 : tw13290505129747621748 = tw13290505129747621748 := rfl
noncomputable def tw13724243045298218672 : Params → Obj := fun P => oF vN "term_fits" "term_fits" (top 17) 0 vN vN
theorem te13724243045298218672 : tw13724243045298218672 = tw13724243045298218672 := rfl
noncomputable def tw16095685904396581123 : Params → Obj := fun P => oF vN "_law_with_paper" "_law_with_paper" (top 40) 0 vN vN
theorem te16095685904396581123 : tw16095685904396581123 = tw16095685904396581123 := rfl
noncomputable def tw17539966466314195167 : Params → Obj := fun P => oF vF "_law_names" "_law_names" (top 25) 3 (vS "law_turnery_k51_papers_asked" 340) (vR 151)
theorem te17539966466314195167 : tw17539966466314195167 = tw17539966466314195167 := rfl
noncomputable def tw17020531607010275446 : Params → Obj := fun P => oF vN "_law_doubled" "_law_doubled" (top 35) 0 vN vN
theorem te17020531607010275446 : tw17020531607010275446 = tw17020531607010275446 := rfl
noncomputable def tw16398785435573745049 : Params → Obj := fun P => oF vF "calls_fit" "calls_fit" (top 12) 3 (vS "turnery.turnings" 273) (vR 84)
theorem te16398785435573745049 : tw16398785435573745049 = tw16398785435573745049 := rfl
noncomputable def tw14518730745517193111 : Params → Obj := fun P => oF vN "with_parts" "with_parts" (top 7) 0 vN vN
theorem te14518730745517193111 : tw14518730745517193111 = tw14518730745517193111 := rfl
noncomputable def tw6040957860758303818 : Params → Obj := fun P => oF vF "_law_size" "_law_size" (top 38) 3 (vS "law_turnery_k51_papers_asked" 340) (vR 222)
theorem te6040957860758303818 : tw6040957860758303818 = tw6040957860758303818 := rfl
noncomputable def tw273796439485718517 : Params → Obj := fun P => oF vF "has_terms" "has_terms" (top 18) 3 (vS "turnery.papers" 299) (vR 115)
theorem te273796439485718517 : tw273796439485718517 = tw273796439485718517 := rfl
noncomputable def tw94582672963484914 : Params → Obj := fun P => oF vN "_law_names" "_law_names" (top 25) 0 vN vN
theorem te94582672963484914 : tw94582672963484914 = tw94582672963484914 := rfl
noncomputable def tw4973690158890810731 : Params → Obj := fun P => oF vN "is_paper" "is_paper" (top 16) 0 vN vN
theorem te4973690158890810731 : tw4973690158890810731 = tw4973690158890810731 := rfl
noncomputable def tw15834358357180002702 : Params → Obj := fun P => oF vN "rules_for" "rules_for" (top 21) 0 vN vN
theorem te15834358357180002702 : tw15834358357180002702 = tw15834358357180002702 := rfl
noncomputable def tw14821973667321332953 : Params → Obj := fun P => oF vF "is_call" "is_call" (top 1) 3 (vS "turnery.terms" 187) (vR 20)
theorem te14821973667321332953 : tw14821973667321332953 = tw14821973667321332953 := rfl
noncomputable def tw8593658057462654150 : Params → Obj := fun P => oF vF "_law_stream" "_law_stream" (top 24) 3 (vS "law_turnery_k51_papers_asked" 340) (vR 144)
theorem te8593658057462654150 : tw8593658057462654150 = tw8593658057462654150 := rfl
noncomputable def tw8267093104396079404 : Params → Obj := fun P => oF vF "_law_on" "_law_on" (top 41) 3 (vS "law_turnery_k51_papers_asked" 340) (vR 237)
theorem te8267093104396079404 : tw8267093104396079404 = tw8267093104396079404 := rfl
noncomputable def tw6105652873309055922 : Params → Obj := fun P => oF vN "has_terms" "has_terms" (top 18) 0 vN vN
theorem te6105652873309055922 : tw6105652873309055922 = tw6105652873309055922 := rfl
noncomputable def tw7910666438746631697 : Params → Obj := fun P => oF vF "term_fits" "term_fits" (top 17) 3 (vS "turnery.papers" 299) (vR 110)
theorem te7910666438746631697 : tw7910666438746631697 = tw7910666438746631697 := rfl
noncomputable def tw15608778905466235048 : Params → Obj := fun P => oF vN "keeps_mark" "keeps_mark" (top 3) 0 vN vN
theorem te15608778905466235048 : tw15608778905466235048 = tw15608778905466235048 := rfl
noncomputable def tw17238037014063542711 : Params → Obj := fun P => oF vF "_law_ruled" "_law_ruled" (top 36) 3 (vS "law_turnery_k51_papers_asked" 340) (vR 212)
theorem te17238037014063542711 : tw17238037014063542711 = tw17238037014063542711 := rfl
noncomputable def tw6777757009834847599 : Params → Obj := fun P => oF vN "_law_wood" "_law_wood" (top 26) 0 vN vN
theorem te6777757009834847599 : tw6777757009834847599 = tw6777757009834847599 := rfl
noncomputable def tw12705234776840381694 : Params → Obj := fun P => oF vN "calls_of" "calls_of" (top 2) 0 vN vN
theorem te12705234776840381694 : tw12705234776840381694 = tw12705234776840381694 := rfl
noncomputable def tw12379285492476863895 : Params → Obj := fun P => oF vF "law" "law" (top 48) 3 (vS "law_turnery_k51_papers_asked" 340) (vR 278)
theorem te12379285492476863895 : tw12379285492476863895 = tw12379285492476863895 := rfl
noncomputable def tw3519279545101849303 : Params → Obj := fun P => oF vN "law" "law" (top 48) 0 vN vN
theorem te3519279545101849303 : tw3519279545101849303 = tw3519279545101849303 := rfl
noncomputable def tw16456019549078106129 : Params → Obj := fun P => oF vN "_law_renamed" "_law_renamed" (top 33) 0 vN vN
theorem te16456019549078106129 : tw16456019549078106129 = tw16456019549078106129 := rfl
noncomputable def tw11281465530682671831 : Params → Obj := fun P => oF vF "rules_in" "rules_in" (top 5) 3 (vS "turnery.terms" 187) (vR 42)
theorem te11281465530682671831 : tw11281465530682671831 = tw11281465530682671831 := rfl
noncomputable def tw7077488996464358183 : Params → Obj := fun P => oF vF "rules_have_terms" "rules_have_terms" (top 19) 3 (vS "turnery.papers" 299) (vR 120)
theorem te7077488996464358183 : tw7077488996464358183 = tw7077488996464358183 := rfl
noncomputable def tw8753000697875834250 : Params → Obj := fun P => oF vF "rules_for" "rules_for" (top 21) 3 (vS "turnery.papers" 299) (vR 130)
theorem te8753000697875834250 : tw8753000697875834250 = tw8753000697875834250 := rfl
noncomputable def tw7201291965877123001 : Params → Obj := fun P => oF vF "terms_in" "terms_in" (top 4) 3 (vS "turnery.terms" 187) (vR 37)
theorem te7201291965877123001 : tw7201291965877123001 = tw7201291965877123001 := rfl
noncomputable def tw11132281052056696337 : Params → Obj := fun P => oF vN "_law_has" "_law_has" (top 44) 0 vN vN
theorem te11132281052056696337 : tw11132281052056696337 = tw11132281052056696337 := rfl
noncomputable def tw765816379345031442 : Params → Obj := fun P => oF vF "_law_rows" "_law_rows" (top 27) 3 (vS "law_turnery_k51_papers_asked" 340) (vR 165)
theorem te765816379345031442 : tw765816379345031442 = tw765816379345031442 := rfl
noncomputable def tw10607726559088721861 : Params → Obj := fun P => oF vN "_law_calls" "_law_calls" (top 28) 0 vN vN
theorem te10607726559088721861 : tw10607726559088721861 = tw10607726559088721861 := rfl
noncomputable def tw17083682552827933082 : Params → Obj := fun P => oF vF "keeps_mark" "keeps_mark" (top 3) 3 (vS "turnery.terms" 187) (vR 32)
theorem te17083682552827933082 : tw17083682552827933082 = tw17083682552827933082 := rfl
noncomputable def tw12300218469104571280 : Params → Obj := fun P => oF vF "_law_doubled" "_law_doubled" (top 35) 3 (vS "law_turnery_k51_papers_asked" 340) (vR 207)
theorem te12300218469104571280 : tw12300218469104571280 = tw12300218469104571280 := rfl
noncomputable def tw5455388338449363220 : Params → Obj := fun P => oF vN "_law_ruled" "_law_ruled" (top 36) 0 vN vN
theorem te5455388338449363220 : tw5455388338449363220 = tw5455388338449363220 := rfl
noncomputable def tw18365082335074039916 : Params → Obj := fun P => oF vF "_law_turning" "_law_turning" (top 31) 3 (vS "law_turnery_k51_papers_asked" 340) (vR 187)
theorem te18365082335074039916 : tw18365082335074039916 = tw18365082335074039916 := rfl
noncomputable def tw1568295494446753591 : Params → Obj := fun P => oF vN "_law_on" "_law_on" (top 41) 0 vN vN
theorem te1568295494446753591 : tw1568295494446753591 = tw1568295494446753591 := rfl
noncomputable def tw8763038276837028898 : Params → Obj := fun P => oF vN "rules_in" "rules_in" (top 5) 0 vN vN
theorem te8763038276837028898 : tw8763038276837028898 = tw8763038276837028898 := rfl
noncomputable def tw12586430763289255156 : Params → Obj := fun P => oF vF "on_branch" "on_branch" (top 6) 3 (vS "turnery.terms" 187) (vR 47)
theorem te12586430763289255156 : tw12586430763289255156 = tw12586430763289255156 := rfl
noncomputable def tw6630422020514007036 : Params → Obj := fun P => oF vN "_law_keys" "_law_keys" (top 43) 0 vN vN
theorem te6630422020514007036 : tw6630422020514007036 = tw6630422020514007036 := rfl
noncomputable def tw8256222883419847399 : Params → Obj := fun P => oF vF "_law_calls" "_law_calls" (top 28) 3 (vS "law_turnery_k51_papers_asked" 340) (vR 172)
theorem te8256222883419847399 : tw8256222883419847399 = tw8256222883419847399 := rfl
noncomputable def tw3200724554182164862 : Params → Obj := fun P => oF vN "_law_held_back" "_law_held_back" (top 37) 0 vN vN
theorem te3200724554182164862 : tw3200724554182164862 = tw3200724554182164862 := rfl
noncomputable def tw17821068775412975260 : Params → Obj := fun P => oF vF "_law_more" "_law_more" (top 47) 3 (vS "law_turnery_k51_papers_asked" 340) (vR 271)
theorem te17821068775412975260 : tw17821068775412975260 = tw17821068775412975260 := rfl
noncomputable def tw6890187374330643762 : Params → Obj := fun P => oF vF "_law_again" "_law_again" (top 32) 3 (vS "law_turnery_k51_papers_asked" 340) (vR 192)
theorem te6890187374330643762 : tw6890187374330643762 = tw6890187374330643762 := rfl
noncomputable def tw1487361845422994053 : Params → Obj := fun P => oF vF "_law_keys" "_law_keys" (top 43) 3 (vS "law_turnery_k51_papers_asked" 340) (vR 247)
theorem te1487361845422994053 : tw1487361845422994053 = tw1487361845422994053 := rfl
noncomputable def tw9491591422740538771 : Params → Obj := fun P => oF vF "_law_with_paper" "_law_with_paper" (top 40) 3 (vS "law_turnery_k51_papers_asked" 340) (vR 232)
theorem te9491591422740538771 : tw9491591422740538771 = tw9491591422740538771 := rfl
noncomputable def tw11097233770514503072 : Params → Obj := fun P => oF vF "with_parts" "with_parts" (top 7) 3 (vS "turnery.terms" 187) (vR 54)
theorem te11097233770514503072 : tw11097233770514503072 = tw11097233770514503072 := rfl
noncomputable def tw6267790799381875 : Params → Obj := fun P => oF vF "_law_termed" "_law_termed" (top 42) 3 (vS "law_turnery_k51_papers_asked" 340) (vR 242)
theorem te6267790799381875 : tw6267790799381875 = tw6267790799381875 := rfl
noncomputable def tw7205343856682674707 : Params → Obj := fun P => oF vN "terms_in" "terms_in" (top 4) 0 vN vN
theorem te7205343856682674707 : tw7205343856682674707 = tw7205343856682674707 := rfl
noncomputable def tw13921264145438982144 : Params → Obj := fun P => oF vF "_law_turned_about" "_law_turned_about" (top 34) 3 (vS "law_turnery_k51_papers_asked" 340) (vR 202)
theorem te13921264145438982144 : tw13921264145438982144 = tw13921264145438982144 := rfl
noncomputable def tw7083469246316826166 : Params → Obj := fun P => oF vN "rules_agree" "rules_agree" (top 20) 0 vN vN
theorem te7083469246316826166 : tw7083469246316826166 = tw7083469246316826166 := rfl
noncomputable def tw11823508516673581372 : Params → Obj := fun P => oF vF "_law_many" "_law_many" (top 39) 3 (vS "law_turnery_k51_papers_asked" 340) (vR 227)
theorem te11823508516673581372 : tw11823508516673581372 = tw11823508516673581372 := rfl
noncomputable def tw3445271032467663625 : Params → Obj := fun P => oF vF "_law_other_rule" "_law_other_rule" (top 46) 3 (vS "law_turnery_k51_papers_asked" 340) (vR 264)
theorem te3445271032467663625 : tw3445271032467663625 = tw3445271032467663625 := rfl
noncomputable def tw6964127335565128598 : Params → Obj := fun P => oF vN "_law_size" "_law_size" (top 38) 0 vN vN
theorem te6964127335565128598 : tw6964127335565128598 = tw6964127335565128598 := rfl
noncomputable def tw4791372281197076394 : Params → Obj := fun P => oF vN "_law_again" "_law_again" (top 32) 0 vN vN
theorem te4791372281197076394 : tw4791372281197076394 = tw4791372281197076394 := rfl
noncomputable def tw694790294160197097 : Params → Obj := fun P => oF vN "_law_unkept" "_law_unkept" (top 30) 0 vN vN
theorem te694790294160197097 : tw694790294160197097 = tw694790294160197097 := rfl
noncomputable def tw1370170370522308520 : Params → Obj := fun P => oF vF "_law_unkept" "_law_unkept" (top 30) 3 (vS "law_turnery_k51_papers_asked" 340) (vR 182)
theorem te1370170370522308520 : tw1370170370522308520 = tw1370170370522308520 := rfl
noncomputable def tw11162628576855492921 : Params → Obj := fun P => oF vN "calls_fit" "calls_fit" (top 12) 0 vN vN
theorem te11162628576855492921 : tw11162628576855492921 = tw11162628576855492921 := rfl
noncomputable def tw16060698091661025803 : Params → Obj := fun P => oF vF "is_paper" "is_paper" (top 16) 3 (vS "turnery.papers" 299) (vR 103)
theorem te16060698091661025803 : tw16060698091661025803 = tw16060698091661025803 := rfl
noncomputable def tw7072092797085873245 : Params → Obj := fun P => oF vF "_law_is_paper" "_law_is_paper" (top 45) 3 (vS "law_turnery_k51_papers_asked" 340) (vR 259)
theorem te7072092797085873245 : tw7072092797085873245 = tw7072092797085873245 := rfl
noncomputable def tw12780323334295262348 : Params → Obj := fun P => oF vN "_law_cell_at" "_law_cell_at" (top 23) 0 vN vN
theorem te12780323334295262348 : tw12780323334295262348 = tw12780323334295262348 := rfl
noncomputable def tw771258622582397355 : Params → Obj := fun P => oF vN "_law_turning" "_law_turning" (top 31) 0 vN vN
theorem te771258622582397355 : tw771258622582397355 = tw771258622582397355 := rfl
noncomputable def tw10788551203116537639 : Params → Obj := fun P => oF vN "on_branch" "on_branch" (top 6) 0 vN vN
theorem te10788551203116537639 : tw10788551203116537639 = tw10788551203116537639 := rfl
noncomputable def tw17047176425196425031 : Params → Obj := fun P => oF vF "_law_term" "_law_term" (top 29) 3 (vS "law_turnery_k51_papers_asked" 340) (vR 177)
theorem te17047176425196425031 : tw17047176425196425031 = tw17047176425196425031 := rfl
noncomputable def tw30390080920763250 : Params → Obj := fun P => oF vN "call_fits" "call_fits" (top 13) 0 vN vN
theorem te30390080920763250 : tw30390080920763250 = tw30390080920763250 := rfl
noncomputable def tw2591663051516725992 : Params → Obj := fun P => oF vN "_law_turned_about" "_law_turned_about" (top 34) 0 vN vN
theorem te2591663051516725992 : tw2591663051516725992 = tw2591663051516725992 := rfl
noncomputable def tw8999221770776569105 : Params → Obj := fun P => oF vN "need_one_wood" "need_one_wood" (top 14) 0 vN vN
theorem te8999221770776569105 : tw8999221770776569105 = tw8999221770776569105 := rfl
noncomputable def tw10787635773522751455 : Params → Obj := fun P => oF vF "rules_agree" "rules_agree" (top 20) 3 (vS "turnery.papers" 299) (vR 125)
theorem te10787635773522751455 : tw10787635773522751455 = tw10787635773522751455 := rfl
end PySem.W.Fast
noncomputable def PySem.W.Fast.tw9314461046585303371 : PySem.Program := PySem.Challenge.pw_turnery_k51_papers_asked
theorem PySem.W.Fast.te9314461046585303371 : (PySem.Challenge.pw_turnery_k51_papers_asked : PySem.Program) = PySem.W.Fast.tw9314461046585303371 := rfl
noncomputable def PySem.W.Fast.tw10082399674981033889 : PySem.Program := { PySem.Challenge.pw_turnery_k51_papers_asked with main := { PySem.Challenge.pw_turnery_k51_papers_asked.main with body := [K51.top 1, K51.top 2, K51.top 3, K51.top 4, K51.top 5, K51.top 6, K51.top 7, K51.top 9, K51.top 10, K51.top 12, K51.top 13, K51.top 14, K51.top 16, K51.top 17, K51.top 18, K51.top 19, K51.top 20, K51.top 21, K51.top 23, K51.top 24, K51.top 25, K51.top 26, K51.top 27, K51.top 28, K51.top 29, K51.top 30, K51.top 31, K51.top 32, K51.top 33, K51.top 34, K51.top 35, K51.top 36, K51.top 37, K51.top 38, K51.top 39, K51.top 40, K51.top 41, K51.top 42, K51.top 43, K51.top 44, K51.top 45, K51.top 46, K51.top 47, K51.top 48] } }
theorem PySem.W.Fast.te10082399674981033889 : ({ PySem.Challenge.pw_turnery_k51_papers_asked with main := { PySem.Challenge.pw_turnery_k51_papers_asked.main with body := [K51.top 1, K51.top 2, K51.top 3, K51.top 4, K51.top 5, K51.top 6, K51.top 7, K51.top 9, K51.top 10, K51.top 12, K51.top 13, K51.top 14, K51.top 16, K51.top 17, K51.top 18, K51.top 19, K51.top 20, K51.top 21, K51.top 23, K51.top 24, K51.top 25, K51.top 26, K51.top 27, K51.top 28, K51.top 29, K51.top 30, K51.top 31, K51.top 32, K51.top 33, K51.top 34, K51.top 35, K51.top 36, K51.top 37, K51.top 38, K51.top 39, K51.top 40, K51.top 41, K51.top 42, K51.top 43, K51.top 44, K51.top 45, K51.top 46, K51.top 47, K51.top 48] } } : PySem.Program) = PySem.W.Fast.tw10082399674981033889 := rfl
noncomputable def PySem.W.Fast.tw3348895473956219037 : List PySem.Stmt := (PySem.Challenge.pw_turnery_k51_papers_asked.main.body.drop 0).take 10
theorem PySem.W.Fast.te3348895473956219037 : ((PySem.Challenge.pw_turnery_k51_papers_asked.main.body.drop 0).take 10 : List PySem.Stmt) = PySem.W.Fast.tw3348895473956219037 := rfl
noncomputable def PySem.W.Fast.tw2465153271261611669 : List PySem.Stmt := (PySem.Challenge.pw_turnery_k51_papers_asked.main.body.drop 10).take 8
theorem PySem.W.Fast.te2465153271261611669 : ((PySem.Challenge.pw_turnery_k51_papers_asked.main.body.drop 10).take 8 : List PySem.Stmt) = PySem.W.Fast.tw2465153271261611669 := rfl
noncomputable def PySem.W.Fast.tw1994395197197250978 : List PySem.Stmt := (PySem.Challenge.pw_turnery_k51_papers_asked.main.body.drop 18).take 14
theorem PySem.W.Fast.te1994395197197250978 : ((PySem.Challenge.pw_turnery_k51_papers_asked.main.body.drop 18).take 14 : List PySem.Stmt) = PySem.W.Fast.tw1994395197197250978 := rfl
noncomputable def PySem.W.Fast.tw128822307643791707 : List PySem.Stmt := (PySem.Challenge.pw_turnery_k51_papers_asked.main.body.drop 32).take 15
theorem PySem.W.Fast.te128822307643791707 : ((PySem.Challenge.pw_turnery_k51_papers_asked.main.body.drop 32).take 15 : List PySem.Stmt) = PySem.W.Fast.tw128822307643791707 := rfl
noncomputable def PySem.W.Fast.tw12314777736668701202 : List PySem.Stmt := (PySem.Challenge.pw_turnery_k51_papers_asked.main.body.drop 47).take 2
theorem PySem.W.Fast.te12314777736668701202 : ((PySem.Challenge.pw_turnery_k51_papers_asked.main.body.drop 47).take 2 : List PySem.Stmt) = PySem.W.Fast.tw12314777736668701202 := rfl
open PySem PySem.W PyProof.Rows
set_option maxRecDepth 100000 in
set_option maxHeartbeats 0 in
theorem PySem.Challenge.cw_turnery_k51_papers_asked_holds : PySem.Challenge.rw_turnery_k51_papers_asked.Holds := by
  w_on; o_law; k_head; (case hw => w_witness2)
  k_fill
  refine K51.walk (l := PySem.Challenge.rw_turnery_k51_papers_asked) rfl rfl (fun w h Y => PySem.W.kIn_of Y) ?F
  case F =>
    intro w mg fa h KX G hmg
    refine' K51.all_mk KX G hmg ?d1 ?d2 ?d3 ?d4 ?d5 ?d6 ?d7 ?d8 ?d9 ?d10 ?d11 ?d12 ?d13 ?d14 ?d15 ?d16 ?d17 ?d18 ?d19 ?d20 ?d21 ?d22 ?d23 ?d24 ?d25 ?d26 ?d27 ?d28 ?d29 ?d30 ?d31 ?d32 ?d33 ?d34 ?d35 ?d36 ?d37 ?d38 ?d39 ?d40 ?d41 ?d42 ?z1 ?z2 ?z3 ?z4 ?z5 ?z6 ?z7 ?z8 ?z9 ?z10 ?z11 ?z12
    (case d1 => refine' L2.DefAt.mk' ?a ?l ?c ?k; (case a => k_is); (case l => k_is); (case c => k_is); (case k => k_is))
    (case d2 => refine' L2.DefAt.mk' ?a ?l ?c ?k; (case a => k_is); (case l => k_is); (case c => k_is); (case k => k_is))
    (case d3 => refine' L2.DefAt.mk' ?a ?l ?c ?k; (case a => k_is); (case l => k_is); (case c => k_is); (case k => k_is))
    (case d4 => refine' L2.DefAt.mk' ?a ?l ?c ?k; (case a => k_is); (case l => k_is); (case c => k_is); (case k => k_is))
    (case d5 => refine' L2.DefAt.mk' ?a ?l ?c ?k; (case a => k_is); (case l => k_is); (case c => k_is); (case k => k_is))
    (case d6 => refine' L2.DefAt.mk' ?a ?l ?c ?k; (case a => k_is); (case l => k_is); (case c => k_is); (case k => k_is))
    (case d7 => refine' L2.DefAt.mk' ?a ?l ?c ?k; (case a => k_is); (case l => k_is); (case c => k_is); (case k => k_is))
    (case d8 => refine' L2.DefAt.mk' ?a ?l ?c ?k; (case a => k_is); (case l => k_is); (case c => k_is); (case k => k_is))
    (case d9 => refine' L2.DefAt.mk' ?a ?l ?c ?k; (case a => k_is); (case l => k_is); (case c => k_is); (case k => k_is))
    (case d10 => refine' L2.DefAt.mk' ?a ?l ?c ?k; (case a => k_is); (case l => k_is); (case c => k_is); (case k => k_is))
    (case d11 => refine' L2.DefAt.mk' ?a ?l ?c ?k; (case a => k_is); (case l => k_is); (case c => k_is); (case k => k_is))
    (case d12 => refine' L2.DefAt.mk' ?a ?l ?c ?k; (case a => k_is); (case l => k_is); (case c => k_is); (case k => k_is))
    (case d13 => refine' L2.DefAt.mk' ?a ?l ?c ?k; (case a => k_is); (case l => k_is); (case c => k_is); (case k => k_is))
    (case d14 => refine' L2.DefAt.mk' ?a ?l ?c ?k; (case a => k_is); (case l => k_is); (case c => k_is); (case k => k_is))
    (case d15 => refine' L2.DefAt.mk' ?a ?l ?c ?k; (case a => k_is); (case l => k_is); (case c => k_is); (case k => k_is))
    (case d16 => refine' L2.DefAt.mk' ?a ?l ?c ?k; (case a => k_is); (case l => k_is); (case c => k_is); (case k => k_is))
    (case d17 => refine' L2.DefAt.mk' ?a ?l ?c ?k; (case a => k_is); (case l => k_is); (case c => k_is); (case k => k_is))
    (case d18 => refine' L2.DefAt.mk' ?a ?l ?c ?k; (case a => k_is); (case l => k_is); (case c => k_is); (case k => k_is))
    (case d19 => refine' L2.DefAt.mk' ?a ?l ?c ?k; (case a => k_is); (case l => k_is); (case c => k_is); (case k => k_is))
    (case d20 => refine' L2.DefAt.mk' ?a ?l ?c ?k; (case a => k_is); (case l => k_is); (case c => k_is); (case k => k_is))
    (case d21 => refine' L2.DefAt.mk' ?a ?l ?c ?k; (case a => k_is); (case l => k_is); (case c => k_is); (case k => k_is))
    (case d22 => refine' L2.DefAt.mk' ?a ?l ?c ?k; (case a => k_is); (case l => k_is); (case c => k_is); (case k => k_is))
    (case d23 => refine' L2.DefAt.mk' ?a ?l ?c ?k; (case a => k_is); (case l => k_is); (case c => k_is); (case k => k_is))
    (case d24 => refine' L2.DefAt.mk' ?a ?l ?c ?k; (case a => k_is); (case l => k_is); (case c => k_is); (case k => k_is))
    (case d25 => refine' L2.DefAt.mk' ?a ?l ?c ?k; (case a => k_is); (case l => k_is); (case c => k_is); (case k => k_is))
    (case d26 => refine' L2.DefAt.mk' ?a ?l ?c ?k; (case a => k_is); (case l => k_is); (case c => k_is); (case k => k_is))
    (case d27 => refine' L2.DefAt.mk' ?a ?l ?c ?k; (case a => k_is); (case l => k_is); (case c => k_is); (case k => k_is))
    (case d28 => refine' L2.DefAt.mk' ?a ?l ?c ?k; (case a => k_is); (case l => k_is); (case c => k_is); (case k => k_is))
    (case d29 => refine' L2.DefAt.mk' ?a ?l ?c ?k; (case a => k_is); (case l => k_is); (case c => k_is); (case k => k_is))
    (case d30 => refine' L2.DefAt.mk' ?a ?l ?c ?k; (case a => k_is); (case l => k_is); (case c => k_is); (case k => k_is))
    (case d31 => refine' L2.DefAt.mk' ?a ?l ?c ?k; (case a => k_is); (case l => k_is); (case c => k_is); (case k => k_is))
    (case d32 => refine' L2.DefAt.mk' ?a ?l ?c ?k; (case a => k_is); (case l => k_is); (case c => k_is); (case k => k_is))
    (case d33 => refine' L2.DefAt.mk' ?a ?l ?c ?k; (case a => k_is); (case l => k_is); (case c => k_is); (case k => k_is))
    (case d34 => refine' L2.DefAt.mk' ?a ?l ?c ?k; (case a => k_is); (case l => k_is); (case c => k_is); (case k => k_is))
    (case d35 => refine' L2.DefAt.mk' ?a ?l ?c ?k; (case a => k_is); (case l => k_is); (case c => k_is); (case k => k_is))
    (case d36 => refine' L2.DefAt.mk' ?a ?l ?c ?k; (case a => k_is); (case l => k_is); (case c => k_is); (case k => k_is))
    (case d37 => refine' L2.DefAt.mk' ?a ?l ?c ?k; (case a => k_is); (case l => k_is); (case c => k_is); (case k => k_is))
    (case d38 => refine' L2.DefAt.mk' ?a ?l ?c ?k; (case a => k_is); (case l => k_is); (case c => k_is); (case k => k_is))
    (case d39 => refine' L2.DefAt.mk' ?a ?l ?c ?k; (case a => k_is); (case l => k_is); (case c => k_is); (case k => k_is))
    (case d40 => refine' L2.DefAt.mk' ?a ?l ?c ?k; (case a => k_is); (case l => k_is); (case c => k_is); (case k => k_is))
    (case d41 => refine' L2.DefAt.mk' ?a ?l ?c ?k; (case a => k_is); (case l => k_is); (case c => k_is); (case k => k_is))
    (case d42 => refine' L2.DefAt.mk' ?a ?l ?c ?k; (case a => k_is); (case l => k_is); (case c => k_is); (case k => k_is))
    (case z1 => k_is); (case z2 => k_is); (case z3 => k_is); (case z4 => k_is); (case z5 => k_is); (case z6 => k_is); (case z7 => k_is); (case z8 => k_is); (case z9 => k_is); (case z10 => k_is); (case z11 => k_is); (case z12 => k_is)
