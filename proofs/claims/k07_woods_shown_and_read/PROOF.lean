import PyProof.Rows.All
import Wide.All
import OpenK.AllK
import Wide.FinOn
import Lean
import PyProof.EqAt
import PyProof.EqKinds
import PyProof.TupleCall
import KE.KLam
import KE.KNestM
import KE.KSortTup
import PySem.Challenge.RW_turnery_k07_woods_shown_and_read
noncomputable section
set_option Elab.async false
set_option linter.all false
set_option maxRecDepth 100000
namespace L2
open PySem PySem.Spec PyProof.Rows
abbrev Key := Sum Int Str
def keyIs : Key → Value → Bool
  | .inl k, v => Value.isInt k v
  | .inr x, v => Value.isStrOf x v
def keyH (w : World) : Key → Int
  | .inl k => hashInt k
  | .inr x => hashStr w x
theorem keyIs_shape : ∀ {k : Key} {v : Value}, keyIs k v = true → (∃ i t, k = Sum.inl i ∧ v = Value.int i t) ∨ (∃ x t, k = Sum.inr x ∧ v = Value.str x t)
  | .inl i, v, h => by
    obtain ⟨t, e⟩ := Value.isInt_shape (k := i) (v := v) h
    exact .inl ⟨i, t, rfl, e⟩
  | .inr x, v, h => by
    obtain ⟨t, e⟩ := Value.isStrOf_shape (x := x) (v := v) h
    exact .inr ⟨x, t, rfl, e⟩
theorem key_ll (a b : Int) : decide ((Sum.inl a : Key) = Sum.inl b) = (a == b) := by
  by_cases e : a = b
  · subst e; simp
  · have h : ¬ (Sum.inl a : Key) = Sum.inl b := fun q => e (Sum.inl.inj q)
    rw [decide_eq_false h]
    exact (beq_eq_false_iff_ne.mpr e).symm
theorem key_rr (a b : Str) : decide ((Sum.inr a : Key) = Sum.inr b) = decide (a = b) := by
  by_cases e : a = b
  · subst e; simp
  · have h : ¬ (Sum.inr a : Key) = Sum.inr b := fun q => e (Sum.inr.inj q)
    rw [decide_eq_false h, decide_eq_false e]
theorem key_lr (a : Int) (b : Str) : decide ((Sum.inl a : Key) = Sum.inr b) = false := decide_eq_false (fun q => nomatch q)
theorem key_rl (a : Str) (b : Int) : decide ((Sum.inr a : Key) = Sum.inl b) = false := decide_eq_false (fun q => nomatch q)
def mixKind (prog : Program) (w : World) : PySem.KeyKind prog w Key where
  is := keyIs
  hash := keyH w
  inj := fun v a b ha hb => by
    rcases keyIs_shape ha with ⟨i, t, rfl, rfl⟩ | ⟨x, t, rfl, rfl⟩
    · rcases keyIs_shape hb with ⟨j, u, rfl, e⟩ | ⟨y, u, rfl, e⟩
      · injection e with e1 _; rw [e1]
      · exact nomatch e
    · rcases keyIs_shape hb with ⟨j, u, rfl, e⟩ | ⟨y, u, rfl, e⟩
      · exact nomatch e
      · injection e with e1 _; rw [e1]
  byValue := fun k v h => by
    rcases keyIs_shape h with ⟨i, t, rfl, rfl⟩ | ⟨x, t, rfl, rfl⟩ <;> rfl
  pyHash := fun hv h => by
    rcases keyIs_shape hv with ⟨i, t, rfl, rfl⟩ | ⟨x, t, rfl, rfl⟩
    · exact wpAny_pyHash_int h
    · exact wpAny_pyHash_str h
  eqBool := fun hu hv h => by
    rcases keyIs_shape hu with ⟨i, t, rfl, rfl⟩ | ⟨x, t, rfl, rfl⟩
    · rcases keyIs_shape hv with ⟨j, u, rfl, rfl⟩ | ⟨y, u, rfl, rfl⟩
      · rw [key_ll] at h; exact wpAny_eqBool_int h
      · rw [key_lr] at h; exact SeqAt.EqAt.int_str i t y u _ _ _ _ h
    · rcases keyIs_shape hv with ⟨j, u, rfl, rfl⟩ | ⟨y, u, rfl, rfl⟩
      · rw [key_rl] at h; exact SeqAt.EqAt.str_int x t j u _ _ _ _ h
      · rw [key_rr] at h; exact wpAny_eqBool_str h
  «strs» := fun k x t v h => by
    rcases keyIs_shape h with ⟨i, u, rfl, e⟩ | ⟨y, u, rfl, e⟩
    · exact nomatch e
    · injection e with e1 _
      subst e1
      cases v <;> rfl
end L2
namespace L2
open PySem PySem.Spec PyProof.Rows
inductive V where
  | non | bl (b : Bool) | int (i : Int) | str (x : Str) | byt (b : Array UInt8) | flt (b : UInt64) | ref (a : Addr) | ty (n : String)
  deriving DecidableEq
def RelV : V → Value → Prop
  | .non, u => u = Value.none
  | .bl b, u => u = Value.bool b
  | .int i, u => ∃ t, u = Value.int i t
  | .str x, u => ∃ t, u = Value.str x t
  | .byt b, u => ∃ t, u = Value.bytes b t
  | .flt b, u => ∃ t, u = Value.float b t
  | .ref a, u => u = Value.ref a
  | .ty n, u => u = Value.type n
abbrev Vals : List V → List Value → Prop := Paired RelV
theorem Vals.length {xs : List V} {us : List Value} (r : Vals xs us) : xs.length = us.length := Paired.length r
theorem Vals.get : ∀ {xs : List V} {us : List Value} {i : Nat} {x : V}, Vals xs us → xs[i]? = some x → ∃ u, us[i]? = some u ∧ RelV x u
  | _, _, _, _, .nil, e => by simp at e
  | _, _, 0, _, .cons r _, e => by simp at e; subst e; exact ⟨_, rfl, r⟩
  | _, _, i + 1, x, .cons _ t, e => by
    obtain ⟨u, h1, h2⟩ := Vals.get (i := i) (x := x) t (by simpa using e)
    exact ⟨u, by simpa using h1, h2⟩
theorem Vals.append : ∀ {xs ys : List V} {us ws : List Value}, Vals xs us → Vals ys ws → Vals (xs ++ ys) (us ++ ws)
  | _, _, _, _, .nil, s => s
  | _, _, _, _, .cons r t, s => .cons r (Vals.append t s)
theorem Vals.take : ∀ {xs : List V} {us : List Value} (n : Nat), Vals xs us → Vals (xs.take n) (us.take n)
  | _, _, 0, _ => .nil
  | _, _, _ + 1, .nil => .nil
  | _, _, n + 1, .cons r t => .cons r (Vals.take n t)
theorem Vals.drop : ∀ {xs : List V} {us : List Value} (n : Nat), Vals xs us → Vals (xs.drop n) (us.drop n)
  | _, _, 0, r => r
  | _, _, _ + 1, .nil => .nil
  | _, _, n + 1, .cons _ t => Vals.drop n t
def RelO : Option V → Option Value → Prop
  | some v, some u => RelV v u
  | none, none => True
  | _, _ => False
def KV {κ : Type} : List (κ × V) → List (κ × Value) → Prop := Paired fun (p : κ × V) (q : κ × Value) => p.1 = q.1 ∧ RelV p.2 q.2
def kV : Key → V
  | .inl i => .int i
  | .inr x => .str x
inductive HO where
  /-- a list -/
  | lst (xs : List V)
  /-- a tuple (never changes) -/
  | tup (xs : List V)
  /-- a dict whose keys are ints and texts; one whose keys are tuples of ints and texts (the empty one is both) -/
  | dK (kvs : List (Key × V)) | dT (kvs : List (List Key × V))
  /-- a set of ints: its members, its size -/
  | set (S : Int → Bool) (n : Nat)
  /-- an instance of the class at C, its dict at dx, its attributes -/
  | ins (C dx : Addr) (fs : List (Str × V))
  /-- the dict of the instance at x -/
  | own (x : Addr)
  /-- the dict of an exception -/
  | xd (fs : List (Str × V))
  /-- a bound method, f of x -/
  | met (f x : Addr)
  /-- a range object lo, lo + 1, .. below hi -/
  | rng (lo hi : Int)
  /-- a thing that is known to the object (the script; a dict while a loop walks it): read, never written while it is so -/
  | frz (o : Obj) (u : HO)
  /-- a code object's table -/
  | tbl (ps : Array Value)
  /-- any other thing, by what is true of its one object (a def of one's own: SetO a S n := HO.ext fun h => ..) -/
  | ext (φ : Heap → Prop)
abbrev Hp := Addr → Option HO
def upd (H : Hp) (a : Addr) (o : HO) : Hp := fun b => if b = a then some o else H b
theorem upd_same {H : Hp} {a : Addr} {o : HO} : upd H a o a = some o := by unfold upd; rw [if_pos rfl]
theorem upd_ne {H : Hp} {a b : Addr} {o : HO} (h : b ≠ a) : upd H a o b = H b := by unfold upd; rw [if_neg h]
theorem ne_of {H : Hp} {a b : Addr} {o u : HO} (h : H a = some o) (h' : H b = some u) (d : o ≠ u) : a ≠ b := by
  intro e; subst e; rw [h] at h'; exact d (Option.some.inj h')
theorem ne_of_none {H : Hp} {a b : Addr} {o : HO} (h : H a = some o) (h' : H b = none) : a ≠ b := by
  intro e; subst e; rw [h] at h'; cases h'
section
variable (P : Program) (w : World)
def ObjOk (H : Hp) (h : Heap) (a : Addr) : HO → Prop
  | .lst xs => xs.length ≤ sizeLine ∧ ∃ (its : List Value) (n : Nat), Vals xs its ∧ h.get? a = some { cls := .type "list", data := .seq its.toArray n }
  | .tup xs => xs.length ≤ sizeLine ∧ ∃ its : List Value, Vals xs its ∧ IsTup h a its.toArray
  | .dK kvs => kvs.length ≤ sizeLine ∧ (a == sysModules) = false ∧ ∃ vs, KV kvs vs ∧ h.DictOf (mixKind P w) a vs
  | .dT kvs => kvs.length ≤ sizeLine ∧ (a == sysModules) = false ∧ ∃ xs : List (List Key × Addr × Value),
      Paired (fun (p : List Key × V) (q : List Key × Addr × Value) => p.1 = q.1 ∧ H q.2.1 = some (.tup (p.1.map kV)) ∧ RelV p.2 q.2.2) kvs xs ∧
      ∃ o es ep, h.get? a = some o ∧ o.ExactDict ∧ o.data = .dict es ep ∧ es.toList = xs.map (entryOfKey (tupleKind (mixKind P w))) ∧ (xs.map (·.1)).Nodup
  | .set S n => h.SetOf (intKind P w) a S n
  | .ins C dx fs => H dx = some (.own a) ∧ fs.length ≤ 1000 ∧ dx ≠ a ∧ h.get? a = some (PySem.W.instObj C dx) ∧
      ∃ mA, h.Ns1 dx mA ∧ (∀ f, RelO (fs.lookup f) (mA f)) ∧ PySem.Within mA (fs.map (·.1))
  | .own _ => ∃ o, h.get? a = some o
  | .xd fs => ∃ mA, h.Ns1 a mA ∧ ∀ f, RelO (fs.lookup f) (mA f)
  | .rng lo hi => ∃ t u v, h.get? a = some { cls := .type "range", data := .fields #[.int lo t, .int hi u, .int 1 v] }
  | .frz o u => h.get? a = some o ∧ ObjOk H h a u
  | .tbl ps => h.get? a = some { cls := .none, data := .fields ps }
  | .met f x => h.get? a = some (PySem.W.methodObj (.ref f) (.ref x))
  | .ext φ => φ h ∧ (∃ o, h.get? a = some o) ∧ ∀ h1 h2 : Heap, φ h1 → (∀ o, h1.get? a = some o → h2.get? a = some o) → φ h2
def HOk (H : Hp) (h : Heap) : Prop := ∀ a o, H a = some o → ObjOk P w H h a o
end
section
variable {P : Program} {w : World} {H H' : Hp} {h h' : Heap} {a : Addr} {o : HO}
theorem ObjOk.lt (x : ObjOk P w H h a o) : a < h.objs.size := by
  cases o with
  | lst xs => obtain ⟨_, _, _, _, e⟩ := x; exact Heap.lt_size e
  | tup xs => obtain ⟨_, _, _, p⟩ := x; exact p.lt
  | dK kvs => obtain ⟨_, _, _, _, o, _, _, e, _⟩ := x; exact Heap.lt_size e
  | dT kvs => obtain ⟨_, _, _, _, o, _, _, e, _⟩ := x; exact Heap.lt_size e
  | set S n => obtain ⟨o, _, _, _, e, _⟩ := x; exact Heap.lt_size e
  | ins C dx fs => obtain ⟨_, _, _, e, _⟩ := x; exact Heap.lt_size e
  | own y => obtain ⟨_, e⟩ := x; exact Heap.lt_size e
  | xd fs => obtain ⟨_, ⟨_, _, _, e, _⟩, _⟩ := x; exact Heap.lt_size e
  | rng lo hi => obtain ⟨_, _, _, e⟩ := x; exact Heap.lt_size e
  | frz ob u => obtain ⟨e, _⟩ := x; exact Heap.lt_size e
  | tbl ps => exact Heap.lt_size (show h.get? a = some _ from x)
  | met f y => exact Heap.lt_size (show h.get? a = some _ from x)
  | ext φ => obtain ⟨_, ⟨_, e⟩, _⟩ := x; exact Heap.lt_size e
theorem Paired.mapP {α β : Type} {F G : α → β → Prop} : ∀ {l₁ : List α} {l₂ : List β}, Paired F l₁ l₂ → (∀ a b, F a b → G a b) → Paired G l₁ l₂
  | _, _, .nil, _ => .nil
  | _, _, .cons r t, f => .cons (f _ _ r) (Paired.mapP t f)
theorem ObjOk.stay (x : ObjOk P w H h a o) (k : ∀ b u, (b = a ∨ H b = some (.own a)) → h.get? b = some u → h'.get? b = some u)
    (ho : ∀ b, H b = some (.own a) → H' b = some (.own a)) (ht : ∀ b xs, H b = some (.tup xs) → H' b = some (.tup xs)) : ObjOk P w H' h' a o := by
  induction o with
  | lst xs => obtain ⟨z, its, n, r, e⟩ := x; exact ⟨z, its, n, r, k _ _ (.inl rfl) e⟩
  | tup xs => obtain ⟨z, its, r, ob, e, c⟩ := x; exact ⟨z, its, r, ob, k _ _ (.inl rfl) e, c⟩
  | dK kvs => obtain ⟨z, y, vs, r, ob, es, ep, e, c⟩ := x; exact ⟨z, y, vs, r, ob, es, ep, k _ _ (.inl rfl) e, c⟩
  | dT kvs =>
    obtain ⟨z, y, xs, r, ob, es, ep, e, c⟩ := x
    exact ⟨z, y, xs, Paired.mapP r fun p q z => ⟨z.1, ht _ _ z.2.1, z.2.2⟩, ob, es, ep, k _ _ (.inl rfl) e, c⟩
  | set S n => obtain ⟨ob, es, ep, t, e, c⟩ := x; exact ⟨ob, es, ep, t, k _ _ (.inl rfl) e, c⟩
  | ins C dx fs =>
    obtain ⟨d, z, ne, e, mA, ⟨od, es, ep, e2, c⟩, r⟩ := x
    exact ⟨ho _ d, z, ne, k _ _ (.inl rfl) e, mA, ⟨od, es, ep, k _ _ (.inr d) e2, c⟩, r⟩
  | own y => obtain ⟨ob, e⟩ := x; exact ⟨ob, k _ _ (.inl rfl) e⟩
  | xd fs => obtain ⟨mA, ⟨od, es, ep, e, c⟩, r⟩ := x; exact ⟨mA, ⟨od, es, ep, k _ _ (.inl rfl) e, c⟩, r⟩
  | rng lo hi => obtain ⟨t, u, v, e⟩ := x; exact ⟨t, u, v, k _ _ (.inl rfl) e⟩
  | frz ob u ih => obtain ⟨e, q⟩ := x; exact ⟨k _ _ (.inl rfl) e, ih q⟩
  | tbl ps =>
    have e : h.get? a = some { cls := .none, data := .fields ps } := x
    show h'.get? a = some { cls := .none, data := .fields ps }
    exact k a _ (.inl rfl) e
  | met f y =>
    have e : h.get? a = some (PySem.W.methodObj (.ref f) (.ref y)) := x
    show h'.get? a = some (PySem.W.methodObj (.ref f) (.ref y))
    exact k a _ (.inl rfl) e
  | ext φ => obtain ⟨p, ⟨o, e⟩, st⟩ := x; exact ⟨st _ _ p fun o q => k _ _ (.inl rfl) q, ⟨o, k _ _ (.inl rfl) e⟩, st⟩
theorem HOk.lt (x : HOk P w H h) (e : H a = some o) : a < h.objs.size := (x a o e).lt
theorem HOk.fresh (x : HOk P w H h) (e : h.objs.size ≤ a) : H a = none := by
  cases q : H a with
  | none => rfl
  | some u => exact absurd (Nat.lt_of_lt_of_le (x.lt q) e) (Nat.lt_irrefl _)
theorem HOk.kept (x : HOk P w H h) (k : ∀ b u, h.get? b = some u → h'.get? b = some u) : HOk P w H h' := fun a o e =>
  (x a o e).stay (fun b u _ q => k b u q) (fun _ q => q) fun _ _ q => q
theorem HOk.laid (x : HOk P w H h) (k : ∀ b u, h.get? b = some u → h'.get? b = some u) (hp : h.objs.size ≤ a) (new : ObjOk P w (upd H a o) h' a o) : HOk P w (upd H a o) h' := fun b u e => by
  have hn := x.fresh hp
  by_cases hb : b = a
  · subst hb; rw [upd_same] at e; cases e; exact new
  · rw [upd_ne hb] at e
    exact (x b u e).stay (fun c v _ q => k c v q) (fun c q => by rw [upd_ne (ne_of_none q hn)]; exact q) fun c xs q => by rw [upd_ne (ne_of_none q hn)]; exact q
end
def Rd (H : Hp) (a : Addr) (u : HO) : Prop := H a = some u ∨ ∃ o, H a = some (.frz o u)
theorem Rd.ok {P : Program} {w : World} {H : Hp} {h : Heap} {a : Addr} {u : HO} (r : Rd H a u) (x : HOk P w H h) : ObjOk P w H h a u := by
  rcases r with r | ⟨o, r⟩
  · exact x a u r
  · obtain ⟨_, q⟩ := x a _ r
    exact q
def Mut : Option HO → Prop
  | some (.lst _) => True
  | some (.dK _) => True
  | some (.dT _) => True
  | some (.set _ _) => True
  | some (.ins _ _ _) => True
  | some (.ext _) => True
  | _ => False
section
variable {P : Program} {w : World} {H : Hp} {h h' : Heap} {x e : Addr} {o' : HO}
theorem HOk.write (ok : HOk P w H h) (mu : Mut (H x)) (he : e = x ∨ H e = some (.own x)) (k : ∀ b u, b ≠ e → h.get? b = some u → h'.get? b = some u) (heo : ∃ u, h'.get? e = some u)
    (new : ObjOk P w (upd H x o') h' x o') : HOk P w (upd H x o') h' := fun b u q => by
  have nown : ∀ c y, H c = some (.own y) → c ≠ x := fun c y r z => by subst z; rw [r] at mu; exact mu
  have ntup : ∀ c xs, H c = some (.tup xs) → c ≠ x := fun c xs r z => by subst z; rw [r] at mu; exact mu
  by_cases hb : b = x
  · subst hb; rw [upd_same] at q; cases q; exact new
  · rw [upd_ne hb] at q
    by_cases hbe : b = e
    · have q' : H b = some (.own x) := by
        rcases he with z | z
        · exact absurd (hbe.trans z) hb
        · rw [hbe]; exact z
      rw [q] at q'; cases q'
      obtain ⟨v, hv⟩ := heo
      exact ⟨v, by rw [hbe]; exact hv⟩
    · refine (ok b u q).stay (fun c v hc r => k c v ?_ r) (fun c r => by rw [upd_ne (nown c b r)]; exact r) fun c xs r => by rw [upd_ne (ntup c xs r)]; exact r
      rcases hc with rfl | hc
      · exact hbe
      · rintro rfl
        rcases he with z | z
        · exact nown c b hc z
        · rw [hc] at z; cases z; exact hb rfl
end
structure Un (fs ex : List Addr) (H H' : Hp) (h h' : Heap) : Prop where
  keep : ∀ b o, h.get? b = some o → H b = none → b ∉ fs → b ∉ ex → h'.get? b = some o
  slot : ∀ b o, h.get? b = some o → H b = none → b ∈ fs → b ∉ ex → ∃ sl, h'.get? b = some { o with slots := sl }
  free : ∀ b o, h.get? b = some o → H b = none → b ∉ ex → H' b = none
  there : ∀ b o, h.get? b = some o → b ∉ ex → ∃ o', h'.get? b = some o'
  tups : ∀ b xs, H b = some (.tup xs) → H' b = some (.tup xs)
  frzs : ∀ b o u, H b = some (.frz o u) → H' b = some (.frz o u)
  tbls : ∀ b ps, H b = some (.tbl ps) → ∃ more, H' b = some (.tbl (ps ++ more))
section
variable {fs fs' ex ex' : List Addr} {H H1 H2 : Hp} {h h1 h2 h' : Heap} {a x e : Addr} {o : HO}
theorem Un.any (u : Un fs ex H H1 h h1) {b : Addr} {ob : Obj} (q : h.get? b = some ob) (n : H b = none) (hx : b ∉ ex) : ∃ sl, h1.get? b = some { ob with slots := sl } := by
  by_cases hb : b ∈ fs
  · exact u.slot b ob q n hb hx
  · exact ⟨ob.slots, u.keep b ob q n hb hx⟩
theorem Un.kept (k : ∀ b u, h.get? b = some u → h'.get? b = some u) : Un fs ex H H h h' :=
  ⟨fun b ob q _ _ _ => k b ob q, fun b ob q _ _ _ => ⟨ob.slots, k b ob q⟩, fun _ _ _ n _ => n, fun b ob q _ => ⟨ob, k b ob q⟩, fun _ _ q => q, fun _ _ _ q => q, fun _ ps q => ⟨#[], by rw [q]; simp⟩⟩
theorem Un.refl : Un fs ex H H h h := Un.kept fun _ _ q => q
theorem Un.laid (k : ∀ b u, h.get? b = some u → h'.get? b = some u) (hp : h.objs.size ≤ a) (hn : H a = none) : Un fs ex H (upd H a o) h h' where
  keep := fun b u q _ _ _ => k b u q
  slot := fun b u q _ _ _ => ⟨u.slots, k b u q⟩
  free := fun b u q n _ => by rw [upd_ne (Nat.ne_of_lt (Nat.lt_of_lt_of_le (Heap.lt_size q) hp))]; exact n
  there := fun b u q _ => ⟨u, k b u q⟩
  tups := fun b xs q => by rw [upd_ne (ne_of_none q hn)]; exact q
  frzs := fun b u xs q => by rw [upd_ne (ne_of_none q hn)]; exact q
  tbls := fun b ps q => ⟨#[], by rw [upd_ne (ne_of_none q hn), q]; simp⟩
theorem Un.write (mu : Mut (H x)) (he : e = x ∨ H e = some (.own x)) (k : ∀ b u, b ≠ e → h.get? b = some u → h'.get? b = some u) (heo : ∃ u, h'.get? e = some u) : Un fs ex H (upd H x o) h h' := by
  have hx : ∀ b, H b = none → b ≠ x := fun b n z => by subst z; rw [n] at mu; exact mu
  have hb : ∀ b, H b = none → b ≠ e := fun b n z => by
    subst z
    rcases he with r | r
    · exact hx b n r
    · rw [n] at r; cases r
  have hm : ∀ b u, H b = some u → ¬ Mut (some u) → b ≠ x := fun b u q nm z => by subst z; rw [q] at mu; exact nm mu
  refine ⟨fun b u q n _ _ => k b u (hb b n) q, fun b u q n _ _ => ⟨u.slots, k b u (hb b n) q⟩, fun b u q n _ => by rw [upd_ne (hx b n)]; exact n, fun b u q _ => ?_,
    fun b xs q => by rw [upd_ne (hm b _ q fun z => z)]; exact q, fun b u xs q => by rw [upd_ne (hm b _ q fun z => z)]; exact q, fun b ps q => ⟨#[], by rw [upd_ne (hm b _ q fun z => z), q]; simp⟩⟩
  by_cases hbe : b = e
  · subst hbe; exact heo
  · exact ⟨u, k b u hbe q⟩
end
def trk (h : Heap) (H : Hp) : List Addr := (List.range h.objs.size).filter fun a => (H a).isSome
def hidT (h : Heap) (H : Hp) : Heap := PySem.W.hideAll h (trk h H)
theorem hidT_size (h : Heap) (H : Hp) : (hidT h H).objs.size = h.objs.size := PySem.W.hideAll_size _ _
theorem hidT_get {h : Heap} {H : Hp} {b : Addr} {o : Obj} (e : h.get? b = some o) (n : H b = none) : (hidT h H).get? b = some o :=
  PySem.W.hideAll_get _ e fun hm => by
    have q : (H b).isSome = true := (List.mem_filter.mp hm).2
    rw [n] at q; simp at q
theorem of_hidT {h : Heap} {H : Hp} {b : Addr} {o : Obj} (e : (hidT h H).get? b = some o) : h.get? b = some o ∧ H b = none := by
  have e' : h.get? b = some o := PySem.W.of_hideAll (trk h H) e
  refine ⟨e', ?_⟩
  cases q : H b with
  | none => rfl
  | some x =>
    have hm : b ∈ trk h H := List.mem_filter.mpr ⟨List.mem_range.mpr (Heap.lt_size e'), by simp [q]⟩
    have z : (hidT h H).get? b = none := PySem.W.hideAll_none (trk h H) hm
    rw [z] at e; cases e
def allNews (g h : Heap) (L : Addr) : List (Addr × Obj) := (List.range h.objs.size).filterMap fun a => if a = L ∨ (g.get? a).isSome = true then none else (h.get? a).map fun o => (a, o)
def rest (g h : Heap) (L d : Addr) : List (Addr × Obj) := (allNews g h L).filter fun p => decide (p.1 ≠ d)
end L2
namespace L2
open PySem PySem.Spec PyProof.Rows
structure Mod (K : PySem.W.Frag) (mg : Str → Option Value) (base : Heap) : Prop where
  kin : K.In base
  glob : base.Ns mainGlobals mg
  blt : ∃ mb, base.Ns builtinsNs mb ∧ ∀ x : Str, x ≠ "__name__" → mb x = bootBuiltins x
  nolimit : base.NoLimit
structure Cx where
  prog : Program
  w : World
  K : PySem.W.Frag
  mg : Str → Option Value
  base : Heap
  A : Around
  N : List Str
  s₀ : Shared
  H₀ : Hp
  env : Env
  outer : List Env
  stack : List Env
  ex : List Addr
  fn : Str → Bool
  calm : Bool
  pn : List (Addr × Obj)
  xe : Value → Shared → Prop
def frs (l : List Env) : List Addr := l.filterMap (·.frame)
abbrev Cx.fs (X : Cx) : List Addr := frs X.outer
def Vis (sc : Scope) (x : Str) : Prop := sc.names.lookup x = some .local ∨ sc.names.lookup x = some .cell ∨ sc.names.lookup x = some .free
def Loc (sc : Scope) (x : Str) : Prop := sc.names.lookup x = some .local ∨ sc.names.lookup x = some .cell
def Look (env : Env) (h : Heap) (m : Str → Option Value) (x : Str) (u : Value) : Prop :=
  (env.kindOf x = some .local ∧ m x = some u) ∨ ((env.kindOf x = some .cell ∨ env.kindOf x = some .free) ∧ ∃ c, env.cells.lookup x = some c ∧ h.IsCell c (some u))
structure Cx.Ok (X : Cx) : Prop where
  mod : Mod X.K X.mg X.base
  kind : X.env.scope.kind = .function
  glob : X.env.globals = mainGlobals
  blt : X.env.builtins = builtinsNs
  above : X.s₀.heap.objs.size ≤ X.env.locals
  inj : ∀ x y c, X.env.cells.lookup x = some c → X.env.cells.lookup y = some c → x = y
  has : ∀ x, (X.env.kindOf x = some .cell ∨ X.env.kindOf x = some .free) → ∃ c, X.env.cells.lookup x = some c
  cab : ∀ x c, X.fn x = true → X.env.cells.lookup x = some c → X.s₀.heap.objs.size ≤ c
  hd : X.calm = true → X.A.handled = none
  frames : X.A.frames = some X.stack
  stk : X.stack = X.outer ∨ (X.stack = X.env :: X.outer ∧ X.env.frame = some X.env.locals)
  exf : ∀ b ∈ X.ex, b ≠ X.env.locals ∧ ∀ x c, X.env.cells.lookup x = some c → c ≠ b
  bs : ∀ b o, X.base.get? b = some o → X.s₀.heap.get? b = some o ∧ X.H₀ b = none
  bsz : X.base.objs.size ≤ X.s₀.heap.objs.size
  noex : ∀ b o, X.base.get? b = some o → b ∉ X.ex
  exfs : ∀ b ∈ X.ex, b ∉ X.fs
  funs : X.s₀.heap.FunFrames X.base X.outer
  frf : ∀ b ∈ X.fs, X.H₀ b = none
structure Inv (X : Cx) (pins : List (Addr × Obj)) (σ : List (Option V)) (H : Hp) (s : Shared) : Prop where
  ok : X.Ok
  os : s.os = X.s₀.os
  bare : AllBare s.gens
  base : Un X.fs X.ex X.H₀ H X.s₀.heap s.heap
  loc : ∃ m, s.heap.Ns X.env.locals m ∧ ∀ (i : Nat) (x : Str) (v : V), X.N[i]? = some x → σ[i]? = some (some v) → Vis X.env.scope x → ∃ u, RelV v u ∧ Look X.env s.heap m x u
  cell : ∀ x c, X.env.cells.lookup x = some c → ∃ v, s.heap.IsCell c v
  free : H X.env.locals = none
  freeC : ∀ x c, X.env.cells.lookup x = some c → H c = none
  pin : ∀ p ∈ X.pn ++ pins, s.heap.get? p.1 = some p.2 ∧ H p.1 = none ∧ p.1 ≠ X.env.locals ∧ p.1 ∉ X.fs ∧ ∀ v, p.2.data ≠ .cell v
  hok : HOk X.prog X.w H s.heap
  len : σ.length = X.N.length
section
variable {X : Cx} {pins : List (Addr × Obj)} {σ : List (Option V)} {H H' : Hp} {s : Shared} {h' : Heap}
theorem Cx.Ok.nofr (ok : X.Ok) {b : Addr} {o : Obj} (e : X.base.get? b = some o) : b ∉ X.fs := fun hb => by
  have := (ok.funs.mem hb).1
  rw [e] at this; cases this
theorem Inv.bs (I : Inv X pins σ H s) : ∀ b o, X.base.get? b = some o → s.heap.get? b = some o ∧ H b = none := fun b o e =>
  ⟨I.base.keep b o (I.ok.bs b o e).1 (I.ok.bs b o e).2 (I.ok.nofr e) (I.ok.noex b o e), I.base.free b o (I.ok.bs b o e).1 (I.ok.bs b o e).2 (I.ok.noex b o e)⟩
theorem Inv.bk (I : Inv X pins σ H s) : ∀ b o, X.base.get? b = some o → s.heap.get? b = some o := fun b o e => (I.bs b o e).1
theorem Inv.mod (I : Inv X pins σ H s) : Mod X.K X.mg X.base := I.ok.mod
theorem Inv.kIn (I : Inv X pins σ H s) : X.K.In s.heap := I.ok.mod.kin.keeps I.bk
theorem Inv.lt (I : Inv X pins σ H s) : X.env.locals < s.heap.objs.size := let ⟨_, hn, _⟩ := I.loc; hn.lt
theorem Inv.sz (I : Inv X pins σ H s) : X.s₀.heap.objs.size ≤ s.heap.objs.size := Nat.le_trans I.ok.above (Nat.le_of_lt I.lt)
theorem Inv.nofs (I : Inv X pins σ H s) {a : Addr} (h : s.heap.objs.size ≤ a) : a ∉ X.fs := fun hb => by
  obtain ⟨_, o, ho, _⟩ := I.ok.funs.mem hb
  exact absurd (Nat.lt_of_lt_of_le (Heap.lt_size ho) (Nat.le_trans I.sz h)) (Nat.lt_irrefl _)
theorem Inv.cne (I : Inv X pins σ H s) : ∀ x c, X.env.cells.lookup x = some c → c ≠ X.env.locals := fun x c e z => by
  obtain ⟨v, o, ho, hd⟩ := I.cell x c e
  obtain ⟨m, ⟨o', es, ep, ho', hd', _⟩, _⟩ := I.loc
  rw [z, ho'] at ho; cases ho; rw [hd'] at hd; cases hd
theorem Inv.funs (I : Inv X pins σ H s) : s.heap.FunFrames X.base X.outer := by
  have all : ∀ (l : List Env), (∀ b ∈ frs l, b ∈ X.fs) → X.s₀.heap.FunFrames X.base l → s.heap.FunFrames X.base l := by
    intro l
    induction l with
    | nil => intro _ _; trivial
    | cons env r ih =>
      intro hs hl
      obtain ⟨hk, ⟨L, o, hf, hn, ho, hd⟩, hr⟩ := hl
      have hL : L ∈ X.fs := hs L (by unfold frs; rw [List.filterMap_cons, hf]; exact List.mem_cons_self)
      obtain ⟨sl, e⟩ := I.base.slot L o ho (I.ok.frf L hL) hL fun z => I.ok.exfs L z hL
      exact ⟨hk, ⟨L, _, hf, hn, e, hd⟩, ih (fun b hb => hs b (by unfold frs; rw [List.filterMap_cons, hf]; exact List.mem_cons_of_mem _ hb)) hr⟩
  exact all X.outer (fun _ hb => hb) I.ok.funs
theorem Inv.stack (I : Inv X pins σ H s) : s.heap.FunFrames X.base X.stack := by
  rcases I.ok.stk with e | ⟨e, hf⟩
  · rw [e]; exact I.funs
  · rw [e]
    obtain ⟨m, hn, _⟩ := I.loc
    refine .cons (by rw [I.ok.kind]; decide) hf hn ?_ I.funs
    exact Heap.get?_none_of_le (Nat.le_trans I.ok.bsz I.ok.above)
theorem Inv.stkSub (I : Inv X pins σ H s) : ∀ b ∈ frs X.stack, b ∈ X.env.locals :: X.fs := fun b hb => by
  rcases I.ok.stk with e | ⟨e, hf⟩
  · rw [e] at hb; exact List.mem_cons_of_mem _ hb
  · rw [e] at hb
    unfold frs at hb
    rw [List.filterMap_cons, hf] at hb
    exact hb
theorem Inv.stkFree (I : Inv X pins σ H s) : ∀ b ∈ frs X.stack, H b = none := fun b hb => by
  rcases List.mem_cons.mp (I.stkSub b hb) with e | hb
  · rw [e]; exact I.free
  · obtain ⟨_, o, ho, _⟩ := I.ok.funs.mem hb
    exact I.base.free b o ho (I.ok.frf b hb) fun z => I.ok.exfs b z hb
theorem Inv.step {g' : Array GenState} {t' : Nat} {d' : Drawn} {ch : List Addr} (I : Inv X pins σ H s)
    (hch : ∀ b ∈ ch, (b ∈ X.ex ∨ X.s₀.heap.objs.size ≤ b) ∧ b ≠ X.env.locals ∧ (∀ x c, X.env.cells.lookup x = some c → c ≠ b) ∧ ∀ p ∈ X.pn ++ pins, p.1 ≠ b)
    (keep : ∀ b o, b ≠ X.env.locals → b ∉ X.fs → b ∉ ch → s.heap.get? b = some o → H b = none → h'.get? b = some o)
    (slot : ∀ b o, b ≠ X.env.locals → b ∈ X.fs → b ∉ ch → s.heap.get? b = some o → H b = none → ∃ sl, h'.get? b = some { o with slots := sl }) (free : ∀ b o, b ∉ ch → s.heap.get? b = some o → H b = none → H' b = none)
    (there : ∀ b o, b ∉ ch → s.heap.get? b = some o → ∃ o', h'.get? b = some o')
    (tups : ∀ b xs, H b = some (.tup xs) → H' b = some (.tup xs)) (frzs : ∀ b o u, H b = some (.frz o u) → H' b = some (.frz o u)) (tbls : ∀ b ps, H b = some (.tbl ps) → ∃ more, H' b = some (.tbl (ps ++ more)))
    (ns : ∀ m, s.heap.Ns X.env.locals m → h'.Ns X.env.locals m) (hok : HOk X.prog X.w H' h') (hg : AllBare g') :
    Inv X pins σ H' { s with heap := h', gens := g', drawn := d', toks := t' } := by
  have neL : ∀ b o, X.s₀.heap.get? b = some o → b ≠ X.env.locals := fun b o e => Nat.ne_of_lt (Nat.lt_of_lt_of_le (Heap.lt_size e) I.ok.above)
  have neC : ∀ b o, X.s₀.heap.get? b = some o → b ∉ X.ex → b ∉ ch := fun b o e hx hb => by
    rcases (hch b hb).1 with z | z
    · exact hx z
    · exact absurd (Nat.lt_of_lt_of_le (Heap.lt_size e) z) (Nat.lt_irrefl _)
  have cellK : ∀ x c, X.env.cells.lookup x = some c → ∀ v, s.heap.IsCell c v → h'.IsCell c v := fun x c e v ⟨o, ho, hd⟩ => by
    have nch : c ∉ ch := fun z => (hch c z).2.2.1 x c e rfl
    by_cases hc : c ∈ X.fs
    · obtain ⟨sl, q⟩ := slot c o (I.cne x c e) hc nch ho (I.freeC x c e)
      exact ⟨_, q, hd⟩
    · exact ⟨o, keep c o (I.cne x c e) hc nch ho (I.freeC x c e), hd⟩
  refine ⟨I.ok, I.os, hg, ⟨fun b o e n hb hx => ?_, fun b o e n hb hx => ?_, fun b o e n hx => ?_, fun b o e hx => ?_, fun b xs e => tups b xs (I.base.tups b xs e), fun b o xs e => frzs b o xs (I.base.frzs b o xs e), fun b ps e => ?_⟩, ?_, fun x c e => ?_, ?_, fun x c e => ?_, fun p hp => ?_, hok, I.len⟩
  · exact keep b o (neL b o e) hb (neC b o e hx) (I.base.keep b o e n hb hx) (I.base.free b o e n hx)
  · obtain ⟨sl, e1⟩ := I.base.slot b o e n hb hx
    obtain ⟨sl', e2⟩ := slot b _ (neL b o e) hb (neC b o e hx) e1 (I.base.free b o e n hx)
    exact ⟨sl', e2⟩
  · obtain ⟨o', e1⟩ := I.base.there b o e hx
    exact free b o' (neC b o e hx) e1 (I.base.free b o e n hx)
  · obtain ⟨o', e1⟩ := I.base.there b o e hx
    exact there b o' (neC b o e hx) e1
  · obtain ⟨m1, e1⟩ := I.base.tbls b ps e
    obtain ⟨m2, e2⟩ := tbls b _ e1
    exact ⟨m1 ++ m2, by rw [e2, Array.append_assoc]⟩
  · obtain ⟨m, hn, hl⟩ := I.loc
    refine ⟨m, ns m hn, fun i x v e1 e2 e3 => ?_⟩
    obtain ⟨u, r, l⟩ := hl i x v e1 e2 e3
    refine ⟨u, r, ?_⟩
    rcases l with l | ⟨k, c, e, z⟩
    · exact .inl l
    · exact .inr ⟨k, c, e, cellK x c e _ z⟩
  · obtain ⟨v, z⟩ := I.cell x c e
    exact ⟨v, cellK x c e v z⟩
  · obtain ⟨m, ⟨o, _, _, ho, _⟩, _⟩ := I.loc
    exact free _ o (fun z => (hch _ z).2.1 rfl) ho I.free
  · obtain ⟨v, o, ho, hd⟩ := I.cell x c e
    exact free c o (fun z => (hch c z).2.2.1 x c e rfl) ho (I.freeC x c e)
  · obtain ⟨e, n, ne, nf, d⟩ := I.pin p hp
    have nch : p.1 ∉ ch := fun z => (hch p.1 z).2.2.2 p hp rfl
    exact ⟨keep p.1 p.2 ne nf nch e n, free p.1 p.2 nch e n, ne, nf, d⟩
theorem Inv.un {t' : Nat} (I : Inv X pins σ H s) (u : Un X.fs [] H H' s.heap h') (hok : HOk X.prog X.w H' h') : Inv X pins σ H' { s with heap := h', toks := t' } := by
  obtain ⟨m, ⟨o, es, ep, ho, r⟩, _⟩ := id I.loc
  obtain ⟨sl, hL⟩ := u.any ho I.free (by simp)
  exact I.step (g' := s.gens) (d' := s.drawn) (ch := []) (fun _ z => nomatch z) (fun b o _ hb _ e n => u.keep b o e n hb (by simp)) (fun b o _ hb _ e n => u.slot b o e n hb (by simp)) (fun b o _ e n => u.free b o e n (by simp)) (fun b o _ e => u.there b o e (by simp)) u.tups u.frzs u.tbls (fun m' hm => by
    obtain ⟨o', es', ep', ho', r'⟩ := hm
    rw [ho] at ho'; cases ho'
    exact ⟨_, es', ep', hL, r'⟩) hok I.bare
theorem Inv.call {g' : Array GenState} {t' : Nat} {d' : Drawn} {ch : List Addr} (I : Inv X pins σ H s) (u : Un (frs X.stack) ch H H' s.heap h') (hok : HOk X.prog X.w H' h') (hg : AllBare g')
    (hch : ∀ b ∈ ch, (b ∈ X.ex ∨ X.s₀.heap.objs.size ≤ b) ∧ b ≠ X.env.locals ∧ (∀ x c, X.env.cells.lookup x = some c → c ≠ b) ∧ ∀ p ∈ X.pn ++ pins, p.1 ≠ b) :
    Inv X pins σ H' { s with heap := h', gens := g', drawn := d', toks := t' } := by
  obtain ⟨m, ⟨o, es, ep, ho, r⟩, _⟩ := id I.loc
  obtain ⟨sl, hL⟩ := u.any ho I.free fun z => (hch _ z).2.1 rfl
  exact I.step (ch := ch) hch (fun b o hL hb hc e n => u.keep b o e n (fun z => (List.mem_cons.mp (I.stkSub b z)).elim hL hb) hc) (fun b o _ _ hc e n => u.any e n hc) (fun b o hc e n => u.free b o e n hc) (fun b o hc e => u.there b o e hc) u.tups u.frzs u.tbls (fun m' hm => by
    obtain ⟨o', es', ep', ho', r'⟩ := hm
    rw [ho] at ho'; cases ho'
    exact ⟨_, es', ep', hL, r'⟩) hok hg
theorem Inv.turned {t' : Nat} {it : Addr} (I : Inv X pins σ H s) (k : ∀ b o, b ≠ it → s.heap.get? b = some o → h'.get? b = some o) (hn : H it = none) (hL : it ≠ X.env.locals)
    (h1 : it ∈ X.ex ∨ X.s₀.heap.objs.size ≤ it) (h2 : ∀ x c, X.env.cells.lookup x = some c → c ≠ it) (h3 : ∀ p ∈ X.pn ++ pins, p.1 ≠ it) : Inv X pins σ H { s with heap := h', toks := t' } := by
  have nit : ∀ b u, H b = some u → b ≠ it := fun b u e z => by rw [z, hn] at e; cases e
  refine I.step (g' := s.gens) (d' := s.drawn) (ch := [it]) (fun b hb => ?_) (fun b o _ _ hc e _ => k b o (fun z => hc (by simp [z])) e) (fun b o _ _ hc e _ => ⟨o.slots, k b o (fun z => hc (by simp [z])) e⟩) (fun _ _ _ _ n => n)
    (fun b o hc e => ⟨o, k b o (fun z => hc (by simp [z])) e⟩) (fun _ _ e => e) (fun _ _ _ e => e) (fun b ps e => ⟨#[], by rw [e]; simp⟩) (fun m hm => ?_) (fun b u e => ?_) I.bare
  · have e : b = it := by simpa using hb
    subst e
    exact ⟨h1, hL, h2, h3⟩
  · obtain ⟨o, es, ep, ho, r⟩ := hm
    exact ⟨o, es, ep, k _ o (Ne.symm hL) ho, r⟩
  · refine (I.hok b u e).stay (fun c v hc q => k c v ?_ q) (fun _ q => q) fun _ _ q => q
    rcases hc with z | z
    · rw [z]; exact nit b u e
    · exact nit c _ z
theorem Inv.tok (I : Inv X pins σ H s) (t : Nat) : Inv X pins σ H { s with toks := t } := I.un (h' := s.heap) (t' := t) Un.refl I.hok
theorem Inv.kept {t' : Nat} (I : Inv X pins σ H s) (k : ∀ b u, s.heap.get? b = some u → h'.get? b = some u) : Inv X pins σ H { s with heap := h', toks := t' } := I.un (Un.kept k) (I.hok.kept k)
theorem Inv.laid {a : Addr} {o : HO} {t' : Nat} (I : Inv X pins σ H s) (k : ∀ b u, s.heap.get? b = some u → h'.get? b = some u) (hp : s.heap.objs.size ≤ a) (new : ObjOk X.prog X.w (upd H a o) h' a o) :
    Inv X pins σ (upd H a o) { s with heap := h', toks := t' } := I.un (Un.laid k hp (I.hok.fresh hp)) (I.hok.laid k hp new)
theorem Inv.write {x e : Addr} {o : HO} {t' : Nat} (I : Inv X pins σ H s) (mu : Mut (H x)) (he : e = x ∨ H e = some (.own x)) (k : ∀ b u, b ≠ e → s.heap.get? b = some u → h'.get? b = some u) (heo : ∃ u, h'.get? e = some u)
    (new : ObjOk X.prog X.w (upd H x o) h' x o) : Inv X pins σ (upd H x o) { s with heap := h', toks := t' } := I.un (Un.write mu he k heo) (I.hok.write mu he k heo new)
theorem Inv.pins_of {pins' : List (Addr × Obj)} (I : Inv X pins σ H s) (h : ∀ p ∈ pins', s.heap.get? p.1 = some p.2 ∧ H p.1 = none ∧ p.1 ≠ X.env.locals ∧ p.1 ∉ X.fs ∧ ∀ v, p.2.data ≠ .cell v) : Inv X pins' σ H s :=
  ⟨I.ok, I.os, I.bare, I.base, I.loc, I.cell, I.free, I.freeC, fun p hp => (List.mem_append.mp hp).elim (fun z => I.pin p (List.mem_append_left _ z)) (h p), I.hok, I.len⟩
theorem nodup_ix {N : List Str} (hN : N.Nodup) {i j : Nat} {x : Str} (a : N[i]? = some x) (b : N[j]? = some x) : i = j := by
  obtain ⟨h1, e1⟩ := List.getElem?_eq_some_iff.mp a
  obtain ⟨h2, e2⟩ := List.getElem?_eq_some_iff.mp b
  exact (List.getElem_inj hN).mp (e1.trans e2.symm)
theorem store_ok2 {M : Model} {A : Around} {E : Value → Shared → Prop} {i : Nat} {x : Str} {v : V} {u : Value} {Q : Unit → Shared → Prop} (I : Inv X pins σ H s) (hN : X.N.Nodup) (hi : X.N[i]? = some x) (hx : Loc X.env.scope x) (r : RelV v u)
    (h : ∀ s', Inv X pins (σ.set i (some v)) H s' → (∃ a, Heap.SameBut a s.heap s'.heap ∧ (a = X.env.locals ∨ X.env.cells.lookup x = some a)) → Q () s') (hf : X.fn x = true ∨ X.env.scope.names.lookup x = some .local := by first | exact .inl rfl | exact .inr rfl | assumption) : wpAny M A (storeName X.env x u) Q E s := by
  obtain ⟨m, hn, hl⟩ := id I.loc
  have hcls : (X.env.scope.kind == .class || (X.env.scope.kind == .module && X.env.locals != X.env.globals)) = false := by rw [I.ok.kind]; rfl
  have hiσ : i < σ.length := by rw [I.len]; exact (List.getElem?_eq_some_iff.mp hi).1
  have cne := I.cne
  have tracked : ∀ {a : Addr} {h' : Heap}, (∃ o, s.heap.get? a = some o ∧ H a = none) → Heap.SameBut a s.heap h' → HOk X.prog X.w H h' := fun {a h'} ha hs b ob e => by
    obtain ⟨_, _, hfree⟩ := ha
    refine (I.hok b ob e).stay (fun c w' hc q => (hs.2 c ?_).trans q) (fun _ q => q) fun _ _ q => q
    rintro rfl
    rcases hc with rfl | hc
    · rw [hfree] at e; cases e
    · rw [hfree] at hc; cases hc
  rcases hx with hk | hk
  · refine wpAny_storeName_local hk hn (fun h' hn' hs => ?_) hcls
    obtain ⟨oL, _, _, hoL, _⟩ := id hn
    refine h _ ⟨I.ok, I.os, I.bare, ⟨fun b o e n hb hx => ?_, fun b o e n hb hx => ?_, I.base.free, fun b o e hx => ?_, I.base.tups, I.base.frzs, I.base.tbls⟩, ⟨_, hn', fun j y v' e1 e2 e3 => ?_⟩, fun y c e => ?_, I.free, I.freeC, fun p hp => ?_, tracked ⟨oL, hoL, I.free⟩ hs, by simpa using I.len⟩ ⟨_, hs, .inl rfl⟩
    · exact (hs.2 b (Nat.ne_of_lt (Nat.lt_of_lt_of_le (Heap.lt_size e) I.ok.above))).trans (I.base.keep b o e n hb hx)
    · obtain ⟨sl, e1⟩ := I.base.slot b o e n hb hx
      exact ⟨sl, (hs.2 b (Nat.ne_of_lt (Nat.lt_of_lt_of_le (Heap.lt_size e) I.ok.above))).trans e1⟩
    · obtain ⟨o', e1⟩ := I.base.there b o e hx
      exact ⟨o', (hs.2 b (Nat.ne_of_lt (Nat.lt_of_lt_of_le (Heap.lt_size e) I.ok.above))).trans e1⟩
    · by_cases hj : j = i
      · subst hj
        rw [hi] at e1; cases e1
        rw [List.getElem?_set_self hiσ] at e2
        cases e2
        exact ⟨u, r, .inl ⟨hk, by simp⟩⟩
      · rw [List.getElem?_set_ne (Ne.symm hj)] at e2
        obtain ⟨u', r', q⟩ := hl j y v' e1 e2 e3
        refine ⟨u', r', ?_⟩
        rcases q with ⟨k, e⟩ | ⟨k, c, e, z⟩
        · refine .inl ⟨k, ?_⟩
          have : y ≠ x := fun e => hj (nodup_ix hN e1 (e ▸ hi))
          simp [this, e]
        · exact .inr ⟨k, c, e, z.sameBut hs (cne y c e)⟩
    · obtain ⟨w', z⟩ := I.cell y c e
      exact ⟨w', z.sameBut hs (cne y c e)⟩
    · obtain ⟨e, n, ne, nf, d⟩ := I.pin p hp
      exact ⟨(hs.2 p.1 ne).trans e, n, ne, nf, d⟩
  · have hfn : X.fn x = true := by
      rcases hf with z | z
      · exact z
      · rw [z] at hk; cases hk
    obtain ⟨c, hc⟩ := I.ok.has x (.inl hk)
    obtain ⟨w', z⟩ := I.cell x c hc
    refine wpAny_storeName_cell I.ok.kind hk hc z (fun h' hc' hs => ?_)
    obtain ⟨oc, hoc, hocd⟩ := id z
    refine h { s with heap := h' } ⟨I.ok, I.os, I.bare, ⟨fun b o e n hb hx => ?_, fun b o e n hb hx => ?_, I.base.free, fun b o e hx => ?_, I.base.tups, I.base.frzs, I.base.tbls⟩, ⟨m, hn.sameBut hs (Ne.symm (cne x c hc)), fun j y v' e1 e2 e3 => ?_⟩, fun y c' e => ?_, I.free, I.freeC, fun p hp => ?_, tracked ⟨oc, hoc, I.freeC x c hc⟩ hs, by simpa using I.len⟩ ⟨c, hs, .inr hc⟩
    · exact (hs.2 b (Nat.ne_of_lt (Nat.lt_of_lt_of_le (Heap.lt_size e) (I.ok.cab x c hfn hc)))).trans (I.base.keep b o e n hb hx)
    · obtain ⟨sl, e1⟩ := I.base.slot b o e n hb hx
      exact ⟨sl, (hs.2 b (Nat.ne_of_lt (Nat.lt_of_lt_of_le (Heap.lt_size e) (I.ok.cab x c hfn hc)))).trans e1⟩
    · obtain ⟨o', e1⟩ := I.base.there b o e hx
      exact ⟨o', (hs.2 b (Nat.ne_of_lt (Nat.lt_of_lt_of_le (Heap.lt_size e) (I.ok.cab x c hfn hc)))).trans e1⟩
    · by_cases hj : j = i
      · subst hj
        rw [hi] at e1; cases e1
        rw [List.getElem?_set_self hiσ] at e2
        cases e2
        exact ⟨u, r, .inr ⟨.inl hk, c, hc, hc'⟩⟩
      · rw [List.getElem?_set_ne (Ne.symm hj)] at e2
        obtain ⟨u', r', q⟩ := hl j y v' e1 e2 e3
        refine ⟨u', r', ?_⟩
        rcases q with q | ⟨k, c', e, z'⟩
        · exact .inl q
        · refine .inr ⟨k, c', e, z'.sameBut hs ?_⟩
          rintro rfl
          exact hj (nodup_ix hN e1 (I.ok.inj _ _ _ e hc ▸ hi))
    · by_cases hcc : c' = c
      · subst hcc; exact ⟨_, hc'⟩
      · obtain ⟨w2, z2⟩ := I.cell y c' e
        exact ⟨w2, z2.sameBut hs hcc⟩
    · obtain ⟨e, n, ne, nf, d⟩ := I.pin p hp
      refine ⟨(hs.2 p.1 ?_).trans e, n, ne, nf, d⟩
      intro q
      rw [q, hoc] at e
      have q' : oc = p.2 := Option.some.inj e
      exact d w' (by rw [← q']; exact hocd)
theorem store_ok {M : Model} {A : Around} {E : Value → Shared → Prop} {i : Nat} {x : Str} {v : V} {u : Value} {Q : Unit → Shared → Prop} (I : Inv X pins σ H s) (hN : X.N.Nodup) (hi : X.N[i]? = some x) (hx : Loc X.env.scope x) (r : RelV v u)
    (h : ∀ s', Inv X pins (σ.set i (some v)) H s' → Q () s') (hf : X.fn x = true ∨ X.env.scope.names.lookup x = some .local := by first | exact .inl rfl | exact .inr rfl | assumption) : wpAny M A (storeName X.env x u) Q E s :=
  store_ok2 I hN hi hx r (fun s' I' _ => h s' I') hf
theorem Inv.call' {s' : Shared} {ch : List Addr} (I : Inv X pins σ H s) (ho : s'.os = s.os) (u : Un (frs X.stack) ch H H' s.heap s'.heap) (hok : HOk X.prog X.w H' s'.heap) (hg : AllBare s'.gens)
    (hch : ∀ b ∈ ch, (b ∈ X.ex ∨ X.s₀.heap.objs.size ≤ b) ∧ b ≠ X.env.locals ∧ (∀ x c, X.env.cells.lookup x = some c → c ≠ b) ∧ ∀ p ∈ X.pn ++ pins, p.1 ≠ b) : Inv X pins σ H' s' := by
  obtain ⟨h', g', d', t', o'⟩ := s'
  have e : o' = s.os := ho
  subst e
  exact I.call (g' := g') (t' := t') (d' := d') u hok hg hch
end
abbrev XK := Value → Option Addr → Hp → Prop
abbrev St := List (Option V)
abbrev VK := V → Hp → Prop
abbrev TE := St → Hp → VK → Prop
abbrev TT := St → Hp → (Bool → Hp → Prop) → Prop
abbrev TA := St → Hp → (List V → Hp → Prop) → Prop
structure Ends where
  nx : St → Hp → Prop
  rt : VK
  bk : St → Hp → Prop := fun _ _ => False
  ct : St → Hp → Prop := fun _ _ => False
abbrev TS := Ends → St → Hp → Prop
def EP (X : Cx) (pins : List (Addr × Obj)) (σ : St) (Q : VK) (u : Value) (s' : Shared) : Prop := ∃ v H', Inv X pins σ H' s' ∧ RelV v u ∧ Q v H'
def TP (X : Cx) (pins : List (Addr × Obj)) (σ : St) (Q : Bool → Hp → Prop) (b : Bool) (s' : Shared) : Prop := ∃ H', Inv X pins σ H' s' ∧ Q b H'
def AP (X : Cx) (pins : List (Addr × Obj)) (σ : St) (Q : List V → Hp → Prop) (us : List Value) (s' : Shared) : Prop := ∃ vs H', Inv X pins σ H' s' ∧ Vals vs us ∧ Q vs H'
def SP (X : Cx) (pins : List (Addr × Obj)) (D : Ends) (f : Flow) (s' : Shared) : Prop :=
  match f with
  | .next => ∃ σ' H', Inv X pins σ' H' s' ∧ D.nx σ' H'
  | .brk => ∃ σ' H', Inv X pins σ' H' s' ∧ D.bk σ' H'
  | .cont => ∃ σ' H', Inv X pins σ' H' s' ∧ D.ct σ' H'
  | .ret u => ∃ v σ' H', Inv X pins σ' H' s' ∧ RelV v u ∧ D.rt v H'
def PE (X : Cx) (e : Expr) (t : TE) : Prop :=
  ∀ (pins : List (Addr × Obj)) (s : Shared) (σ : St) (H : Hp) (Q : VK), Inv X pins σ H s → t σ H Q → wpAny (model X.prog X.w) X.A (eval e X.env) (EP X pins σ Q) X.xe s
def PT (X : Cx) (e : Expr) (t : TT) : Prop :=
  ∀ (pins : List (Addr × Obj)) (s : Shared) (σ : St) (H : Hp) (Q : Bool → Hp → Prop), Inv X pins σ H s → t σ H Q → wpAny (model X.prog X.w) X.A (isTrue e X.env (eval e X.env)) (TP X pins σ Q) X.xe s
def PW (X : Cx) (e : Expr) (t : TT) : Prop :=
  ∀ (whole : Sem Value) (pins : List (Addr × Obj)) (s : Shared) (σ : St) (H : Hp) (Q : Bool → Hp → Prop), Inv X pins σ H s → t σ H Q → wpAny (model X.prog X.w) X.A (isTrue e X.env whole) (TP X pins σ Q) X.xe s
theorem PW.pt {X : Cx} {e : Expr} {t : TT} (h : PW X e t) : PT X e t := h _
def PA (X : Cx) (es : List Expr) (t : TA) : Prop :=
  ∀ (pos : Pos) (pins : List (Addr × Obj)) (s : Shared) (σ : St) (H : Hp) (Q : List V → Hp → Prop), Inv X pins σ H s → t σ H Q → wpAny (model X.prog X.w) X.A (spliced (backTo pos (starEach es X.env))) (AP X pins σ Q) X.xe s
def PS (X : Cx) (st : Stmt) (t : TS) : Prop :=
  ∀ (pins : List (Addr × Obj)) (s : Shared) (σ : St) (H : Hp) (D : Ends), Inv X pins σ H s → t D σ H → wpAny (model X.prog X.w) X.A (exec st X.env) (SP X pins D) X.xe s
def PSs (X : Cx) (st : List Stmt) (t : TS) : Prop :=
  ∀ (pins : List (Addr × Obj)) (s : Shared) (σ : St) (H : Hp) (D : Ends), Inv X pins σ H s → t D σ H → wpAny (model X.prog X.w) X.A (execs st X.env) (SP X pins D) X.xe s
theorem thn {α : Type} {t : Sem α} {Q Q' : α → Shared → Prop} {M : Model} {A : Around} {E : Value → Shared → Prop} {s : Shared} (h : wpAny M A t Q E s) (hQ : ∀ a s, Q a s → Q' a s) : wpAny M A t Q' E s := wpAny_mono h hQ fun _ _ x => x
end L2
namespace L2
open PySem PySem.Spec PyProof.Rows
section
variable {X : Cx}
def tVar (i : Nat) : TE := fun σ H Q => ∃ v, σ[i]? = some (some v) ∧ Q v H
def tC (v : V) : TE := fun _ H Q => Q v H
theorem pe_var {i : Nat} {x : Str} {pos : Pos} (hN : X.N[i]? = some x) (hv : Vis X.env.scope x) (hd : (x == ("__debug__" : Str)) = false := by decide) (hcd : (x == ("__classdict__" : Str)) = false := by decide) : PE X (.Name x pos) (tVar i) := by
  intro pins s σ H Q I h
  obtain ⟨v, e, h⟩ := h
  obtain ⟨m, hn, hl⟩ := I.loc
  obtain ⟨u, r, l⟩ := hl i x v hN e hv
  have fin : EP X pins σ Q u s := ⟨v, H, I, r, h⟩
  rcases l with ⟨hk, hm⟩ | ⟨hk, c, hc, hcell⟩
  · exact wpAny_Name (wpAny_loadName_local I.ok.kind hk hn hm fin) hd
  · rcases hk with hk | hk
    · exact wpAny_Name (wpAny_loadName_cell I.ok.kind hk hc hcell fin) hd
    · exact wpAny_Name (wpAny_loadName_free I.ok.kind hk hc hcell fin hcd) hd
theorem pe_int {i j pos} : PE X (.Constant (.int i) j pos) (tC (.int i)) := fun _ _ _ H _ I h => wpAny_Constant_int ⟨.int i, H, I.tok _, ⟨_, rfl⟩, h⟩
theorem pe_bl {b j pos} : PE X (.Constant (.bool b) j pos) (tC (.bl b)) := fun _ _ _ H _ I h => Constant_bool ⟨.bl b, H, I, rfl, h⟩
theorem pe_str {x j pos} : PE X (.Constant (.str x) j pos) (tC (.str x)) := fun _ _ _ H _ I h => Calls.Constant_str ⟨.str x, H, I.tok _, ⟨_, rfl⟩, h⟩
def Gl (X : Cx) (x : Str) : Prop := X.env.kindOf x = some .globalImplicit
theorem ld_glob {E : Value → Shared → Prop} {pins : List (Addr × Obj)} {s : Shared} {σ : St} {H : Hp} {x : Str} {u : Value} {pos : Pos} {Q : Value → Shared → Prop} (I : Inv X pins σ H s) (hg : Gl X x) (hm : X.mg x = some u) (h : Q u s)
    (hd : (x == ("__debug__" : Str)) = false := by decide) : wpAny (model X.prog X.w) X.A (eval (.Name x pos) X.env) Q E s :=
  Calls.Name_function_global I.ok.kind hg (Calls.loadGlobal_global (by rw [I.ok.glob]; exact I.mod.glob.keeps I.bk) hm h) hd
theorem ld_blt {E : Value → Shared → Prop} {pins : List (Addr × Obj)} {s : Shared} {σ : St} {H : Hp} {x : Str} {u : Value} {pos : Pos} {Q : Value → Shared → Prop} (I : Inv X pins σ H s) (hg : Gl X x) (hm : X.mg x = none) (hv : bootBuiltins x = some u) (h : Q u s)
    (hn : x ≠ "__name__" := by decide) (hd : (x == ("__debug__" : Str)) = false := by decide) : wpAny (model X.prog X.w) X.A (eval (.Name x pos) X.env) Q E s := by
  obtain ⟨mb, h1, h2⟩ := I.mod.blt
  exact Calls.Name_function_global I.ok.kind hg (Calls.loadGlobal_builtin (by rw [I.ok.glob]; exact I.mod.glob.keeps I.bk) hm (by rw [I.ok.blt]; exact h1.keeps I.bk) ((h2 x hn).trans hv) h) hd
theorem pe_glob {x : Str} {v : V} {u : Value} {pos : Pos} (hg : Gl X x) (hm : X.mg x = some u) (r : RelV v u) (hd : (x == ("__debug__" : Str)) = false := by decide) : PE X (.Name x pos) (tC v) :=
  fun _ _ _ H _ I h => ld_glob I hg hm ⟨v, H, I, r, h⟩ hd
theorem pe_bltn {x : Str} {v : V} {u : Value} {pos : Pos} (hg : Gl X x) (hm : X.mg x = none) (hv : bootBuiltins x = some u) (r : RelV v u) (hn : x ≠ "__name__" := by decide) (hd : (x == ("__debug__" : Str)) = false := by decide) : PE X (.Name x pos) (tC v) :=
  fun _ _ _ H _ I h => ld_blt I hg hm hv ⟨v, H, I, r, h⟩ hn hd
variable {a b : Expr} {ta tb : TE} {pos : Pos}
def tB (t : TE) : TT := fun σ H Q => t σ H fun x H1 => ∃ c, x = .bl c ∧ Q c H1
theorem pt_val {e : Expr} {t : TE} (h : PE X e t) (he : ∀ whole, isTrue e X.env whole = (do let v ← whole; standAt e.pos; holding [v] (truthy v)) := by intro _; rfl) : PT X e (tB t) := by
  intro pins s σ H Q I hw
  refine isTrue_plain (thn (h pins s σ H _ I hw) fun v s1 ⟨x, H1, I1, r1, q1⟩ => ?_) (he _)
  obtain ⟨d, rfl, q⟩ := q1
  cases r1
  exact wpAny_truthy_bool ⟨H1, I1, q⟩
variable {tA tB' : TT} {rest : List Expr}
def tAnd (t u : TT) : TT := fun σ H Q => t σ H fun c H1 => if c = true then u σ H1 Q else Q false H1
def tOr (t u : TT) : TT := fun σ H Q => t σ H fun c H1 => if c = true then Q true H1 else u σ H1 Q
def tNot (t : TT) : TT := fun σ H Q => t σ H fun c H1 => Q (!c) H1
theorem pw_and1 (ha : PT X a tA) : PW X (.BoolOp .And [a] pos) tA := by
  intro wh pins s σ H Q I h
  refine isTrue_and (thn (ha pins s σ H Q I h) fun c s1 e => ?_)
  cases c with
  | true => exact isTrue_and_nil e
  | false => exact e
theorem pw_or1 (ha : PT X a tA) : PW X (.BoolOp .Or [a] pos) tA := by
  intro wh pins s σ H Q I h
  refine isTrue_or (thn (ha pins s σ H Q I h) fun c s1 e => ?_)
  cases c with
  | false => exact isTrue_or_nil e
  | true => exact e
theorem pw_and (ha : PT X a tA) (hb : PW X (.BoolOp .And (b :: rest) pos) tB') : PW X (.BoolOp .And (a :: b :: rest) pos) (tAnd tA tB') := by
  intro wh pins s σ H Q I h
  refine isTrue_and (thn (ha pins s σ H _ I h) fun c s1 ⟨H1, I1, q1⟩ => ?_)
  cases c with
  | true => exact hb wh pins s1 σ H1 Q I1 q1
  | false => exact ⟨H1, I1, q1⟩
theorem pw_or (ha : PT X a tA) (hb : PW X (.BoolOp .Or (b :: rest) pos) tB') : PW X (.BoolOp .Or (a :: b :: rest) pos) (tOr tA tB') := by
  intro wh pins s σ H Q I h
  refine isTrue_or (thn (ha pins s σ H _ I h) fun c s1 ⟨H1, I1, q1⟩ => ?_)
  cases c with
  | true => exact ⟨H1, I1, q1⟩
  | false => exact hb wh pins s1 σ H1 Q I1 q1
theorem pt_not (ha : PT X a tA) : PT X (.UnaryOp .Not a pos) (tNot tA) := by
  intro pins s σ H Q I h
  exact isTrue_not (ha pins s σ H (fun c H1 => Q (!c) H1) I h)
def tAndV (ta tb : TE) : TE := fun σ H Q => ta σ H fun x H1 => ∃ c, x = .bl c ∧ if c = true then tb σ H1 Q else Q (.bl false) H1
theorem pe_one {op} {t : TE} (h : PE X a t) : PE X (.BoolOp op [a] pos) t := fun pins s σ H Q I hw => BoolOp_one (h pins s σ H Q I hw)
theorem pe_and (ha : PE X a ta) (hb : PE X (.BoolOp .And (b :: rest) pos) tb) : PE X (.BoolOp .And (a :: b :: rest) pos) (tAndV ta tb) := by
  intro pins s σ H Q I h
  refine BoolOp_and (thn (ha pins s σ H _ I h) fun v s1 ⟨x, H1, I1, r1, q1⟩ => ?_)
  obtain ⟨c, rfl, q1⟩ := q1
  cases r1
  refine wpAny_truthy_bool ?_
  cases c with
  | true => exact hb pins s1 σ H1 Q I1 q1
  | false => exact ⟨.bl false, H1, I1, rfl, q1⟩
end
end L2
namespace L2
open PySem PySem.Spec PyProof.Rows
def SqL (K : PySem.W.Frag) (H : Hp) (a : Addr) (xs : List V) : Prop :=
  Rd H a (.lst xs) ∨
    ∃ (o : Obj) (its : Array Value) (n : Nat), K.lookup a = some o ∧ o.cls = .type "list" ∧ o.dict = none ∧ o.data = .seq its n ∧ its.size ≤ sizeLine ∧ Vals xs its.toList
def SqT (K : PySem.W.Frag) (H : Hp) (a : Addr) (xs : List V) : Prop :=
  Rd H a (.tup xs) ∨
    ∃ (o : Obj) (its : Array Value) (n : Nat), K.lookup a = some o ∧ o.cls = .type "tuple" ∧ o.data = .seq its n ∧ its.size ≤ sizeLine ∧ Vals xs its.toList
def absV : Value → Option V
  | .none => some .non
  | .bool b => some (.bl b)
  | .int i _ => some (.int i)
  | .str x _ => some (.str x)
  | .bytes b _ => some (.byt b)
  | .float b _ => some (.flt b)
  | .ref a => some (.ref a)
  | .type n => some (.ty n)
  | _ => none
theorem RelV.abs {x : V} {u : Value} (r : RelV x u) : absV u = some x := by
  cases x with
  | non => cases r; rfl
  | bl _ => cases r; rfl
  | int _ => obtain ⟨t, rfl⟩ := r; rfl
  | str _ => obtain ⟨t, rfl⟩ := r; rfl
  | byt _ => obtain ⟨t, rfl⟩ := r; rfl
  | flt _ => obtain ⟨t, rfl⟩ := r; rfl
  | ref _ => cases r; rfl
  | ty _ => cases r; rfl
theorem RelV.inj {x y : V} {u : Value} (r : RelV x u) (q : RelV y u) : x = y := Option.some.inj (r.abs.symm.trans q.abs)
theorem Vals.inj : ∀ {xs ys : List V} {us : List Value}, Vals xs us → Vals ys us → xs = ys
  | _, _, _, .nil, .nil => rfl
  | _, _, _, .cons r t, .cons r' t' => by rw [r.inj r', Vals.inj t t']
section
variable {X : Cx} {pins : List (Addr × Obj)} {σ : St} {H : Hp} {s : Shared} {a : Addr} {xs ys : List V}
theorem SqL.of {K : PySem.W.Frag} (h : H a = some (.lst xs)) : SqL K H a xs := .inl (.inl h)
theorem SqT.of {K : PySem.W.Frag} (h : H a = some (.tup xs)) : SqT K H a xs := .inl (.inl h)
theorem Inv.list (I : Inv X pins σ H s) (h : SqL X.K H a xs) : ∃ its : List Value, Vals xs its ∧ PlainL s.heap a its.toArray ∧ xs.length ≤ sizeLine := by
  rcases h with h | ⟨o, its, n, hk, hc, hd, hs, hz, r⟩
  · obtain ⟨z, its, n, r, e⟩ := h.ok I.hok
    exact ⟨its, r, ⟨_, n, e, rfl, rfl, rfl⟩, z⟩
  · refine ⟨its.toList, r, ⟨o, n, I.kIn a o hk, hc, hd, by simpa using hs⟩, ?_⟩
    have e := r.length
    simp only [Array.length_toList] at e
    omega
theorem Inv.tuple (I : Inv X pins σ H s) (h : SqT X.K H a xs) : ∃ its : List Value, Vals xs its ∧ IsTup s.heap a its.toArray ∧ xs.length ≤ sizeLine := by
  rcases h with h | ⟨o, its, n, hk, hc, hs, hz, r⟩
  · obtain ⟨z, its, r, p⟩ := h.ok I.hok
    exact ⟨its, r, p, z⟩
  · refine ⟨its.toList, r, ⟨o, I.kIn a o hk, hc, n, by simpa using hs⟩, ?_⟩
    have e := r.length
    simp only [Array.length_toList] at e
    omega
theorem Inv.list_inj (I : Inv X pins σ H s) (h : SqL X.K H a xs) (h' : SqL X.K H a ys) : xs = ys := by
  obtain ⟨its, r, ⟨o, n, e, _, _, d⟩, _⟩ := I.list h
  obtain ⟨its', r', ⟨o', n', e', _, _, d'⟩, _⟩ := I.list h'
  rw [e] at e'; cases e'
  rw [d] at d'
  injection d' with d1 _
  have : its = its' := by simpa using congrArg Array.toList d1
  subst this
  exact r.inj r'
theorem Inv.tuple_inj (I : Inv X pins σ H s) (h : SqT X.K H a xs) (h' : SqT X.K H a ys) : xs = ys := by
  obtain ⟨its, r, ⟨o, e, _, n, d⟩, _⟩ := I.tuple h
  obtain ⟨its', r', ⟨o', e', _, n', d'⟩, _⟩ := I.tuple h'
  rw [e] at e'; cases e'
  rw [d] at d'
  injection d' with d1 _
  have : its = its' := by simpa using congrArg Array.toList d1
  subst this
  exact r.inj r'
end
abbrev Cx.wish (X : Cx) (E : Value → Shared → Prop) : Cx := { X with xe := E }
abbrev Cx.nox (X : Cx) : Cx := X.wish fun _ _ => False
theorem Cx.Ok.wish {X : Cx} (ok : X.Ok) (E : Value → Shared → Prop) : (X.wish E).Ok :=
  ⟨ok.mod, ok.kind, ok.glob, ok.blt, ok.above, ok.inj, ok.has, ok.cab, ok.hd, ok.frames, ok.stk, ok.exf, ok.bs, ok.bsz, ok.noex, ok.exfs, ok.funs, ok.frf⟩
theorem Cx.Ok.unwish {X : Cx} {E : Value → Shared → Prop} (ok : (X.wish E).Ok) : X.Ok :=
  ⟨ok.mod, ok.kind, ok.glob, ok.blt, ok.above, ok.inj, ok.has, ok.cab, ok.hd, ok.frames, ok.stk, ok.exf, ok.bs, ok.bsz, ok.noex, ok.exfs, ok.funs, ok.frf⟩
section
variable {X : Cx} {pins : List (Addr × Obj)} {σ : St} {H : Hp} {s : Shared} {E : Value → Shared → Prop}
theorem Inv.wish (I : Inv X pins σ H s) (E : Value → Shared → Prop) : Inv (X.wish E) pins σ H s := ⟨I.ok.wish E, I.os, I.bare, I.base, I.loc, I.cell, I.free, I.freeC, I.pin, I.hok, I.len⟩
theorem Inv.unwish (I : Inv (X.wish E) pins σ H s) : Inv X pins σ H s := ⟨I.ok.unwish, I.os, I.bare, I.base, I.loc, I.cell, I.free, I.freeC, I.pin, I.hok, I.len⟩
theorem SP.unwish {D : Ends} {f : Flow} {s' : Shared} (h : SP (X.wish E) pins D f s') : SP X pins D f s' := by
  cases f with
  | next => obtain ⟨σ', H', I, q⟩ := h; exact ⟨σ', H', I.unwish, q⟩
  | brk => obtain ⟨σ', H', I, q⟩ := h; exact ⟨σ', H', I.unwish, q⟩
  | cont => obtain ⟨σ', H', I, q⟩ := h; exact ⟨σ', H', I.unwish, q⟩
  | ret u => obtain ⟨v, σ', H', I, r, q⟩ := h; exact ⟨v, σ', H', I.unwish, r, q⟩
theorem PE.nox {e : Expr} {t : TE} (h : PE X.nox e t) : PE X e t := fun pins s σ H Q I hw =>
  wpAny_mono (h pins s σ H Q (I.wish _) hw) (fun _ _ ⟨v, H', I', r, q⟩ => ⟨v, H', I'.unwish, r, q⟩) fun _ _ z => False.elim z
theorem PSs.nox {st : List Stmt} {t : TS} (h : PSs X.nox st t) : PSs X st t := fun pins s σ H D I hw =>
  wpAny_mono (h pins s σ H D (I.wish _) hw) (fun _ _ q => q.unwish) fun _ _ z => False.elim z
end
section
variable {X : Cx} {st : Stmt} {rest : List Stmt} {t u : TS} {e : Expr} {te : TE} {pos : Pos}
def tNext : TS := fun D σ H => D.nx σ H
def tSeq (t u : TS) : TS := fun D σ H => t { D with nx := u D } σ H
theorem pss_nil : PSs X [] tNext := fun _ _ σ H _ I h => wpAny_execs_nil ⟨σ, H, I, h⟩
theorem pss_cons (h1 : PS X st t) (h2 : PSs X rest u) : PSs X (st :: rest) (tSeq t u) := by
  intro pins s σ H D I h
  refine wpAny_execs_cons (thn (h1 pins s σ H { D with nx := u D } I h) fun f s1 q => ?_)
  cases f with
  | next =>
    obtain ⟨σ', H', I', q⟩ := q
    exact h2 pins s1 σ' H' D I' q
  | ret v => exact q
  | brk => exact q
  | cont => exact q
theorem pss_one (h1 : PS X st t) : PSs X [st] t := by
  intro pins s σ H D I h
  refine wpAny_execs_cons (thn (h1 pins s σ H D I h) fun f s1 q => ?_)
  cases f with
  | next => exact wpAny_execs_nil q
  | ret v => exact q
  | brk => exact q
  | cont => exact q
theorem Inv.quiet {pins : List (Addr × Obj)} {σ : St} {H : Hp} {s : Shared} (I : Inv X pins σ H s) : interactive X.env = false := by simp [interactive, I.ok.kind]
def tDrop (te : TE) : TS := fun D σ H => te σ H fun _ H1 => D.nx σ H1
theorem ps_expr (he : PE X e te) (hs : swapsWith e none pos.line X.env = pure false := by rfl) : PS X (.Expr e pos) (tDrop te) := by
  intro pins s σ H D I h
  exact wpAny_Expr_any (thn (he pins s σ H _ I h) fun v s1 ⟨x, H1, I1, r1, q1⟩ => ⟨σ, H1, I1, q1⟩) I.quiet hs
def tRet (te : TE) : TS := fun D σ H => te σ H D.rt
theorem ps_ret (he : PE X e te) : PS X (.Return (some e) pos) (tRet te) := by
  intro pins s σ H D I h
  exact wpAny_Return_some (thn (he pins s σ H _ I h) fun v s1 ⟨x, H1, I1, r1, q1⟩ => ⟨x, σ, H1, I1, r1, q1⟩)
def tIfS (c : TT) (t u : TS) : TS := fun D σ H => c σ H fun b H1 => if b = true then t D σ H1 else u D σ H1
theorem ps_if {c : Expr} {a b : List Stmt} {tc : TT} (hc : PT X c tc) (ha : PSs X a t) (hb : PSs X b u) : PS X (.If c a b pos) (tIfS tc t u) := by
  intro pins s σ H D I h
  refine wpAny_If (thn (hc pins s σ H _ I h) fun d s1 ⟨H1, I1, q1⟩ => ?_)
  cases d with
  | true => exact ha pins s1 σ H1 D I1 q1
  | false => exact hb pins s1 σ H1 D I1 q1
def tNever : TS := fun _ _ _ => False
theorem pss_never {sts : List Stmt} : PSs X sts tNever := fun _ _ _ _ _ _ h => h.elim
end
abbrev TG := V → St → Hp → (St → Hp → Prop) → Prop
abbrev TGs := List V → St → Hp → (St → Hp → Prop) → Prop
def PG (X : Cx) (target : Expr) (t : TG) : Prop :=
  ∀ (pins : List (Addr × Obj)) (s : Shared) (σ : St) (H : Hp) (v : V) (u : Value) (Q : St → Hp → Prop), Inv X pins σ H s → RelV v u → t v σ H Q →
    wpAny (model X.prog X.w) X.A (assign target X.env u) (fun _ s' => ∃ σ' H', Inv X pins σ' H' s' ∧ Q σ' H') X.xe s
def PGs (X : Cx) (ts : List Expr) (t : TGs) : Prop :=
  ∀ (pins : List (Addr × Obj)) (s : Shared) (σ : St) (H : Hp) (vs : List V) (us : List Value) (Q : St → Hp → Prop), Inv X pins σ H s → Vals vs us → t vs σ H Q →
    wpAny (model X.prog X.w) X.A (assignInOrder ((assignEach ts X.env).map (·.2)) us) (fun _ s' => ∃ σ' H', Inv X pins σ' H' s' ∧ Q σ' H') X.xe s
abbrev TIp := V → V → Hp → VK → Prop
def PIp (X : Cx) (op : Operator) (t : TIp) : Prop :=
  ∀ (pins : List (Addr × Obj)) (s : Shared) (σ : St) (H : Hp) (x y : V) (v u : Value) (Q : VK), Inv X pins σ H s → RelV x v → RelV y u → t x y H Q →
    wpAny (model X.prog X.w) X.A (inplaceOp op v u) (EP X pins σ Q) X.xe s
section
variable {X : Cx} {pos : Pos}
def gName (i : Nat) : TG := fun v σ H Q => Q (σ.set i (some v)) H
theorem pg_name {i : Nat} {x : Str} (hN : X.N.Nodup) (hi : X.N[i]? = some x) (hx : Loc X.env.scope x) (hf : X.fn x = true ∨ X.env.scope.names.lookup x = some .local := by first | exact .inl rfl | exact .inr rfl | assumption) : PG X (.Name x pos) (gName i) := by
  intro pins s σ H v u Q I r h
  exact wpAny_assign_Name (store_ok I hN hi hx r (fun s' I' => ⟨_, H, I', h⟩) hf)
def gNil : TGs := fun vs σ H Q => vs = [] ∧ Q σ H
def gCons (t : TG) (u : TGs) : TGs := fun vs σ H Q => ∃ v r, vs = v :: r ∧ t v σ H fun σ' H' => u r σ' H' Q
theorem pgs_nil : PGs X [] gNil := by
  intro pins s σ H vs us Q I r h
  obtain ⟨e, h⟩ := h
  subst e
  cases r
  exact assignInOrder_nil ⟨σ, H, I, h⟩
theorem pgs_cons {e : Expr} {es : List Expr} {t : TG} {u : TGs} (h1 : PG X e t) (h2 : PGs X es u)
    (hs : (assignEach (e :: es) X.env).map (·.2) = assign e X.env :: (assignEach es X.env).map (·.2) := by rfl) : PGs X (e :: es) (gCons t u) := by
  intro pins s σ H vs us Q I r h
  obtain ⟨v, vr, e1, h⟩ := h
  subst e1
  cases r with
  | cons r rr =>
    rw [hs]
    refine assignInOrder_cons (thn (h1 pins s σ H _ _ _ I r h) fun _ s1 ⟨σ1, H1, I1, q1⟩ => ?_)
    exact h2 pins s1 σ1 H1 _ _ Q I1 rr q1
def gTup (K : PySem.W.Frag) (n : Nat) (t : TGs) : TG := fun v σ H Q => ∃ a xs, v = .ref a ∧ SqT K H a xs ∧ xs.length = n ∧ t xs σ H Q
theorem pg_tup {es : List Expr} {k : Nat} {t : TGs} {n : Nat} (hc : X.calm = true) (h : PGs X es t)
    (hn : (assignEach es X.env).length = n := by rfl) (hst : (assignEach es X.env).findIdx? (·.1) = none := by rfl) : PG X (.Tuple es k pos) (gTup X.K n t) := by
  intro pins s σ H v u Q I r hw
  obtain ⟨a, xs, e1, hq, hl, hw⟩ := hw
  subst e1
  cases r
  obtain ⟨its, rv, ht, hz⟩ := I.tuple hq
  refine assign_Tuple_tuple (I.ok.hd hc) ht (by simp [hn, ← hl, rv.length]) hst fun h' hx => ?_
  have I1 : Inv X pins σ H { s with heap := h' } := I.kept (t' := s.toks) fun b o e => hx b o (Nat.ne_of_lt (Heap.lt_size e)) e
  exact h pins _ σ H xs _ Q I1 (by simpa using rv) hw
def tAsg (te : TE) (g : TG) : TS := fun D σ H => te σ H fun x H1 => g x σ H1 D.nx
theorem ps_set {i : Nat} {x : Str} {e : Expr} {te : TE} {pos' : Pos} (hN : X.N.Nodup) (hi : X.N[i]? = some x) (hx : Loc X.env.scope x) (he : PE X e te) (hs : swapsWith e (some (.Name x pos')) pos.line X.env = pure false := by rfl) (hf : X.fn x = true ∨ X.env.scope.names.lookup x = some .local := by first | exact .inl rfl | exact .inr rfl | assumption) :
    PS X (.Assign [.Name x pos'] e pos) (tAsg te (gName i)) := by
  intro pins s σ H D I h
  refine wpAny_Assign_Name (thn (he pins s σ H _ I h) fun v s1 ⟨y, H1, I1, r1, q1⟩ => ?_) hs
  exact store_ok I1 hN hi hx r1 (fun s2 I2 => ⟨_, H1, I2, q1⟩) hf
def tAug (i : Nat) (te : TE) (ti : TIp) : TS := fun D σ H => ∃ x, σ[i]? = some (some x) ∧ te σ H fun y H1 => ti x y H1 fun z H2 => D.nx (σ.set i (some z)) H2
theorem ps_aug {i : Nat} {x : Str} {e : Expr} {te : TE} {op : Operator} {ti : TIp} {pos' : Pos} (hN : X.N.Nodup) (hi : X.N[i]? = some x) (hx : Loc X.env.scope x) (he : PE X e te) (ho : PIp X op ti) (hf : X.fn x = true ∨ X.env.scope.names.lookup x = some .local := by first | exact .inl rfl | exact .inr rfl | assumption) :
    PS X (.AugAssign (.Name x pos') op e pos) (tAug i te ti) := by
  intro pins s σ H D I h
  obtain ⟨v, e1, h⟩ := h
  obtain ⟨m, hn, hl⟩ := I.loc
  have vis : Vis X.env.scope x := by rcases hx with k | k; exact .inl k; exact .inr (.inl k)
  obtain ⟨u, r, l⟩ := hl i x v hi e1 vis
  refine wpAny_AugAssign_Name ?_
  have go : wpAny (model X.prog X.w) X.A (eval e X.env) (fun w s₂ => wpAny (model X.prog X.w) X.A (inplaceOp op u w) (fun r s₃ => wpAny (model X.prog X.w) X.A (storeName X.env x r) (fun _ => SP X pins D .next) X.xe s₃) X.xe s₂) X.xe s := by
    refine thn (he pins s σ H _ I h) fun w s1 ⟨y, H1, I1, r1, q1⟩ => ?_
    refine thn (ho pins s1 σ H1 v y u w _ I1 r r1 q1) fun z s2 ⟨zv, H2, I2, r2, q2⟩ => ?_
    exact store_ok I2 hN hi hx r2 (fun s3 I3 => ⟨_, H2, I3, q2⟩) hf
  rcases l with ⟨hk, hm⟩ | ⟨hk, c, hc, hcell⟩
  · exact wpAny_loadName_local I.ok.kind hk hn hm go
  · rcases hk with hk | hk
    · exact wpAny_loadName_cell I.ok.kind hk hc hcell go
    · rcases hx with k | k
      · have : X.env.scope.names.lookup x = some .free := hk
        rw [k] at this; cases this
      · have : X.env.scope.names.lookup x = some .free := hk
        rw [k] at this; cases this
def ipI (f : Int → Int → Int) : TIp := fun x y H Q => ∃ i j, x = .int i ∧ y = .int j ∧ Q (.int (f i j)) H
theorem ip_add : PIp X .Add (ipI fun i j => i + j) := by
  intro pins s σ H x y v u Q I r1 r2 h
  obtain ⟨i, j, e1, e2, q⟩ := h
  subst e1; subst e2
  obtain ⟨t, rfl⟩ := r1
  obtain ⟨t', rfl⟩ := r2
  exact iadd_int ⟨.int _, H, I.tok _, ⟨_, rfl⟩, q⟩
end
section
variable {X : Cx} {pos : Pos}
def tWhile (c : TT) (tb : TS) : TS := fun D σ H => ∃ W : Nat → St → Hp → Prop, (∃ m, W m σ H) ∧ ∀ m σ H, W m σ H →
  c σ H fun b H1 => if b = true then ∃ N : St → Hp → Prop, (∀ σ' H', N σ' H' → ∃ m', m' < m ∧ W m' σ' H') ∧ tb { D with nx := N, ct := N, bk := D.nx } σ H1 else D.nx σ H1
theorem ps_while {c : Expr} {body : List Stmt} {tc : TT} {tb : TS} (hp : PassesOwn (model X.prog X.w) X.A X.env X.xe) (hc : PT X c tc) (hb : PSs X body tb) : PS X (.While c body [] pos) (tWhile tc tb) := by
  intro pins s σ H D I h
  obtain ⟨W, ⟨m0, w0⟩, turn⟩ := h
  refine wpAny_While (codeAny_whileLoop (fun n s' => ∃ σ' H', Inv X pins σ' H' s' ∧ W n σ' H') ?_ m0 ⟨σ, H, I, w0⟩)
  rintro n s1 ⟨σ1, H1, I1, w1⟩
  refine wpAny_passesOwn hp (thn (hc pins s1 σ1 H1 _ I1 (turn n σ1 H1 w1)) fun b s2 ⟨H2, I2, q2⟩ => ?_)
  cases b with
  | true =>
    obtain ⟨N, hN, q2⟩ := q2
    rw [if_pos rfl]
    refine wpAny_passesOwn hp (thn (hb pins s2 σ1 H2 _ I2 q2) fun f s3 q3 => ?_)
    cases f with
    | next =>
      obtain ⟨σ3, H3, I3, n3⟩ := q3
      obtain ⟨m', hm, w3⟩ := hN σ3 H3 n3
      exact ⟨m', hm, σ3, H3, I3, w3⟩
    | cont =>
      obtain ⟨σ3, H3, I3, n3⟩ := q3
      obtain ⟨m', hm, w3⟩ := hN σ3 H3 n3
      exact ⟨m', hm, σ3, H3, I3, w3⟩
    | brk => exact q3
    | ret v => exact q3
  | false =>
    rw [if_neg Bool.false_ne_true]
    exact wpAny_execs_nil ⟨σ1, H2, I2, q2⟩
end
structure It where
  go : Nat → Hp → Prop
  yld : Nat → Hp → V → Hp → Prop
  stop : Nat → Hp → Prop
def FpOk (X : Cx) (pins : List (Addr × Obj)) (H : Hp) (b : Addr) : Prop :=
  H b = none ∧ b ≠ X.env.locals ∧ b ∉ X.fs ∧ (b ∈ X.ex ∨ X.s₀.heap.objs.size ≤ b) ∧ (∀ x c, X.env.cells.lookup x = some c → c ≠ b) ∧ ∀ p ∈ X.pn ++ pins, p.1 ≠ b
theorem Inv.fpOk {X : Cx} {pins : List (Addr × Obj)} {σ : St} {H H' : Hp} {s : Shared} {b : Addr} (I : Inv X pins σ H s) (hb : s.heap.objs.size ≤ b) (hn : H' b = none) : FpOk X pins H' b := by
  refine ⟨hn, Nat.ne_of_gt (Nat.lt_of_lt_of_le I.lt hb), I.nofs hb, .inr (Nat.le_trans I.sz hb), fun x c e z => ?_, fun p hp z => ?_⟩
  · obtain ⟨v, q⟩ := I.cell x c e
    exact absurd (Nat.lt_of_lt_of_le q.lt (by rw [z]; exact hb)) (Nat.lt_irrefl _)
  · exact absurd (Nat.lt_of_lt_of_le (Heap.lt_size (I.pin p hp).1) (by rw [z]; exact hb)) (Nat.lt_irrefl _)
structure Turn (P : Program) (w : World) (K : PySem.W.Frag) (tg : Expr) (J : It) (fp : List Addr) (it : Addr) (tn : Nat → Heap → Prop) : Prop where
  mem : it ∈ fp
  obj : ∀ i h, tn i h → ∀ b ∈ fp, ∃ o, h.get? b = some o ∧ ∀ v, o.data ≠ .cell v
  keep : ∀ i h h', tn i h → (∀ b ∈ fp, ∀ o, h.get? b = some o → h'.get? b = some o) → tn i h'
  item : ∀ (X : Cx), X.prog = P → X.w = w → X.K = K → X.calm = true → ∀ (i : Nat) (pins : List (Addr × Obj)) (s : Shared) (σ : St) (H : Hp) (E : Value → Shared → Prop), Inv X pins σ H s → (∀ b ∈ fp, FpOk X pins H b) → tn i s.heap → J.go i H →
    wpAny (model P w) X.A (pyNext (.ref it)) (fun r s1 => ∃ u, r = some u ∧
      wpAny (model P w) X.A (letOwnedTupleGo tg (.ref it) u) (fun _ s2 => ∃ x H', Inv X pins σ H' s2 ∧ RelV x u ∧ J.yld i H x H' ∧ tn (i + 1) s2.heap ∧ ∀ b ∈ fp, H' b = none) E s1) E s
  done : ∀ (X : Cx), X.prog = P → X.w = w → X.K = K → X.calm = true → ∀ (i : Nat) (pins : List (Addr × Obj)) (s : Shared) (σ : St) (H : Hp) (E : Value → Shared → Prop), Inv X pins σ H s → (∀ b ∈ fp, FpOk X pins H b) → tn i s.heap → J.stop i H →
    wpAny (model P w) X.A (pyNext (.ref it)) (fun r s1 => r = none ∧ Inv X pins σ H s1) E s
  self : ∀ (A : Around) (i : Nat) (s : Shared) (Q : Value → Shared → Prop) (E : Value → Shared → Prop), tn i s.heap → Q (.ref it) s → wpAny (model P w) A (pyIter (.ref it)) Q E s
abbrev TI := St → Hp → (It → Hp → Prop) → Prop
def PIE (X : Cx) (pins : List (Addr × Obj)) (σ : St) (tg : Expr) (R : It → Hp → Prop) (itv : Value) (s2 : Shared) : Prop :=
  ∃ (it : Addr) (fp : List Addr) (tn : Nat → Heap → Prop) (J : It) (H' : Hp), itv = .ref it ∧ Inv X pins σ H' s2 ∧ Turn X.prog X.w X.K tg J fp it tn ∧ tn 0 s2.heap ∧ (∀ b ∈ fp, FpOk X pins H' b) ∧ R J H'
def PI (X : Cx) (tg iter : Expr) (wi : TI) : Prop :=
  ∀ (pins : List (Addr × Obj)) (s : Shared) (σ : St) (H : Hp) (R : It → Hp → Prop), Inv X pins σ H s → wi σ H R →
    wpAny (model X.prog X.w) X.A (eval iter X.env) (fun v s1 => wpAny (model X.prog X.w) X.A (pyIter v) (PIE X pins σ tg R) X.xe s1) X.xe s
theorem go_of {M : Model} {A : Around} {E : Value → Shared → Prop} {s : Shared} {tg : Expr} {it : Addr} {u : Value} {o : Obj} {n : String} {vs : Array Value} {Q : Unit → Shared → Prop} (ho : s.heap.get? it = some o) (hc : o.cls = .type n) (hd : o.data = .fields vs)
    (hn : ["enumerate", "zip", "dict_itemiterator", "dict_reverseitemiterator", "odict_iterator", "itertools.zip_longest", "itertools.pairwise"].contains n = false) (hQ : Q () s) : wpAny M A (letOwnedTupleGo tg (.ref it) u) Q E s := by
  unfold letOwnedTupleGo
  cases tg <;> first
    | exact wpAny_pure hQ
    | (cases u <;> first
        | exact wpAny_pure hQ
        | (refine wpAny_bind (wpAny_load ho ?_)
           rw [hc, hd]
           show wpAny M A (if (["enumerate", "zip", "dict_itemiterator", "dict_reverseitemiterator", "odict_iterator", "itertools.zip_longest", "itertools.pairwise"].contains n && vs[0]? == some (rawInt _)) = true then _ else _) Q E s
           rw [if_neg (by intro h; rw [hn, Bool.false_and] at h; cases h)]
           exact wpAny_pure hQ))
def Itl (K : PySem.W.Frag) (a : Addr) : It :=
  ⟨fun i H => ∃ xs x, SqL K H a xs ∧ xs[i]? = some x, fun i H x H' => H' = H ∧ ∀ xs, SqL K H a xs → xs[i]? = some x, fun i H => ∃ xs, SqL K H a xs ∧ xs.length ≤ i⟩
def Itt (K : PySem.W.Frag) (a : Addr) : It :=
  ⟨fun i H => ∃ xs x, SqT K H a xs ∧ xs[i]? = some x, fun i H x H' => H' = H ∧ ∀ xs, SqT K H a xs → xs[i]? = some x, fun i H => ∃ xs, SqT K H a xs ∧ xs.length ≤ i⟩
def Itr (lo : Int) (n : Nat) : It := ⟨fun i _ => i < n, fun i H x H' => H' = H ∧ x = .int (lo + i), fun i _ => n ≤ i⟩
theorem turn_list {P : Program} {w : World} {K : PySem.W.Frag} {tg : Expr} (a it : Addr) : Turn P w K tg (Itl K a) [it] it (fun i h => h.IsListIter it a i) where
  mem := by simp
  obj := fun i h st b hb => by
    have e : b = it := by simpa using hb
    subst e
    obtain ⟨o, e, c, d⟩ := st
    exact ⟨o, e, fun v z => by rw [d] at z; cases z⟩
  keep := fun i h h' st k => st.at fun o e => k it (by simp) o e
  item := by
    intro X hP hw hK hc i pins s σ H E I hf st hg
    subst hP hw hK
    obtain ⟨xs, x, hq, hx⟩ := hg
    obtain ⟨its, rv, p, hz⟩ := I.list hq
    obtain ⟨u, hu, ru⟩ := rv.get hx
    obtain ⟨f0, f1, f2, f3, f4, f5⟩ := hf it (by simp)
    refine wpAny_pyNext_list_item st p.isList (x := u) (by simpa using hu) fun h' st' sb => ?_
    have I1 : Inv X pins σ H { s with heap := h' } := I.turned (t' := s.toks) (fun b o hb e => (sb.2 b hb).trans e) f0 f1 f3 f4 f5
    obtain ⟨o, e, c, d⟩ := id st'
    exact ⟨u, rfl, go_of (s := { s with heap := h' }) e c d (by decide) ⟨x, H, I1, ru, ⟨rfl, fun ys hy => by rw [I.list_inj hy hq]; exact hx⟩, st', fun b hb => (hf b hb).1⟩⟩
  done := by
    intro X hP hw hK hc i pins s σ H E I hf st hg
    subst hP hw hK
    obtain ⟨xs, hq, hx⟩ := hg
    obtain ⟨its, rv, p, hz⟩ := I.list hq
    obtain ⟨f0, f1, f2, f3, f4, f5⟩ := hf it (by simp)
    have hl := rv.length
    exact wpAny_pyNext_list_end (I.ok.hd hc) st p.isList (by simp; omega) fun h' eb => ⟨rfl, I.turned (t' := s.toks) (fun b o hb e => eb b o hb e) f0 f1 f3 f4 f5⟩
  self := fun _ _ _ _ _ st h => wpAny_pyIter_listiter st h
theorem turn_tuple {P : Program} {w : World} {K : PySem.W.Frag} {tg : Expr} (a it : Addr) : Turn P w K tg (Itt K a) [it] it (fun i h => h.IsTupleIter it a i) where
  mem := by simp
  obj := fun i h st b hb => by
    have e : b = it := by simpa using hb
    subst e
    obtain ⟨o, e, c, d⟩ := st
    exact ⟨o, e, fun v z => by rw [d] at z; cases z⟩
  keep := fun i h h' st k => st.at fun o e => k it (by simp) o e
  item := by
    intro X hP hw hK hc i pins s σ H E I hf st hg
    subst hP hw hK
    obtain ⟨xs, x, hq, hx⟩ := hg
    obtain ⟨its, rv, p, hz⟩ := I.tuple hq
    obtain ⟨u, hu, ru⟩ := rv.get hx
    obtain ⟨f0, f1, f2, f3, f4, f5⟩ := hf it (by simp)
    refine wpAny_pyNext_tuple_item st (show s.heap.IsTuple a its.toArray from p) (x := u) (by simpa using hu) fun h' st' sb => ?_
    have I1 : Inv X pins σ H { s with heap := h' } := I.turned (t' := s.toks) (fun b o hb e => (sb.2 b hb).trans e) f0 f1 f3 f4 f5
    obtain ⟨o, e, c, d⟩ := id st'
    exact ⟨u, rfl, go_of (s := { s with heap := h' }) e c d (by decide) ⟨x, H, I1, ru, ⟨rfl, fun ys hy => by rw [I.tuple_inj hy hq]; exact hx⟩, st', fun b hb => (hf b hb).1⟩⟩
  done := by
    intro X hP hw hK hc i pins s σ H E I hf st hg
    subst hP hw hK
    obtain ⟨xs, hq, hx⟩ := hg
    obtain ⟨its, rv, p, hz⟩ := I.tuple hq
    obtain ⟨f0, f1, f2, f3, f4, f5⟩ := hf it (by simp)
    have hl := rv.length
    exact wpAny_pyNext_tuple_end (I.ok.hd hc) st (show s.heap.IsTuple a its.toArray from p) (by simp; omega) fun h' eb => ⟨rfl, I.turned (t' := s.toks) (fun b o hb e => eb b o hb e) f0 f1 f3 f4 f5⟩
  self := fun _ _ _ _ _ st h => wpAny_pyIter_tupleiter st h
theorem turn_range {P : Program} {w : World} {K : PySem.W.Frag} {tg : Expr} (it : Addr) (lo : Int) (n : Nat) : Turn P w K tg (Itr lo n) [it] it (fun i h => IsRangeIter h it (lo + (i : Nat) * 1) ((n : Int) - (i : Nat)) 1) where
  mem := by simp
  obj := fun i h st b hb => by
    have e : b = it := by simpa using hb
    subst e
    exact ⟨_, st, fun v z => by
      have z' : Data.fields _ = Data.cell v := z
      cases z'⟩
  keep := fun i h h' st k => k it (by simp) _ st
  item := by
    intro X hP hw hK hc i pins s σ H E I hf st hg
    subst hP hw hK
    obtain ⟨f0, f1, f2, f3, f4, f5⟩ := hf it (by simp)
    have W := Walks.range (prog := X.prog) (w := X.w) (I.ok.hd hc) it lo 1 n
    refine W.item i s _ _ hg st fun v h' tk hv st' kk => ?_
    obtain ⟨t, rfl⟩ := hv
    have I1 : Inv X pins σ H { s with heap := h', toks := tk } := I.turned (fun b o hb e => kk b o (by simpa using hb) e) f0 f1 f3 f4 f5
    refine ⟨_, rfl, go_of (s := { s with heap := h', toks := tk }) (n := "range_iterator") st' rfl rfl (by decide) ⟨.int (lo + i), H, I1, ⟨t, ?_⟩, ⟨rfl, rfl⟩, st', fun b hb => (hf b hb).1⟩⟩
    rw [Int.mul_one]
  done := by
    intro X hP hw hK hc i pins s σ H E I hf st hg
    subst hP hw hK
    obtain ⟨f0, f1, f2, f3, f4, f5⟩ := hf it (by simp)
    exact wpAny_pyNext_range_end (I.ok.hd hc) st (by have : n ≤ i := hg; omega) fun h' eb => ⟨rfl, I.turned (t' := s.toks) (fun b o hb e => eb b o hb e) f0 f1 f3 f4 f5⟩
  self := fun _ _ _ _ _ st h => wpAny_pyIter_rangeiter st h
end L2
namespace L2
open PySem PySem.Spec PyProof.Rows
section
variable {X : Cx} {tg : Expr}
def iList (K : PySem.W.Frag) (tl : TE) : TI := fun σ H R => tl σ H fun x H1 => ∃ a, x = .ref a ∧ (∃ xs, SqL K H1 a xs) ∧ R (Itl K a) H1
def iTup (K : PySem.W.Frag) (tl : TE) : TI := fun σ H R => tl σ H fun x H1 => ∃ a, x = .ref a ∧ (∃ xs, SqT K H1 a xs) ∧ R (Itt K a) H1
theorem pi_list {l : Expr} {tl : TE} (hl : PE X l tl) : PI X tg l (iList X.K tl) := by
  intro pins s σ H R I h
  refine thn (hl pins s σ H _ I h) fun v s1 ⟨x, H1, I1, r1, q1⟩ => ?_
  obtain ⟨a, e, ⟨xs, hq⟩, q⟩ := q1
  subst e
  cases r1
  obtain ⟨its, rv, p, hz⟩ := I1.list hq
  refine wpAny_pyIter_list p.isList ?_
  refine ⟨s1.heap.objs.size, [s1.heap.objs.size], _, _, H1, rfl, I1.kept (t' := s1.toks) fun b o e => Heap.get?_push_of_some _ e, turn_list a _, ⟨_, Heap.get?_push_size _ rfl, rfl, rfl⟩, fun b hb => ?_, q⟩
  have e : b = s1.heap.objs.size := by simpa using hb
  subst e
  exact I1.fpOk (Nat.le_refl _) (I1.hok.fresh (Nat.le_refl _))
theorem pi_tup {l : Expr} {tl : TE} (hl : PE X l tl) : PI X tg l (iTup X.K tl) := by
  intro pins s σ H R I h
  refine thn (hl pins s σ H _ I h) fun v s1 ⟨x, H1, I1, r1, q1⟩ => ?_
  obtain ⟨a, e, ⟨xs, hq⟩, q⟩ := q1
  subst e
  cases r1
  obtain ⟨its, rv, p, hz⟩ := I1.tuple hq
  refine wpAny_pyIter_tuple (show s1.heap.IsTuple a its.toArray from p) ?_
  refine ⟨s1.heap.objs.size, [s1.heap.objs.size], _, _, H1, rfl, I1.kept (t' := s1.toks) fun b o e => Heap.get?_push_of_some _ e, turn_tuple a _, ⟨_, Heap.get?_push_size _ rfl, rfl, rfl⟩, fun b hb => ?_, q⟩
  have e : b = s1.heap.objs.size := by simpa using hb
  subst e
  exact I1.fpOk (Nat.le_refl _) (I1.hok.fresh (Nat.le_refl _))
theorem range_it {pins : List (Addr × Obj)} {σ : St} {H : Hp} {s : Shared} {R : It → Hp → Prop} {E : Value → Shared → Prop} {lo hi : Int} {t u v : Tok} {tk : Nat} (I : Inv X pins σ H s) (h1 : -(2 ^ 62) ≤ lo) (h2 : lo < 2 ^ 62) (h3 : -(2 ^ 62) ≤ hi) (h4 : hi < 2 ^ 62)
    (q : R (Itr lo (hi - lo).toNat) H) : wpAny (model X.prog X.w) X.A (pyIter (.ref s.heap.objs.size)) (PIE X pins σ tg R) E { s with heap := s.heap.push { cls := .type "range", data := .fields #[.int lo t, .int hi u, .int 1 v] }, toks := tk } := by
  refine wpAny_pyIter_range (IsRange.new ..) (small_one h1 h2 h3 h4) ?_
  have I1 : Inv X pins σ H { s with heap := s.heap.push { cls := .type "range", data := .fields #[.int lo t, .int hi u, .int 1 v] }, toks := tk } := I.kept fun b o e => Heap.get?_push_of_some _ e
  refine ⟨(s.heap.push { cls := .type "range", data := .fields #[.int lo t, .int hi u, .int 1 v] }).objs.size, [(s.heap.push { cls := .type "range", data := .fields #[.int lo t, .int hi u, .int 1 v] }).objs.size], _, _, H, rfl,
    I1.kept (t' := tk) fun b o e => Heap.get?_push_of_some _ e, turn_range _ lo (hi - lo).toNat, ?_, fun b hb => ?_, q⟩
  · have e1 : lo + ((0 : Nat) : Int) * 1 = lo := by simp
    have e2 : (((hi - lo).toNat : Nat) : Int) - ((0 : Nat) : Int) = Builtin.Range.rangeSize lo hi 1 := by rw [rangeSize_one]; split <;> omega
    show IsRangeIter _ _ (lo + ((0 : Nat) : Int) * 1) ((((hi - lo).toNat : Nat) : Int) - ((0 : Nat) : Int)) 1
    rw [e1, e2]
    exact Heap.get?_push_size _ rfl
  · have e : b = (s.heap.push { cls := .type "range", data := .fields #[.int lo t, .int hi u, .int 1 v] }).objs.size := by simpa using hb
    subst e
    exact I1.fpOk (Nat.le_refl _) (I1.hok.fresh (Nat.le_refl _))
def iRng1 (ta : TA) : TI := fun σ H R => ta σ H fun vs H1 => ∃ j : Int, vs = [.int j] ∧ -(2 ^ 62) ≤ j ∧ j < 2 ^ 62 ∧ R (Itr 0 j.toNat) H1
def iRng2 (ta : TA) : TI := fun σ H R => ta σ H fun vs H1 => ∃ i j : Int, vs = [.int i, .int j] ∧ (-(2 ^ 62) ≤ i ∧ i < 2 ^ 62 ∧ -(2 ^ 62) ≤ j ∧ j < 2 ^ 62) ∧ R (Itr i (j - i).toNat) H1
theorem pi_range1 {a : Expr} {ta : TA} {p pos : Pos} (hg : Gl X "range") (hm : X.mg "range" = none) (ha : PA X [a] ta) (hs : starEach [a] X.env = [(false, eval a X.env)] := by rfl) : PI X tg (.Call (.Name "range" p) [a] [] pos) (iRng1 ta) := by
  intro pins s σ H R I h
  refine Call_ (ld_blt I hg hm boot_range (PyProof.Rows.callWith_type1 (thn (ha pos pins s σ H _ I h) fun us s1 ⟨vs, H1, I1, r1, q1⟩ => ?_) hs rfl))
  obtain ⟨j, e, q1, q2, q⟩ := q1
  subst e
  cases r1 with
  | cons r rr =>
    cases rr
    obtain ⟨t, rfl⟩ := r
    exact call_range_1 (range_it I1 (by omega) (by omega) q1 q2 (by simpa using q))
theorem pi_range2 {a b : Expr} {ta : TA} {p pos : Pos} (hg : Gl X "range") (hm : X.mg "range" = none) (ha : PA X [a, b] ta) (hs : starEach [a, b] X.env = [(false, eval a X.env), (false, eval b X.env)] := by rfl) (hs2 : starEach [b] X.env = [(false, eval b X.env)] := by rfl) :
    PI X tg (.Call (.Name "range" p) [a, b] [] pos) (iRng2 ta) := by
  intro pins s σ H R I h
  refine Call_ (ld_blt I hg hm boot_range (PyProof.Rows.callWith_type1 (thn (ha pos pins s σ H _ I h) fun us s1 ⟨vs, H1, I1, r1, q1⟩ => ?_) (by rw [hs, hs2]) (by rw [hs2]; rfl)))
  obtain ⟨i, j, e, ⟨q1, q2, q3, q4⟩, q⟩ := q1
  subst e
  cases r1 with
  | cons r rr =>
    cases rr with
    | cons r' rr =>
      cases rr
      obtain ⟨t, rfl⟩ := r
      obtain ⟨t', rfl⟩ := r'
      exact call_range_2 (range_it I1 q1 q2 q3 q4 q)
def tFor (wi : TI) (g : TG) (tb : TS) : TS := fun D σ H => wi σ H fun J H1 => ∃ W : Nat → Nat → St → Hp → Prop, (∃ m, W 0 m σ H1) ∧ ∀ i m σ H, W i m σ H →
  (J.stop i H ∧ D.nx σ H) ∨ (J.go i H ∧ ∃ N : St → Hp → Prop, (∀ σ' H', N σ' H' → ∃ m', m' < m ∧ W (i + 1) m' σ' H') ∧ ∀ x H', J.yld i H x H' → g x σ H' fun σ2 H2 => tb { D with nx := N, ct := N, bk := D.nx } σ2 H2)
def pinsAt (fp : List Addr) (h : Heap) : List (Addr × Obj) := fp.filterMap fun b => (h.get? b).map fun o => (b, o)
theorem mem_pinsAt {fp : List Addr} {h : Heap} {b : Addr} {o : Obj} (hb : b ∈ fp) (e : h.get? b = some o) : (b, o) ∈ pinsAt fp h := List.mem_filterMap.mpr ⟨b, hb, by rw [e]; rfl⟩
theorem of_pinsAt {fp : List Addr} {h : Heap} {p : Addr × Obj} (hp : p ∈ pinsAt fp h) : p.1 ∈ fp ∧ h.get? p.1 = some p.2 := by
  obtain ⟨b, hb, e⟩ := List.mem_filterMap.mp hp
  cases q : h.get? b with
  | none => rw [q] at e; cases e
  | some o =>
    rw [q] at e
    have e' : (b, o) = p := Option.some.inj e
    subst e'
    exact ⟨hb, q⟩
theorem Inv.pinned {pins : List (Addr × Obj)} {σ : St} {H : Hp} {s : Shared} {fp : List Addr} (I : Inv X pins σ H s) (hf : ∀ b ∈ fp, FpOk X pins H b) (ho : ∀ b ∈ fp, ∃ o, s.heap.get? b = some o ∧ ∀ v, o.data ≠ .cell v) : Inv X (pins ++ pinsAt fp s.heap) σ H s :=
  I.pins_of fun p hp => (List.mem_append.mp hp).elim (fun z => I.pin p (List.mem_append_right _ z)) fun z => by
    obtain ⟨hb, e⟩ := of_pinsAt z
    obtain ⟨f0, f1, f2, _⟩ := hf p.1 hb
    obtain ⟨o, e', d⟩ := ho p.1 hb
    rw [e] at e'; cases e'
    exact ⟨e, f0, f1, f2, d⟩
theorem Inv.unpinned {pins pl : List (Addr × Obj)} {σ : St} {H : Hp} {s : Shared} (I : Inv X (pins ++ pl) σ H s) : Inv X pins σ H s := I.pins_of fun p hp => I.pin p (List.mem_append_right _ (List.mem_append_left _ hp))
theorem ps_for {iter : Expr} {body : List Stmt} {wi : TI} {g : TG} {tb : TS} {pos : Pos} (hp : PassesOwn (model X.prog X.w) X.A X.env X.xe) (hc : X.calm = true) (hi : PI X tg iter wi) (hg : PG X tg g) (hb : PSs X body tb)
    (hs : ∀ x, foldedSetIterable iter X.env x = pure x := by intro _; rfl) : PS X (.For tg iter body [] pos) (tFor wi g tb) := by
  intro pins s σ H D I h
  refine wpAny_For (thn (hi pins s σ H _ I h) fun v s1 h1 => thn h1 fun itv s2 h2 => ?_) hs
  obtain ⟨it, fp, tn, J, H2, e, I2, T, st2, f2, W, ⟨m0, w0⟩, turn⟩ := h2
  subst e
  have stat : ∀ {H' : Hp}, (∀ b ∈ fp, H' b = none) → ∀ b ∈ fp, FpOk X pins H' b := fun hn b hb => ⟨hn b hb, (f2 b hb).2⟩
  refine codeAny_forLoop_any (fun n s' => ∃ i σ' H', Inv X pins σ' H' s' ∧ tn i s'.heap ∧ (∀ b ∈ fp, H' b = none) ∧ W i n σ' H') ?_ m0 ⟨0, σ, H2, I2, st2, fun b hb => (f2 b hb).1, w0⟩
  rintro n s3 ⟨i, σ3, H3, I3, st3, fr3, w3⟩
  rcases turn i n σ3 H3 w3 with ⟨stop, qn⟩ | ⟨go, N, hN, step⟩
  · refine wpAny_passesOwn hp (thn (T.done X rfl rfl rfl hc i pins s3 σ3 H3 X.xe I3 (stat fr3) st3 stop) fun r s4 ⟨hr, I4⟩ => ?_)
    subst hr
    exact wpAny_execs_nil ⟨σ3, H3, I4, qn⟩
  · refine wpAny_passesOwn hp (thn (T.item X rfl rfl rfl hc i pins s3 σ3 H3 X.xe I3 (stat fr3) st3 go) fun r s4 ⟨u, hr, h4⟩ => ?_)
    subst hr
    refine wpAny_passesOwn hp (thn h4 fun _ s5 ⟨x, H5, I5, r5, y5, st5, fr5⟩ => ?_)
    have I5' := I5.pinned (stat fr5) (T.obj _ _ st5)
    refine wpAny_passesOwn hp (thn (hg _ s5 σ3 H5 x u _ I5' r5 (step x H5 y5)) fun _ s6 ⟨σ6, H6, I6, q6⟩ => ?_)
    refine wpAny_passesOwn hp (thn (hb _ s6 σ6 H6 _ I6 q6) fun f s7 q7 => ?_)
    have again : ∀ {σ7 : St} {H7 : Hp}, Inv X (pins ++ pinsAt fp s5.heap) σ7 H7 s7 → N σ7 H7 → ∃ m, m < n ∧ ∃ i σ' H', Inv X pins σ' H' s7 ∧ tn i s7.heap ∧ (∀ b ∈ fp, H' b = none) ∧ W i m σ' H' := fun {σ7 H7} I7 n7 => by
      obtain ⟨m', hm, w7⟩ := hN σ7 H7 n7
      refine ⟨m', hm, i + 1, σ7, H7, I7.unpinned, T.keep _ _ _ st5 fun b hb o e => (I7.pin (b, o) (List.mem_append_right _ (List.mem_append_right _ (mem_pinsAt hb e)))).1, fun b hb => ?_, w7⟩
      obtain ⟨o, e, d⟩ := T.obj _ _ st5 b hb
      exact (I7.pin (b, o) (List.mem_append_right _ (List.mem_append_right _ (mem_pinsAt hb e)))).2.1
    cases f with
    | next => obtain ⟨σ7, H7, I7, n7⟩ := q7; exact again I7 n7
    | cont => obtain ⟨σ7, H7, I7, n7⟩ := q7; exact again I7 n7
    | brk => obtain ⟨σ7, H7, I7, q7⟩ := q7; exact ⟨σ7, H7, I7.unpinned, q7⟩
    | ret v => obtain ⟨x7, σ7, H7, I7, r7, q7⟩ := q7; exact ⟨x7, σ7, H7, I7.unpinned, r7, q7⟩
end
theorem for_list {K : PySem.W.Frag} {a : Addr} {xs : List V} {g : TG} {tb : TS} {D : Ends} {σ : St} {H : Hp} (Pv : Nat → St → Hp → Prop) (h0 : Pv 0 σ H) (hl : ∀ i σ H, i ≤ xs.length → Pv i σ H → SqL K H a xs)
    (hs : ∀ i x σ H, xs[i]? = some x → Pv i σ H → g x σ H fun σ2 H2 => tb { D with nx := Pv (i + 1), ct := Pv (i + 1), bk := D.nx } σ2 H2) (hd : ∀ σ H, Pv xs.length σ H → D.nx σ H) :
    ∃ W : Nat → Nat → St → Hp → Prop, (∃ m, W 0 m σ H) ∧ ∀ i m σ H, W i m σ H →
      ((Itl K a).stop i H ∧ D.nx σ H) ∨ ((Itl K a).go i H ∧ ∃ N : St → Hp → Prop, (∀ σ' H', N σ' H' → ∃ m', m' < m ∧ W (i + 1) m' σ' H') ∧ ∀ x H', (Itl K a).yld i H x H' → g x σ H' fun σ2 H2 => tb { D with nx := N, ct := N, bk := D.nx } σ2 H2) := by
  refine ⟨fun i m σ H => m = xs.length - i ∧ i ≤ xs.length ∧ Pv i σ H, ⟨xs.length, by simp, Nat.zero_le _, h0⟩, ?_⟩
  rintro i m σ H ⟨rfl, hi, p⟩
  have q := hl i σ H hi p
  by_cases hlt : i < xs.length
  · refine .inr ⟨⟨xs, xs[i], q, by simp [hlt]⟩, Pv (i + 1), fun σ' H' p' => ⟨xs.length - (i + 1), by omega, rfl, hlt, p'⟩, fun x H' y => ?_⟩
    obtain ⟨e, y⟩ := y
    subst e
    exact hs i x σ _ (y xs q) p
  · have e : i = xs.length := by omega
    subst e
    exact .inl ⟨⟨xs, q, Nat.le_refl _⟩, hd σ H p⟩
theorem for_tup {K : PySem.W.Frag} {a : Addr} {xs : List V} {g : TG} {tb : TS} {D : Ends} {σ : St} {H : Hp} (Pv : Nat → St → Hp → Prop) (h0 : Pv 0 σ H) (hl : ∀ i σ H, i ≤ xs.length → Pv i σ H → SqT K H a xs)
    (hs : ∀ i x σ H, xs[i]? = some x → Pv i σ H → g x σ H fun σ2 H2 => tb { D with nx := Pv (i + 1), ct := Pv (i + 1), bk := D.nx } σ2 H2) (hd : ∀ σ H, Pv xs.length σ H → D.nx σ H) :
    ∃ W : Nat → Nat → St → Hp → Prop, (∃ m, W 0 m σ H) ∧ ∀ i m σ H, W i m σ H →
      ((Itt K a).stop i H ∧ D.nx σ H) ∨ ((Itt K a).go i H ∧ ∃ N : St → Hp → Prop, (∀ σ' H', N σ' H' → ∃ m', m' < m ∧ W (i + 1) m' σ' H') ∧ ∀ x H', (Itt K a).yld i H x H' → g x σ H' fun σ2 H2 => tb { D with nx := N, ct := N, bk := D.nx } σ2 H2) := by
  refine ⟨fun i m σ H => m = xs.length - i ∧ i ≤ xs.length ∧ Pv i σ H, ⟨xs.length, by simp, Nat.zero_le _, h0⟩, ?_⟩
  rintro i m σ H ⟨rfl, hi, p⟩
  have q := hl i σ H hi p
  by_cases hlt : i < xs.length
  · refine .inr ⟨⟨xs, xs[i], q, by simp [hlt]⟩, Pv (i + 1), fun σ' H' p' => ⟨xs.length - (i + 1), by omega, rfl, hlt, p'⟩, fun x H' y => ?_⟩
    obtain ⟨e, y⟩ := y
    subst e
    exact hs i x σ _ (y xs q) p
  · have e : i = xs.length := by omega
    subst e
    exact .inl ⟨⟨xs, q, Nat.le_refl _⟩, hd σ H p⟩
theorem for_range {lo : Int} {n : Nat} {g : TG} {tb : TS} {D : Ends} {σ : St} {H : Hp} (Pv : Nat → St → Hp → Prop) (h0 : Pv 0 σ H)
    (hs : ∀ i σ H, i < n → Pv i σ H → g (.int (lo + i)) σ H fun σ2 H2 => tb { D with nx := Pv (i + 1), ct := Pv (i + 1), bk := D.nx } σ2 H2) (hd : ∀ σ H, Pv n σ H → D.nx σ H) :
    ∃ W : Nat → Nat → St → Hp → Prop, (∃ m, W 0 m σ H) ∧ ∀ i m σ H, W i m σ H →
      ((Itr lo n).stop i H ∧ D.nx σ H) ∨ ((Itr lo n).go i H ∧ ∃ N : St → Hp → Prop, (∀ σ' H', N σ' H' → ∃ m', m' < m ∧ W (i + 1) m' σ' H') ∧ ∀ x H', (Itr lo n).yld i H x H' → g x σ H' fun σ2 H2 => tb { D with nx := N, ct := N, bk := D.nx } σ2 H2) := by
  refine ⟨fun i m σ H => m = n - i ∧ i ≤ n ∧ Pv i σ H, ⟨n, by simp, Nat.zero_le _, h0⟩, ?_⟩
  rintro i m σ H ⟨rfl, hi, p⟩
  by_cases hlt : i < n
  · refine .inr ⟨hlt, Pv (i + 1), fun σ' H' p' => ⟨n - (i + 1), by omega, rfl, hlt, p'⟩, fun x H' y => ?_⟩
    obtain ⟨e, y⟩ := y
    subst e y
    exact hs i σ _ hlt p
  · have e : i = n := by omega
    subst e
    exact .inl ⟨Nat.le_refl _, hd σ H p⟩
end L2
namespace L2
open PySem PySem.Spec PyProof.Rows
abbrev R2 := V → V → Hp → VK → Prop
def OpR (X : Cx) (f : Value → Value → Sem Value) (r : R2) : Prop :=
  ∀ (pins : List (Addr × Obj)) (s : Shared) (σ : St) (H : Hp) (x y : V) (v u : Value) (Q : VK), Inv X pins σ H s → RelV x v → RelV y u → r x y H Q →
    wpAny (model X.prog X.w) X.A (f v u) (EP X pins σ Q) X.xe s
def CallR (X : Cx) (f : Value) (r : List V → Hp → VK → Prop) : Prop :=
  ∀ (pins : List (Addr × Obj)) (s : Shared) (σ : St) (H : Hp) (xs : List V) (us : List Value) (Q : VK), Inv X pins σ H s → Vals xs us → r xs H Q →
    wpAny (model X.prog X.w) X.A (call f us) (EP X pins σ Q) X.xe s
def tOp (r : R2) (ta tb : TE) : TE := fun σ H Q => ta σ H fun x H1 => tb σ H1 fun y H2 => r x y H2 Q
def rI (C : Int → Int → Prop) (g : Int → Int → V) : R2 := fun x y H Q => ∃ i j, x = .int i ∧ y = .int j ∧ C i j ∧ Q (g i j) H
def rI0 (g : Int → Int → V) : R2 := fun x y H Q => ∃ i j, x = .int i ∧ y = .int j ∧ Q (g i j) H
section
variable {X : Cx} {a b c : Expr} {ta tb tc : TE} {pos : Pos}
theorem binT (ha : PE X a ta) (hb : PE X b tb) {pins : List (Addr × Obj)} {s : Shared} {σ : St} {H : Hp} {R : V → V → Hp → Prop} (I : Inv X pins σ H s)
    (h : ta σ H fun x H1 => tb σ H1 fun y H2 => R x y H2) {Q : Value → Shared → Prop} {f : Value → Value → Sem Value}
    (hf : ∀ v u s2 x y H2, Inv X pins σ H2 s2 → RelV x v → RelV y u → R x y H2 → wpAny (model X.prog X.w) X.A (f v u) Q X.xe s2) :
    wpAny (model X.prog X.w) X.A (eval a X.env) (fun v s₁ => wpAny (model X.prog X.w) X.A (eval b X.env) (fun u s₂ => wpAny (model X.prog X.w) X.A (f v u) Q X.xe s₂) X.xe s₁) X.xe s := by
  refine thn (ha pins s σ H _ I h) fun v s1 ⟨x, H1, I1, r1, q1⟩ => ?_
  refine thn (hb pins s1 σ H1 _ I1 q1) fun u s2 ⟨y, H2, I2, r2, q2⟩ => ?_
  exact hf v u s2 x y H2 I2 r1 r2 q2
theorem pe_op {op : Operator} {r : R2} (ho : OpR X (binaryOp op) r) (ha : PE X a ta) (hb : PE X b tb) : PE X (.BinOp a op b pos) (tOp r ta tb) := by
  intro pins s σ H Q I h
  exact wpAny_BinOp (binT ha hb I h fun v u s2 x y H2 I2 rx ry q => ho pins s2 σ H2 x y v u Q I2 rx ry q)
theorem opI {f : Value → Value → Sem Value} {C : Int → Int → Prop} {g : Int → Int → Int}
    (rule : ∀ (i j : Int) (t u : Tok) (s : Shared) (Q : Value → Shared → Prop) (E : Value → Shared → Prop), C i j → Q (.int (g i j) s.toks) { s with toks := s.toks + 1 } → wpAny (model X.prog X.w) X.A (f (.int i t) (.int j u)) Q E s) :
    OpR X f (rI C fun i j => .int (g i j)) := by
  intro pins s σ H x y v u Q I rx ry h
  obtain ⟨i, j, rfl, rfl, hc, q⟩ := h
  obtain ⟨t, rfl⟩ := rx
  obtain ⟨t', rfl⟩ := ry
  exact rule i j t t' s _ _ hc ⟨.int (g i j), H, I.tok _, ⟨_, rfl⟩, q⟩
theorem opI0 {f : Value → Value → Sem Value} {g : Int → Int → Int}
    (rule : ∀ (i j : Int) (t u : Tok) (s : Shared) (Q : Value → Shared → Prop) (E : Value → Shared → Prop), Q (.int (g i j) s.toks) { s with toks := s.toks + 1 } → wpAny (model X.prog X.w) X.A (f (.int i t) (.int j u)) Q E s) :
    OpR X f (rI0 fun i j => .int (g i j)) := by
  intro pins s σ H x y v u Q I rx ry h
  obtain ⟨i, j, rfl, rfl, q⟩ := h
  obtain ⟨t, rfl⟩ := rx
  obtain ⟨t', rfl⟩ := ry
  exact rule i j t t' s _ _ ⟨.int (g i j), H, I.tok _, ⟨_, rfl⟩, q⟩
theorem opB0 {f : Value → Value → Sem Value} {g : Int → Int → Bool}
    (rule : ∀ (i j : Int) (t u : Tok) (s : Shared) (Q : Value → Shared → Prop) (E : Value → Shared → Prop), Q (.bool (g i j)) s → wpAny (model X.prog X.w) X.A (f (.int i t) (.int j u)) Q E s) :
    OpR X f (rI0 fun i j => .bl (g i j)) := by
  intro pins s σ H x y v u Q I rx ry h
  obtain ⟨i, j, rfl, rfl, q⟩ := h
  obtain ⟨t, rfl⟩ := rx
  obtain ⟨t', rfl⟩ := ry
  exact rule i j t t' s _ _ ⟨.bl (g i j), H, I, rfl, q⟩
def CDiv (i j : Int) : Prop := 0 < j ∧ j < 1073741824
def CPow (i j : Int) : Prop := 0 ≤ j ∧ j ≤ 1000000 ∧ i.natAbs < 2 ^ 64
def CMul (i j : Int) : Prop := (-(2 ^ 64) < i ∧ i < 2 ^ 64) ∨ (-(2 ^ 64) < j ∧ j < 2 ^ 64)
theorem CMul.ok {i j : Int} (h : CMul i j) : IntMulOk i j := by
  rcases h with ⟨h1, h2⟩ | ⟨h1, h2⟩
  · exact .of_left (intBits_le_64 h1 h2)
  · exact .of_right (intBits_le_64 h1 h2)
theorem op_add : OpR X (binaryOp .Add) (rI0 fun i j => .int (i + j)) := opI0 fun _ _ _ _ _ _ _ q => add_int q
theorem op_sub : OpR X (binaryOp .Sub) (rI0 fun i j => .int (i - j)) := opI0 fun _ _ _ _ _ _ _ q => sub_int q
theorem op_mul : OpR X (binaryOp .Mult) (rI CMul fun i j => .int (i * j)) := opI fun _ _ _ _ _ _ _ hc q => mul_int q hc.ok
theorem op_fdiv : OpR X (binaryOp .FloorDiv) (rI CDiv fun i j => .int (i / j)) := opI fun i j _ _ _ _ _ hc q => by
  have h1 : (0 : Int) < j := hc.1
  have h2 : j < 1073741824 := hc.2
  exact floordiv_int (by omega) (by rw [Int.fdiv_eq_ediv_of_nonneg i (by omega)]; exact q) (.inl (PyProof.noPylong_small (by omega)))
theorem op_mod : OpR X (binaryOp .Mod) (rI (fun _ j => 0 < j) fun i j => .int (i % j)) := opI fun i j _ _ _ _ _ hc q => by
  have h1 : (0 : Int) < j := hc
  exact mod_int' (by omega) (by rw [Int.fmod_eq_emod_of_nonneg i (by omega)]; exact q)
theorem op_pow : OpR X (binaryOp .Pow) (rI CPow fun i j => .int (i ^ j.toNat)) := opI fun _ _ _ _ _ _ _ hc q => pow_int_small hc.1 hc.2.1 hc.2.2 q
end
def scal : V → V → Bool
  | .non, .non => true | .non, .int _ => true | .int _, .non => true | .non, .bl _ => true | .bl _, .non => true | .non, .str _ => true | .str _, .non => true
  | .int _, .int _ => true | .bl _, .bl _ => true | .str _, .str _ => true | .byt _, .byt _ => true
  | .int _, .str _ => true | .str _, .int _ => true | .bl _, .str _ => true | .str _, .bl _ => true
  | _, _ => false
def rEq : R2 := fun x y H Q => scal x y = true ∧ Q (.bl (decide (x = y))) H
def rNe : R2 := fun x y H Q => scal x y = true ∧ Q (.bl (!decide (x = y))) H
theorem dec_int {i j : Int} : decide (V.int i = V.int j) = (i == j) := by
  rw [Bool.eq_iff_iff]
  simp
theorem dec_bl {i j : Bool} : decide (V.bl i = V.bl j) = (i == j) := by
  rw [Bool.eq_iff_iff]
  simp
theorem dec_str {i j : Str} : decide (V.str i = V.str j) = (i == j) := by
  rw [Bool.eq_iff_iff]
  simp
theorem dec_byt {i j : Array UInt8} : decide (V.byt i = V.byt j) = (i.toList == j.toList) := by
  rw [Bool.eq_iff_iff]
  cases i
  cases j
  simp
section
variable {X : Cx} {a b c : Expr} {ta tb tc : TE} {pos : Pos}
theorem fin_bl {pins : List (Addr × Obj)} {σ : St} {H : Hp} {s : Shared} {Q : VK} {k k' : Bool} (I : Inv X pins σ H s) (q : Q (.bl k) H) (e : k = k') : EP X pins σ Q (.bool k') s := by
  subst e
  exact ⟨.bl k, H, I, rfl, q⟩
theorem op_eq : OpR X (compareOp .Eq) rEq := by
  intro pins s σ H x y v u Q I rx ry h
  obtain ⟨hs, q⟩ := h
  cases x with
  | non =>
    cases rx
    cases y with
    | non => cases ry; exact PySem.EqNone.eq_none_none (fin_bl I q (by simp))
    | bl j => cases ry; exact PySem.EqNone.eq_none_bool (fin_bl I q (by simp))
    | int j => obtain ⟨t', rfl⟩ := ry; exact PySem.EqNone.eq_none_int (fin_bl I q (by simp))
    | str j => obtain ⟨t', rfl⟩ := ry; exact PySem.EqNone.eq_none_str (fin_bl I q (by simp))
    | _ => exact absurd (show false = true from hs) Bool.false_ne_true
  | bl i =>
    cases rx
    cases y with
    | non => cases ry; exact PySem.EqNone.eq_bool_none (fin_bl I q (by simp))
    | bl j => cases ry; exact eq_bool (fin_bl I q dec_bl)
    | str j => obtain ⟨t', rfl⟩ := ry; exact PySem.EqMixed.eq_bool_str (fin_bl I q (by simp))
    | _ => exact absurd (show false = true from hs) Bool.false_ne_true
  | int i =>
    obtain ⟨t, rfl⟩ := rx
    cases y with
    | non => cases ry; exact PySem.EqNone.eq_int_none (fin_bl I q (by simp))
    | int j => obtain ⟨t', rfl⟩ := ry; exact eq_int (fin_bl I q dec_int)
    | str j => obtain ⟨t', rfl⟩ := ry; exact PySem.EqMixed.eq_int_str (fin_bl I q (by simp))
    | _ => exact absurd (show false = true from hs) Bool.false_ne_true
  | str i =>
    obtain ⟨t, rfl⟩ := rx
    cases y with
    | non => cases ry; exact PySem.EqNone.eq_str_none (fin_bl I q (by simp))
    | bl j => cases ry; exact PySem.EqMixed.eq_str_bool (fin_bl I q (by simp))
    | int j => obtain ⟨t', rfl⟩ := ry; exact PySem.EqMixed.eq_str_int (fin_bl I q (by simp))
    | str j => obtain ⟨t', rfl⟩ := ry; exact eq_str (fin_bl I q dec_str)
    | _ => exact absurd (show false = true from hs) Bool.false_ne_true
  | byt i =>
    obtain ⟨t, rfl⟩ := rx
    cases y with
    | byt j => obtain ⟨t', rfl⟩ := ry; exact PySem.W.eq_bytes (fin_bl I q dec_byt)
    | _ => exact absurd (show false = true from hs) Bool.false_ne_true
  | _ => cases y <;> exact absurd (show false = true from hs) Bool.false_ne_true
theorem op_ne : OpR X (compareOp .NotEq) rNe := by
  intro pins s σ H x y v u Q I rx ry h
  obtain ⟨hs, q⟩ := h
  cases x with
  | non =>
    cases rx
    cases y with
    | non => cases ry; exact PySem.EqNone.ne_none_none (fin_bl I q (by simp))
    | bl j => cases ry; exact PySem.EqNone.ne_none_bool (fin_bl I q (by simp))
    | int j => obtain ⟨t', rfl⟩ := ry; exact PySem.EqNone.ne_none_int (fin_bl I q (by simp))
    | str j => obtain ⟨t', rfl⟩ := ry; exact PySem.EqNone.ne_none_str (fin_bl I q (by simp))
    | _ => exact absurd (show false = true from hs) Bool.false_ne_true
  | bl i =>
    cases rx
    cases y with
    | non => cases ry; exact PySem.EqNone.ne_bool_none (fin_bl I q (by simp))
    | bl j => cases ry; exact ne_bool (fin_bl I q (congrArg not dec_bl))
    | str j => obtain ⟨t', rfl⟩ := ry; exact PySem.EqMixed.ne_bool_str (fin_bl I q (by simp))
    | _ => exact absurd (show false = true from hs) Bool.false_ne_true
  | int i =>
    obtain ⟨t, rfl⟩ := rx
    cases y with
    | non => cases ry; exact PySem.EqNone.ne_int_none (fin_bl I q (by simp))
    | int j => obtain ⟨t', rfl⟩ := ry; exact ne_int (fin_bl I q (congrArg not dec_int))
    | str j => obtain ⟨t', rfl⟩ := ry; exact PySem.EqMixed.ne_int_str (fin_bl I q (by simp))
    | _ => exact absurd (show false = true from hs) Bool.false_ne_true
  | str i =>
    obtain ⟨t, rfl⟩ := rx
    cases y with
    | non => cases ry; exact PySem.EqNone.ne_str_none (fin_bl I q (by simp))
    | bl j => cases ry; exact PySem.EqMixed.ne_str_bool (fin_bl I q (by simp))
    | int j => obtain ⟨t', rfl⟩ := ry; exact PySem.EqMixed.ne_str_int (fin_bl I q (by simp))
    | str j => obtain ⟨t', rfl⟩ := ry; exact ne_str (fin_bl I q (congrArg not dec_str))
    | _ => exact absurd (show false = true from hs) Bool.false_ne_true
  | byt i =>
    obtain ⟨t, rfl⟩ := rx
    cases y with
    | byt j => obtain ⟨t', rfl⟩ := ry; exact PySem.W.ne_bytes (fin_bl I q (congrArg not dec_byt))
    | _ => exact absurd (show false = true from hs) Bool.false_ne_true
  | _ => cases y <;> exact absurd (show false = true from hs) Bool.false_ne_true
theorem op_lt : OpR X (compareOp .Lt) (rI0 fun i j => .bl (decide (i < j))) := opB0 fun _ _ _ _ _ _ _ q => lt_int q
theorem op_gt : OpR X (compareOp .Gt) (rI0 fun i j => .bl (decide (j < i))) := opB0 fun _ _ _ _ _ _ _ q => gt_int q
theorem op_in_str : OpR X (compareOp .In) (fun x y H Q => ∃ i j, x = .str i ∧ y = .str j ∧ Q (.bl (!(Builtin.Str.occurrences j i 0 j.length 1).isEmpty)) H) := by
  intro pins s σ H x y v u Q I rx ry h
  obtain ⟨i, j, rfl, rfl, q⟩ := h
  obtain ⟨t, rfl⟩ := rx
  obtain ⟨t', rfl⟩ := ry
  exact in_str (fin_bl I q rfl)
theorem nomark (b : Expr) {op : CmpOp} (h : op ≠ .In := by decide) (h2 : op ≠ .NotIn := by decide) : behindInMarks op b = false := by
  have e1 : (op == CmpOp.In) = false := by cases op <;> first | rfl | exact absurd rfl h
  have e2 : (op == CmpOp.NotIn) = false := by cases op <;> first | rfl | exact absurd rfl h2
  cases b <;> simp [behindInMarks, e1, e2]
theorem pe_cmpR {op : CmpOp} {r : R2} (ho : OpR X (compareOp op) r) (ha : PE X a ta) (hb : PE X b tb) (hm : behindInMarks op b = false) : PE X (.Compare a [op] [b] pos) (tOp r ta tb) := by
  intro pins s σ H Q I h
  exact wpAny_Compare1 (binT ha hb I h fun v u s2 x y H2 I2 rx ry q => ho pins s2 σ H2 x y v u Q I2 rx ry q) hm
def tTest (t : TE) : TT := fun σ H Q => t σ H fun x H' => ∃ k, x = .bl k ∧ Q k H'
theorem pt_cmpR {op : CmpOp} {r : R2} (ho : OpR X (compareOp op) r) (ha : PE X a ta) (hb : PE X b tb) (hm : behindInMarks op b = false) : PT X (.Compare a [op] [b] pos) (tTest (tOp r ta tb)) := by
  intro pins s σ H Q I h
  refine wpAny_isTrue_Compare1 (thn (ha pins s σ H _ I h) fun v s1 ⟨x, H1, I1, r1, q1⟩ => thn (hb pins s1 σ H1 _ I1 q1) fun u s2 ⟨y, H2, I2, r2, q2⟩ =>
    thn (ho pins s2 σ H2 x y v u _ I2 r1 r2 q2) fun c s3 ⟨z, H3, I3, r3, k, e, q3⟩ => ?_) hm
  subst e
  cases r3
  exact wpAny_truthy_bool ⟨H3, I3, q3⟩
theorem line63 : (sizeLine : Nat) < 2 ^ 63 := by rw [sizeLine_eq]; decide
theorem op_add_str : OpR X (binaryOp .Add) (fun x y H Q => ∃ i j, x = .str i ∧ y = .str j ∧ i.length + j.length ≤ sizeLine ∧ Q (.str (i ++ j)) H) := by
  intro pins s σ H x y v u Q I rx ry h
  obtain ⟨i, j, rfl, rfl, hz, q⟩ := h
  obtain ⟨t, rfl⟩ := rx
  obtain ⟨t', rfl⟩ := ry
  exact add_str (fun t' tk => ⟨.str (i ++ j), H, I.tok _, ⟨_, rfl⟩, q⟩) hz
theorem vals1 {x : V} {us : List Value} (r : Vals [x] us) : ∃ u, us = [u] ∧ RelV x u := by
  cases r with
  | cons r1 r2 => cases r2; exact ⟨_, rfl, r1⟩
theorem vals2 {x y : V} {us : List Value} (r : Vals [x, y] us) : ∃ u w', us = [u, w'] ∧ RelV x u ∧ RelV y w' := by
  cases r with
  | cons r1 r2 =>
    cases r2 with
    | cons r3 r4 => cases r4; exact ⟨_, _, rfl, r1, r3⟩
theorem call_min2 (hc : X.calm = true) : CallR X (.builtin "min") (fun xs H Q => ∃ i j, xs = [.int i, .int j] ∧ Q (.int (if j < i then j else i)) H) := by
  intro pins s σ H xs us Q I r h
  obtain ⟨i, j, rfl, q⟩ := h
  obtain ⟨u, w', rfl, ⟨t, rfl⟩, ⟨t', rfl⟩⟩ := vals2 r
  refine min_two_ints (I.ok.hd hc) fun h' tk k => ⟨_, H, I.kept k, ?_, q⟩
  by_cases hj : j < i
  · rw [if_pos hj, if_pos hj]; exact ⟨_, rfl⟩
  · rw [if_neg hj, if_neg hj]; exact ⟨_, rfl⟩
theorem call_int1 : CallR X (.type "int") (fun xs H Q => (∃ i, xs = [.int i] ∧ Q (.int i) H) ∨ ∃ k, xs = [.bl k] ∧ Q (.int (if k then 1 else 0)) H) := by
  intro pins s σ H xs us Q I r h
  rcases h with ⟨i, rfl, q⟩ | ⟨k, rfl, q⟩
  · obtain ⟨u, rfl, t, rfl⟩ := vals1 r
    exact call_int_int ⟨.int i, H, I, ⟨_, rfl⟩, q⟩
  · obtain ⟨u, rfl, r1⟩ := vals1 r
    cases r1
    exact call_int_bool ⟨.int (if k then 1 else 0), H, I.tok _, ⟨_, rfl⟩, q⟩
end
end L2
namespace L2
open PySem PySem.Spec PyProof.Rows
structure ObjM (h : Heap) (x dx C : Addr) (mA : Str → Option Value) : Prop where
  obj : h.get? x = some (PySem.W.instObj C dx)
  ns : h.Ns1 dx mA
  ne : dx ≠ x
theorem lookIn_ns {h : Heap} {dx : Addr} {mA : Str → Option Value} (n : h.Ns1 dx mA) : ∃ od, h.get? dx = some od ∧ ∀ name, PySem.W.lookIn name od = some (mA name) := by
  obtain ⟨o, es, ep, ho, hd, hk, _, hm⟩ := n
  refine ⟨o, ho, fun name => ?_⟩
  have e := hm name
  unfold nsFind findBy at e
  rw [← Array.find?_toList] at e
  unfold PySem.W.lookIn
  rw [hd]
  dsimp only
  split
  · rename_i y q
    rw [q] at e
    exact congrArg some e
  · rename_i q
    rw [q] at e
    have a : es.toList.any (·.refKey) = false := by
      rw [List.any_eq_false]
      intro y hy
      obtain ⟨z, t, hkey⟩ := hk y (Array.mem_toList_iff.mp hy)
      simp [DictEntry.refKey, hkey]
    have a' : ¬ es.toList.any (·.refKey) = true := by rw [a]; exact Bool.false_ne_true
    rw [if_neg a']
    exact congrArg some e
theorem ObjM.look {h : Heap} {x dx C : Addr} {mA : Str → Option Value} (I : ObjM h x dx C mA) : ∃ od, PySem.W.InstAt h x (PySem.W.instObj C dx) C (some od) ∧ ∀ name, PySem.W.lookIn name od = some (mA name) :=
  let ⟨od, ho, hl⟩ := lookIn_ns I.ns
  ⟨od, ⟨I.obj, rfl, rfl, ho⟩, hl⟩
section
variable {prog : Program} {w : World} {A : Around} {E : Value → Shared → Prop} {s : Shared} {K : PySem.W.Frag} {x dx C f : Addr} {mA : Str → Option Value} {name : Str} {v : Value}
theorem get_map {expr : Bool} {Q : Value → Shared → Prop} (X : K.In s.heap) (I : ObjM s.heap x dx C mA) (hg : PySem.W.plainGet K C name = true) (hh : PySem.W.hasDictIn K C = true)
    (ha : PySem.W.findIn K (.ref C) name = some none) (hv : mA name = some v) (hv' : PySem.W.handedIn v = true) (h : Q v { s with toks := s.toks + 1 }) :
    wpAny (model prog w) A (getAttr (.ref x) name expr) Q E s := by
  obtain ⟨od, J, hl⟩ := I.look
  exact PySem.W.get_value X J (PySem.W.plainGet_of hg).1 (PySem.W.findObj_own hh ha rfl (by rw [hl, hv])) hv' h
theorem get_meth {pl : Sem Bool} {Q : Value × List Value → Shared → Prop} (X : K.In s.heap) (I : ObjM s.heap x dx C mA) (hg : PySem.W.plainGet K C name = true)
    (hf : PySem.W.findIn K (.ref C) name = some (some (.ref f))) (ht : PySem.W.isFn K (.ref f) = true) (hv : mA name = none) (h : Q (.ref f, [.ref x]) s) :
    wpAny (model prog w) A (getMethod (.ref x) name pl) Q E s := by
  obtain ⟨od, J, hl⟩ := I.look
  exact PySem.W.method_fn X J (PySem.W.plainGet_of hg).1 (PySem.W.plainGet_of hg).2 hf (beq_iff_eq.mp ht) (by show (PySem.W.lookIn name od).map (·.isSome) = some false; rw [hl, hv]; rfl) h
theorem set_map {ns : List Str} {Q : Unit → Shared → Prop} (X : K.In s.heap) (I : ObjM s.heap x dx C mA)
    (hs : PySem.W.findIn K (.ref C) "__setattr__" = some (some (.builtin "object.__setattr__"))) (hp : PySem.W.plainOver K C = true) (ht : PySem.W.takerIn K C name = some none) (hh : PySem.W.hasDictIn K C = true)
    (hw : PySem.Within mA ns) (hsz : ns.length ≤ sizeLine)
    (h : ∀ h', ObjM h' x dx C (fun y => if y = name then some v else mA y) → Heap.SameBut dx s.heap h' → Q () { s with heap := h', toks := s.toks + 2 }) :
    wpAny (model prog w) A (setAttr (.ref x) name v) Q E s := by
  obtain ⟨od, J, hl⟩ := I.look
  refine PySem.W.set_plain X J hs (PySem.W.osa_open (s := { s with toks := s.toks + 1 }) (r := none) X J hp ht fun b => ?_)
  obtain ⟨cd, hc, hd'⟩ := PySem.W.any_some hh
  have hx : s.heap.get? x = some ⟨.ref C, some dx, .plain, #[]⟩ := I.obj
  refine wpAny_bind (wpAny_pure (wpAny_bind (wpAny_bind (wpAny_loadPart hx (wpAny_bind (PySem.W.Looks.here (s := { s with toks := s.toks + 1 }) (PySem.W.looks_clsIn X hc) ?_))))))
  rw [hd']
  refine wpAny_pure (a := some dx) (wpAny_bind (wpAny_pure (wpAny_bind ?_)))
  refine wpAny_nsSet1 (s := { s with toks := s.toks + 1 }) I.ns fun h' hn2 hs2 => ?_
  obtain ⟨oD, esD, epD, hoD, hdD, hcD⟩ := hn2.count (PySem.Within.cons name v hw)
  refine wpAny_bind (wpAny_lookBehind hoD (by rw [hdD]; exact pastItsLine_dict (Nat.le_trans hcD (by rw [List.length_cons]; omega))) ?_)
  exact wpAny_pure (h _ ⟨(hs2.2 _ (Ne.symm I.ne)).trans I.obj, hn2, I.ne⟩ hs2)
theorem make_map {R : Result → Shared → Prop} {vs : List Value} {kw : List (Str × Value)} (X : K.In s.heap) (hm : PySem.W.makesIn K C = true)
    (hi : PySem.W.findIn K (.ref C) "__init__" = some (some (.ref f))) (hf : PySem.W.typeIn K (.ref f) = some (.type "function"))
    (h : codeAny (model prog w) (A.under (.builtin "type.__call__" ⟨.ref C :: vs, kw⟩)) (.call (.ref f) ⟨.ref (s.heap.objs.size + 1) :: vs, kw⟩) (PySem.W.InitBack (s.heap.objs.size + 1) R)
      { s with heap := (s.heap.push PySem.W.emptyDict).push (PySem.W.instObj C s.heap.objs.size) }) :
    codeAny (model prog w) A (.call (.ref C) ⟨vs, kw⟩) R s := by
  obtain ⟨hh, g, d, t, os⟩ := s
  exact PySem.W.make_core (PySem.W.makes_of X hm) (PySem.W.looks_findIn X hi) (fun self => PySem.W.bind_fn X self hf) (.inl rfl) h
end
def putF (f : Str) (v : V) : List (Str × V) → List (Str × V)
  | [] => [(f, v)]
  | (g, x) :: r => if g = f then (g, v) :: r else (g, x) :: putF f v r
theorem lookup_putF (f g : Str) (v : V) : ∀ fs : List (Str × V), (putF f v fs).lookup g = if g = f then some v else fs.lookup g
  | [] => by
    show List.lookup g [(f, v)] = _
    by_cases h : g = f
    · have hb : (g == f) = true := beq_iff_eq.mpr h
      simp only [List.lookup, hb, if_pos h]
    · have hb : (g == f) = false := beq_eq_false_iff_ne.mpr h
      simp only [List.lookup, hb, if_neg h]
  | (k, x) :: r => by
    have ih := lookup_putF f g v r
    rw [show putF f v ((k, x) :: r) = (if k = f then (k, v) :: r else (k, x) :: putF f v r) from rfl]
    by_cases hk : k = f
    · rw [if_pos hk]
      by_cases h : g = k
      · have hb : (g == k) = true := beq_iff_eq.mpr h
        simp only [List.lookup, hb, if_pos (h.trans hk)]
      · have hb : (g == k) = false := beq_eq_false_iff_ne.mpr h
        simp only [List.lookup, hb, if_neg (fun e : g = f => h (e.trans hk.symm))]
    · rw [if_neg hk]
      by_cases h : g = k
      · have hb : (g == k) = true := beq_iff_eq.mpr h
        simp only [List.lookup, hb, if_neg (fun e : g = f => hk (h.symm.trans e))]
      · have hb : (g == k) = false := beq_eq_false_iff_ne.mpr h
        simp only [List.lookup, hb]
        exact ih
theorem keys_putF (f : Str) (v : V) : ∀ fs : List (Str × V), f ∈ (putF f v fs).map (·.1) ∧ ∀ g, g ∈ fs.map (·.1) → g ∈ (putF f v fs).map (·.1)
  | [] => ⟨by simp [putF], fun g h => by simp at h⟩
  | (k, x) :: r => by
    obtain ⟨i1, i2⟩ := keys_putF f v r
    rw [show putF f v ((k, x) :: r) = (if k = f then (k, v) :: r else (k, x) :: putF f v r) from rfl]
    by_cases hk : k = f
    · rw [if_pos hk]
      subst hk
      exact ⟨by simp, fun g h => by simpa using h⟩
    · rw [if_neg hk]
      refine ⟨?_, fun g h => ?_⟩
      · rw [List.map_cons]
        exact List.mem_cons_of_mem _ i1
      · rw [List.map_cons] at h ⊢
        rcases List.mem_cons.mp h with e | e
        · exact List.mem_cons.mpr (.inl e)
        · exact List.mem_cons_of_mem _ (i2 g e)
theorem length_putF (f : Str) (v : V) : ∀ fs : List (Str × V), (putF f v fs).length ≤ fs.length + 1
  | [] => by simp [putF]
  | (k, x) :: r => by
    have ih := length_putF f v r
    rw [show putF f v ((k, x) :: r) = (if k = f then (k, v) :: r else (k, x) :: putF f v r) from rfl]
    by_cases hk : k = f
    · rw [if_pos hk, List.length_cons, List.length_cons]; omega
    · rw [if_neg hk, List.length_cons, List.length_cons]; omega
theorem RelO.some_of {v : V} {o : Option Value} (r : RelO (some v) o) : ∃ u, o = some u ∧ RelV v u := by
  cases o with
  | none => exact (show False from r).elim
  | some u => exact ⟨u, rfl, r⟩
theorem RelO.none_of {o : Option Value} (r : RelO none o) : o = none := by
  cases o with
  | none => rfl
  | some u => exact (show False from r).elim
theorem handed_of {v : V} {u : Value} (r : RelV v u) : PySem.W.handedIn u = true := by
  cases v with
  | non => cases (show u = Value.none from r); rfl
  | bl b => cases (show u = Value.bool b from r); rfl
  | int i => obtain ⟨t, e⟩ := (show ∃ t, u = Value.int i t from r); cases e; rfl
  | str x => obtain ⟨t, e⟩ := (show ∃ t, u = Value.str x t from r); cases e; rfl
  | byt b => obtain ⟨t, e⟩ := (show ∃ t, u = Value.bytes b t from r); cases e; rfl
  | flt b => obtain ⟨t, e⟩ := (show ∃ t, u = Value.float b t from r); cases e; rfl
  | ref a => cases (show u = Value.ref a from r); rfl
  | ty n => cases (show u = Value.type n from r); rfl
section
variable {P : Program} {w : World} {H H' : Hp} {h h' : Heap} {a C dx : Addr} {fs fs' : List (Str × V)}
theorem ins_get (hok : HOk P w H h) (e : H a = some (.ins C dx fs)) : ∃ mA, ObjM h a dx C mA ∧ (∀ f, RelO (fs.lookup f) (mA f)) ∧ PySem.Within mA (fs.map (·.1)) ∧ fs.length ≤ 1000 ∧ H dx = some (.own a) := by
  obtain ⟨d, z, ne, ob, mA, n, r, q⟩ := (show ObjOk P w H h a (.ins C dx fs) from hok a _ e)
  exact ⟨mA, ⟨ob, n, ne⟩, r, q, z, d⟩
end
structure Cls (K : PySem.W.Frag) (C : Addr) : Prop where
  pg : PySem.W.plainGet K C Str.empty = true
  hd : PySem.W.hasDictIn K C = true
  po : PySem.W.plainOver K C = true
  sa : PySem.W.findIn K (.ref C) "__setattr__" = some (some (.builtin "object.__setattr__"))
theorem Cls.get {K : PySem.W.Frag} {C : Addr} (c : Cls K C) (f : Str) : PySem.W.plainGet K C f = true := c.pg
def NoAttr (K : PySem.W.Frag) (C : Addr) (f : Str) : Prop := PySem.W.findIn K (.ref C) f = some none
theorem NoAttr.taker {K : PySem.W.Frag} {C : Addr} {f : Str} (n : NoAttr K C f) : PySem.W.takerIn K C f = some none := by
  unfold PySem.W.takerIn
  rw [show PySem.W.findIn K (.ref C) f = some none from n]
  rfl
structure Meth (K : PySem.W.Frag) (C : Addr) (m : Str) (f : Addr) : Prop where
  at_ : PySem.W.findIn K (.ref C) m = some (some (.ref f))
  fn : PySem.W.isFn K (.ref f) = true
  kp : PySem.W.keepIn K (.ref f) = true
section
variable {X : Cx} {pins : List (Addr × Obj)} {σ : St} {H : Hp} {s : Shared} {a C dx : Addr} {fs : List (Str × V)} {f : Str} {v : V} {A : Around} {E : Value → Shared → Prop}
theorem getattr_ok {b : Bool} {Q : Value → Shared → Prop} (I : Inv X pins σ H s) (e : H a = some (.ins C dx fs)) (c : Cls X.K C) (n : NoAttr X.K C f) (l : fs.lookup f = some v)
    (h : ∀ u s', Inv X pins σ H s' → RelV v u → Q u s') : wpAny (model X.prog X.w) A (getAttr (.ref a) f b) Q E s := by
  obtain ⟨mA, O, r, _, _, _⟩ := ins_get I.hok e
  obtain ⟨u, hu, ru⟩ := RelO.some_of (v := v) (o := mA f) (by rw [← l]; exact r f)
  exact get_map I.kIn O (c.get f) c.hd n hu (handed_of ru) (h u _ (I.tok _) ru)
theorem getmeth_ok {m : Str} {g : Addr} {pl : Sem Bool} {Q : Value × List Value → Shared → Prop} (I : Inv X pins σ H s) (e : H a = some (.ins C dx fs)) (c : Cls X.K C) (k : Meth X.K C m g) (l : fs.lookup m = none)
    (h : Q (.ref g, [.ref a]) s) : wpAny (model X.prog X.w) A (getMethod (.ref a) m pl) Q E s := by
  obtain ⟨mA, O, r, _, _, _⟩ := ins_get I.hok e
  have hn : mA m = none := RelO.none_of (by rw [← l]; exact r m)
  exact get_meth I.kIn O (c.get m) k.at_ k.fn hn h
theorem setattr_ok {y : V} {u : Value} {Q : Unit → Shared → Prop} (I : Inv X pins σ H s) (e : H a = some (.ins C dx fs)) (c : Cls X.K C) (n : NoAttr X.K C f) (hl : fs.length < 1000) (ry : RelV y u)
    (h : ∀ s', Inv X pins σ (upd H a (.ins C dx (putF f y fs))) s' → Q () s') : wpAny (model X.prog X.w) A (setAttr (.ref a) f u) Q E s := by
  obtain ⟨mA, O, r, wi, _, ho⟩ := ins_get I.hok e
  have hz : (fs.map (·.1)).length ≤ sizeLine := by rw [List.length_map, sizeLine_eq]; omega
  refine set_map I.kIn O c.sa c.po n.taker c.hd wi hz fun h' O' sb => h _ ?_
  have hd : ∃ o, h'.get? dx = some o := let ⟨o, _, _, e', _⟩ := O'.ns; ⟨o, e'⟩
  refine I.write (x := a) (e := dx) (by rw [e]; exact True.intro) (.inr ho) (fun b q hb z => (sb.2 b hb).trans z) hd ?_
  refine ⟨by rw [upd_ne O.ne]; exact ho, ?_, O.ne, O'.obj, _, O'.ns, fun g => ?_, fun g hg => ?_⟩
  · have := length_putF f y fs; omega
  · show RelO ((putF f y fs).lookup g) (if g = f then some u else mA g)
    rw [lookup_putF]
    by_cases q : g = f
    · rw [if_pos q, if_pos q]; exact ry
    · rw [if_neg q, if_neg q]; exact r g
  · by_cases q : g = f
    · rw [q]; exact (keys_putF f y fs).1
    · refine (keys_putF f y fs).2 g (wi g fun z => hg ?_)
      show (if g = f then some u else mA g) = none
      rw [if_neg q]; exact z
theorem Inv.made (I : Inv X pins σ H s) : Inv X pins σ (upd (upd H s.heap.objs.size (.own (s.heap.objs.size + 1))) (s.heap.objs.size + 1) (.ins C s.heap.objs.size []))
    { s with heap := (s.heap.push PySem.W.emptyDict).push (PySem.W.instObj C s.heap.objs.size) } := by
  have e1 : (s.heap.push PySem.W.emptyDict).get? s.heap.objs.size = some PySem.W.emptyDict := Heap.get?_push_size s.heap rfl
  have e2 : ((s.heap.push PySem.W.emptyDict).push (PySem.W.instObj C s.heap.objs.size)).get? (s.heap.objs.size + 1) = some (PySem.W.instObj C s.heap.objs.size) := by
    have := Heap.get?_push_size (s.heap.push PySem.W.emptyDict) (o := PySem.W.instObj C s.heap.objs.size) rfl
    rwa [Heap.size_push] at this
  have e3 : (s.heap.push PySem.W.emptyDict).Ns s.heap.objs.size (fun _ => none) := ⟨PySem.W.emptyDict, #[], _, e1, rfl, (fun e he => absurd he (by simp)), fun _ => rfl⟩
  have I1 := I.laid (a := s.heap.objs.size) (o := .own (s.heap.objs.size + 1)) (h' := s.heap.push PySem.W.emptyDict) (t' := s.toks) (fun b u q => Heap.get?_push_of_some _ q) (Nat.le_refl _) ⟨_, e1⟩
  refine I1.laid (a := s.heap.objs.size + 1) (o := .ins C s.heap.objs.size []) (t' := s.toks) (fun b u q => Heap.get?_push_of_some _ q) (Nat.le_of_eq (Heap.size_push _ _)) ?_
  have ne : s.heap.objs.size ≠ s.heap.objs.size + 1 := Nat.ne_of_lt (Nat.lt_succ_self _)
  refine ⟨by rw [upd_ne ne, upd_same], Nat.zero_le _, ne, e2, fun _ => none, (Heap.Ns1.of_empty e3).at fun o q => Heap.get?_push_of_some _ q, fun _ => True.intro, fun y hy => absurd rfl hy⟩
theorem attr_of {prog : Program} {w : World} {env : Env} {e : Expr} {f : Str} {pos : Pos} {s : Shared} {Q : Value → Shared → Prop} (hb : attributeBase e f env (eval e env) = eval e env)
    (h : wpAny (model prog w) A (eval e env) (fun o s₁ => wpAny (model prog w) A (getAttr o f true) Q E s₁) E s) : wpAny (model prog w) A (eval (.Attribute e f pos) env) Q E s :=
  Attribute_any_ h (by rw [arm_eval_Attribute, hb])
end
def tFld (K : PySem.W.Frag) (ta : TE) (f : Str) : TE := fun σ H Q => ta σ H fun x H1 => ∃ a C dx fs v, x = .ref a ∧ H1 a = some (.ins C dx fs) ∧ Cls K C ∧ NoAttr K C f ∧ fs.lookup f = some v ∧ Q v H1
def sFld (K : PySem.W.Frag) (ta tv : TE) (f : Str) : TS := fun D σ H => tv σ H fun y H1 => ta σ H1 fun x H2 => ∃ a C dx fs, x = .ref a ∧ H2 a = some (.ins C dx fs) ∧ Cls K C ∧ NoAttr K C f ∧ fs.length < 1000 ∧
  D.nx σ (upd H2 a (.ins C dx (putF f y fs)))
def InOp (X : Cx) (op : Operator) (rd : V → V → Hp → VK → Prop) : Prop :=
  ∀ (pins : List (Addr × Obj)) (s : Shared) (σ : St) (H : Hp) (x y : V) (u v : Value) (Q : VK), Inv X pins σ H s → RelV x u → RelV y v → rd x y H Q → wpAny (model X.prog X.w) X.A (inplaceOp op u v) (EP X pins σ Q) X.xe s
def sFldAug (K : PySem.W.Frag) (ta tv : TE) (rd : V → V → Hp → VK → Prop) (f : Str) : TS := fun D σ H => ta σ H fun x H1 => ∃ a C dx fs v, x = .ref a ∧ H1 a = some (.ins C dx fs) ∧ Cls K C ∧ NoAttr K C f ∧ fs.lookup f = some v ∧
  tv σ H1 fun y H2 => rd v y H2 fun z H3 => ∃ dx' fs', H3 a = some (.ins C dx' fs') ∧ fs'.length < 1000 ∧ D.nx σ (upd H3 a (.ins C dx' (putF f z fs')))
section
variable {X : Cx} {o e value : Expr} {f : Str} {pos pos' tpos : Pos} {ta tv : TE}
theorem pe_fld (he : PE X e ta) (hb : attributeBase e f X.env (eval e X.env) = eval e X.env) : PE X (.Attribute e f pos) (tFld X.K ta f) := by
  intro pins s σ H Q I h
  refine attr_of hb (thn (he pins s σ H _ I h) fun u s1 ⟨x, H1, I1, rx, a, C, dx, fs, v, ex, ea, c, n, l, q⟩ => ?_)
  subst ex
  obtain rfl : u = Value.ref a := rx
  exact getattr_ok I1 ea c n l fun u' s2 I2 ru => ⟨v, H1, I2, ru, q⟩
theorem ps_fld (ha : PE X o ta) (hv : PE X value tv) (hs : swapsWith value (some (.Attribute o f pos')) pos.line X.env = pure false) : PS X (.Assign [.Attribute o f pos'] value pos) (sFld X.K ta tv f) := by
  intro pins s σ H D I h
  refine plainObj_wpAny_Assign_Attribute (thn (hv pins s σ H _ I h) fun u s1 ⟨y, H1, I1, ry, q⟩ => thn (ha pins s1 σ H1 _ I1 q) fun ov s2 ⟨x, H2, I2, rx, a, C, dx, fs, ex, ea, c, n, l, q2⟩ => ?_) hs
  subst ex
  obtain rfl : ov = Value.ref a := rx
  exact setattr_ok I2 ea c n l ry fun s3 I3 => ⟨σ, _, I3, q2⟩
theorem ps_fldaug {op : Operator} {rd : V → V → Hp → VK → Prop} (ha : PE X o ta) (hv : PE X value tv) (hop : InOp X op rd) : PS X (.AugAssign (.Attribute o f tpos) op value pos) (sFldAug X.K ta tv rd f) := by
  intro pins s σ H D I h
  refine wpAny_AugAssign_AttributeAny (thn (ha pins s σ H _ I h) fun ov s1 ⟨x, H1, I1, rx, a, C, dx, fs, v, ex, ea, c, n, l, q⟩ => ?_)
  subst ex
  obtain rfl : ov = Value.ref a := rx
  refine getattr_ok I1 ea c n l fun u s2 I2 ru => thn (hv pins s2 σ H1 _ I2 q) fun w3 s3 ⟨y, H2, I3, ry, q3⟩ => thn (hop pins s3 σ H2 v y u w3 _ I3 ru ry q3) fun w4 s4 ⟨z, H3, I4, rz, dx', fs', ea', l', q4⟩ => ?_
  exact setattr_ok I4 ea' c n l' rz fun s5 I5 => ⟨σ, _, I5, q4⟩
def rAdd : V → V → Hp → VK → Prop := fun x y H Q => ∃ i j, x = .int i ∧ y = .int j ∧ Q (.int (i + j)) H
theorem in_add : InOp X .Add rAdd := by
  rintro pins s σ H x y u v Q I rx ry ⟨i, j, rfl, rfl, q⟩
  obtain ⟨t, rfl⟩ := (show ∃ t, u = Value.int i t from rx)
  obtain ⟨t', rfl⟩ := (show ∃ t', v = Value.int j t' from ry)
  exact PyProof.Rows.iadd_int ⟨.int (i + j), H, I.tok _, ⟨_, rfl⟩, q⟩
end
section
variable {X : Cx} {pins : List (Addr × Obj)} {σ : St} {H : Hp} {s : Shared} {A : Around} {E : Value → Shared → Prop} {Q : Value → Shared → Prop} {c : Value} {b : Bool}
inductive TyOf (K : PySem.W.Frag) (H : Hp) : V → Value → Prop where
  | non : TyOf K H .non (.type "NoneType")
  | bl (x : Bool) : TyOf K H (.bl x) (.type "bool")
  | int (i : Int) : TyOf K H (.int i) (.type "int")
  | str (x : Str) : TyOf K H (.str x) (.type "str")
  | flt (x : UInt64) : TyOf K H (.flt x) (.type "float")
  | lst {a : Addr} {xs : List V} (e : H a = some (.lst xs)) : TyOf K H (.ref a) (.type "list")
  | frz {a : Addr} {o : Obj} {xs : List V} (e : H a = some (.frz o (.lst xs))) : TyOf K H (.ref a) (.type "list")
  | tup {a : Addr} {xs : List V} (e : H a = some (.tup xs)) : TyOf K H (.ref a) (.type "tuple")
  | dK {a : Addr} {kvs : List (Key × V)} (e : H a = some (.dK kvs)) : TyOf K H (.ref a) (.type "dict")
  | dT {a : Addr} {kvs : List (List Key × V)} (e : H a = some (.dT kvs)) : TyOf K H (.ref a) (.type "dict")
  | ins {a C dx : Addr} {fs : List (Str × V)} (e : H a = some (.ins C dx fs)) (cl : Cls K C) (ha : PySem.W.findIn K (.ref C) "__class__" = some (some (.builtin "object.__class__")))
      (hn : PySem.W.specialIn K (.builtin "object.__class__") "__get__" = some (some (.builtin "getset_descriptor.__get__"))) (htk : PySem.W.takesIn K (.builtin "object.__class__") = some true)
      (hm : PySem.W.mroIn K C (.type "object") = some true) : TyOf K H (.ref a) (.ref C)
theorem isinst_ok {x : V} {u t : Value} (I : Inv X pins σ H s) (rx : RelV x u) (ty : TyOf X.K H x t) (e : PySem.W.kitOne X.K t c = some b) (h : ∀ tk, Q (.bool b) { s with toks := tk }) :
    wpAny (model X.prog X.w) A (call (.builtin "isinstance") [u, c]) Q E s := by
  cases ty with
  | non => cases (show u = Value.none from rx); exact PySem.W.kia_one PySem.W.kitx_none I.kIn True.intro e (fun z => nomatch z) h
  | bl y => cases (show u = Value.bool y from rx); exact PySem.W.kia_one PySem.W.kitx_bool I.kIn True.intro e (fun z => nomatch z) h
  | int i => obtain ⟨t, q⟩ := (show ∃ t, u = Value.int i t from rx); cases q; exact PySem.W.kia_one PySem.W.kitx_int I.kIn True.intro e (fun z => nomatch z) h
  | str y => obtain ⟨t, q⟩ := (show ∃ t, u = Value.str y t from rx); cases q; exact PySem.W.kia_one PySem.W.kitx_str I.kIn True.intro e (fun z => nomatch z) h
  | flt y => obtain ⟨t, q⟩ := (show ∃ t, u = Value.float y t from rx); cases q; exact PySem.W.kia_one PySem.W.kitx_float I.kIn True.intro e (fun z => nomatch z) h
  | @lst a xs ea =>
    cases (show u = Value.ref a from rx)
    obtain ⟨_, _, n, _, h1⟩ := (show ObjOk X.prog X.w H s.heap a (.lst xs) from I.hok a _ ea)
    exact PySem.W.kia_one PySem.W.kitx_list I.kIn ⟨_, h1, rfl⟩ e (fun z => nomatch z) h
  | @frz a ob xs ea =>
    cases (show u = Value.ref a from rx)
    obtain ⟨_, _, _, n, _, h1⟩ := (show ObjOk X.prog X.w H s.heap a (.frz ob (.lst xs)) from I.hok a _ ea)
    exact PySem.W.kia_one PySem.W.kitx_list I.kIn ⟨_, h1, rfl⟩ e (fun z => nomatch z) h
  | @tup a xs ea =>
    cases (show u = Value.ref a from rx)
    obtain ⟨_, _, _, p⟩ := (show ObjOk X.prog X.w H s.heap a (.tup xs) from I.hok a _ ea)
    obtain ⟨o, h1, h2, _⟩ := p
    exact PySem.W.kia_one PySem.W.kitx_tuple I.kIn ⟨o, h1, h2⟩ e (fun z => nomatch z) h
  | @dK a kvs ea =>
    cases (show u = Value.ref a from rx)
    obtain ⟨_, _, vs, _, p⟩ := (show ObjOk X.prog X.w H s.heap a (.dK kvs) from I.hok a _ ea)
    obtain ⟨o, es, ep, h1, h2, _⟩ := p
    exact PySem.W.kia_one PySem.W.kitx_dict I.kIn ⟨o, h1, h2.1⟩ e (fun z => nomatch z) h
  | @dT a kvs ea =>
    cases (show u = Value.ref a from rx)
    obtain ⟨_, _, xs, _, o, es, ep, h1, h2, _⟩ := (show ObjOk X.prog X.w H s.heap a (.dT kvs) from I.hok a _ ea)
    exact PySem.W.kia_one PySem.W.kitx_dict I.kIn ⟨o, h1, h2.1⟩ e (fun z => nomatch z) h
  | @ins a C dx fs ea cl ha hn htk hm =>
    cases (show u = Value.ref a from rx)
    obtain ⟨mA, O, _⟩ := ins_get I.hok ea
    obtain ⟨od, J, _⟩ := O.look
    exact PySem.W.kia_one (PySem.W.kitx_own (cl.get _) cl.hd ha hn htk hm) I.kIn J e (fun z => nomatch z) h
end
end L2
namespace L2
open PySem PySem.Spec PyProof.Rows
structure Room (k : Nat) (A : Around) : Prop where
  hd : A.handled = none
  dp : A.depth + 3 * k + 5 < recursionLimit
  un : A.units + 16 * k + 200 < cLine
theorem Room.mono {j k : Nat} {A : Around} (r : Room k A) (h : j ≤ k) : Room j A := ⟨r.hd, by have := r.dp; omega, by have := r.un; omega⟩
theorem Room.deeper {k : Nat} {A : Around} (r : Room (k + 1) A) (env : Env) : Room k (A.deeper env) :=
  ⟨r.hd, by have := r.dp; show A.depth + 1 + 3 * k + 5 < _; omega, by have := r.un; show A.units + 3 + 16 * k + 200 < _; omega⟩
theorem make_depth {A : Around} {C : Addr} {us : List Value} {kw : List (Str × Value)} : (A.under (.builtin "type.__call__" ⟨.ref C :: us, kw⟩)).depth = A.depth + 1 := by
  first | rfl | simp [Around.under, Code.weight, Code.isCreation, Code.isGuard, Code.isCaller, Code.frames, Code.isFrame, guardIds]
theorem make_units {A : Around} {C : Addr} {us : List Value} {kw : List (Str × Value)} : (A.under (.builtin "type.__call__" ⟨.ref C :: us, kw⟩)).units = A.units + 1 := by
  first | rfl | simp [Around.under, Code.cUnits, Code.frames, Code.isFrame]
theorem Room.make {k : Nat} {A : Around} (r : Room (k + 1) A) (C : Addr) (us : List Value) (kw : List (Str × Value)) : Room k (A.under (.builtin "type.__call__" ⟨.ref C :: us, kw⟩)) :=
  ⟨r.hd, by have := r.dp; rw [make_depth]; omega, by have := r.un; rw [make_units]; omega⟩
theorem Room.depth {k : Nat} {A : Around} (r : Room k A) : A.depth < recursionLimit := by have := r.dp; omega
theorem Room.units {k : Nat} {A : Around} (r : Room k A) : A.units + 64 < cLine := by have := r.un; omega
def tNil : TA := fun _ H Q => Q [] H
def tCons (ta : TE) (tr : TA) : TA := fun σ H Q => ta σ H fun x H1 => tr σ H1 fun xs H2 => Q (x :: xs) H2
section
variable {X : Cx} {e : Expr} {es : List Expr} {te : TE} {t : TA} {pos : Pos}
theorem pa_nil : PA X [] tNil := fun _ _ _ _ H Q I h => Calls.spliced_nil ⟨[], H, I, .nil, h⟩
theorem pa_cons (ha : PE X e te) (hr : PA X es t) (hs : starEach (e :: es) X.env = (false, eval e X.env) :: starEach es X.env := by rfl) : PA X (e :: es) (tCons te t) := by
  intro pos pins s σ H Q I h
  rw [hs]
  show wpAny _ _ (spliced ((false, eval e X.env) :: backTo pos (starEach es X.env))) _ _ s
  refine Calls.spliced_cons (thn (ha pins s σ H _ I h) fun u s1 ⟨x, H1, I1, r1, q1⟩ => ?_)
  exact thn (hr pos pins s1 σ H1 _ I1 q1) fun us s2 ⟨xs, H2, I2, r2, q2⟩ => ⟨x :: xs, H2, I2, .cons r1 r2, q2⟩
def tTup (t : TA) : TE := fun σ H Q => t σ H fun xs H1 => xs.length ≤ sizeLine ∧ ∀ p, H1 p = none → Q (.ref p) (upd H1 p (.tup xs))
def tLst (t : TA) : TE := fun σ H Q => t σ H fun xs H1 => xs.length ≤ sizeLine ∧ ∀ p, H1 p = none → Q (.ref p) (upd H1 p (.lst xs))
theorem pe_tup {x1} (h : PA X es t) : PE X (.Tuple es x1 pos) (tTup t) := by
  intro pins s σ H Q I hq
  refine wpAny_Tuple_spliced (thn (h pos pins s σ H _ I hq) fun us s1 ⟨xs, H1, I1, r, z, q⟩ => ⟨by rw [← r.length]; exact z, ?_⟩)
  have hf : H1 s1.heap.objs.size = none := I1.hok.fresh (Nat.le_refl _)
  refine ⟨.ref s1.heap.objs.size, upd H1 s1.heap.objs.size (.tup xs), I1.laid (t' := s1.toks) (fun b u e => Heap.get?_push_of_some _ e) (Nat.le_refl _) ?_, rfl, q _ hf⟩
  exact ⟨z, us, r, ⟨_, Heap.get?_push_size _ rfl, rfl, _, rfl⟩⟩
theorem pe_lst (h : PA X es t) : PE X (.List es pos) (tLst t) := by
  intro pins s σ H Q I hq
  refine wpAny_List_spliced (thn (h pos pins s σ H _ I hq) fun us s1 ⟨xs, H1, I1, r, z, q⟩ => ⟨by rw [← r.length]; exact z, ?_⟩)
  have hf : H1 s1.heap.objs.size = none := I1.hok.fresh (Nat.le_refl _)
  refine ⟨.ref s1.heap.objs.size, upd H1 s1.heap.objs.size (.lst xs), I1.laid (t' := s1.toks) (fun b u e => Heap.get?_push_of_some _ e) (Nat.le_refl _) ?_, rfl, q _ hf⟩
  exact ⟨z, us, 0, r, Heap.get?_push_size _ rfl⟩
end
abbrev Sp := List V → Hp → VK → XK → Prop
abbrev CXT := List Env → Hp → Shared → XK → Value → Shared → Prop
structure Env0 (P : Program) (w : World) (K : PySem.W.Frag) (mg : Str → Option Value) (base : Heap) (A : Around) (outer : List Env) (s : Shared) (H : Hp) : Prop where
  frames : A.frames = some outer
  mod : Mod K mg base
  bs : ∀ b o, base.get? b = some o → s.heap.get? b = some o ∧ H b = none
  bsz : base.objs.size ≤ s.heap.objs.size
  funs : s.heap.FunFrames base outer
  frf : ∀ b ∈ frs outer, H b = none
  hok : HOk P w H s.heap
  bare : AllBare s.gens
def CE (outer : List Env) (P : Program) (w : World) (H : Hp) (s : Shared) (Q : VK) (u : Value) (s' : Shared) : Prop :=
  ∃ v H', s'.os = s.os ∧ AllBare s'.gens ∧ Un (frs outer) [] H H' s.heap s'.heap ∧ HOk P w H' s'.heap ∧ RelV v u ∧ Q v H'
def CR (CX : CXT) (outer : List Env) (P : Program) (w : World) (H : Hp) (s : Shared) (Q : VK) (E : XK) (r : Result) (s' : Shared) : Prop :=
  match r with
  | .ok (.ret u) => CE outer P w H s Q u s'
  | .ok _ => False
  | .error e => CX outer H s E e s'
structure FnOk (P : Program) (w : World) (K : PySem.W.Frag) (mg : Str → Option Value) (base : Heap) (CX : CXT) (k : Nat) (f : Addr) (fd : FuncData) (ps : List Str) (sp : Sp) : Prop where
  len : ∀ vs H Q E, sp vs H Q E → vs.length = ps.length
  run : ∀ (A : Around) (outer : List Env) (s : Shared) (H : Hp) (args : Args) (us : List Value) (vs : List V) (Q : VK) (E : XK), Room k A → Env0 P w K mg base A outer s H → BindsTo s fd args (ps.zip us) → Vals vs us → sp vs H Q E →
    codeAny (model P w) A (.call (.ref f) args) (CR CX outer P w H s Q E) s
theorem Env0.make {P : Program} {w : World} {K : PySem.W.Frag} {mg : Str → Option Value} {base : Heap} {A : Around} {outer : List Env} {s : Shared} {H : Hp} (e : Env0 P w K mg base A outer s H) (C : Addr) (us : List Value) (kw : List (Str × Value)) :
    Env0 P w K mg base (A.under (.builtin "type.__call__" ⟨.ref C :: us, kw⟩)) outer s H := ⟨by first | exact e.frames | (simpa [Around.under, Code.envs, Code.isFrame, pushEnvs] using e.frames), e.mod, e.bs, e.bsz, e.funs, e.frf, e.hok, e.bare⟩
section
variable {X : Cx} {pins : List (Addr × Obj)} {σ : St} {H : Hp} {s s' : Shared}
theorem Inv.env0 (I : Inv X pins σ H s) : Env0 X.prog X.w X.K X.mg X.base X.A X.stack s H :=
  ⟨I.ok.frames, I.ok.mod, I.bs, Nat.le_trans I.ok.bsz I.sz, I.stack, I.stkFree, I.hok, I.bare⟩
theorem Inv.after {Q : VK} {u : Value} (I : Inv X pins σ H s) (h : CE X.stack X.prog X.w H s Q u s') : EP X pins σ Q u s' := by
  obtain ⟨v, H', os, bare, un, hok, r, q⟩ := h
  obtain ⟨hh, g, d, t, os'⟩ := s'
  obtain rfl : os' = s.os := os
  exact ⟨v, H', I.call (h' := hh) (g' := g) (d' := d) (t' := t) (ch := []) un hok bare (fun b z => absurd z (by simp)), r, q⟩
end
def tCall (sp : Sp) (dvs : List V) (E : XK) (t : TA) : TE := fun σ H Q => t σ H fun vs H1 => sp (vs ++ dvs) H1 Q E
def tMeth (C : Addr) (m : Str) (sp : Sp) (dvs : List V) (E : XK) (ta : TE) (t : TA) : TE := fun σ H Q => ta σ H fun x H1 => ∃ a dx fs, x = .ref a ∧ H1 a = some (.ins C dx fs) ∧ fs.lookup m = none ∧
  t σ H1 fun vs H2 => sp (x :: (vs ++ dvs)) H2 Q E
def tMake (C : Addr) (sp : Sp) (dvs : List V) (E : XK) (t : TA) : TE := fun σ H Q => t σ H fun vs H1 => ∀ x dx, H1 x = none → H1 dx = none → dx ≠ x →
  sp (.ref x :: (vs ++ dvs)) (upd (upd H1 dx (.own x)) x (.ins C dx [])) (fun v H2 => v = .non ∧ Q (.ref x) H2) E
def Binds (K : PySem.W.Frag) (fd : FuncData) (ps : List Str) (ds : List Value) : Prop :=
  ∀ (s : Shared) (us : List Value), K.In s.heap → (us ++ ds).length = ps.length → BindsTo s fd ⟨us, []⟩ (ps.zip (us ++ ds))
theorem Binds.all {K : PySem.W.Frag} {fd : FuncData} {ps : List Str} (h : ∀ us : List Value, us.length = ps.length → bindArgs fd ⟨us, []⟩ = pure (ps.zip us)) : Binds K fd ps [] := fun s us _ hl => by
  rw [List.append_nil] at hl ⊢
  exact .of_eq (h us hl)
def Passes (CX : CXT) (X : Cx) (E : XK) : Prop := ∀ (pins : List (Addr × Obj)) (σ : St) (H : Hp) (s : Shared) (e : Value) (s' : Shared), Inv X pins σ H s → CX X.stack H s E e s' → X.xe e s'
section
variable {X : Cx} {CX : CXT} {k : Nat} {f C : Addr} {fd : FuncData} {ps : List Str} {sp : Sp} {dvs : List V} {ds : List Value} {E : XK} {x m : Str} {p pos apos : Pos} {e o : Expr} {es : List Expr} {ta : TE} {t : TA}
theorem run_fn {pins : List (Addr × Obj)} {σ : St} {H : Hp} {s : Shared} {Q : VK} {us : List Value} {vs : List V} (F : FnOk X.prog X.w X.K X.mg X.base CX k f fd ps sp) (hr : Room k X.A) (hb : Binds X.K fd ps ds) (hd : Vals dvs ds) (hx : Passes CX X E)
    (I : Inv X pins σ H s) (r : Vals vs us) (h : sp (vs ++ dvs) H Q E) : wpAny (model X.prog X.w) X.A (call (.ref f) us) (EP X pins σ Q) X.xe s := by
  have r2 : Vals (vs ++ dvs) (us ++ ds) := r.append hd
  have hl : (us ++ ds).length = ps.length := by rw [← r2.length]; exact F.len _ _ _ _ h
  refine wpAny_call (codeAny_mono (F.run X.A X.stack s H ⟨us, []⟩ (us ++ ds) (vs ++ dvs) Q E hr I.env0 (hb s us I.kIn hl) r2 h) fun r s' hq => ?_)
  cases r with
  | error e => exact hx pins σ H s e s' I hq
  | ok fl =>
    cases fl with
    | ret u => exact I.after hq
    | next => exact False.elim hq
    | brk => exact False.elim hq
    | cont => exact False.elim hq
theorem pe_call (F : FnOk X.prog X.w X.K X.mg X.base CX k f fd ps sp) (hr : Room k X.A) (hg : Gl X x) (hm : X.mg x = some (.ref f)) (hk : PySem.W.keepIn X.K (.ref f) = true) (hb : Binds X.K fd ps ds) (hd : Vals dvs ds) (hx : Passes CX X E)
    (ha : PA X (e :: es) t) (hdb : (x == ("__debug__" : Str)) = false := by decide) (he : starEach (e :: es) X.env = (false, eval e X.env) :: starEach es X.env := by rfl) (hpl : (backTo pos (starEach es X.env)).any (·.1) = false := by rfl) :
    PE X (.Call (.Name x p) (e :: es) [] pos) (tCall sp dvs E t) := by
  intro pins s σ H Q I h
  refine wpAny_Call_Name_kw (ld_glob I hg hm ?_ hdb)
  refine PySem.W.callWith_K (h₀ := X.base) I.ok.mod.kin hk (thn (ha pos pins s σ H _ I h) fun us s1 ⟨vs, H1, I1, r, q⟩ => ⟨I1.kIn, ?_⟩) he hpl
  exact run_fn F hr hb hd hx I1 r q
theorem pe_meth {pl : Sem Bool} (he : PE X o ta) (c : Cls X.K C) (hm : Meth X.K C m f) (F : FnOk X.prog X.w X.K X.mg X.base CX k f fd ps sp) (hr : Room k X.A) (hb : Binds X.K fd ps ds) (hd : Vals dvs ds) (hx : Passes CX X E) (ha : PA X (e :: es) t)
    (hst : starEach (e :: es) X.env = (false, eval e X.env) :: starEach es X.env := by rfl) (hpl : (backTo pos (starEach es X.env)).any (·.1) = false := by rfl)
    (ht : eval (.Call (.Attribute o m apos) (e :: es) [] pos) X.env = (do
      let ov ← eval o X.env
      standAt apos.atName
      let (f, first) ← holding [ov] (getMethod ov m pl)
      callWith pos f first (backTo pos (starEach (e :: es) X.env)) (backToKw pos (keywordEach [] X.env))) := by rfl) :
    PE X (.Call (.Attribute o m apos) (e :: es) [] pos) (tMeth C m sp dvs E ta t) := by
  intro pins s σ H Q I h
  refine PySem.W.methodCall_KW (pl := pl) (thn (he pins s σ H _ I h) fun u s1 ⟨x, H1, I1, rx, a, dx, fs, ex, ea, l, q⟩ => ?_) ht
  subst ex
  obtain rfl : u = Value.ref a := rx
  refine getmeth_ok I1 ea c hm l ?_
  refine PySem.W.callWith_K (first := [.ref a]) (h₀ := X.base) I.ok.mod.kin hm.kp (thn (ha pos pins s1 σ H1 _ I1 q) fun us s2 ⟨vs, H2, I2, r, q2⟩ => ⟨I2.kIn, ?_⟩) hst hpl
  exact run_fn (us := .ref a :: us) (vs := .ref a :: vs) F hr hb hd hx I2 (.cons rfl r) q2
theorem pe_meth0 {pl : Sem Bool} (he : PE X o ta) (c : Cls X.K C) (hm : Meth X.K C m f) (F : FnOk X.prog X.w X.K X.mg X.base CX k f fd ps sp) (hr : Room k X.A) (hb : Binds X.K fd ps ds) (hd : Vals dvs ds) (hx : Passes CX X E)
    (ht : eval (.Call (.Attribute o m apos) [] [] pos) X.env = (do
      let ov ← eval o X.env
      standAt apos.atName
      let (f, first) ← holding [ov] (getMethod ov m pl)
      callWith pos f first (backTo pos (starEach [] X.env)) (backToKw pos (keywordEach [] X.env))) := by rfl) :
    PE X (.Call (.Attribute o m apos) [] [] pos) (tMeth C m sp dvs E ta tNil) := by
  intro pins s σ H Q I h
  refine PySem.W.methodCall_KW (pl := pl) (thn (he pins s σ H _ I h) fun u s1 ⟨x, H1, I1, rx, a, dx, fs, ex, ea, l, q⟩ => ?_) ht
  subst ex
  obtain rfl : u = Value.ref a := rx
  refine getmeth_ok I1 ea c hm l ?_
  exact PySem.W.callWith_K0 (first := [.ref a]) I1.kIn hm.kp (run_fn (us := [.ref a]) (vs := [.ref a]) F hr hb hd hx I1 (.cons rfl .nil) q)
structure Mk (K : PySem.W.Frag) (C f : Addr) : Prop where
  makes : PySem.W.makesIn K C = true
  init : PySem.W.findIn K (.ref C) "__init__" = some (some (.ref f))
  fn : PySem.W.isFn K (.ref f) = true
  kp : PySem.W.keepIn K (.ref C) = true
theorem run_make {pins : List (Addr × Obj)} {σ : St} {H : Hp} {s : Shared} {Q : VK} {us : List Value} {vs : List V} (M : Mk X.K C f) (F : FnOk X.prog X.w X.K X.mg X.base CX k f fd ps sp) (hr : Room (k + 1) X.A) (hb : Binds X.K fd ps ds) (hd : Vals dvs ds)
    (hx : Passes CX X E) (I : Inv X pins σ H s) (r : Vals vs us)
    (h : ∀ x dx, H x = none → H dx = none → dx ≠ x → sp (.ref x :: (vs ++ dvs)) (upd (upd H dx (.own x)) x (.ins C dx [])) (fun v H2 => v = .non ∧ Q (.ref x) H2) E) :
    wpAny (model X.prog X.w) X.A (call (.ref C) us) (EP X pins σ Q) X.xe s := by
  have hq := h (s.heap.objs.size + 1) s.heap.objs.size (I.hok.fresh (Nat.le_succ _)) (I.hok.fresh (Nat.le_refl _)) (Nat.ne_of_lt (Nat.lt_succ_self _))
  have I2 := Inv.made (C := C) I
  have r2 : Vals (V.ref (s.heap.objs.size + 1) :: (vs ++ dvs)) (Value.ref (s.heap.objs.size + 1) :: (us ++ ds)) := .cons rfl (r.append hd)
  have hl : (Value.ref (s.heap.objs.size + 1) :: us ++ ds).length = ps.length := by
    have e := r2.length
    rw [F.len _ _ _ _ hq] at e
    exact e.symm
  refine wpAny_call (make_map (f := f) I.kIn M.makes M.init (beq_iff_eq.mp M.fn) (codeAny_mono (F.run _ X.stack _ _ ⟨Value.ref (s.heap.objs.size + 1) :: us, []⟩ (Value.ref (s.heap.objs.size + 1) :: (us ++ ds)) _ _ E (hr.make C us [])
    (I2.env0.make C us []) (hb _ (Value.ref (s.heap.objs.size + 1) :: us) I2.kIn hl) r2 hq) fun r s' hq' => ?_))
  cases r with
  | error e => exact hx pins σ _ _ e s' I2 hq'
  | ok fl =>
    cases fl with
    | ret u =>
      obtain ⟨v, H', I3, rv, ev, q3⟩ := I2.after hq'
      subst ev
      exact ⟨rv, ⟨V.ref (s.heap.objs.size + 1), H', I3, rfl, q3⟩⟩
    | next => exact False.elim hq'
    | brk => exact False.elim hq'
    | cont => exact False.elim hq'
theorem pe_make (M : Mk X.K C f) (F : FnOk X.prog X.w X.K X.mg X.base CX k f fd ps sp) (hr : Room (k + 1) X.A) (hg : Gl X x) (hm : X.mg x = some (.ref C)) (hb : Binds X.K fd ps ds) (hd : Vals dvs ds) (hx : Passes CX X E)
    (ha : PA X (e :: es) t) (hdb : (x == ("__debug__" : Str)) = false := by decide) (he : starEach (e :: es) X.env = (false, eval e X.env) :: starEach es X.env := by rfl) (hpl : (backTo pos (starEach es X.env)).any (·.1) = false := by rfl) :
    PE X (.Call (.Name x p) (e :: es) [] pos) (tMake C sp dvs E t) := by
  intro pins s σ H Q I h
  refine wpAny_Call_Name_kw (ld_glob I hg hm ?_ hdb)
  refine PySem.W.callWith_K (h₀ := X.base) I.ok.mod.kin M.kp (thn (ha pos pins s σ H _ I h) fun us s1 ⟨vs, H1, I1, r, q⟩ => ⟨I1.kIn, ?_⟩) he hpl
  exact run_make M F hr hb hd hx I1 r q
end
section
variable {X : Cx} {CX : CXT} {k : Nat} {f C : Addr} {fd : FuncData} {ps ks : List Str} {sp : Sp} {E : XK} {x m : Str} {p pos apos kpos : Pos} {e o : Expr} {es : List Expr} {kws : List Keyword} {te ta : TE} {t tk : TA} {nm : Option Str}
variable {g : List Value → List Value → List Value} {gV : List V → List V → List V}
end
structure FnScope (N P : List Str) (sc : Scope) : Prop where
  kind : sc.kind = .function
  co : sc.isCoroutine = false
  gen : sc.isGenerator = false
  nd : N.Nodup
  pre : N.take P.length = P
  par : ∀ x ∈ P, sc.names.lookup x = some .local ∨ sc.names.lookup x = some .cell
  nofree : ∀ y ∈ sc.names, y.2 ≠ .free
theorem bindL_out {kindOf : Str → Option NameKind} {x : Str} : ∀ {binds : List (Str × Value)} {m : Str → Option Value}, (∀ v, (x, v) ∉ binds) → bindL kindOf binds m x = m x
  | [], _, _ => rfl
  | (n, v) :: r, m, h => by
    unfold bindL
    rw [bindL_out fun w hw => h w (List.mem_cons_of_mem _ hw)]
    split
    · have : x ≠ n := by rintro rfl; exact h v List.mem_cons_self
      simp [this]
    · rfl
theorem bindC_out {kindOf : Str → Option NameKind} {x : Str} : ∀ {binds : List (Str × Value)} {m : Str → Option Value}, (∀ v, (x, v) ∉ binds) → bindC kindOf binds m x = m x
  | [], _, _ => rfl
  | (n, v) :: r, m, h => by
    unfold bindC
    rw [bindC_out fun w hw => h w (List.mem_cons_of_mem _ hw)]
    split
    · rfl
    · have : x ≠ n := by rintro rfl; exact h v List.mem_cons_self
      simp [this]
theorem bindL_get {kindOf : Str → Option NameKind} {x : Str} {v : Value} : ∀ {P : List Str} {vs : List Value} {i : Nat} {m : Str → Option Value}, P.Nodup → P[i]? = some x → vs[i]? = some v → kindOf x = some .local →
    bindL kindOf (P.zip vs) m x = some v
  | [], _, _, _, _, h, _, _ => by simp at h
  | _ :: _, [], _, _, _, _, h, _ => by simp at h
  | p :: P, w :: vs, 0, m, nd, h1, h2, hk => by
    simp at h1 h2; subst h1; subst h2
    show bindL kindOf ((p, w) :: P.zip vs) m p = _
    unfold bindL
    rw [bindL_out fun v hv => (List.nodup_cons.mp nd).1 (List.of_mem_zip hv).1, if_pos hk]
    simp
  | p :: P, w :: vs, i + 1, m, nd, h1, h2, hk => by
    show bindL kindOf ((p, w) :: P.zip vs) m x = _
    unfold bindL
    exact bindL_get (i := i) (List.nodup_cons.mp nd).2 (by simpa using h1) (by simpa using h2) hk
theorem bindC_get {kindOf : Str → Option NameKind} {x : Str} {v : Value} : ∀ {P : List Str} {vs : List Value} {i : Nat} {m : Str → Option Value}, P.Nodup → P[i]? = some x → vs[i]? = some v → kindOf x ≠ some .local →
    bindC kindOf (P.zip vs) m x = some v
  | [], _, _, _, _, h, _, _ => by simp at h
  | _ :: _, [], _, _, _, _, h, _ => by simp at h
  | p :: P, w :: vs, 0, m, nd, h1, h2, hk => by
    simp at h1 h2; subst h1; subst h2
    show bindC kindOf ((p, w) :: P.zip vs) m p = _
    unfold bindC
    rw [bindC_out fun v hv => (List.nodup_cons.mp nd).1 (List.of_mem_zip hv).1, if_neg hk]
    simp
  | p :: P, w :: vs, i + 1, m, nd, h1, h2, hk => by
    show bindC kindOf ((p, w) :: P.zip vs) m x = _
    unfold bindC
    exact bindC_get (i := i) (List.nodup_cons.mp nd).2 (by simpa using h1) (by simpa using h2) hk
def start (N : List Str) (vs : List V) : St := vs.map some ++ List.replicate (N.length - vs.length) none
def cxOf (CX : CXT) (P : Program) (w : World) (K : PySem.W.Frag) (mg : Str → Option Value) (base : Heap) (N : List Str) (qual : Str) (scope : Scope) (f : Addr) (cd : Value) (A : Around) (outer : List Env) (s : Shared) (H : Hp) (E : XK) : Cx where
  prog := P
  w := w
  K := K
  mg := mg
  base := base
  A := A.deeper (envOfC qual scope s.heap.objs.size f cd)
  N := N
  s₀ := s
  H₀ := H
  env := envOfC qual scope s.heap.objs.size f cd
  outer := outer
  stack := envOfC qual scope s.heap.objs.size f cd :: outer
  ex := []
  calm := true
  fn := fun _ => true
  pn := []
  xe := fun e s' => wpAny (model P w) (A.deeper (envOfC qual scope s.heap.objs.size f cd)) (leaving (envOfC qual scope s.heap.objs.size f cd) e) (fun _ s'' => CX outer H s E e s'') (fun e' s'' => CX outer H s E e' s'') s'
theorem cell_has {sc : Scope} {n : Nat} {x : Str} (h : sc.names.lookup x = some .cell) : ∃ c, (cellsFrom n sc.names []).lookup x = some c := by
  have q := PySem.W.cellsFrom_some sc.names n [] (.inl h)
  exact Option.isSome_iff_exists.mp q
theorem inv_start {CX : CXT} {P : Program} {w : World} {K : PySem.W.Frag} {mg : Str → Option Value} {base : Heap} {N ps : List Str} {qual : Str} {scope : Scope} {f : Addr} {cd : Value} {A : Around} {outer : List Env} {s s1 : Shared} {H : Hp} {E : XK} {us : List Value} {vs : List V}
    (S : FnScope N ps scope) (hd : A.handled = none) (e0 : Env0 P w K mg base A outer s H) (hl : vs.length = ps.length) (r : Vals vs us)
    (x : InCallC s s.heap.objs.size (bindL (envOfC qual scope s.heap.objs.size f cd).kindOf (ps.zip us) fun _ => none) (cellsFrom (s.heap.objs.size + 1) scope.names []) (bindC (envOfC qual scope s.heap.objs.size f cd).kindOf (ps.zip us) fun _ => none) s1) :
    Inv (cxOf CX P w K mg base N qual scope f cd A outer s H E) [] (start N vs) H s1 := by
  have hpl : ps.length ≤ N.length := by have := congrArg List.length S.pre; rw [List.length_take] at this; omega
  obtain ⟨h1, tk, rfl, hk⟩ := x.done
  have noA : ∀ b : Addr, b ∉ (cxOf CX P w K mg base N qual scope f cd A outer s H E).ex := fun b z => absurd (show b ∈ ([] : List Addr) from z) (by simp)
  refine ⟨⟨e0.mod, S.kind, rfl, rfl, Nat.le_refl _, fun y z c h1 h2 => ?_, fun y hy => ?_, fun y c _ h => ?_, fun _ => hd, Around.frames_deeper e0.frames, .inr ⟨rfl, rfl⟩, fun b z => absurd z (noA b), e0.bs, e0.bsz, fun b _ _ => noA b, fun b z => absurd z (noA b), e0.funs, e0.frf⟩,
    rfl, e0.bare, Un.kept hk, ⟨_, x.toInCall.ns, fun i y v h1 h2 h3 => ?_⟩, fun y c h => ⟨_, x.cell y c h⟩, e0.hok.fresh (Nat.le_refl _), fun y c h => ?_, fun p hp => absurd (show p ∈ ([] : List (Addr × Obj)) from hp) (by simp), e0.hok.kept hk, ?_⟩
  · exact name_of_addr x.apart (PySem.mem_of_lookup h1) (PySem.mem_of_lookup h2)
  · have hy : scope.names.lookup y = some .cell ∨ scope.names.lookup y = some .free := hy
    rcases hy with hy | hy
    · exact cell_has hy
    · exact absurd rfl (S.nofree _ (PySem.mem_of_lookup hy))
  · exact Nat.le_of_lt (x.above y c (PySem.mem_of_lookup h))
  · have hi : i < vs.length := by
      unfold start at h2
      by_cases hi : i < vs.length
      · exact hi
      · rw [List.getElem?_append_right (by simpa using hi)] at h2
        rw [List.getElem?_replicate] at h2
        split at h2 <;> cases h2
    have ha : vs[i]? = some v := by
      unfold start at h2
      rw [List.getElem?_append_left (by simpa using hi), List.getElem?_map] at h2
      cases e : vs[i]? with
      | none => rw [e] at h2; cases h2
      | some a => rw [e] at h2; cases h2; rfl
    obtain ⟨u, hu, rv⟩ := r.get ha
    have hp : ps[i]? = some y := by
      rw [← S.pre, List.getElem?_take_of_lt (by omega)]; exact h1
    have ndP : ps.Nodup := by rw [← S.pre]; exact S.nd.sublist (List.take_sublist _ _)
    refine ⟨u, rv, ?_⟩
    rcases S.par y (List.mem_of_getElem? hp) with k | k
    · exact .inl ⟨k, bindL_get ndP hp hu k⟩
    · obtain ⟨c, e⟩ := cell_has (n := s.heap.objs.size + 1) k
      refine .inr ⟨.inl k, c, e, ?_⟩
      have q := x.cell y c e
      rw [bindC_get ndP hp hu (by show scope.names.lookup y ≠ _; rw [k]; decide)] at q
      exact q
  · exact e0.hok.fresh (Nat.le_of_lt (x.above y c (PySem.mem_of_lookup h)))
  · unfold start
    show _ = N.length
    rw [List.length_append, List.length_map, List.length_replicate]
    omega
theorem fn_of {CX : CXT} {P : Program} {w : World} {K : PySem.W.Frag} {mg : Str → Option Value} {base : Heap} {k : Nat} {f : Addr} {name qual : Str} {params : Arguments} {body : List Stmt} {scope : Scope} {dV kV doc pm cdv ct oc : Value} {an od : Option Addr}
    {osl : Array (Option Value)} {N ps : List Str} {sp : Sp} (lk : K.lookup f = some ⟨oc, od, .func (PySem.W.fnOf name qual params body scope dV kV doc pm an cdv ct), osl⟩) (hcd : PySem.W.codeIn K cdv qual = true) (S : FnScope N ps scope)
    (len : ∀ vs H Q E, sp vs H Q E → vs.length = ps.length)
    (hbody : ∀ (A : Around) (outer : List Env) (s : Shared) (H : Hp) (vs : List V) (Q : VK) (E : XK), Room k (A.deeper (envOfC qual scope s.heap.objs.size f cdv)) → sp vs H Q E →
      ∃ t, PSs (cxOf CX P w K mg base N qual scope f cdv A outer s H E) body t ∧ t { nx := fun _ H' => Q .non H', rt := Q } (start N vs) H) :
    FnOk P w K mg base CX (k + 1) f (PySem.W.fnOf name qual params body scope dV kV doc pm an cdv ct) ps sp := by
  refine ⟨len, fun A outer s H args us vs Q E hr e0 hb r hsp => ?_⟩
  have hl := len _ _ _ _ hsp
  have KX : K.In s.heap := e0.mod.kin.keeps fun b o e => (e0.bs b o e).1
  have lim : s.heap.NoLimit := e0.mod.nolimit.keeps fun b o e => (e0.bs b o e).1
  have hkind : ∀ y ∈ ps.zip us, scope.names.lookup y.1 = some .local ∨ (scope.names.lookup y.1 = some .cell ∧ ((cellsFrom (s.heap.objs.size + 1) scope.names []).lookup y.1).isSome = true) := fun ⟨n, v⟩ hy => by
    rcases S.par n (List.of_mem_zip hy).1 with q | q
    · exact .inl q
    · exact .inr ⟨q, PySem.W.cellsFrom_some _ _ _ (.inl q)⟩
  refine codeAny_call_function hr.depth (KX _ _ lk) rfl S.co S.gen rfl (PySem.W.codeRec_of KX hcd) (hb _ _ _ _ ?_)
  refine wpAny_newFunctionEnv_cells S.kind hkind fun env he s1 x => ?_
  subst he
  refine ⟨lim.keeps x.toInCall.keep, codeAny_func ?_⟩
  obtain ⟨t, ht, hq⟩ := hbody A outer s H vs Q E (hr.deeper _) hsp
  have I : Inv (cxOf CX P w K mg base N qual scope f cdv A outer s H E) [] (start N vs) H s1 := inv_start S hr.hd e0 hl r x
  refine wpAny_mono (ht [] s1 (start N vs) H _ I hq) (fun fl s' hs => ?_) fun e s' hs => hs
  have fin : ∀ {σ' : St} {H' : Hp} {v : V} {u : Value}, Inv (cxOf CX P w K mg base N qual scope f cdv A outer s H E) [] σ' H' s' → RelV v u → Q v H' → CE outer P w H s Q u s' :=
    fun {σ' H' v u} J rv q => ⟨v, H', J.os, J.bare, J.base, J.hok, rv, q⟩
  cases fl with
  | ret u =>
    obtain ⟨v, σ', H', J, rv, q⟩ := hs
    exact fin J rv q
  | next =>
    obtain ⟨σ', H', J, q⟩ := hs
    exact fin (v := V.non) (u := Value.none) J rfl q
  | brk =>
    obtain ⟨_, _, _, q⟩ := hs
    exact False.elim q
  | cont =>
    obtain ⟨_, _, _, q⟩ := hs
    exact False.elim q
end L2
namespace L2
open PySem PySem.Spec PyProof.Rows
section
variable {X : Cx} {x : Str} {p pos : Pos} {e : Expr} {es : List Expr} {t : TA} {id T : String} {r : List V → Hp → VK → Prop}
def tCB (r : List V → Hp → VK → Prop) (t : TA) : TE := fun σ H Q => t σ H fun vs H1 => r vs H1 Q
theorem pe_callB (hc : CallR X (.builtin id) r) (hg : Gl X x) (hm : X.mg x = none) (hv : bootBuiltins x = some (.builtin id)) (ha : PA X (e :: es) t) (hn : x ≠ "__name__" := by decide) (hdb : (x == ("__debug__" : Str)) = false := by decide)
    (he : starEach (e :: es) X.env = (false, eval e X.env) :: starEach es X.env := by rfl) (hpl : (backTo pos (starEach es X.env)).any (·.1) = false := by rfl) : PE X (.Call (.Name x p) (e :: es) [] pos) (tCB r t) := by
  intro pins s σ H Q I h
  refine wpAny_Call_Name_kw (ld_blt I hg hm hv ?_ hn hdb)
  exact PyProof.Rows.callWith_builtin1 (thn (ha pos pins s σ H _ I h) fun us s1 ⟨vs, H1, I1, r1, q1⟩ => hc pins s1 σ H1 vs us Q I1 r1 q1) he hpl
theorem pe_callTy (hc : CallR X (.type T) r) (hg : Gl X x) (hm : X.mg x = none) (hv : bootBuiltins x = some (.type T)) (ha : PA X (e :: es) t) (hn : x ≠ "__name__" := by decide) (hdb : (x == ("__debug__" : Str)) = false := by decide)
    (he : starEach (e :: es) X.env = (false, eval e X.env) :: starEach es X.env := by rfl) (hpl : (backTo pos (starEach es X.env)).any (·.1) = false := by rfl) : PE X (.Call (.Name x p) (e :: es) [] pos) (tCB r t) := by
  intro pins s σ H Q I h
  refine wpAny_Call_Name_kw (ld_blt I hg hm hv ?_ hn hdb)
  exact PyProof.Rows.callWith_type1 (thn (ha pos pins s σ H _ I h) fun us s1 ⟨vs, H1, I1, r1, q1⟩ => hc pins s1 σ H1 vs us Q I1 r1 q1) he hpl
end
end L2
namespace HT
open PySem PyProof.Rows
def lexLt : List Int → List Int → Bool
  | [], [] => false
  | [], _ :: _ => true
  | _ :: _, [] => false
  | x :: xs, y :: ys => if x = y then lexLt xs ys else decide (x < y)
section
open PySem.SeqAt
open PySem.AutoSeq1 (wpAny_loadPart')
open PySem.MeetsSeq PySem.MeetsSeq2 PySem.MeetsSeq3
end
section
variable {prog : Program} {w : World} {A : Around} {E : Value → Shared → Prop} {s : Shared}
def sIx (n d : Nat) : Option Int → Nat
  | none => d
  | some v => if v < 0 then (v + (n : Int)).toNat else min v.toNat n
theorem sIx_none (n d : Nat) : sIx n d none = d := rfl
theorem sIx_nat (n d k : Nat) : sIx n d (some (k : Int)) = min k n := by
  show (if (k : Int) < 0 then ((k : Int) + (n : Int)).toNat else min (k : Int).toNat n) = min k n
  rw [if_neg (by omega), Int.toNat_natCast]
theorem sIx_le (n d : Nat) (hd : d ≤ n) (o : Option Int) : sIx n d o ≤ n := by
  cases o with
  | none => exact hd
  | some v =>
    show (if v < 0 then (v + (n : Int)).toNat else min v.toNat n) ≤ n
    by_cases hv : v < 0
    · rw [if_pos hv]; omega
    · rw [if_neg hv]; exact Nat.min_le_right _ _
end
end HT
namespace L2
open PySem PySem.Spec PyProof.Rows
abbrev TO := St → Hp → (Option Int → Hp → Prop) → Prop
def PO (X : Cx) (e : Option Expr) (t : TO) : Prop :=
  ∀ (pins : List (Addr × Obj)) (s : Shared) (σ : St) (H : Hp) (Q : Option Int → Hp → Prop), Inv X pins σ H s → t σ H Q →
    wpAny (model X.prog X.w) X.A (evalPart e X.env) (fun u s' => ∃ o H', Inv X pins σ H' s' ∧ IsPart u o ∧ Q o H') X.xe s
def tNoPart : TO := fun _ H Q => Q none H
def tPart (t : TE) : TO := fun σ H Q => t σ H fun x H1 => ∃ i, x = .int i ∧ Q (some i) H1
section
variable {X : Cx} {e : Expr} {te : TE} {lo hi : Option Expr} {tl th : TO} {pos p2 : Pos}
theorem po_none : PO X none tNoPart := by
  intro pins s σ H Q I h
  rw [evalPart_none]
  exact wpAny_pure ⟨none, H, I, .none, h⟩
theorem po_some (h : PE X e te) : PO X (some e) (tPart te) := by
  intro pins s σ H Q I hw
  rw [evalPart_some]
  refine thn (h pins s σ H _ I hw) fun u s1 ⟨x, H1, I1, r1, q1⟩ => ?_
  obtain ⟨i, rfl, q⟩ := q1
  obtain ⟨t, rfl⟩ := r1
  exact ⟨some i, H1, I1, .int i t, q⟩
def SlR (X : Cx) (r : V → Option Int → Option Int → Hp → VK → Prop) : Prop :=
  ∀ (pins : List (Addr × Obj)) (s : Shared) (σ : St) (H : Hp) (x : V) (v vl vu : Value) (lo hi : Option Int) (sl : Addr) (Q : VK), Inv X pins σ H s → RelV x v → s.heap.IsSliceOf sl vl vu .none → IsPart vl lo → IsPart vu hi → r x lo hi H Q →
    ∃ T id, typeLookup (.type T) "__getitem__" = pure (some (.builtin id)) ∧ s.TypeIs v T ∧ wpAny (model X.prog X.w) X.A (getItem v (.ref sl)) (EP X pins σ Q) X.xe s
def tSl (r : V → Option Int → Option Int → Hp → VK → Prop) (te : TE) (tl th : TO) : TE := fun σ H Q => te σ H fun x H1 => tl σ H1 fun l H2 => th σ H2 fun u H3 => r x l u H3 Q
theorem pe_slice {r : V → Option Int → Option Int → Hp → VK → Prop} (hr : SlR X r) (he : PE X e te) (hl : PO X lo tl) (hu : PO X hi th) : PE X (.Subscript e (.Slice lo hi none p2) pos) (tSl r te tl th) := by
  intro pins s σ H Q I h
  refine Subscript_ (thn (he pins s σ H _ I h) fun v s1 ⟨x, H1, I1, r1, q1⟩ => ?_)
  refine wpAny_Slice (thn (hl pins s1 σ H1 _ I1 q1) fun vl s2 ⟨l, H2, I2, pl, q2⟩ => thn (hu pins s2 σ H2 _ I2 q2) fun vu s3 ⟨u, H3, I3, pu, q3⟩ => ?_)
  rw [evalPart_none]
  refine wpAny_pure ?_
  have I4 : Inv X pins σ H3 { s3 with heap := s3.heap.push { cls := .type "slice", data := .fields #[vl, vu, .none] } } := I3.kept (t' := s3.toks) fun b ob q => Heap.get?_push_of_some _ q
  obtain ⟨T, id, hT, ht, hg⟩ := hr pins { s3 with heap := s3.heap.push { cls := .type "slice", data := .fields #[vl, vu, .none] } } σ H3 x v vl vu l u s3.heap.objs.size Q I4 r1 (Heap.IsSliceOf.new ..) pl pu q3
  show wpAny (model X.prog X.w) X.A (subscriptTail e (.Slice lo hi none p2) v (.ref s3.heap.objs.size)) (EP X pins σ Q) X.xe { s3 with heap := s3.heap.push { cls := .type "slice", data := .fields #[vl, vu, .none] } }
  exact tail_any (ops := [.ref s3.heap.objs.size, v]) ht hT hg (by with_unfolding_all rfl)
def cutV (xs : List V) (lo hi : Option Int) : List V := (xs.drop (HT.sIx xs.length 0 lo)).take (HT.sIx xs.length xs.length hi - HT.sIx xs.length 0 lo)
theorem cutV_length (xs : List V) (lo hi : Option Int) : (cutV xs lo hi).length ≤ xs.length := by
  unfold cutV
  rw [List.length_take, List.length_drop]
  omega
end
end L2
namespace L2
open PySem PySem.Spec PyProof.Rows
def ixN (n : Nat) (i : Int) : Option Nat := if 0 ≤ i then (if i < n then some i.toNat else none) else if -(n : Int) ≤ i then some (i + n).toNat else none
def atI {α : Type} (xs : List α) (i : Int) : Option α := (ixN xs.length i).bind fun j => xs[j]?
theorem ixN_seq {n : Nat} {i : Int} {j : Nat} (h : ixN n i = some j) : seqIndex? i n = some j ∧ j < n ∧ -(n : Int) ≤ i ∧ i < n := by
  unfold ixN at h
  by_cases h0 : 0 ≤ i
  · rw [if_pos h0] at h
    by_cases h1 : i < n
    · rw [if_pos h1] at h
      have e : i.toNat = j := Option.some.inj h
      exact ⟨by rw [seqIndex_of h0 h1, e], by omega, by omega, h1⟩
    · rw [if_neg h1] at h; cases h
  · rw [if_neg h0] at h
    by_cases h1 : -(n : Int) ≤ i
    · rw [if_pos h1] at h
      have e : (i + n).toNat = j := Option.some.inj h
      exact ⟨by rw [seqIndex_neg (by omega) h1, e], by omega, h1, by omega⟩
    · rw [if_neg h1] at h; cases h
theorem atI_get {α : Type} {xs : List α} {i : Int} {v : α} (h : atI xs i = some v) : ∃ j, seqIndex? i xs.length = some j ∧ xs[j]? = some v ∧ j < xs.length ∧ -(xs.length : Int) ≤ i ∧ i < xs.length := by
  unfold atI at h
  cases e : ixN xs.length i with
  | none => rw [e] at h; cases h
  | some j =>
    rw [e] at h
    obtain ⟨h1, h2, h3, h4⟩ := ixN_seq e
    exact ⟨j, h1, h, h2, h3, h4⟩
theorem atI_nat {α : Type} {xs : List α} {j : Nat} {v : α} (h : xs[j]? = some v) : atI xs (j : Int) = some v := by
  have hj : j < xs.length := (List.getElem?_eq_some_iff.mp h).1
  have e : ixN xs.length (j : Int) = some j := by
    unfold ixN
    rw [if_pos (by omega), if_pos (by omega)]; simp
  unfold atI; rw [e]; exact h
def PlainIx (b : Expr) : Prop := ∀ o i, subscripted b false o i = operate [o, i] (getItem o i)
def IxR (X : Cx) (r : R2) : Prop :=
  ∀ (value slice : Expr) (pins : List (Addr × Obj)) (s : Shared) (σ : St) (H : Hp) (x y : V) (v u : Value) (Q : VK), Inv X pins σ H s → RelV x v → RelV y u → r x y H Q →
    subscripted slice false v u = operate [v, u] (getItem v u) → wpAny (model X.prog X.w) X.A (subscriptTail value slice v u) (EP X pins σ Q) X.xe s
def MtR (X : Cx) (id : String) (r : V → List V → Hp → VK → Prop) : Prop :=
  ∀ (pins : List (Addr × Obj)) (s : Shared) (σ : St) (H : Hp) (x : V) (xs : List V) (v : Value) (us : List Value) (Q : VK), Inv X pins σ H s → RelV x v → Vals xs us → r x xs H Q →
    wpAny (model X.prog X.w) X.A (call (.builtin id) (v :: us)) (EP X pins σ Q) X.xe s
section
variable {X : Cx} {a b : Expr} {ta tb : TE} {pos : Pos}
theorem pe_ix {r : R2} (hr : IxR X r) (ha : PE X a ta) (hb : PE X b tb) (hs : PlainIx b) : PE X (.Subscript a b pos) (tOp r ta tb) := by
  intro pins s σ H Q I h
  exact Subscript_ (binT ha hb I h fun v u s2 x y H2 I2 rx ry q => hr a b pins s2 σ H2 x y v u Q I2 rx ry q (hs _ _))
def rIxL (K : PySem.W.Frag) : R2 := fun x y H Q => ∃ p xs i v, x = .ref p ∧ y = .int i ∧ SqL K H p xs ∧ atI xs i = some v ∧ Q v H
def rIxT (K : PySem.W.Frag) : R2 := fun x y H Q => ∃ p xs i v, x = .ref p ∧ y = .int i ∧ SqT K H p xs ∧ atI xs i = some v ∧ Q v H
def rIxS : R2 := fun x y H Q => ∃ z i c, x = .str z ∧ y = .int i ∧ z.length ≤ sizeLine ∧ atI z.cps.toList i = some c ∧ Q (.str ⟨#[c]⟩) H
theorem ix_list : IxR X (rIxL X.K) := by
  intro value slice pins s σ H x y v u Q I rx ry h hs
  obtain ⟨p, xs, i, z, rfl, rfl, hq, he, q⟩ := h
  cases rx
  obtain ⟨t, rfl⟩ := ry
  obtain ⟨its, r, pl, hz⟩ := I.list hq
  obtain ⟨j, h1, h2, h3, h4, h5⟩ := atI_get he
  obtain ⟨w, ew, rw'⟩ := r.get h2
  have hl := r.length
  have hn := line63
  have fin : EP X pins σ Q w s := ⟨z, H, I, rw', q⟩
  by_cases h0 : 0 ≤ i
  · have hj : i.toNat = j := by
      rw [seqIndex_of h0 h5] at h1
      exact Option.some.inj h1
    exact item_listR pl.isList h0 (by omega) (by rw [hj]; simpa using ew) fin hs
  · have hj : (i + (its.toArray.size : Int)).toNat = j := by
      rw [seqIndex_neg (by omega) h4] at h1
      rw [List.size_toArray, ← hl]
      exact Option.some.inj h1
    exact subscriptTail_builtinR (x := w) pl.isList.typeIs slot_list_getitem.lookup
      (wpAny_getItem_list_neg (Q := fun r s' => r = w ∧ EP X pins σ Q r s') pl.isList (by omega) (by rw [List.size_toArray] <;> omega) (by omega) (by rw [hj]; simpa using ew) ⟨rfl, fin⟩) hs
theorem ix_tup : IxR X (rIxT X.K) := by
  intro value slice pins s σ H x y v u Q I rx ry h hs
  obtain ⟨p, xs, i, z, rfl, rfl, hq, he, q⟩ := h
  cases rx
  obtain ⟨t, rfl⟩ := ry
  obtain ⟨its, r, pl, hz⟩ := I.tuple hq
  obtain ⟨j, h1, h2, h3, h4, h5⟩ := atI_get he
  obtain ⟨w, ew, rw'⟩ := r.get h2
  have hl := r.length
  have hn := line63
  have fin : EP X pins σ Q w s := ⟨z, H, I, rw', q⟩
  exact subscriptTail_builtinR (x := w) pl.typeIs slot_tuple_getitem.lookup
    (getItem_tuple (j := j) (Q := fun r s' => r = w ∧ EP X pins σ Q r s') pl (by omega) (by omega) (by rw [List.size_toArray, ← hl]; exact h1) (by simpa using ew) ⟨rfl, fin⟩) hs
theorem ix_str : IxR X rIxS := by
  intro value slice pins s σ H x y v u Q I rx ry h hs
  obtain ⟨z, i, c, rfl, rfl, hz, he, q⟩ := h
  obtain ⟨t, rfl⟩ := rx
  obtain ⟨t', rfl⟩ := ry
  obtain ⟨j, h1, h2, h3, h4, h5⟩ := atI_get he
  have hl : z.cps.toList.length = z.length := by simp [Str.length]
  rw [hl] at h1 h4 h5
  have hn := line63
  exact tail_any (typeIs_str s z t) slot_str_getitem.lookup (getItem_str (c := c) (by
    have e1 : decide (i < -(2 ^ 63 : Int)) = false := decide_eq_false (by omega)
    have e2 : decide (i ≥ 2 ^ 63) = false := decide_eq_false (by omega)
    rw [e1, e2, Bool.or_false]) (by rw [h1]; simpa using h2) ⟨.str ⟨#[c]⟩, H, I.tok _, ⟨_, rfl⟩, q⟩) hs
theorem slice_bounds (lo hi : Option Int) (n : Nat) : (sliceBounds lo hi none n).1 = ((HT.sIx n 0 lo : Nat) : Int) ∧ (sliceBounds lo hi none n).2.1 = ((HT.sIx n n hi : Nat) : Int) ∧ (sliceBounds lo hi none n).2.2 = 1 := by
  refine ⟨?_, ?_, rfl⟩
  · cases lo with
    | none => simp [sliceBounds, HT.sIx]
    | some i =>
      simp only [sliceBounds, HT.sIx, Option.getD_none, show (1 : Int) > 0 by decide, if_true]
      by_cases h : i < 0
      · simp only [h, if_true] <;> omega
      · simp only [h, if_false] <;> omega
  · cases hi with
    | none => simp [sliceBounds, HT.sIx]
    | some i =>
      simp only [sliceBounds, HT.sIx, Option.getD_none, show (1 : Int) > 0 by decide, if_true]
      by_cases h : i < 0
      · simp only [h, if_true] <;> omega
      · simp only [h, if_false] <;> omega
theorem slicePick_cut (its : List Value) (lo hi : Option Int) : slicePick its.toArray lo hi none = ((its.drop (HT.sIx its.length 0 lo)).take (HT.sIx its.length its.length hi - HT.sIx its.length 0 lo)).toArray := by
  obtain ⟨h1, h2, h3⟩ := slice_bounds lo hi its.toArray.size
  unfold slicePick
  rw [h1, h2, h3]
  simp only [sliceRange_one, pick_run, List.size_toArray] <;> rfl
def rSlL (K : PySem.W.Frag) : V → Option Int → Option Int → Hp → VK → Prop := fun x lo hi H Q => ∃ a xs, x = .ref a ∧ SqL K H a xs ∧ ∀ p, H p = none → Q (.ref p) (upd H p (.lst (cutV xs lo hi)))
theorem sl_list : SlR X (rSlL X.K) := by
  intro pins s σ H x v vl vu lo hi sl Q I rx hs pl pu h
  obtain ⟨a, xs, rfl, hx, q⟩ := h
  cases rx
  obtain ⟨its, r, ht, hz⟩ := I.list hx
  have hlen := r.length
  refine ⟨"list", _, slot_list_getitem.lookup, ht.isList.typeIs, ?_⟩
  refine wpAny_getItem_list_slice ht.isList hs pl pu .none (by simp) ?_ (by rw [List.size_toArray] <;> omega)
  rw [slicePick_cut, ← hlen]
  refine ⟨.ref s.heap.objs.size, _, I.laid (t' := s.toks) (o := .lst (cutV xs lo hi)) (fun b ob q => Heap.get?_push_of_some _ q) (Nat.le_refl _) ?_, rfl, q _ (I.hok.fresh (Nat.le_refl _))⟩
  exact ⟨Nat.le_trans (cutV_length xs lo hi) hz, _, 0, (r.drop (HT.sIx xs.length 0 lo)).take (HT.sIx xs.length xs.length hi - HT.sIx xs.length 0 lo), Heap.get?_push_size _ rfl⟩
def flatV : V → Bool
  | .non => true
  | .bl _ => true
  | .int _ => true
  | .str _ => true
  | _ => false
def eqV : V → V → Bool
  | .non, .non => true
  | .bl a, .bl b => a == b
  | .bl a, .int b => (if a then 1 else 0) == b
  | .int a, .bl b => a == (if b then 1 else 0)
  | .int a, .int b => a == b
  | .str a, .str b => a == b
  | _, _ => false
theorem eqAt_V {A : Around} {s : Shared} {y x : V} {u v : Value} (ry : RelV y u) (rx : RelV x v) (fy : flatV y = true) (fx : flatV x = true) : SeqAt.EqAt A s u v (eqV y x) := by
  cases y with
  | non =>
    cases ry
    cases x with
    | non => cases rx; exact SeqAt.EqAt.same _
    | bl b => cases rx; exact SeqAt.EqAt.none_bool b
    | int b => obtain ⟨t, rfl⟩ := rx; exact SeqAt.EqAt.none_int b t
    | str b => obtain ⟨t, rfl⟩ := rx; exact SeqAt.EqAt.none_str b t
    | _ => exact absurd (show false = true from fx) Bool.false_ne_true
  | bl a =>
    cases ry
    cases x with
    | non => cases rx; exact SeqAt.EqAt.bool_none a
    | bl b => cases rx; exact SeqAt.EqAt.bool_bool a b
    | int b => obtain ⟨t, rfl⟩ := rx; exact SeqAt.EqAt.bool_int a b t
    | str b => obtain ⟨t, rfl⟩ := rx; exact SeqAt.EqAt.bool_str a b t
    | _ => exact absurd (show false = true from fx) Bool.false_ne_true
  | int a =>
    obtain ⟨t', rfl⟩ := ry
    cases x with
    | non => cases rx; exact SeqAt.EqAt.int_none a t'
    | bl b => cases rx; exact SeqAt.EqAt.int_bool a t' b
    | int b => obtain ⟨t, rfl⟩ := rx; exact SeqAt.EqAt.int_int a t' b t
    | str b => obtain ⟨t, rfl⟩ := rx; exact SeqAt.EqAt.int_str a t' b t
    | _ => exact absurd (show false = true from fx) Bool.false_ne_true
  | str a =>
    obtain ⟨t', rfl⟩ := ry
    cases x with
    | non => cases rx; exact SeqAt.EqAt.str_none a t'
    | bl b => cases rx; exact SeqAt.EqAt.str_bool a t' b
    | int b => obtain ⟨t, rfl⟩ := rx; exact SeqAt.EqAt.str_int a t' b t
    | str b => obtain ⟨t, rfl⟩ := rx; exact SeqAt.EqAt.str_str a t' b t
    | _ => exact absurd (show false = true from fx) Bool.false_ne_true
  | _ => exact absurd (show false = true from fy) Bool.false_ne_true
def eqU (x : V) (u : Value) : Bool := match u with
  | .none => eqV .non x
  | .bool b => eqV (.bl b) x
  | .int i _ => eqV (.int i) x
  | .str z _ => eqV (.str z) x
  | _ => false
theorem eqU_of {x y : V} {u : Value} (r : RelV y u) (f : flatV y = true) : eqU x u = eqV y x := by
  cases y with
  | non => cases r; rfl
  | bl b => cases r; rfl
  | int i => obtain ⟨t, rfl⟩ := r; rfl
  | str z => obtain ⟨t, rfl⟩ := r; rfl
  | _ => exact absurd (show false = true from f) Bool.false_ne_true
theorem any_eqU {x : V} : ∀ {xs : List V} {us : List Value}, Vals xs us → xs.all flatV = true → us.any (eqU x) = xs.any fun y => eqV y x
  | _, _, .nil, _ => rfl
  | y :: xs, u :: us, .cons r t, f => by
    rw [List.all_cons, Bool.and_eq_true] at f
    rw [List.any_cons, List.any_cons, eqU_of r f.1, any_eqU t f.2]
theorem mem_eqAt {A : Around} {s : Shared} {x : V} {v : Value} (rx : RelV x v) (fx : flatV x = true) : ∀ {xs : List V} {us : List Value}, Vals xs us → xs.all flatV = true → ∀ u ∈ us, SeqAt.EqAt A s u v (eqU x u)
  | _, _, .nil, _ => fun u hu => by cases hu
  | y :: xs, u :: us, .cons r t, f => fun u' hu => by
    rw [List.all_cons, Bool.and_eq_true] at f
    rcases List.mem_cons.mp hu with rfl | hu
    · rw [eqU_of r f.1]; exact eqAt_V r rx f.1 fx
    · exact mem_eqAt rx fx t f.2 u' hu
def inV (x : V) (xs : List V) : Bool := xs.any fun y => eqV y x
def rIn (K : PySem.W.Frag) (neg : Bool) : R2 := fun x y H Q => ∃ p xs, y = .ref p ∧ (SqL K H p xs ∨ SqT K H p xs) ∧ flatV x = true ∧ xs.all flatV = true ∧ Q (.bl (if neg then !inV x xs else inV x xs)) H
theorem op_notIn_seq : OpR X (compareOp .NotIn) (rIn X.K true) := by
  intro pins s σ H x y v u Q I rx ry h
  obtain ⟨p, xs, rfl, hq, fx, fs, q⟩ := h
  cases ry
  rcases hq with hq | hq
  · obtain ⟨its, r, pl, hz⟩ := I.list hq
    refine SeqAt.notIn_listAt (eqU x) pl.isList (fun w hw => mem_eqAt rx fx r fs w (by simpa using hw)) ⟨.bl _, H, I, rfl, ?_⟩
    rw [show its.toArray.any (eqU x) = its.any (eqU x) by simp, any_eqU r fs]
    exact q
  · obtain ⟨its, r, pl, hz⟩ := I.tuple hq
    refine SeqAt.notIn_tupleAt (eqU x) pl (fun w hw => mem_eqAt rx fx r fs w (by simpa using hw)) ⟨.bl _, H, I, rfl, ?_⟩
    rw [show its.toArray.any (eqU x) = its.any (eqU x) by simp, any_eqU r fs]
    exact q
theorem op_notIn_str : OpR X (compareOp .NotIn) (fun x y H Q => ∃ i j, x = .str i ∧ y = .str j ∧ Q (.bl (!(!(Builtin.Str.occurrences j i 0 j.length 1).isEmpty))) H) := by
  intro pins s σ H x y v u Q I rx ry h
  obtain ⟨i, j, rfl, rfl, q⟩ := h
  obtain ⟨t, rfl⟩ := rx
  obtain ⟨t', rfl⟩ := ry
  exact notIn_str ⟨.bl _, H, I, rfl, q⟩
theorem call_len_seq : CallR X (.builtin "len") (fun xs H Q => ∃ p ys, xs = [.ref p] ∧ (SqL X.K H p ys ∨ SqT X.K H p ys) ∧ Q (.int ys.length) H) := by
  intro pins s σ H xs us Q I r h
  obtain ⟨p, ys, rfl, hq, q⟩ := h
  obtain ⟨u, rfl, rx⟩ := vals1 r
  cases rx
  have hn := line63
  rcases hq with hq | hq
  · obtain ⟨its, r', pl, hz⟩ := I.list hq
    have hlen := r'.length
    exact Calls.call_len_list pl.isList (by simp only [List.size_toArray] <;> omega) ⟨.int ys.length, H, I.tok _, ⟨s.toks + 1, by rw [List.size_toArray, hlen]⟩, q⟩
  · obtain ⟨its, r', pl, hz⟩ := I.tuple hq
    have hlen := r'.length
    exact len_tuple pl (by simp only [List.size_toArray] <;> omega) ⟨.int ys.length, H, I.tok _, ⟨s.toks + 1, by rw [List.size_toArray, hlen]⟩, q⟩
theorem call_len_str : CallR X (.builtin "len") (fun xs H Q => ∃ z, xs = [.str z] ∧ z.length ≤ sizeLine ∧ Q (.int z.length) H) := by
  intro pins s σ H xs us Q I r h
  obtain ⟨z, rfl, hz, q⟩ := h
  obtain ⟨u, rfl, t, rfl⟩ := vals1 r
  have hn := line63
  exact len_str (by omega) ⟨.int z.length, H, I.tok _, ⟨_, rfl⟩, q⟩
theorem call_list_of : CallR X (.type "list") (fun xs H Q => ∃ p ys, xs = [.ref p] ∧ (SqL X.K H p ys ∨ SqT X.K H p ys) ∧ ∀ l, H l = none → Q (.ref l) (upd H l (.lst ys))) := by
  intro pins s σ H xs us Q I r h
  obtain ⟨p, ys, rfl, hq, q⟩ := h
  obtain ⟨u, rfl, rx⟩ := vals1 r
  cases rx
  have fin : ∀ (its : List Value), Vals ys its → ys.length ≤ sizeLine → ∀ (h' : Heap) (c' : Nat), (∀ b o', s.heap.get? b = some o' → h'.get? b = some o') →
      h'.get? s.heap.objs.size = some { cls := .type "list", dict := none, data := .seq its.toArray c', slots := #[] } → EP X pins σ Q (.ref s.heap.objs.size) { s with heap := h' } := fun its r' hz h' c' kp e =>
    ⟨.ref s.heap.objs.size, _, I.laid (t' := s.toks) kp (Nat.le_refl _) (show ObjOk X.prog X.w _ h' _ (.lst ys) from ⟨hz, its, c', r', e⟩), rfl, q _ (I.hok.fresh (Nat.le_refl _))⟩
  rcases hq with hq | hq
  · obtain ⟨its, r', pl, hz⟩ := I.list hq
    have hlen := r'.length
    obtain ⟨o, ho, hc, n, hd⟩ := pl.isList
    exact call_list_seq p (.inl rfl) ho hc hd (fun h' c' kp e => fin its r' hz h' c' kp e) (by simp only [List.size_toArray] <;> omega)
  · obtain ⟨its, r', pl, hz⟩ := I.tuple hq
    have hlen := r'.length
    obtain ⟨o, ho, hc, n, hd⟩ := pl
    exact call_list_seq p (.inr rfl) ho hc hd (fun h' c' kp e => fin its r' hz h' c' kp e) (by simp only [List.size_toArray] <;> omega)
theorem call_tuple_of : CallR X (.type "tuple") (fun xs H Q => ∃ p ys, xs = [.ref p] ∧ ((SqL X.K H p ys ∧ ∀ l, H l = none → Q (.ref l) (upd H l (.tup ys))) ∨ (SqT X.K H p ys ∧ Q (.ref p) H))) := by
  intro pins s σ H xs us Q I r h
  obtain ⟨p, ys, rfl, h⟩ := h
  obtain ⟨u, rfl, rx⟩ := vals1 r
  cases rx
  rcases h with ⟨hq, q⟩ | ⟨hq, q⟩
  · obtain ⟨its, r', pl, hz⟩ := I.list hq
    have hlen := r'.length
    refine call_tuple_list pl.isList (fun h' kp => ?_) (by simp only [List.size_toArray] <;> omega)
    have I1 : Inv X pins σ H { s with heap := h' } := I.kept (t' := s.toks) kp
    have I2 : Inv X pins σ (upd H h'.objs.size (.tup ys)) { s with heap := h'.push { cls := .type "tuple", data := .seq its.toArray } } :=
      I1.laid (t' := s.toks) (fun b o e => Heap.get?_push_of_some _ e) (Nat.le_refl _) (show ObjOk X.prog X.w _ _ _ (.tup ys) from ⟨hz, its, r', IsTup.new _ _⟩)
    exact ⟨.ref h'.objs.size, _, I2, rfl, q _ (I1.hok.fresh (Nat.le_refl _))⟩
  · obtain ⟨its, r', pl, hz⟩ := I.tuple hq
    exact call_tuple_same pl ⟨.ref p, H, I, rfl, q⟩
def tyV (K : PySem.W.Frag) (T : String) (x : V) (H : Hp) : Prop := match x with
  | .str _ => T = "str"
  | .int _ => T = "int"
  | .ref p => (T = "list" ∧ ∃ xs, SqL K H p xs) ∨ (T = "tuple" ∧ ∃ o, K.lookup p = some o ∧ o.cls = .type "tuple" ∧ o.dict = none) ∨
      (T = "dict" ∧ ((∃ kvs, H p = some (.dK kvs)) ∨ ∃ kvs, H p = some (.dT kvs))) ∨ (T = "set" ∧ ∃ S n, H p = some (.set S n))
  | _ => False
theorem tyV_is {pins : List (Addr × Obj)} {σ : St} {H : Hp} {s : Shared} {T : String} {x : V} {v : Value} (I : Inv X pins σ H s) (r : RelV x v) (ty : tyV X.K T x H) :
    s.TypeIs v T ∧ ∀ a, v = .ref a → ∃ ob, s.heap.get? a = some ob ∧ ob.dict = none := by
  cases x with
  | str z =>
    obtain ⟨t, rfl⟩ := r
    cases (show T = "str" from ty)
    exact ⟨typeIs_str s z t, fun _ e => nomatch e⟩
  | int i =>
    obtain ⟨t, rfl⟩ := r
    cases (show T = "int" from ty)
    exact ⟨typeIs_int s i t, fun _ e => nomatch e⟩
  | ref p =>
    cases r
    rcases ty with ⟨rfl, xs, hq⟩ | ⟨rfl, o, hk, hc, hd⟩ | ⟨rfl, hk⟩ | ⟨rfl, S, n, hk⟩
    · obtain ⟨its, _, pl, _⟩ := I.list hq
      refine ⟨pl.isList.typeIs, fun a e => ?_⟩
      cases e
      obtain ⟨o, n, e, c, hd, _⟩ := pl
      exact ⟨o, e, hd⟩
    · refine ⟨⟨o, I.kIn p o hk, hc⟩, fun a e => ?_⟩
      cases e
      exact ⟨o, I.kIn _ o hk, hd⟩
    · have z : ∃ o, s.heap.get? p = some o ∧ o.ExactDict := by
        rcases hk with ⟨kvs, hk⟩ | ⟨kvs, hk⟩
        · obtain ⟨_, _, _, _, o, _, _, e, ex, _⟩ := I.hok p _ hk
          exact ⟨o, e, ex⟩
        · obtain ⟨_, _, _, _, o, _, _, e, ex, _⟩ := I.hok p _ hk
          exact ⟨o, e, ex⟩
      obtain ⟨o, e, ex⟩ := z
      refine ⟨⟨o, e, ex.1⟩, fun a e2 => ?_⟩
      cases e2
      exact ⟨o, e, ex.2.1⟩
    · obtain ⟨o, _, _, _, e, ex, _⟩ := I.hok p _ hk
      refine ⟨⟨o, e, ex.1⟩, fun a e2 => ?_⟩
      cases e2
      exact ⟨o, e, ex.2.1⟩
  | _ => exact False.elim ty
def tBM (K : PySem.W.Frag) (T : String) (r : V → List V → Hp → VK → Prop) (to : TE) (t : TA) : TE := fun σ H Q => to σ H fun x H1 => tyV K T x H1 ∧ t σ H1 fun xs H2 => r x xs H2 Q
variable {o e : Expr} {es : List Expr} {to : TE} {t : TA} {name : Str} {apos cpos : Pos} {T id : String} {r : V → List V → Hp → VK → Prop}
theorem pe_bm (pa : PlainAttrs T) (slot : Slot T name id) (hty : typeOf (.builtin id) = pure (.type "method_descriptor")) (hm : MtR X id r) (ho : PE X o to) (ha : PA X (e :: es) t)
    (hbase : attributeBase o name X.env (eval o X.env) = eval o X.env := by rfl)
    (hfew : ((backTo cpos (starEach (e :: es) X.env)).all (fun x => !x.1) && (backToKw cpos (keywordEach [] X.env)).all (fun x => x.1.isSome)
      && decide ((e :: es).length + ([] : List Keyword).length + (if ([] : List Keyword).isEmpty then 0 else 1) < 30)) = true := by rfl)
    (hline : (apos.endLine == cpos.line) = true := by rfl) (hs : starEach (e :: es) X.env = (false, eval e X.env) :: starEach es X.env := by rfl) (hplain : (backTo cpos (starEach es X.env)).any (·.1) = false := by rfl) :
    PE X (.Call (.Attribute o name apos) (e :: es) [] cpos) (tBM X.K T r to t) := by
  intro pins s σ H Q I h
  refine wpAny_Call_method_late hbase hfew hline rfl (thn (ho pins s σ H _ I h) fun v s1 ⟨x, H1, I1, r1, ty, q1⟩ => ?_)
  obtain ⟨h1, h2⟩ := tyV_is I1 r1 ty
  refine ⟨T, id, pa, slot, hty, h1, h2, ?_⟩
  have hA := ha cpos pins s1 σ H1 _ I1 q1
  rw [hs] at hA ⊢
  refine Calls.callWith_builtin (by show (false || (backTo cpos (starEach es X.env)).any (·.1)) = false; rw [hplain] <;> rfl) (Calls.evalArgs_plain ?_)
  exact thn hA fun us s2 ⟨vs, H2, I2, r2, q2⟩ => hm pins s2 σ H2 x vs v us Q I2 r1 r2 q2
/- xs.append(e), list.index on a module's tuple .. are MtR facts of 06m -/
end
end L2
namespace L2
open PySem PySem.Spec PyProof.Rows
def MtM (X : Cx) (id : String) (r : V → List V → Hp → VK → Prop) : Prop :=
  ∀ (pins : List (Addr × Obj)) (s : Shared) (σ : St) (H : Hp) (x : V) (xs : List V) (v : Value) (us : List Value) (Q : VK), Inv X pins σ H s → RelV x v → Vals xs us → r x xs H Q →
    wpAny (model X.prog X.w) X.A (call (.builtin id) (v :: us)) (EP X pins σ Q) X.xe s
theorem Vals.one : ∀ {x : V} {us : List Value}, Vals [x] us → ∃ u, us = [u] ∧ RelV x u
  | _, _, .cons r .nil => ⟨_, rfl, r⟩
theorem Vals.two : ∀ {x y : V} {us : List Value}, Vals [x, y] us → ∃ u v, us = [u, v] ∧ RelV x u ∧ RelV y v
  | _, _, _, .cons r (.cons q .nil) => ⟨_, _, rfl, r, q⟩
theorem Vals.rep {xs : List V} {us : List Value} (h : Vals xs us) : ∀ k : Nat, Vals (List.replicate k xs).flatten (List.replicate k us).flatten
  | 0 => .nil
  | k + 1 => by
    rw [List.replicate_succ, List.replicate_succ, List.flatten_cons, List.flatten_cons]
    exact Vals.append h (Vals.rep h k)
theorem foldl_rep (its : List Value) : ∀ (k : Nat) (acc : List Value),
    List.foldl (fun x1 x2 => x1 ++ x2) acc.toArray (List.replicate k its.toArray) = (acc ++ (List.replicate k its).flatten).toArray
  | 0, acc => by simp
  | k + 1, acc => by
    have e : acc.toArray ++ its.toArray = (acc ++ its).toArray := by simp
    have e2 : (acc ++ its) ++ (List.replicate k its).flatten = acc ++ (List.replicate (k + 1) its).flatten := by
      rw [List.replicate_succ, List.flatten_cons, List.append_assoc]
    rw [← e2, ← foldl_rep its k (acc ++ its), ← e, List.replicate_succ, List.foldl_cons]
section
variable {X : Cx} {pins : List (Addr × Obj)} {σ : St} {H : Hp} {s : Shared} {l b : Addr} {xs ys zs : List V}
theorem Inv.lset {its its' : List Value} {n : Nat} {f : Array Value → Array Value} {t' : Nat} (I : Inv X pins σ H s) (hH : H l = some (.lst xs))
    (e : s.heap.get? l = some { cls := .type "list", data := .seq its.toArray n }) (hf : f its.toArray = its'.toArray) (hv : Vals ys its') (hz : ys.length ≤ sizeLine) :
    Inv X pins σ (upd H l (.lst ys)) { s with heap := s.heap.update l (Obj.mapSeq f), toks := t' } := by
  have q := PySem.IsL.update e f
  rw [hf] at q
  refine I.write (x := l) (e := l) (by rw [hH]; exact trivial) (.inl rfl) (fun b' u hb hu => (Heap.get?_update_other s.heap (Obj.mapSeq f) (Ne.symm hb)).trans hu) ⟨_, q⟩ ?_
  exact ⟨hz, its', _, hv, q⟩
theorem Inv.lnew {its : List Value} {t' : Nat} (I : Inv X pins σ H s) (hv : Vals ys its) (hz : ys.length ≤ sizeLine) :
    Inv X pins σ (upd H s.heap.objs.size (.lst ys)) { s with heap := s.heap.push { cls := .type "list", data := .seq its.toArray }, toks := t' } :=
  I.laid (fun _ _ q => Heap.get?_push_of_some _ q) (Nat.le_refl _) ⟨hz, its, 0, hv, Heap.get?_push_size _ rfl⟩
theorem Inv.fresh (I : Inv X pins σ H s) : H s.heap.objs.size = none := I.hok.fresh (Nat.le_refl _)
theorem Inv.lstM (I : Inv X pins σ H s) (hH : H l = some (.lst xs)) : xs.length ≤ sizeLine ∧ ∃ (its : List Value) (n : Nat), Vals xs its ∧ xs.length = its.length ∧ s.heap.get? l = some { cls := .type "list", data := .seq its.toArray n } := by
  obtain ⟨z, its, n, r, e⟩ := I.hok l _ hH
  exact ⟨z, its, n, r, r.length, e⟩
theorem notLongL {n : Nat} (h : n ≤ sizeLine) : Builtin.List.listTooLong n = false := by
  unfold Builtin.List.listTooLong
  exact decide_eq_false (by omega)
end
section
variable {X : Cx}
def rAppend : V → List V → Hp → VK → Prop := fun x vs H Q => ∃ l xs y, x = .ref l ∧ vs = [y] ∧ H l = some (.lst xs) ∧ xs.length < sizeLine ∧ Q .non (upd H l (.lst (xs ++ [y])))
theorem mt_append : MtM X "list.append" rAppend := by
  intro pins s σ H x vs v us Q I rx rv h
  obtain ⟨l, xs, y, rfl, rfl, hH, hz, q⟩ := h
  cases rx
  obtain ⟨u, rfl, ru⟩ := rv.one
  obtain ⟨z, its, n, r, hl, e⟩ := I.lstM hH
  refine call_meets F.slot_list_append ⟨_, e, rfl⟩ F.entry_list_append (F.args_list_append_2 _ _) (PySem.list_append l its.toArray n u (by rw [List.size_toArray]; omega)) ⟨e, ?_⟩
  refine ⟨.non, _, I.lset (its' := its ++ [u]) hH e (by simp) (r.append (.cons ru .nil)) ?_, rfl, q⟩
  rw [List.length_append, List.length_singleton]
  omega
def rRep : R2 := fun x y H Q => ∃ l k xs, x = .ref l ∧ y = .int k ∧ H l = some (.lst xs) ∧ -(2 ^ 63) ≤ k ∧ k < 2 ^ 63 ∧ xs.length * k.toNat ≤ sizeLine ∧
  ∀ p, H p = none → Q (.ref p) (upd H p (.lst (List.replicate k.toNat xs).flatten))
theorem len_rep {α : Type} (xs : List α) (k : Nat) : (List.replicate k xs).flatten.length = k * xs.length := by
  induction k with
  | zero => simp
  | succ k ih => rw [List.replicate_succ, List.flatten_cons, List.length_append, ih, Nat.succ_mul, Nat.add_comm]
theorem op_rep : OpR X (binaryOp .Mult) rRep := by
  intro pins s σ H x y v u Q I rx ry h
  obtain ⟨l, k, xs, rfl, rfl, hH, h1, h2, hz, q⟩ := h
  cases rx
  obtain ⟨t, rfl⟩ := ry
  obtain ⟨z, its, n, r, hl, e⟩ := I.lstM hH
  have hlen : its.toArray.size * k.toNat ≤ sizeLine := by rw [List.size_toArray, ← hl]; exact hz
  have hcap : ¬ its.toArray.size * k.toNat > (2 ^ 63 - 1) / 8 := by
    have : (sizeLine : Nat) ≤ (2 ^ 63 - 1) / 8 := by decide
    omega
  have hfit : ¬ (!Builtin.List.listFitsIndex k) = true := by
    rw [fitsIndex_both h1 h2]
    exact Bool.false_ne_true
  have hlong : ¬ Builtin.List.listTooLong (its.toArray.size * k.toNat) = true := by
    rw [notLongL hlen]
    exact Bool.false_ne_true
  have hnew : List.foldl (fun x1 x2 => x1 ++ x2) #[] (List.replicate (if its.toArray.isEmpty = true then 0 else k.toNat) its.toArray) = (List.replicate k.toNat its).flatten.toArray := by
    have f0 : ∀ m : Nat, List.foldl (fun x1 x2 => x1 ++ x2) #[] (List.replicate m its.toArray) = (List.replicate m its).flatten.toArray := fun m => by
      have := foldl_rep its m []
      rw [List.nil_append] at this
      exact this
    rw [f0]
    cases its with
    | nil => simp
    | cons a r' => rw [if_neg (by simp)]
  refine wpAny_binaryOp_repeat_ref (T := "list") (U := "int") (by decide) ⟨_, e, rfl⟩ (fun s' => typeIs_int s' k t) noFill_list_mul F.fills_int_mul F.slot_int_rmul repeat_list F.slot_int_index.lookup
    (call_meets F.slot_int_rmul (typeIs_int s k t) F.entry_int_rmul (F.args_int_rmul_2 _ _) (int___rmul___int_list k t l its.toArray n)
      ⟨e, rfl, ⟨_, e, rfl⟩, call_meets F.slot_list_mul ⟨_, e, rfl⟩ F.entry_list_mul (F.args_list_mul_2 _ _) (AutoListH.list___mul___list_int_3 l its.toArray n k t hfit hcap hlong) ⟨e, ?_⟩⟩)
  rw [hnew]
  exact ⟨.ref _, _, I.lnew (t' := s.toks) (r.rep k.toNat) (by rw [len_rep, Nat.mul_comm]; exact hz), rfl, q _ I.fresh⟩
end
section
variable {prog : Program} {w : World} {A : Around} {E : Value → Shared → Prop} {s : Shared}
set_option maxRecDepth 100000 in
end
section
variable {X : Cx}
end
end L2
namespace Att
open PySem PySem.W PySem.Calls PyProof.Rows
theorem ints_of_wellAll {P : Params} {h : Heap} : ∀ (ns : List Int) (vs : List Value), WellAll P h vs (ns.map WData.int) → IntsAre vs ns := by
  intro ns
  induction ns with
  | nil =>
    intro vs w
    rw [List.map_nil] at w
    cases w
    exact .nil
  | cons n ns ih =>
    intro vs w
    rw [List.map_cons] at w
    cases w with
    | cons a b =>
      cases a
      exact .cons _ _ (ih _ b)
theorem script_of {l : OpenLaw} {n : Nat} (hn : l.most = some n) {P : Params} {h : Heap} {args : List WData} {vals : List Value}
    (hpre : l.row.toRowW.claim.pre args = true) (hwl : WellAll P h vals args) :
    ∃ a vs ns, vals = [Value.ref a] ∧ args = [WData.list (ns.map WData.int)] ∧ h.get? a = some { cls := .type "list", data := .seq vs.toArray } ∧ IntsAre vs ns ∧ ns.length ≤ n := by
  have hsh : WShape.hasAll [] args [.list .int] = true := (pre_splitW hpre).1
  have hc : l.pre.holds [] { args := args } = true := (pre_splitW hpre).2
  obtain ⟨d, r, rfl, h1, h2⟩ := hasAllW_cons hsh
  obtain rfl := hasAllW_nil h2
  obtain ⟨xs, rfl, h3⟩ := hasW_list h1
  obtain ⟨ns, rfl⟩ := items_int h3
  have hlen : ns.length ≤ n := by
    unfold OpenLaw.pre at hc
    have h4 : (WTm.not (.lt (.lit (.int (n : Int))) (.len (.arg 0)))).holds [] { args := [.list (ns.map .int)] } = true := by
      have h4 := (holds_andW hc).1
      rw [hn] at h4
      exact h4
    have h5 := condW_of h4 (w_not (w_lt w_lit (w_len_list (w_arg rfl))))
    rw [List.length_map] at h5
    refine Nat.le_of_not_lt fun q => ?_
    have q' : (n : Int) < ((ns.length : Nat) : Int) := by omega
    first
      | (rw [decide_eq_true q'] at h5; exact absurd h5 (by decide))
      | (simp at h5; omega)
  cases hwl with
  | cons w1 w2 =>
    cases w2
    cases w1 with
    | list ho hall => exact ⟨_, _, ns, rfl, rfl, ho, ints_of_wellAll ns _ hall, hlen⟩
theorem post_true (l : OpenLaw) (args : List WData) : l.row.toRowW.claim.post args (.bool true) args = true :=
  postW_of (r := l.row.toRowW) (X := (true == true))
    (show WShape.has [] (.bool true) .bool = true by first | rfl | decide | simp [WShape.has, WShape.arms, WShape.armsAll])
    (show (WTm.eq .res (.lit (.bool true))).value [] { args := args, res := some (.bool true), after := args } = some (.bool (true == true)) from w_eq_bool (w_res rfl) w_lit) rfl
theorem attach_call {l : OpenLaw} {n : Nat} {q : Program} {loose : List Str} {XP : (Str → Option Value) → Heap → Prop} {YP : World → Heap → Prop} {d : DefRec}
    (hn : l.most = some n) (hdf : d.params.defaults = [])
    (call : ∀ (w : World) (s₀ s₁ : Shared) (mg mb : Str → Option Value) (fa : Addr) (o : Obj) (pm cd doc : Value) (a : Addr) (vs : List Value) (ns : List Int),
      Ground q loose [] XP w s₀ mg mb s₁.heap → YP w s₁.heap →
      s₁.heap.get? fa = some o → o.data = .func (docDef d.name d.params d.body d.scope pm cd doc) → s₁.heap.CodeRec cd d.name → mg d.name = some (.ref fa) →
      s₁.heap.get? a = some { cls := .type "list", data := .seq vs.toArray } → IntsAre vs ns → ns.length ≤ n → s₁.gens = #[] →
      codeAny (model l.prog w) callerA (.call (.ref fa) ⟨[.ref a], []⟩) (fun r s' => r = .ok (.ret (.bool true)) ∧ OldK s₁.heap s'.heap ∧ s'.os = s₁.os ∧ AllBare s'.gens) s₁) :
    WalkO q loose XP YP l.row.toRowW d [] (fun f vs => PySem.call f vs) := by
  intro w s₀ s₁ mg mb G Y fa o pm cd doc dV kV ho hd hcd hD hmg hg args vals as hpre hlay hrd hwl hlo
  obtain rfl : dV = .none := Dflts.none hD hdf
  obtain rfl : kV = .none := Dflts.noKw hD
  obtain ⟨a, vs, ns, rfl, rfl, hobj, hints, hlen⟩ := script_of hn hpre hwl
  refine enter_call (codeAny_mono (call w s₀ s₁ mg mb fa o pm cd doc a vs ns G Y ho (fd_plain hd) hcd hmg hobj hints hlen hg) fun r s' hq => ?_)
  obtain ⟨rfl, h2, h3, h4⟩ := hq
  exact ⟨.inl ⟨.bool true, .bool true, [], rfl, fun _ => rfl, .bool true, post_true l _, fun _ => ⟨List.Pairwise.nil, fun _ hm => (nomatch hm)⟩⟩, h2, h3, h4⟩
section
variable {prog : Program} {w : World} {A : Around} {E : Value → Shared → Prop} {s : Shared} {K : Frag}
def ledger (h : Heap) (L d : Addr) : List (Addr × Obj) := (List.range h.objs.size).filterMap fun a => if a = L ∨ a = d then none else (h.get? a).map fun o => (a, o)
end
end Att
namespace L2
open PySem PySem.Spec PyProof.Rows
theorem vals_ints : ∀ {vs : List Value} {ns : List Int}, IntsAre vs ns → Vals (ns.map V.int) vs
  | _, _, .nil => .nil
  | _, _, .cons n t h => .cons ⟨t, rfl⟩ (vals_ints h)
def Only (H : Hp) : Prop := ∀ b, H b = none ∨ ∃ o xs, H b = some (.frz o (.lst xs))
theorem law_call {P : Program} {w : World} {K : PySem.W.Frag} {mg mb : Str → Option Value} {CX : CXT} {k : Nat} {fa a : Addr} {fd : FuncData} {x : Str} {sp : Sp} {s₁ : Shared} {vs : List Value} {ns : List Int}
    (KX : K.In s₁.heap) (hns : s₁.heap.Ns mainGlobals mg) (hb : s₁.heap.Ns builtinsNs mb) (hbb : ∀ x : Str, x ≠ "__name__" → mb x = bootBuiltins x) (hlim : s₁.heap.NoLimit) (hg : s₁.gens = #[])
    (ha : s₁.heap.get? a = some { cls := .type "list", data := .seq vs.toArray }) (hi : IntsAre vs ns) (hl : ns.length ≤ sizeLine) (hr : Room k callerA)
    (F : ∀ base : Heap, K.In base → base.Ns mainGlobals mg → FnOk P w K mg base CX k fa fd [x] sp) (hbind : ∀ (s : Shared) (u : Value), BindsTo s fd ⟨[u], []⟩ [(x, u)])
    (hsp : ∀ H : Hp, Only H → SqL K H a (ns.map V.int) → sp [.ref a] H (fun v _ => v = .bl true) fun _ _ _ => False)
    (hCX : ∀ H e s', CX [] H s₁ (fun _ _ _ => False) e s' → False) :
    codeAny (model P w) callerA (.call (.ref fa) ⟨[.ref a], []⟩) (fun r s' => r = .ok (.ret (.bool true)) ∧ OldK s₁.heap s'.heap ∧ s'.os = s₁.os ∧ AllBare s'.gens) s₁ := by
  have rv := vals_ints hi
  have lenV := hi.length
  have core : ∀ H : Hp, Only H → SqL K H a (ns.map V.int) → HOk P w H s₁.heap → (∀ b, H b ≠ none → b = a) → (H a ≠ none → K.lookup a = none) →
      codeAny (model P w) callerA (.call (.ref fa) ⟨[.ref a], []⟩) (fun r s' => r = .ok (.ret (.bool true)) ∧ OldK s₁.heap s'.heap ∧ s'.os = s₁.os ∧ AllBare s'.gens) s₁ := by
    intro H hO hS hok hA hK
    have base_of : ∀ {b : Addr} {o : Obj}, s₁.heap.get? b = some o → H b = none → (hidT s₁.heap H).get? b = some o := fun e n => hidT_get e n
    have noA : ∀ {b : Addr} {o : Obj} {es : Array DictEntry} {ep : Nat}, s₁.heap.get? b = some o → o.data = .dict es ep → H b = none := fun {b o es ep} e d => by
      cases q : H b with
      | none => rfl
      | some u =>
        have e' : b = a := hA b (by rw [q]; simp)
        subst e'
        rw [ha] at e; cases e
        have d' : Data.seq vs.toArray _ = Data.dict es ep := d
        cases d'
    have nsK : ∀ {b : Addr} {m : Str → Option Value}, s₁.heap.Ns b m → (hidT s₁.heap H).Ns b m := fun {b m} ⟨o, es, ep, e, d, r⟩ => ⟨o, es, ep, base_of e (noA e d), d, r⟩
    have hKb : K.In (hidT s₁.heap H) := fun b o e => base_of (KX b o e) (by
      cases q : H b with
      | none => rfl
      | some u =>
        have e' : b = a := hA b (by rw [q]; simp)
        subst e'
        rw [hK (by rw [q]; simp)] at e; cases e)
    have hM : Mod K mg (hidT s₁.heap H) := ⟨hKb, nsK hns, ⟨mb, nsK hb, hbb⟩, let ⟨mc, h1, h2⟩ := hlim; ⟨mc, nsK h1, h2⟩⟩
    have e0 : Env0 P w K mg (hidT s₁.heap H) callerA [] s₁ H := ⟨rfl, hM, fun b o e => of_hidT e, Nat.le_of_eq (hidT_size _ _), trivial, fun b hb => absurd (show b ∈ ([] : List Addr) from hb) (by simp), hok, .of_eq hg⟩
    refine codeAny_mono ((F _ hKb (nsK hns)).run callerA [] s₁ H ⟨[.ref a], []⟩ [.ref a] [.ref a] _ _ hr e0 (hbind s₁ (.ref a)) (.cons rfl .nil) (hsp H hO hS)) fun r s' h => ?_
    cases r with
    | error e => exact (hCX H e s' h).elim
    | ok fl =>
      cases fl with
      | next => exact False.elim h
      | brk => exact False.elim h
      | cont => exact False.elim h
      | ret u =>
        obtain ⟨v, H', os, bare, un, hok', r', q⟩ := h
        have q' : v = .bl true := q
        subst q'
        obtain rfl : u = Value.bool true := r'
        refine ⟨rfl, OldK.of_keep fun b o e => ?_, os, bare⟩
        cases q : H b with
        | none => exact un.keep b o e q (by intro z; exact absurd (show b ∈ ([] : List Addr) from z) (by simp)) (by simp)
        | some u =>
          rcases hO b with z | ⟨ob, xs, z⟩
          · rw [q] at z; cases z
          · have z2 := un.frzs b ob _ z
            obtain ⟨e1, _⟩ := hok b _ z
            obtain ⟨e2, _⟩ := hok' b _ z2
            rw [e] at e1; cases e1
            exact e2
  cases hk : K.lookup a with
  | some o =>
    have e := KX a o hk
    rw [ha] at e
    cases e
    refine core (fun _ => none) (fun _ => .inl rfl) (.inr ⟨_, vs.toArray, _, hk, rfl, rfl, rfl, by rw [List.size_toArray, lenV]; exact hl, by simpa using rv⟩) (fun b u z => by have z' : (none : Option HO) = some u := z; cases z') (fun b z => absurd rfl z) fun z => absurd rfl z
  | none =>
    refine core (fun b => if b = a then some (.frz { cls := .type "list", data := .seq vs.toArray } (.lst (ns.map V.int))) else none) (fun b => ?_) (.inl (.inr ⟨{ cls := .type "list", data := .seq vs.toArray }, if_pos rfl⟩)) (fun b u z => ?_) (fun b z => ?_) fun _ => hk
    · by_cases hb : b = a
      · exact .inr ⟨_, _, if_pos hb⟩
      · exact .inl (if_neg hb)
    · by_cases hb : b = a
      · have z' := (if_pos hb).symm.trans z
        cases z'
        subst hb
        exact ⟨ha, by rw [List.length_map]; exact hl, vs, _, rv, ha⟩
      · have z' := (if_neg hb).symm.trans z
        cases z'
    · by_cases hb : b = a
      · exact hb
      · exact absurd (if_neg hb) z
end L2
namespace L2
open PySem PySem.Spec PyProof.Rows
abbrev KOf {K : PySem.W.Frag} {h : Heap} (_ : K.In h) : PySem.W.Frag := K
theorem walk_of {l : PySem.W.OpenLaw} {n k : Nat} {q : Program} {loose : List Str} {XP : (Str → Option Value) → Heap → Prop} {YP : World → Heap → Prop} {d : DefRec} {K : Params → PySem.W.Frag} {CX : World → CXT} {sp : World → Sp} {x : Str}
    (hn : l.most = some n) (hn2 : n ≤ sizeLine) (hdf : d.params.defaults = []) (hr : Room k callerA)
    (hY : ∀ (w : World) (h : Heap), YP w h → (K w.params).In h)
    (F : ∀ (w : World) (mg : Str → Option Value) (fa : Addr) (h : Heap), (K w.params).In h → h.Ns mainGlobals mg → mg d.name = some (.ref fa) →
      ∃ fd : FuncData, (∀ (s : Shared) (u : Value), BindsTo s fd ⟨[u], []⟩ [(x, u)]) ∧
        ∀ base : Heap, (K w.params).In base → base.Ns mainGlobals mg → FnOk l.prog w (K w.params) mg base (CX w) k fa fd [x] (sp w))
    (hsp : ∀ (w : World) (H : Hp) (a : Addr) (ns : List Int), ns.length ≤ n → Only H → SqL (K w.params) H a (ns.map V.int) → sp w [.ref a] H (fun v _ => v = .bl true) fun _ _ _ => False)
    (hCX : ∀ (w : World) (H : Hp) (s : Shared) (e : Value) (s' : Shared), CX w [] H s (fun _ _ _ => False) e s' → False) :
    PySem.W.WalkO q loose XP YP l.row.toRowW d [] (fun f vs => PySem.call f vs) := by
  refine Att.attach_call hn hdf fun w s₀ s₁ mg mb fa o pm cd doc a vs ns G Y ho hd hcd hmg hobj hints hlen hg => ?_
  have KX := hY w _ Y
  obtain ⟨fd, hb, hF⟩ := F w mg fa _ KX G.T.g hmg
  exact law_call KX G.T.g G.T.b G.T.builtins G.T.nolimit hg hobj hints (Nat.le_trans hlen hn2) hr hF hb (fun H hO hS => hsp w H a ns hlen hO hS) fun H e s' => hCX w H s₁ e s'
end L2
/- THE LAST THEOREM (shape; LID, My.* are yours):
   My.Adr: a structure of the addresses that your layer names (classes, functions); My.Txt K t: a structure (Prop) of the equations over K;
   My.txt_mk : {K} {implicit addresses ..} (e1 : nsIn K mainGlobals "law" = some (some (.ref f))) (e2 : K.lookup f = some ⟨oc, od, .func (fnOf "law" "law" params body scope dV kV doc pm an cdv ct), sl⟩) (e3 : codeIn K cdv "law" = true) .. : ∃ t, My.Txt K t
set_option maxRecDepth 100000 in
set_option maxHeartbeats 0 in
theorem PySem.Challenge.cw_LID_holds : PySem.Challenge.rw_LID.Holds := by
  w_on; o_law; k_head; (case hw => w_witness2)
  k_fill
  refine L2.walk_of (l := PySem.Challenge.rw_LID) (n := 63) (k := 40) (x := "script") (CX := fun w => ..) (sp := fun _ => My.sp_law) rfl (by decide) rfl ⟨rfl, by decide, by decide⟩ (fun w h Y => PySem.W.kIn_of Y) ?F ?S ?C
  case F =>
    intro w mg fa h KX G hmg
    have T : ∃ t, My.Txt (L2.KOf KX) t := by
      dsimp only [L2.KOf]                          -- K must stand as «<heap const> w.params» for k_is
      refine' My.txt_mk ?e1 ?e2 ?e3 ..
      (case e1 => PySem.W.k_is)                    -- in the order: a name -> its address -> its object -> its parts
      (case e2 => PySem.W.k_is)
      ..
    obtain ⟨t, T⟩ := T
    have e0 := hmg.symm.trans (PySem.W.mg_of KX G T.law)
    cases e0                                       -- fa is the law's own address
    exact ⟨_, fun s u => .of_eq rfl, fun base kb nb => My.law_fn T kb nb⟩     -- if «.of_eq rfl» comes too early: refine' ⟨_, ?b, fun base kb nb => My.law_fn T kb nb⟩; exact fun s u => .of_eq rfl
  case S => exact fun w H a ns hl hO hS => ..
  case C => exact ..
(the tactic k_is has no namespace: write k_is) -/
namespace L2
open PySem PySem.Spec PyProof.Rows
def inClass (s : Stmt) (j : Nat) : Stmt := match s with
  | .ClassDef _ _ _ body _ _ _ _ _ _ _ => body.getD j (.Pass ⟨0, 0, 0, 0⟩)
  | _ => .Pass ⟨0, 0, 0, 0⟩
def defArgs (s : Stmt) : Arguments := match s with
  | .FunctionDef _ a _ _ _ _ _ _ _ _ => a
  | _ => { posonlyargs := [], args := [], vararg := none, kwonlyargs := [], kw_defaults := [], kwarg := none, defaults := [] }
def defBody (s : Stmt) : List Stmt := match s with
  | .FunctionDef _ _ b _ _ _ _ _ _ _ => b
  | _ => []
def defScope (s : Stmt) : Scope := match s with
  | .FunctionDef _ _ _ _ _ _ sc _ _ _ => sc
  | _ => { kind := .function, names := [], isGenerator := false, isCoroutine := false }
abbrev CX0 : CXT := fun _ _ _ _ _ _ => False
abbrev E0 : XK := fun _ _ _ => False
theorem pass0 {X : Cx} : Passes CX0 X E0 := fun _ _ _ _ _ _ _ h => h.elim
structure Fun (K : PySem.W.Frag) (x qual : Str) (st : Stmt) (f : Addr) (fd : FuncData) : Prop where
  ex : ∃ (oc : Value) (od : Option Addr) (kV doc pm : Value) (an : Option Addr) (cdv ct : Value) (osl : Array (Option Value)),
    fd = PySem.W.fnOf x qual (defArgs st) (defBody st) (defScope st) .none kV doc pm an cdv ct ∧ K.lookup f = some ⟨oc, od, .func fd, osl⟩ ∧ PySem.W.codeIn K cdv qual = true
  kp : PySem.W.keepIn K (.ref f) = true
section
variable {P : Program} {w : World} {K : PySem.W.Frag} {mg : Str → Option Value} {base : Heap}
theorem Fun.ok {x qual : Str} {st : Stmt} {f : Addr} {fd : FuncData} {N ps : List Str} {k : Nat} {sp : Sp} (F : Fun K x qual st f fd) (S : FnScope N ps (defScope st)) (len : ∀ vs H Q E, sp vs H Q E → vs.length = ps.length)
    (hbody : ∀ (cdv : Value) (A : Around) (outer : List Env) (s : Shared) (H : Hp) (vs : List V) (Q : VK) (E : XK), Room k (A.deeper (envOfC qual (defScope st) s.heap.objs.size f cdv)) → sp vs H Q E →
      ∃ t, PSs (cxOf CX0 P w K mg base N qual (defScope st) f cdv A outer s H E).nox (defBody st) t ∧ t { nx := fun _ H' => Q .non H', rt := Q } (start N vs) H) : FnOk P w K mg base CX0 (k + 1) f fd ps sp := by
  obtain ⟨oc, od, kV, doc, pm, an, cdv, ct, osl, rfl, lk, hcd⟩ := F.ex
  refine fn_of lk hcd S len fun A outer s H vs Q E hr hsp => ?_
  obtain ⟨t, h, q⟩ := hbody cdv A outer s H vs Q E hr hsp
  exact ⟨t, h.nox, q⟩
theorem Fun.binds {x qual : Str} {st : Stmt} {f : Addr} {fd : FuncData} {ps : List Str} (F : Fun K x qual st f fd)
    (h : ∀ (kV doc pm : Value) (an : Option Addr) (cdv ct : Value) (us : List Value), us.length = ps.length → bindArgs (PySem.W.fnOf x qual (defArgs st) (defBody st) (defScope st) .none kV doc pm an cdv ct) ⟨us, []⟩ = pure (ps.zip us)) : Binds K fd ps [] := by
  obtain ⟨oc, od, kV, doc, pm, an, cdv, ct, osl, rfl, lk, hcd⟩ := F.ex
  exact .all (h kV doc pm an cdv ct)
theorem fun_mk {x qual : Str} {st : Stmt} {f : Addr} {oc : Value} {od an : Option Addr} {osl : Array (Option Value)} {kV doc pm cdv ct : Value} (l : K.lookup f = some ⟨oc, od, .func (PySem.W.fnOf x qual (defArgs st) (defBody st) (defScope st) .none kV doc pm an cdv ct), osl⟩)
    (c : PySem.W.codeIn K cdv qual = true) (k : PySem.W.keepIn K (.ref f) = true) : Fun K x qual st f (PySem.W.fnOf x qual (defArgs st) (defBody st) (defScope st) .none kV doc pm an cdv ct) := ⟨⟨oc, od, kV, doc, pm, an, cdv, ct, osl, rfl, l, c⟩, k⟩
end
section
variable {X : Cx}
theorem pv (i : Nat) {x : Str} {pos : Pos} (hN : X.N[i]? = some x := by rfl) (hv : Vis X.env.scope x := by first | exact Or.inl rfl | exact Or.inr (Or.inl rfl) | exact Or.inr (Or.inr rfl)) (hd : (x == ("__debug__" : Str)) = false := by decide)
    (hcd : (x == ("__classdict__" : Str)) = false := by decide) : PE X (.Name x pos) (tVar i) := pe_var hN hv hd hcd
end
theorem iteF {A B : Prop} (h : B) : if false = true then A else B := by
  rw [if_neg Bool.false_ne_true]
  exact h
theorem iteT {A B : Prop} (h : A) : if true = true then A else B := by
  rw [if_pos rfl]
  exact h
theorem ite2 {c A B : Prop} [Decidable c] (h1 : c → A) (h2 : ¬ c → B) : if c then A else B := by
  by_cases h : c
  · rw [if_pos h]
    exact h1 h
  · rw [if_neg h]
    exact h2 h
theorem iteNS {c A B : Prop} [Decidable c] (hc : c) (h : B) : if (!decide c) = true then A else B := by
  rw [decide_eq_true hc]
  exact iteF h
def Same (H H' : Hp) : Prop := ∀ b o, H b = some o → H' b = some o
theorem Same.refl (H : Hp) : Same H H := fun _ _ h => h
theorem Same.trans {H H1 H2 : Hp} (a : Same H H1) (b : Same H1 H2) : Same H H2 := fun c o h => b c o (a c o h)
theorem Same.seq {K : PySem.W.Frag} {H H' : Hp} {a : Addr} {xs : List V} (e : Same H H') (h : SqL K H a xs) : SqL K H' a xs := by
  rcases h with (h | ⟨o, h⟩) | h
  · exact .inl (.inl (e _ _ h))
  · exact .inl (.inr ⟨o, e _ _ h⟩)
  · exact .inr h
end L2
set_option maxHeartbeats 4000000
namespace L2
open PySem PySem.Spec PyProof.Rows
section
variable {X : Cx}
theorem call_isinst : CallR X (.builtin "isinstance") (fun xs H Q => ∃ x T t b, xs = [x, .ty T] ∧ TyOf X.K H x t ∧ PySem.W.kitOne X.K t (.type T) = some b ∧ Q (.bl b) H) := by
  intro pins s σ H xs us Q I r h
  obtain ⟨x, T, t, b, rfl, ty, e, q⟩ := h
  obtain ⟨u, c, rfl, rx, rc⟩ := vals2 r
  cases (show c = Value.type T from rc)
  exact isinst_ok I rx ty e fun tk => ⟨.bl b, H, I.tok tk, rfl, q⟩
end
section
variable {X : Cx}
def cutS (z : Str) (lo hi : Option Int) : Str := ⟨((z.cps.toList.drop (HT.sIx z.length 0 lo)).take (HT.sIx z.length z.length hi - HT.sIx z.length 0 lo)).toArray⟩
theorem sIx_clip (n d : Nat) (v : Int) : max (0 : Int) (min (if v < 0 then v + (n : Int) else v) (n : Int)) = ((HT.sIx n d (some v) : Nat) : Int) := by
  show _ = (((if v < 0 then (v + (n : Int)).toNat else min v.toNat n) : Nat) : Int)
  by_cases hv : v < 0
  · simp only [if_pos hv]; omega
  · simp only [if_neg hv]; omega
theorem strIx_eq (lo hi : Option Int) (n : Nat) : Builtin.Str.strSliceIndices lo hi 1 n = (List.range (HT.sIx n n hi - HT.sIx n 0 lo)).map (fun k => HT.sIx n 0 lo + k) := by
  have h1 : (1 : Int) > 0 := by decide
  have hb : HT.sIx n n hi ≤ n := HT.sIx_le _ _ (Nat.le_refl _) hi
  have ha : HT.sIx n 0 lo ≤ n := HT.sIx_le _ _ (Nat.zero_le _) lo
  have key : ∀ a b : Nat, sliceRange (a : Int) (b : Int) 1 = (List.range (b - a)).map (fun k => a + k) := fun a b => sliceRange_one a b
  unfold Builtin.Str.strSliceIndices
  simp only [h1, if_true]
  cases lo with
  | none =>
    cases hi with
    | none => exact key 0 n
    | some v =>
      dsimp only
      rw [sIx_clip n n v]
      exact key 0 _
  | some u =>
    cases hi with
    | none =>
      dsimp only
      rw [sIx_clip n 0 u]
      exact key _ n
    | some v =>
      dsimp only
      rw [sIx_clip n n v, sIx_clip n 0 u]
      exact key _ _
theorem strPick_eq (z : Str) (lo hi : Option Int) : (Builtin.Str.strSliceIndices lo hi 1 z.length).filterMap (z.cps[·]?) = (z.cps.toList.drop (HT.sIx z.length 0 lo)).take (HT.sIx z.length z.length hi - HT.sIx z.length 0 lo) := by
  rw [strIx_eq]
  exact pick_run z.cps _ _
theorem strSlice_eq (z : Str) (lo hi : Option Int) : (if ((1 : Int) == 1 && (Builtin.Str.strSliceIndices lo hi 1 z.length).length == z.length) = true then z else ⟨((Builtin.Str.strSliceIndices lo hi 1 z.length).filterMap (z.cps[·]?)).toArray⟩) = cutS z lo hi := by
  rw [strPick_eq]
  split
  · rename_i h
    have hl : HT.sIx z.length z.length hi - HT.sIx z.length 0 lo = z.length := by
      rw [strIx_eq] at h
      simpa using h
    have hb : HT.sIx z.length z.length hi ≤ z.length := HT.sIx_le _ _ (Nat.le_refl _) hi
    have h0 : HT.sIx z.length 0 lo = 0 := by
      by_cases q : z.length = 0
      · have ha : HT.sIx z.length 0 lo ≤ z.length := HT.sIx_le _ _ (Nat.zero_le _) lo
        omega
      · omega
    unfold cutS
    rw [hl, h0, List.drop_zero, List.take_of_length_le (by simp [Str.length])]
  · rfl
def rSlS : V → Option Int → Option Int → Hp → VK → Prop := fun x lo hi H Q => ∃ z, x = .str z ∧ z.length ≤ sizeLine ∧ Q (.str (cutS z lo hi)) H
theorem cutS_len (z : Str) (lo hi : Option Int) : (cutS z lo hi).length ≤ z.length := by
  show (List.take _ (List.drop _ z.cps.toList)).toArray.size ≤ z.cps.size
  rw [List.size_toArray, List.length_take, List.length_drop, Array.length_toList]
  omega
theorem sl_str : SlR X rSlS := by
  intro pins s σ H x v vl vu lo hi sl Q I rx hs pl pu h
  obtain ⟨z, rfl, hz, q⟩ := h
  obtain ⟨t, rfl⟩ := rx
  refine ⟨"str", _, F.slot_str_getitem.lookup, typeIs_str _ _ _, ?_⟩
  have fin : ∀ (l u : Option (Int × Tok)), l.map (·.1) = lo → u.map (·.1) = hi → (sliceMade z t l u none).post (EP X pins σ Q) s := fun l u el eu => by
    subst el; subst eu
    refine post_val_or_str ?_
    have e := strSlice_eq z (l.map (·.1)) (u.map (·.1))
    have e' : (if (((none : Option (Int × Tok)).map (·.1)).getD 1 == 1 && (slicePicked z l u none).length == z.length) = true then z else ⟨((slicePicked z l u none).filterMap (z.cps[·]?)).toArray⟩) = cutS z (l.map (·.1)) (u.map (·.1)) := e
    rw [e']
    exact ⟨Nat.le_trans (cutS_len _ _ _) hz, fun t' k => ⟨.str _, H, I.tok k, ⟨t', rfl⟩, q⟩⟩
  cases pl with
  | none =>
    cases pu with
    | none => exact wpAny_getItem_str_slice (l := none) (u := none) (st := none) hs rfl (fin none none rfl rfl)
    | int j tj => exact wpAny_getItem_str_slice (l := none) (u := some (j, tj)) (st := none) hs rfl (fin none (some (j, tj)) rfl rfl)
  | int i ti =>
    cases pu with
    | none => exact wpAny_getItem_str_slice (l := some (i, ti)) (u := none) (st := none) hs rfl (fin (some (i, ti)) none rfl rfl)
    | int j tj => exact wpAny_getItem_str_slice (l := some (i, ti)) (u := some (j, tj)) (st := none) hs rfl (fin (some (i, ti)) (some (j, tj)) rfl rfl)
end
mutual
inductive RdV (K : PySem.W.Frag) (H : Hp) : V → PyData → Prop where
  | non : RdV K H .non .none
  | bl (b : Bool) : RdV K H (.bl b) (.bool b)
  | int (i : Int) : RdV K H (.int i) (.int i)
  | str (x : Str) : RdV K H (.str x) (.str x)
  | lst {a : Addr} {xs : List V} {ds : List PyData} : SqL K H a xs → RdAll K H xs ds → RdV K H (.ref a) (.list ds)
  | tup {a : Addr} {xs : List V} {ds : List PyData} : SqT K H a xs → RdAll K H xs ds → RdV K H (.ref a) (.tuple ds)
inductive RdAll (K : PySem.W.Frag) (H : Hp) : List V → List PyData → Prop where
  | nil : RdAll K H [] []
  | cons {v : V} {vs : List V} {d : PyData} {ds : List PyData} : RdV K H v d → RdAll K H vs ds → RdAll K H (v :: vs) (d :: ds)
end
section
variable {X : Cx} {pins : List (Addr × Obj)} {σ : St} {H : Hp} {s : Shared}
mutual
theorem RdV.reads (I : Inv X pins σ H s) : ∀ {v : V} {d : PyData} {u : Value}, RdV X.K H v d → RelV v u → ∃ as, Reads s.heap u d as
  | _, _, u, .non, r => by cases (show u = Value.none from r); exact ⟨_, .none⟩
  | _, _, u, .bl b, r => by cases (show u = Value.bool b from r); exact ⟨_, .bool b⟩
  | _, _, u, .int i, r => by obtain ⟨t, e⟩ := (show ∃ t, u = Value.int i t from r); cases e; exact ⟨_, .int i t⟩
  | _, _, u, .str x, r => by obtain ⟨t, e⟩ := (show ∃ t, u = Value.str x t from r); cases e; exact ⟨_, .str x t⟩
  | _, _, u, @RdV.lst _ _ a xs ds hq hr, r => by
    cases (show u = Value.ref a from r)
    obtain ⟨its, rv, ⟨o, n, e, c, _, dt⟩, _⟩ := I.list hq
    obtain ⟨as, q⟩ := RdAll.reads I hr rv
    exact ⟨_, .list e c dt (by simpa using q)⟩
  | _, _, u, @RdV.tup _ _ a xs ds hq hr, r => by
    cases (show u = Value.ref a from r)
    obtain ⟨its, rv, ⟨o, e, c, n, dt⟩, _⟩ := I.tuple hq
    obtain ⟨as, q⟩ := RdAll.reads I hr rv
    exact ⟨_, .tuple e c dt (by simpa using q)⟩
theorem RdAll.reads (I : Inv X pins σ H s) : ∀ {vs : List V} {ds : List PyData} {us : List Value}, RdAll X.K H vs ds → Vals vs us → ∃ as, ReadsAll s.heap us ds as
  | _, _, _, .nil, r => by cases r; exact ⟨_, .nil⟩
  | _, _, _, .cons h t, r => by
    cases r with
    | cons r1 r2 =>
      obtain ⟨as, q⟩ := RdV.reads I h r1
      obtain ⟨bs, q2⟩ := RdAll.reads I t r2
      exact ⟨_, .cons q q2⟩
end
end
section
variable {X : Cx}
def rEqD (K : PySem.W.Frag) (A : Around) (neg : Bool) : R2 := fun x y H Q => ∃ d e : PyData, RdV K H x d ∧ RdV K H y e ∧ d.canLay0 = true ∧ e.canLay0 = true ∧ A.units + min d.depth e.depth < cLine ∧ Q (.bl (if neg then !PyData.eqv d e else PyData.eqv d e)) H
theorem op_eqD : OpR X (compareOp .Eq) (rEqD X.K X.A false) := by
  intro pins s σ H x y v u Q I rx ry h
  obtain ⟨d, e, hd, he, cd, ce, hu, q⟩ := h
  obtain ⟨as, q1⟩ := hd.reads I rx
  obtain ⟨bs, q2⟩ := he.reads I ry
  exact SeqAt.compareEq_reads q1 q2 cd ce hu ⟨.bl _, H, I, rfl, q⟩
theorem op_neD : OpR X (compareOp .NotEq) (rEqD X.K X.A true) := by
  intro pins s σ H x y v u Q I rx ry h
  obtain ⟨d, e, hd, he, cd, ce, hu, q⟩ := h
  obtain ⟨as, q1⟩ := hd.reads I rx
  obtain ⟨bs, q2⟩ := he.reads I ry
  exact SeqAt.compareNe_reads q1 q2 cd ce hu ⟨.bl _, H, I, rfl, q⟩
end
mutual
theorem eqv_self : ∀ d : PyData, d.canLay0 = true → PyData.eqv d d = true
  | .none, _ => by simp [PyData.eqv]
  | .bool _, _ => by simp [PyData.eqv]
  | .int _, _ => by simp [PyData.eqv]
  | .str _, _ => by simp [PyData.eqv]
  | .list xs, h => by
    simp only [PyData.eqv]
    exact eqvAll_self xs (by simpa [PyData.canLay0] using h)
  | .tuple xs, h => by
    simp only [PyData.eqv]
    exact eqvAll_self xs (by simpa [PyData.canLay0] using h)
  | .dict _, h => by simp [PyData.canLay0] at h
theorem eqvAll_self : ∀ ds : List PyData, PyData.canLayAll0 ds = true → PyData.eqvAll ds ds = true
  | [], _ => by simp [PyData.eqvAll]
  | d :: ds, h => by
    simp only [PyData.canLayAll0, Bool.and_eq_true] at h
    simp only [PyData.eqvAll, Bool.and_eq_true]
    exact ⟨eqv_self d h.1, eqvAll_self ds h.2⟩
end
theorem in_one (z : Str) (c : Nat) : (!(Builtin.Str.occurrences z ⟨#[c]⟩ 0 z.length 1).isEmpty) = decide (c ∈ z.cps.toList) := PySem.StrLaws.found_one z c
theorem op_in_one {X : Cx} : OpR X (compareOp .In) (fun x y H Q => ∃ c z, x = .str ⟨#[c]⟩ ∧ y = .str z ∧ Q (.bl (decide (c ∈ z.cps.toList))) H) := by
  intro pins s σ H x y v u Q I rx ry h
  obtain ⟨c, z, e1, e2, q⟩ := h
  exact op_in_str pins s σ H x y v u Q I rx ry ⟨_, _, e1, e2, by rw [in_one]; exact q⟩
end L2
namespace L2
open PySem PySem.Spec PyProof.Rows
structure Fn (P : Program) (w : World) (K : PySem.W.Frag) (mg : Str → Option Value) (base : Heap) (k : Nat) (x : Str) (ps : List Str) (sp : Sp) : Prop where
  ex : ∃ (f : Addr) (fd : FuncData), FnOk P w K mg base CX0 k f fd ps sp ∧ Binds K fd ps [] ∧ PySem.W.keepIn K (.ref f) = true ∧ mg x = some (.ref f)
theorem pe_fn {X : Cx} {k k' : Nat} {x : Str} {ps : List Str} {sp : Sp} {p pos : Pos} {e : Expr} {es : List Expr} {t : TA} (F : Fn X.prog X.w X.K X.mg X.base k x ps sp) (hr : Room k' X.A) (ha : PA X (e :: es) t) (hk : k ≤ k' := by decide) (hg : Gl X x := by rfl)
    (hdb : (x == ("__debug__" : Str)) = false := by decide) (he : starEach (e :: es) X.env = (false, eval e X.env) :: starEach es X.env := by rfl) (hpl : (backTo pos (starEach es X.env)).any (·.1) = false := by rfl) :
    PE X (.Call (.Name x p) (e :: es) [] pos) (tCall sp [] E0 t) := by
  obtain ⟨f, fd, h1, h2, h3, h4⟩ := F.ex
  exact pe_call h1 (hr.mono hk) hg h4 h3 h2 .nil pass0 ha hdb he hpl
theorem iteP {c A B : Prop} [Decidable c] (hc : c) (h : A) : if decide c = true then A else B := by
  rw [decide_eq_true hc]
  exact iteT h
theorem iteN {c A B : Prop} [Decidable c] (hc : ¬ c) (h : B) : if decide c = true then A else B := by
  rw [decide_eq_false hc]
  exact iteF h
theorem same_new {H : Hp} {p : Addr} (h : H p = Option.none) (o : HO) : Same H (upd H p o) := fun b u q => by rw [upd_ne (ne_of_none q h)]; exact q
def S (l : List Nat) : Str := ⟨l.toArray⟩
theorem S_list (l : List Nat) : (S l).cps.toList = l := by simp [S]
theorem S_len (l : List Nat) : (S l).length = l.length := by simp [S, Str.length]
theorem S_self (z : Str) : S z.cps.toList = z := by cases z; simp [S]
theorem S_inj {a b : List Nat} (h : S a = S b) : a = b := by
  have := congrArg (fun z : Str => z.cps.toList) h
  simpa [S_list] using this
theorem S_app (a b : List Nat) : S a ++ S b = S (a ++ b) := by
  show Str.append (S a) (S b) = S (a ++ b)
  simp [Str.append, S]
end L2
namespace L2
open PySem PySem.Spec PyProof.Rows
def tCut (t : TS) : TS := fun D σ H => ∃ R : St → Hp → Prop, t { D with nx := R } σ H ∧ ∀ σ' H', R σ' H' → D.nx σ' H'
theorem ps_cut {X : Cx} {st : Stmt} {t : TS} (h : PS X st t) : PS X st (tCut t) := by
  intro pins s σ H D I hw
  obtain ⟨R, h1, h2⟩ := hw
  refine thn (h pins s σ H { D with nx := R } I h1) fun f s1 q => ?_
  cases f with
  | next =>
    obtain ⟨σ', H', I', q⟩ := q
    exact ⟨σ', H', I', h2 _ _ q⟩
  | brk => exact q
  | cont => exact q
  | ret v => exact q
theorem depth_strs : ∀ xs : List Str, PyData.depthAll (xs.map PyData.str) = 0
  | [] => by simp [PyData.depthAll]
  | x :: r => by simp [PyData.depthAll, PyData.depth, depth_strs r]
end L2
namespace L2
open PySem PySem.Spec PyProof.Rows
structure DefAt (K : PySem.W.Frag) (x : Str) (st : Stmt) : Prop where
  ex : ∃ (f : Addr) (oc : Value) (od : Option Addr) (kV doc pm : Value) (an : Option Addr) (cdv ct : Value) (osl : Array (Option Value)),
    PySem.W.nsIn K mainGlobals x = some (some (.ref f)) ∧ K.lookup f = some ⟨oc, od, .func (PySem.W.fnOf x x (defArgs st) (defBody st) (defScope st) .none kV doc pm an cdv ct), osl⟩ ∧ PySem.W.codeIn K cdv x = true ∧ PySem.W.keepIn K (.ref f) = true
theorem DefAt.mk' {K : PySem.W.Frag} {x : Str} {st : Stmt} {f : Addr} {oc : Value} {od : Option Addr} {kV doc pm : Value} {an : Option Addr} {cdv ct : Value} {osl : Array (Option Value)}
    (a : PySem.W.nsIn K mainGlobals x = some (some (.ref f))) (l : K.lookup f = some ⟨oc, od, .func (PySem.W.fnOf x x (defArgs st) (defBody st) (defScope st) .none kV doc pm an cdv ct), osl⟩) (c : PySem.W.codeIn K cdv x = true) (k : PySem.W.keepIn K (.ref f) = true) : DefAt K x st :=
  ⟨f, oc, od, kV, doc, pm, an, cdv, ct, osl, a, l, c, k⟩
theorem DefAt.fn {P : Program} {w : World} {K : PySem.W.Frag} {mg : Str → Option Value} {base h : Heap} {k : Nat} {x : Str} {st : Stmt} {ps : List Str} {sp : Sp} (D : DefAt K x st) (X : K.In h) (G : h.Ns mainGlobals mg)
    (ok : ∀ (f : Addr) (fd : FuncData), Fun K x x st f fd → FnOk P w K mg base CX0 k f fd ps sp)
    (hb : ∀ (kV doc pm : Value) (an : Option Addr) (cdv ct : Value) (us : List Value), us.length = ps.length → bindArgs (PySem.W.fnOf x x (defArgs st) (defBody st) (defScope st) .none kV doc pm an cdv ct) ⟨us, []⟩ = pure (ps.zip us)) : Fn P w K mg base k x ps sp := by
  obtain ⟨f, oc, od, kV, doc, pm, an, cdv, ct, osl, a, l, c, kp⟩ := D.ex
  have F := fun_mk (st := st) l c kp
  exact ⟨f, _, ok f _ F, F.binds hb, kp, PySem.W.mg_of X G a⟩
end L2
namespace K3
def letL : List Nat := [97, 98, 99, 100, 101, 102, 103, 104, 105, 106, 107, 108, 109, 110, 111, 112, 113, 114, 115, 116, 117, 118, 119, 120, 121, 122]
def figL : List Nat := [48, 49, 50, 51, 52, 53, 54, 55, 56, 57]
def sgnL : List Nat := [40, 41, 59, 58, 61, 124, 42]
theorem let_sgn : ∀ c ∈ letL, c ∉ sgnL := by decide
theorem fig_sgn : ∀ c ∈ figL, c ∉ sgnL := by decide
theorem fig_let : ∀ c ∈ figL, c ∉ letL := by decide
theorem sgn_32 : ∀ c ∈ sgnL, c ≠ 32 ∧ c ≠ 45 := by decide
theorem let_32 : ∀ c ∈ letL, c ≠ 32 ∧ c ≠ 45 := by decide
theorem fig_32 : ∀ c ∈ figL, c ≠ 32 ∧ c ≠ 45 := by decide
theorem n45 : 45 ∉ sgnL ∧ 45 ∉ letL ∧ (45 : Nat) ≠ 32 := by decide
theorem n32 : 32 ∉ letL ∧ 32 ∉ figL := by decide
structure Num (w : List Nat) : Prop where
  ne : w ≠ []
  len : w.length ≤ 60
  all : ∀ c ∈ w, c ∈ figL
  lead : w[0]? = some 48 → w.length = 1
inductive Word : List Nat → Prop where
  | sign {c : Nat} : c ∈ sgnL → Word [c]
  | name {w : List Nat} : w ≠ [] → w.length ≤ 8 → (∀ c ∈ w, c ∈ letL) → Word w
  | num {w : List Nat} : Num w → Word w
  | neg {w : List Nat} : Num w → w ≠ [48] → Word (45 :: w)
def Sep (w rest : List Nat) : Prop := ∀ a b, w.getLast? = some a → rest[0]? = some b → ¬ (a ∈ letL ∧ b ∈ letL) ∧ ¬ (a ∈ figL ∧ b ∈ figL)
theorem Sep.nil (w : List Nat) : Sep w [] := fun a b _ h => by simp at h
theorem Sep.blank (w r : List Nat) : Sep w (32 :: r) := fun a b _ h => by
  have e : 32 = b := by simpa using h
  subst e
  exact ⟨fun q => n32.1 q.2, fun q => n32.2 q.2⟩
theorem Word.ne {w : List Nat} (h : Word w) : w ≠ [] := by
  cases h with
  | sign _ => simp
  | name h _ _ => exact h
  | num h => exact h.ne
  | neg _ _ => simp
theorem Word.len {w : List Nat} (h : Word w) : w.length ≤ 61 := by
  cases h with
  | sign _ => simp
  | name _ h _ => omega
  | num h => have := h.len; omega
  | neg h _ => have := h.len; simp only [List.length_cons]; omega
theorem Word.head {w : List Nat} (h : Word w) : ∃ c r, w = c :: r ∧ c ≠ 32 := by
  cases h with
  | @sign c h => exact ⟨c, [], rfl, (sgn_32 c h).1⟩
  | name h _ a =>
    cases w with
    | nil => exact absurd rfl h
    | cons c r => exact ⟨c, r, rfl, (let_32 c (a c (by simp))).1⟩
  | num h =>
    cases w with
    | nil => exact absurd rfl h.ne
    | cons c r => exact ⟨c, r, rfl, (fig_32 c (h.all c (by simp))).1⟩
  | @neg w h _ => exact ⟨45, w, rfl, n45.2.2⟩
def run (L : List Nat) (t : List Nat) : List Nat := t.takeWhile fun c => decide (c ∈ L)
theorem run_eq {L w rest : List Nat} (h : ∀ c ∈ w, c ∈ L) (hr : ∀ b, rest[0]? = some b → b ∉ L) : run L (w ++ rest) = w := by
  unfold run
  induction w with
  | nil =>
    cases rest with
    | nil => rfl
    | cons b r =>
      have := hr b (by simp)
      simp [this]
  | cons c w ih =>
    have hc : c ∈ L := h c (by simp)
    rw [List.cons_append, List.takeWhile_cons, if_pos (by simpa using hc), ih (fun d hd => h d (by simp [hd]))]
theorem last_of {w : List Nat} (h : w ≠ []) : ∃ a, w.getLast? = some a ∧ a ∈ w := by
  refine ⟨w.getLast h, List.getLast?_eq_some_getLast h, List.getLast_mem h⟩
theorem Sep.let_of {w rest : List Nat} (s : Sep w rest) (h : w ≠ []) (a : ∀ c ∈ w, c ∈ letL) : ∀ b, rest[0]? = some b → b ∉ letL := fun b hb q => by
  obtain ⟨x, hx, hm⟩ := last_of h
  exact (s x b hx hb).1 ⟨a x hm, q⟩
theorem Sep.fig_of {w rest : List Nat} (s : Sep w rest) (h : w ≠ []) (a : ∀ c ∈ w, c ∈ figL) : ∀ b, rest[0]? = some b → b ∉ figL := fun b hb q => by
  obtain ⟨x, hx, hm⟩ := last_of h
  exact (s x b hx hb).2 ⟨a x hm, q⟩
theorem Sep.tail {c : Nat} {w rest : List Nat} (s : Sep (c :: w) rest) (h : w ≠ []) : Sep w rest := fun a b ha hb => s a b (by
  cases w with
  | nil => exact absurd rfl h
  | cons d w => rw [List.getLast?_cons_cons]; exact ha) hb
inductive Writ : List Nat → List (List Nat) → Prop where
  | nil : Writ [] []
  | blank {t ws} : Writ t ws → Writ (32 :: t) ws
  | word {w t ws} : Word w → Sep w t → Writ t ws → Writ (w ++ t) (w :: ws)
theorem Writ.blanks {t : List Nat} {ws : List (List Nat)} (h : Writ t ws) : ∀ k : Nat, Writ (List.replicate k 32 ++ t) ws
  | 0 => h
  | k + 1 => by rw [List.replicate_succ]; exact .blank (Writ.blanks h k)
structure Built (written : List Nat) (due : List (List Nat)) : Prop where
  go : ∀ rest ws, Writ rest ws → (∀ w, due.getLast? = some w → Sep w rest) → Writ (written ++ rest) (due ++ ws)
theorem Built.start : Built [] [] := ⟨fun _ _ h _ => h⟩
theorem Built.turn {written : List Nat} {due : List (List Nat)} (b : Built written due) {w : List Nat} (hw : Word w) (k : Nat)
    (h : k = 0 → ∀ l, due.getLast? = some l → Sep l w) : Built (written ++ List.replicate k 32 ++ w) (due ++ [w]) := ⟨fun rest ws hr hs => by
  have sw : Sep w rest := hs w (by simp)
  have h1 : Writ (List.replicate k 32 ++ (w ++ rest)) (w :: ws) := (Writ.word hw sw hr).blanks k
  have h2 := b.go (List.replicate k 32 ++ (w ++ rest)) (w :: ws) h1 (fun l hl => by
    cases k with
    | zero =>
      obtain ⟨c, r, e, _⟩ := hw.head
      intro x y hx hy
      rw [e] at hy
      have hy' : w[0]? = some y := by rw [e]; simpa using hy
      exact h rfl l hl x y hx hy'
    | succ k => rw [List.replicate_succ]; exact Sep.blank _ _)
  simpa [List.append_assoc] using h2⟩
theorem Built.all {written : List Nat} {due : List (List Nat)} (b : Built written due) (k : Nat) : Writ (written ++ List.replicate k 32) due := by
  have h := b.go (List.replicate k 32) [] (by simpa using (Writ.nil).blanks k) (fun l _ => by
    cases k with
    | zero => exact Sep.nil _
    | succ k => rw [List.replicate_succ]; exact Sep.blank _ _)
  simpa using h
def D (n : Nat) : List Nat := (Nat.toDigits 10 n).map Char.toNat
theorem fig_of (d : Nat) (h : d < 10) : 48 + d ∈ figL := by
  have : ∀ d : Nat, d < 10 → 48 + d ∈ figL := by decide
  exact this d h
end K3
namespace K3
theorem seg_step {L : List Nat} {k e c : Nat} (hk : k ≤ e) (he : L[e]? = some c) : (L.drop k).take (e + 1 - k) = (L.drop k).take (e - k) ++ [c] := by
  have h1 : e + 1 - k = (e - k) + 1 := by omega
  rw [h1, List.take_add_one, List.getElem?_drop, show k + (e - k) = e by omega, he]
  rfl
theorem seg_stop {L sg : List Nat} {k e : Nat} (hk : k ≤ e) (hall : ∀ c ∈ (L.drop k).take (e - k), c ∈ sg) (hstop : ∀ c, L[e]? = some c → c ∉ sg) : run sg (L.drop k) = (L.drop k).take (e - k) := by
  have h := run_eq (L := sg) (w := (L.drop k).take (e - k)) (rest := (L.drop k).drop (e - k)) hall (fun b hb => by
    rw [List.drop_drop, show k + (e - k) = e by omega] at hb
    exact hstop b (by simpa [List.getElem?_drop] using hb))
  rw [List.take_append_drop] at h
  exact h
theorem Writ.len {t : List Nat} {ws : List (List Nat)} (h : Writ t ws) : ws.length ≤ t.length := by
  induction h with
  | nil => simp
  | blank _ ih => simp only [List.length_cons]; omega
  | word hw _ _ ih =>
    have : 0 < (_ : List Nat).length := List.length_pos_iff.mpr hw.ne
    simp only [List.length_cons, List.length_append]; omega
theorem Writ.words {t : List Nat} {ws : List (List Nat)} (h : Writ t ws) : ∀ w ∈ ws, Word w := by
  induction h with
  | nil => intro w hw; cases hw
  | blank _ ih => exact ih
  | word hw _ _ ih =>
    intro w h
    rcases List.mem_cons.mp h with q | q
    · rw [q]; exact hw
    · exact ih w q
theorem Writ.step {t : List Nat} {ws : List (List Nat)} (h : Writ t ws) (ht : t ≠ []) :
    (∃ r, t = 32 :: r ∧ Writ r ws) ∨ ∃ w r vs, t = w ++ r ∧ ws = w :: vs ∧ Word w ∧ Sep w r ∧ Writ r vs := by
  cases h with
  | nil => exact absurd rfl ht
  | blank h => exact .inl ⟨_, rfl, h⟩
  | word a b c => exact .inr ⟨_, _, _, rfl, rfl, a, b, c⟩
end K3
namespace K7
open PySem L2 K3
def top (i : Nat) : Stmt := PySem.Challenge.pw_turnery_k07_woods_shown_and_read.main.body.getD i (.Pass ⟨0, 0, 0, 0⟩)
abbrev sWords : Stmt := top 11
abbrev sWordAt : Stmt := top 12
abbrev sNameAt : Stmt := top 13
abbrev sBelow : Stmt := top 14
abbrev sFigures : Stmt := top 15
abbrev sRun : Stmt := top 16
abbrev sReader : Stmt := top 18
abbrev sBegins : Stmt := top 19
abbrev sShowB : Stmt := top 21
abbrev sRead : Stmt := top 26
abbrev sKindF : Stmt := top 27
abbrev sRowF : Stmt := top 28
abbrev sChkN : Stmt := top 29
abbrev sChkK : Stmt := top 30
abbrev sChkR : Stmt := top 31
abbrev sTwice : Stmt := top 32
abbrev sShow : Stmt := top 33
abbrev sShowR : Stmt := top 34
abbrev sCell : Stmt := top 36
abbrev sNames : Stmt := top 37
abbrev sWood : Stmt := top 38
abbrev sParts : Stmt := top 39
abbrev sShown : Stmt := top 40
abbrev sJoined : Stmt := top 41
abbrev sKinds : Stmt := top 42
abbrev sLaw : Stmt := top 43
abbrev LETS : Str := Str.ofString "abcdefghijklmnopqrstuvwxyz"
abbrev FIGS : Str := Str.ofString "0123456789"
abbrev SGNS : Str := Str.ofString "();:=|*"
theorem let_eq : LETS = S letL := by decide +kernel
theorem fig_eq : FIGS = S figL := by decide +kernel
theorem sgn_eq : SGNS = S sgnL := by decide +kernel
theorem let_cps : LETS.cps.toList = letL := by rw [let_eq, S_list]
theorem fig_cps : FIGS.cps.toList = figL := by rw [fig_eq, S_list]
theorem sgn_cps : SGNS.cps.toList = sgnL := by rw [sgn_eq, S_list]
theorem minus_eq : Str.ofString "-" = S [45] := by decide +kernel
theorem blank_eq : Str.ofString " " = S [32] := by decide +kernel
theorem zero_eq : Str.ofString "0" = S [48] := by decide +kernel
theorem none_eq : Str.ofString "" = S [] := by decide +kernel
theorem size_line : sizeLine = 16777216 := by decide
structure Gm (mg : Str → Option Value) : Prop where
  len : mg "len" = none
  isi : mg "isinstance" = none
  str : mg "str" = none
  lst : mg "list" = none
  rng : mg "range" = none
  tup : mg "tuple" = none
  int : mg "int" = none
  sum : mg "sum" = none
  lets : ∃ t, mg "LETTERS" = some (.str LETS t)
  figs : ∃ t, mg "FIGURES" = some (.str FIGS t)
  sgns : ∃ t, mg "SIGNS" = some (.str SGNS t)
  ml : ∃ t, mg "MOST_LETTERS" = some (.int 8 t)
  mf : ∃ t, mg "MOST_FIGURES" = some (.int 60 t)
def spRun : Sp := fun vs H Q _ => ∃ (z : List Nat) (k : Nat) (sg : List Nat), vs = [.str (S z), .int k, .str (S sg)] ∧ z.length ≤ 5000 ∧ k ≤ z.length ∧ Q (.str (S (run sg (z.drop k)))) H
def spFig : Sp := fun vs H Q _ => ∃ (z : List Nat) (k : Nat), vs = [.str (S z), .int k] ∧ z.length ≤ 5000 ∧ k ≤ z.length ∧ Num (run figL (z.drop k)) ∧ Q (.str (S (run figL (z.drop k)))) H
def spBelow : Sp := fun vs H Q _ => ∃ (z : List Nat) (k : Nat), vs = [.str (S z), .int k] ∧ z.length ≤ 5000 ∧ k ≤ z.length ∧ Num (run figL (z.drop k)) ∧ run figL (z.drop k) ≠ [48] ∧ Q (.str (S (run figL (z.drop k)))) H
def spNameAt : Sp := fun vs H Q _ => ∃ (z : List Nat) (k : Nat), vs = [.str (S z), .int k] ∧ z.length ≤ 5000 ∧ k ≤ z.length ∧ (run letL (z.drop k)).length ≤ 8 ∧ Q (.str (S (run letL (z.drop k)))) H
def spWordAt : Sp := fun vs H Q _ => ∃ (z : List Nat) (k : Nat) (w r : List Nat), vs = [.str (S z), .int k] ∧ z.length ≤ 5000 ∧ z.drop k = w ++ r ∧ Word w ∧ Sep w r ∧ Q (.str (S w)) H
def W (ws : List (List Nat)) : List V := ws.map fun w => V.str (S w)
def spWords : Sp := fun vs H Q _ => ∃ (z : List Nat) (ws : List (List Nat)), vs = [.str (S z)] ∧ z.length ≤ 5000 ∧ Writ z ws ∧ ∀ (l : Addr) (H' : Hp), Same H H' → H' l = some (.lst (W ws)) → H l = none → Q (.ref l) H'
theorem line_of {n : Nat} (h : n ≤ 5000) : n ≤ sizeLine := by rw [size_line]; omega
theorem atS {z : List Nat} {k : Nat} {c : Nat} (h : z[k]? = some c) : atI (S z).cps.toList (k : Int) = some c := by
  rw [S_list]; exact atI_nat h
theorem one_S (c : Nat) : (⟨#[c]⟩ : Str) = S [c] := rfl
theorem str_ne {a b : List Nat} (h : a ≠ b) : ¬ V.str (S a) = V.str (S b) := fun q => h (S_inj (by injection q))
section
variable {P : Program} {w : World} {K : PySem.W.Frag} {mg : Str → Option Value} {base : Heap} {f : Addr} {fd : FuncData}
theorem scRun : FnScope ["text", "start", "signs", "end"] ["text", "start", "signs"] (defScope sRun) := ⟨rfl, rfl, rfl, by decide +kernel, rfl, by decide +kernel, by decide +kernel⟩
theorem cut_seg (z : List Nat) {k e : Nat} (hk : k ≤ e) (he : e ≤ z.length) : cutS (S z) (some (k : Int)) (some (e : Int)) = S ((z.drop k).take (e - k)) := by
  unfold cutS
  rw [HT.sIx_nat, HT.sIx_nat, S_list, S_len, Nat.min_eq_left he, Nat.min_eq_left (Nat.le_trans hk he)]
  rfl
theorem ok_run (F : Fun K "run_at" "run_at" sRun f fd) (G : Gm mg) : FnOk P w K mg base CX0 1 f fd ["text", "start", "signs"] spRun := by
  refine F.ok scRun (fun vs H Q E h => ?_) (fun cdv A outer s H vs Q E hr h => ?_)
  · obtain ⟨z, k, sg, rfl, _⟩ := h
    rfl
  obtain ⟨z, k, sg, rfl, hz, hk, q⟩ := h
  have hzl : (S z).length ≤ sizeLine := by rw [S_len]; exact line_of hz
  refine ⟨_, pss_cons (ps_set (i := 3) scRun.nd rfl (Or.inl rfl) (pv 1))
    (pss_cons (ps_while PassesOwn.never (PW.pt (pw_and (pt_cmpR op_lt (pv 3) (pe_callB call_len_str rfl G.len PySem.boot_len (pa_cons (pv 0) pa_nil)) (nomark _))
        (pw_and1 (pt_cmpR op_in_one (pe_ix ix_str (pv 0) (pv 3) (fun _ _ => rfl)) (pv 2) (by with_unfolding_all rfl)))))
      (pss_one (ps_aug (i := 3) scRun.nd rfl (Or.inl rfl) pe_int ip_add)))
    (pss_one (ps_ret (pe_slice sl_str (pv 0) (po_some (pv 1)) (po_some (pv 3)))))), ?_⟩
  refine ⟨_, rfl, ?_⟩
  have fin : ∀ e : Nat, k ≤ e → e ≤ z.length → (∀ c ∈ (z.drop k).take (e - k), c ∈ sg) → (∀ c, z[e]? = some c → c ∉ sg) → Q (.str (cutS (S z) (some (k : Int)) (some (e : Int)))) H := fun e h1 h2 h3 h4 => by
    rw [cut_seg z h1 h2, ← seg_stop h1 h3 h4]
    exact q
  refine ⟨fun m σ H' => ∃ e : Nat, σ = [some (.str (S z)), some (.int (k : Int)), some (.str (S sg)), some (.int (e : Int))] ∧ H' = H ∧ k ≤ e ∧ e ≤ z.length ∧ (∀ c ∈ (z.drop k).take (e - k), c ∈ sg) ∧ m = z.length - e,
    ⟨_, k, rfl, rfl, Nat.le_refl _, hk, (by intro c hc; simp at hc), rfl⟩, ?_⟩
  rintro m σ H' ⟨e, rfl, rfl, h1, h2, h3, rfl⟩
  refine ⟨_, rfl, _, rfl, _, rfl, hzl, _, _, rfl, rfl, _, rfl, ?_⟩
  refine ite2 (fun c => ?_) (fun c => ?_)
  · have c' : (e : Int) < (((S z).length : Nat) : Int) := of_decide_eq_true c
    rw [S_len] at c'
    have he : e < z.length := by omega
    have hat : z[e]? = some z[e] := List.getElem?_eq_getElem he
    refine ⟨_, rfl, _, rfl, _, _, _, rfl, rfl, hzl, atS hat, _, rfl, _, _, rfl, rfl, _, rfl, ?_⟩
    refine ite2 (fun d => ?_) (fun d => ?_)
    · have d' : z[e] ∈ (S sg).cps.toList := of_decide_eq_true d
      rw [S_list] at d'
      refine ⟨_, fun σ' H'' q' => q', _, rfl, _, _, rfl, rfl, ?_⟩
      refine ⟨z.length - (e + 1), by omega, e + 1, rfl, rfl, by omega, by omega, ?_, rfl⟩
      rw [seg_step h1 hat]
      intro x hx
      rcases List.mem_append.mp hx with y | y
      · exact h3 x y
      · have : x = z[e] := by simpa using y
        rw [this]; exact d'
    · have d' : ¬ z[e] ∈ (S sg).cps.toList := of_decide_eq_false (Bool.eq_false_iff.mpr d)
      rw [S_list] at d'
      refine ⟨_, rfl, _, rfl, _, rfl, _, rfl, _, rfl, _, rfl, hzl, ?_⟩
      exact fin e h1 h2 h3 (fun x hx => by rw [hat] at hx; cases hx; exact d')
  · have c' : ¬ (e : Int) < (((S z).length : Nat) : Int) := of_decide_eq_false (Bool.eq_false_iff.mpr c)
    rw [S_len] at c'
    refine ⟨_, rfl, _, rfl, _, rfl, _, rfl, _, rfl, _, rfl, hzl, ?_⟩
    exact fin e h1 h2 h3 (fun x hx => by rw [List.getElem?_eq_none (by omega)] at hx; cases hx)
theorem scFig : FnScope ["text", "start", "figures"] ["text", "start"] (defScope sFigures) := ⟨rfl, rfl, rfl, by decide +kernel, rfl, by decide +kernel, by decide +kernel⟩
theorem ok_fig (F : Fun K "figures_at" "figures_at" sFigures f fd) (G : Gm mg) (R : Fn P w K mg base 1 "run_at" ["text", "start", "signs"] spRun) : FnOk P w K mg base CX0 2 f fd ["text", "start"] spFig := by
  obtain ⟨tf, hf⟩ := G.figs
  obtain ⟨tm, hm⟩ := G.mf
  refine F.ok scFig (fun vs H Q E h => ?_) (fun cdv A outer s H vs Q E hr h => ?_)
  · obtain ⟨z, k, rfl, _⟩ := h
    rfl
  obtain ⟨z, k, rfl, hz, hk, hn, q⟩ := h
  refine ⟨_, pss_cons (ps_set (i := 2) scFig.nd rfl (Or.inl rfl) (pe_fn R hr (pa_cons (pv 0) (pa_cons (pv 1) (pa_cons (pe_glob (v := .str FIGS) rfl hf ⟨_, rfl⟩) pa_nil)))))
    (pss_cons (ps_if (pt_cmpR op_eq (pv 2) pe_str (nomark _)) pss_never pss_nil)
    (pss_cons (ps_if (pt_cmpR op_gt (pe_callB call_len_str rfl G.len PySem.boot_len (pa_cons (pv 2) pa_nil)) (pe_glob (v := .int 60) rfl hm ⟨_, rfl⟩) (nomark _)) pss_never pss_nil)
    (pss_cons (ps_if (PW.pt (pw_and (pt_cmpR op_eq (pe_ix ix_str (pv 2) pe_int (fun _ _ => rfl)) pe_str (nomark _)) (pw_and1 (pt_cmpR op_gt (pe_callB call_len_str rfl G.len PySem.boot_len (pa_cons (pv 2) pa_nil)) pe_int (nomark _))))) pss_never pss_nil)
    (pss_one (ps_ret (pv 2)))))), ?_⟩
  refine ⟨_, rfl, _, rfl, z, k, figL, by rw [← fig_eq]; rfl, hz, hk, ?_⟩
  have hlen : (S (run figL (z.drop k))).length ≤ sizeLine := by rw [S_len]; exact line_of (Nat.le_trans hn.len (by omega))
  obtain ⟨c, r, hc⟩ : ∃ c r, run figL (z.drop k) = c :: r := by
    cases e : run figL (z.drop k) with
    | nil => exact absurd e hn.ne
    | cons c r => exact ⟨c, r, rfl⟩
  have h0 : (run figL (z.drop k))[0]? = some c := by rw [hc]; rfl
  refine ⟨_, rfl, rfl, _, rfl, iteN (by rw [none_eq]; exact str_ne hn.ne) ?_⟩
  refine ⟨_, rfl, _, rfl, hlen, _, _, rfl, rfl, _, rfl, iteN (by rw [S_len]; have := hn.len; omega) ?_⟩
  refine ⟨_, rfl, _, 0, c, rfl, rfl, hlen, atS h0, rfl, _, rfl, ?_⟩
  by_cases hc0 : c = 48
  · have hl : (run figL (z.drop k)).length = 1 := hn.lead (by rw [h0, hc0])
    refine iteP (by rw [hc0, one_S, zero_eq]) ⟨_, rfl, _, rfl, hlen, _, _, rfl, rfl, _, rfl, iteN (by rw [S_len, hl]; decide) ?_⟩
    exact ⟨_, rfl, q⟩
  · refine iteN (by rw [one_S, zero_eq]; exact str_ne (by simpa using hc0)) (iteF ?_)
    exact ⟨_, rfl, q⟩
theorem scBelow : FnScope ["text", "start", "figures"] ["text", "start"] (defScope sBelow) := ⟨rfl, rfl, rfl, by decide +kernel, rfl, by decide +kernel, by decide +kernel⟩
theorem ok_below (F : Fun K "below_zero_at" "below_zero_at" sBelow f fd) (R : Fn P w K mg base 2 "figures_at" ["text", "start"] spFig) : FnOk P w K mg base CX0 3 f fd ["text", "start"] spBelow := by
  refine F.ok scBelow (fun vs H Q E h => ?_) (fun cdv A outer s H vs Q E hr h => ?_)
  · obtain ⟨z, k, rfl, _⟩ := h
    rfl
  obtain ⟨z, k, rfl, hz, hk, hn, h48, q⟩ := h
  refine ⟨_, pss_cons (ps_set (i := 2) scBelow.nd rfl (Or.inl rfl) (pe_fn R hr (pa_cons (pv 0) (pa_cons (pv 1) pa_nil))))
    (pss_cons (ps_if (pt_cmpR op_eq (pv 2) pe_str (nomark _)) pss_never pss_nil)
    (pss_one (ps_ret (pv 2)))), ?_⟩
  refine ⟨_, rfl, _, rfl, z, k, rfl, hz, hk, hn, ?_⟩
  refine ⟨_, rfl, rfl, _, rfl, iteN (by rw [zero_eq]; exact str_ne h48) ?_⟩
  exact ⟨_, rfl, q⟩
theorem scNameAt : FnScope ["text", "start", "name"] ["text", "start"] (defScope sNameAt) := ⟨rfl, rfl, rfl, by decide +kernel, rfl, by decide +kernel, by decide +kernel⟩
theorem ok_nameAt (F : Fun K "name_at" "name_at" sNameAt f fd) (G : Gm mg) (R : Fn P w K mg base 1 "run_at" ["text", "start", "signs"] spRun) : FnOk P w K mg base CX0 2 f fd ["text", "start"] spNameAt := by
  obtain ⟨tf, hf⟩ := G.lets
  obtain ⟨tm, hm⟩ := G.ml
  refine F.ok scNameAt (fun vs H Q E h => ?_) (fun cdv A outer s H vs Q E hr h => ?_)
  · obtain ⟨z, k, rfl, _⟩ := h
    rfl
  obtain ⟨z, k, rfl, hz, hk, hn, q⟩ := h
  refine ⟨_, pss_cons (ps_set (i := 2) scNameAt.nd rfl (Or.inl rfl) (pe_fn R hr (pa_cons (pv 0) (pa_cons (pv 1) (pa_cons (pe_glob (v := .str LETS) rfl hf ⟨_, rfl⟩) pa_nil)))))
    (pss_cons (ps_if (pt_cmpR op_gt (pe_callB call_len_str rfl G.len PySem.boot_len (pa_cons (pv 2) pa_nil)) (pe_glob (v := .int 8) rfl hm ⟨_, rfl⟩) (nomark _)) pss_never pss_nil)
    (pss_one (ps_ret (pv 2)))), ?_⟩
  refine ⟨_, rfl, _, rfl, z, k, letL, by rw [← let_eq]; rfl, hz, hk, ?_⟩
  have hlen : (S (run letL (z.drop k))).length ≤ sizeLine := by rw [S_len]; exact line_of (by omega)
  refine ⟨_, rfl, _, rfl, hlen, _, _, rfl, rfl, _, rfl, iteN (by rw [S_len]; omega) ?_⟩
  exact ⟨_, rfl, q⟩
theorem scWordAt : FnScope ["text", "start", "first"] ["text", "start"] (defScope sWordAt) := ⟨rfl, rfl, rfl, by decide +kernel, rfl, by decide +kernel, by decide +kernel⟩
theorem drop_at {z : List Nat} {k c : Nat} {r : List Nat} (h : z.drop k = c :: r) : z[k]? = some c ∧ k < z.length ∧ z.drop (k + 1) = r := by
  have h1 : z[k]? = some c := by
    have : (z.drop k)[0]? = some c := by rw [h]; rfl
    simpa [List.getElem?_drop] using this
  refine ⟨h1, (List.getElem?_eq_some_iff.mp h1).1, ?_⟩
  rw [← List.tail_drop, h]; rfl
theorem ok_wordAt (F : Fun K "word_at" "word_at" sWordAt f fd) (G : Gm mg) (RN : Fn P w K mg base 2 "name_at" ["text", "start"] spNameAt) (RF : Fn P w K mg base 2 "figures_at" ["text", "start"] spFig)
    (RB : Fn P w K mg base 3 "below_zero_at" ["text", "start"] spBelow) : FnOk P w K mg base CX0 4 f fd ["text", "start"] spWordAt := by
  obtain ⟨ts, hs⟩ := G.sgns
  obtain ⟨tl, hl⟩ := G.lets
  obtain ⟨tf, hf⟩ := G.figs
  refine F.ok scWordAt (fun vs H Q E h => ?_) (fun cdv A outer s H vs Q E hr h => ?_)
  · obtain ⟨z, k, u, r, rfl, _⟩ := h
    rfl
  obtain ⟨z, k, u, r, rfl, hz, hd, hw, hsep, q⟩ := h
  have hzl : (S z).length ≤ sizeLine := by rw [S_len]; exact line_of hz
  refine ⟨_, pss_cons (ps_set (i := 2) scWordAt.nd rfl (Or.inl rfl) (pe_ix ix_str (pv 0) (pv 1) (fun _ _ => rfl)))
    (pss_cons (ps_if (pt_cmpR op_in_one (pv 2) (pe_glob (v := .str SGNS) rfl hs ⟨_, rfl⟩) (by with_unfolding_all rfl)) (pss_one (ps_ret (pv 2))) pss_nil)
    (pss_cons (ps_if (pt_cmpR op_in_one (pv 2) (pe_glob (v := .str LETS) rfl hl ⟨_, rfl⟩) (by with_unfolding_all rfl)) (pss_one (ps_ret (pe_fn RN hr (pa_cons (pv 0) (pa_cons (pv 1) pa_nil))))) pss_nil)
    (pss_cons (ps_if (pt_cmpR op_eq (pv 2) pe_str (nomark _)) (pss_one (ps_ret (pe_op op_add_str pe_str (pe_fn RB hr (pa_cons (pv 0) (pa_cons (pe_op op_add (pv 1) pe_int) pa_nil)))))) pss_nil)
    (pss_cons (ps_if (pt_cmpR op_in_one (pv 2) (pe_glob (v := .str FIGS) rfl hf ⟨_, rfl⟩) (by with_unfolding_all rfl)) (pss_one (ps_ret (pe_fn RF hr (pa_cons (pv 0) (pa_cons (pv 1) pa_nil))))) pss_nil)
    pss_never)))), ?_⟩
  obtain ⟨c, u', hu, _⟩ := hw.head
  have hd' : z.drop k = c :: (u' ++ r) := by rw [hd, hu]; rfl
  obtain ⟨hat, hkl, hd1⟩ := drop_at hd'
  refine ⟨_, rfl, _, rfl, _, _, _, rfl, rfl, hzl, atS hat, ?_⟩
  refine ⟨_, rfl, _, _, rfl, rfl, _, rfl, ?_⟩
  rw [sgn_cps]
  cases hw with
  | @sign d hs' =>
    have e : d = c := by injection hu
    subst e
    exact iteP hs' ⟨_, rfl, q⟩
  | name hne h8 hall =>
    have hc : c ∈ letL := hall c (by rw [hu]; simp)
    have hrun : run letL (z.drop k) = u := by rw [hd]; exact run_eq hall (hsep.let_of hne hall)
    refine iteN (let_sgn c hc) ⟨_, rfl, _, _, rfl, rfl, _, rfl, ?_⟩
    rw [let_cps]
    refine iteP hc ⟨_, rfl, _, rfl, z, k, rfl, hz, Nat.le_of_lt hkl, by rw [hrun]; exact h8, ?_⟩
    rw [hrun]; exact q
  | num hn =>
    have hc : c ∈ figL := hn.all c (by rw [hu]; simp)
    have hrun : run figL (z.drop k) = u := by rw [hd]; exact run_eq hn.all (hsep.fig_of hn.ne hn.all)
    refine iteN (fig_sgn c hc) ⟨_, rfl, _, _, rfl, rfl, _, rfl, ?_⟩
    rw [let_cps]
    refine iteN (fig_let c hc) ⟨_, rfl, rfl, _, rfl, iteN (by rw [one_S, minus_eq]; exact str_ne (by simpa using (fig_32 c hc).2)) ⟨_, rfl, _, _, rfl, rfl, _, rfl, ?_⟩⟩
    rw [fig_cps]
    refine iteP hc ⟨_, rfl, _, rfl, z, k, rfl, hz, Nat.le_of_lt hkl, by rw [hrun]; exact hn, ?_⟩
    rw [hrun]; exact q
  | @neg v hn h48 =>
    have e : 45 = c ∧ v = u' := by injection hu with h1 h2; exact ⟨h1, h2⟩
    obtain ⟨e1, e2⟩ := e
    subst e1; subst e2
    have hrun : run figL (z.drop (k + 1)) = v := by rw [hd1]; exact run_eq hn.all ((hsep.tail hn.ne).fig_of hn.ne hn.all)
    refine iteN n45.1 ⟨_, rfl, _, _, rfl, rfl, _, rfl, ?_⟩
    rw [let_cps]
    refine iteN n45.2.1 ⟨_, rfl, rfl, _, rfl, iteP (by rw [one_S, minus_eq]) ?_⟩
    refine ⟨_, rfl, _, rfl, _, _, rfl, rfl, z, k + 1, rfl, hz, hkl, by rw [hrun]; exact hn, by rw [hrun]; exact h48, ?_⟩
    rw [hrun]
    refine ⟨_, _, rfl, rfl, ?_, ?_⟩
    · rw [minus_eq, S_len, S_len]
      have := hn.len
      exact line_of (by simp; omega)
    · rw [minus_eq, S_app]; exact q
end
end K7
namespace K7
open PySem L2 K3
section
variable {P : Program} {w : World} {K : PySem.W.Frag} {mg : Str → Option Value} {base : Heap} {f : Addr} {fd : FuncData}
theorem scWords : FnScope ["text", "told", "start", "word"] ["text"] (defScope sWords) := ⟨rfl, rfl, rfl, by decide +kernel, rfl, by decide +kernel, by decide +kernel⟩
theorem W_app (a b : List (List Nat)) : W (a ++ b) = W a ++ W b := by simp [W]
theorem W_len (a : List (List Nat)) : (W a).length = a.length := by simp [W]
theorem ok_words (F : Fun K "words" "words" sWords f fd) (G : Gm mg) (R : Fn P w K mg base 4 "word_at" ["text", "start"] spWordAt) : FnOk P w K mg base CX0 5 f fd ["text"] spWords := by
  refine F.ok scWords (fun vs H Q E h => ?_) (fun cdv A outer s H vs Q E hr h => ?_)
  · obtain ⟨z, ws, rfl, _⟩ := h
    rfl
  obtain ⟨z, ws, rfl, hz, hW, q⟩ := h
  have hzl : (S z).length ≤ sizeLine := by rw [S_len]; exact line_of hz
  refine ⟨_, pss_cons (ps_if (pt_not (pt_val (pe_callB call_isinst rfl G.isi PyProof.Rows.boot_isinstance (pa_cons (pv 0) (pa_cons (pe_bltn (v := .ty "str") rfl G.str PyProof.Rows.boot_str rfl) pa_nil))))) pss_never pss_nil)
    (pss_cons (ps_set (i := 1) scWords.nd rfl (Or.inl rfl) (pe_lst pa_nil))
    (pss_cons (ps_set (i := 2) scWords.nd rfl (Or.inl rfl) pe_int)
    (pss_cons (ps_while PassesOwn.never (pt_cmpR op_lt (pv 2) (pe_callB call_len_str rfl G.len PySem.boot_len (pa_cons (pv 0) pa_nil)) (nomark _))
      (pss_one (ps_if (pt_cmpR op_eq (pe_ix ix_str (pv 0) (pv 2) (fun _ _ => rfl)) pe_str (nomark _))
        (pss_one (ps_aug (i := 2) scWords.nd rfl (Or.inl rfl) pe_int ip_add))
        (pss_cons (ps_set (i := 3) scWords.nd rfl (Or.inl rfl) (pe_fn R hr (pa_cons (pv 0) (pa_cons (pv 2) pa_nil))))
        (pss_cons (ps_expr (pe_bm PySem.F.plainAttrs_list PySem.F.slot_list_append PySem.F.type_list_append mt_append (pv 1) (pa_cons (pv 3) pa_nil)))
        (pss_one (ps_aug (i := 2) scWords.nd rfl (Or.inl rfl) (pe_callB call_len_str rfl G.len PySem.boot_len (pa_cons (pv 3) pa_nil)) ip_add)))))))
    (pss_one (ps_ret (pv 1)))))), ?_⟩
  refine ⟨_, rfl, _, "str", _, true, rfl, .str _, rfl, _, rfl, iteF ?_⟩
  refine ⟨(by show 0 ≤ sizeLine; decide), fun l hl => ?_⟩
  have hws := hW.len
  refine ⟨fun m σ H' => ∃ (k : Nat) (done rest : List (List Nat)) (wd : Option V), σ = [some (.str (S z)), some (.ref l), some (.int (k : Int)), wd] ∧ Same H H' ∧ H' l = some (.lst (W done)) ∧ done ++ rest = ws ∧ Writ (z.drop k) rest ∧ k ≤ z.length ∧ m = z.length - k,
    ⟨_, 0, [], ws, none, rfl, same_new hl _, upd_same, rfl, hW, Nat.zero_le _, rfl⟩, ?_⟩
  rintro m σ H' ⟨k, done, rest, wd, rfl, hsame, hl', hdr, hwr, hk, rfl⟩
  refine ⟨_, rfl, _, rfl, _, rfl, hzl, _, _, rfl, rfl, _, rfl, ?_⟩
  refine ite2 (fun c => ?_) (fun c => ?_)
  · have c' : (k : Int) < (((S z).length : Nat) : Int) := of_decide_eq_true c
    rw [S_len] at c'
    have hkl : k < z.length := by omega
    have hat : z[k]? = some z[k] := List.getElem?_eq_getElem hkl
    have hdk : z.drop k = z[k] :: z.drop (k + 1) := List.drop_eq_getElem_cons hkl
    refine ⟨_, fun σ' H'' q' => q', ?_⟩
    refine ⟨_, rfl, _, rfl, _, _, _, rfl, rfl, hzl, atS hat, rfl, _, rfl, ?_⟩
    rcases hwr.step (by rw [hdk]; exact List.cons_ne_nil _ _) with ⟨r, er, hr'⟩ | ⟨u, r, vs, er, ev, hu, hsep, hr'⟩
    · have e32 : z[k] = 32 ∧ z.drop (k + 1) = r := by rw [hdk] at er; injection er with h1 h2; exact ⟨h1, h2⟩
      refine iteP (by rw [e32.1, one_S, blank_eq]) ⟨_, rfl, _, _, rfl, rfl, ?_⟩
      exact ⟨z.length - (k + 1), by omega, k + 1, done, rest, wd, rfl, hsame, hl', hdr, by rw [e32.2]; exact hr', by omega, rfl⟩
    · obtain ⟨c0, u', hu0, h32⟩ := hu.head
      have ec : z[k] = c0 := by
        rw [hdk, hu0] at er
        injection er
      have hul : 0 < u.length := List.length_pos_iff.mpr hu.ne
      have hzk : z.length - k = u.length + r.length := by
        have := congrArg List.length er
        rw [List.length_drop, List.length_append] at this
        exact this
      refine iteN (by rw [ec, one_S, blank_eq]; exact str_ne (by simpa using h32)) ?_
      refine ⟨_, rfl, _, rfl, z, k, u, r, rfl, hz, er, hu, hsep, ?_⟩
      have hdl : done.length < 5000 := by
        have h1 : (done ++ rest).length = ws.length := by rw [hdr]
        rw [List.length_append, ev, List.length_cons] at h1
        omega
      refine ⟨_, rfl, .inl ⟨rfl, _, SqL.of hl'⟩, _, rfl, l, _, _, rfl, rfl, hl', by rw [W_len, size_line]; omega, ?_⟩
      have hul' : (S u).length ≤ sizeLine := by rw [S_len]; exact line_of (Nat.le_trans hu.len (by omega))
      refine ⟨_, rfl, _, rfl, _, rfl, hul', _, _, rfl, rfl, ?_⟩
      refine ⟨z.length - (k + u.length), by omega, k + u.length, done ++ [u], vs, some (.str (S u)), ?_, ?_, ?_, ?_, ?_, by omega, rfl⟩
      · rw [S_len]; rfl
      · intro b o hb
        have hne : b ≠ l := ne_of_none hb hl
        rw [upd_ne hne]; exact hsame b o hb
      · rw [upd_same, W_app]; rfl
      · rw [← hdr, ev, List.append_assoc]; rfl
      · rw [← List.drop_drop, er, List.drop_left]; exact hr'
  · have c' : ¬ (k : Int) < (((S z).length : Nat) : Int) := of_decide_eq_false (Bool.eq_false_iff.mpr c)
    rw [S_len] at c'
    have hnil : z.drop k = [] := List.drop_eq_nil_of_le (by omega)
    rw [hnil] at hwr
    have hre : rest = [] := by
      have := hwr.len
      exact List.length_eq_zero_iff.mp (by simpa using this)
    rw [hre, List.append_nil] at hdr
    refine ⟨_, rfl, q l H' hsame (by rw [← hdr]; exact hl') hl⟩
end
end K7
namespace L2
open PySem PySem.Spec PyProof.Rows
section
variable {κ : Type} [DecidableEq κ]
end
section
variable {P : Program} {w : World} {H : Hp} {h : Heap} {a : Addr}
end
section
variable {X : Cx} {pins : List (Addr × Obj)} {σ : St} {H : Hp} {s : Shared} {a : Addr} {y v : V} {u r : Value} {o : Option V} {A : Around} {E : Value → Shared → Prop}
end
section
variable {X : Cx} {pins : List (Addr × Obj)} {σ : St} {H : Hp} {s : Shared} {a : Addr} {kvs : List (Key × V)} {k : Key} {u : Value} {A : Around} {E : Value → Shared → Prop}
end
section
variable {X : Cx} {o i e value : Expr} {pos pos' tpos : Pos} {td ty tv : TE}
end
section
variable {X : Cx} {pos : Pos}
end
section
variable {X : Cx} {pins : List (Addr × Obj)} {σ : St} {H : Hp} {s : Shared} {a : Addr} {y d : V} {u r : Value} {o : Option V} {A : Around} {E : Value → Shared → Prop}
end
section
variable {X : Cx} {o e f : Expr} {apos cpos : Pos} {td ty tx : TE}
end
section
variable {X : Cx} {pins : List (Addr × Obj)} {σ : St} {H : Hp} {s : Shared} {a : Addr} {kvs : List (Key × V)} {A : Around} {E : Value → Shared → Prop}
end
section
variable {X : Cx} {pins : List (Addr × Obj)} {σ : St} {H : Hp} {s : Shared} {a : Addr} {y : V} {u : Value} {A : Around} {E : Value → Shared → Prop}
end
end L2
namespace L2
open PySem PySem.Spec PyProof.Rows
section
variable {X : Cx}
theorem Same.seqT {K : PySem.W.Frag} {H H' : Hp} {a : Addr} {xs : List V} (e : Same H H') (h : SqT K H a xs) : SqT K H' a xs := by
  rcases h with (h | ⟨o, h⟩) | h
  · exact .inl (.inl (e _ _ h))
  · exact .inl (.inr ⟨o, e _ _ h⟩)
  · exact .inr h
end
section
variable {X : Cx} {tg : Expr}
end
end L2
namespace TM
inductive Tree (α : Type) where
  | node (name : α) (mark : Int) (bs : List (Tree α))
variable {α : Type}
structure Rows (α : Type) where
  n : Nat
  nm : Nat → α
  mr : Nat → Int
  up : Nat → Nat
variable {R : Rows α}
section
variable {K : Nat → List Int} {B : Nat → Tree α} {o0 : Tree α}
def it (R : Rows α) : Nat → Nat → Nat
  | 0, s => s
  | j + 1, s => R.up (it R j s)
variable {B' : Nat → Tree α} {o : Tree α} {s : Nat}
end
end TM
namespace L2
open PySem PySem.Spec PyProof.Rows TM
theorem SqT.put {K : PySem.W.Frag} {H : Hp} {a d : Addr} {xs ys : List V} {o : HO} (h : SqT K H a xs) (hd : H d = some (.lst ys)) : SqT K (upd H d o) a xs := by
  rcases h with (h | ⟨ob, h⟩) | h
  · exact .inl (.inl (by rw [upd_ne (ne_of h hd (by intro z; cases z))]; exact h))
  · exact .inl (.inr ⟨ob, by rw [upd_ne (ne_of h hd (by intro z; cases z))]; exact h⟩)
  · exact .inr h
end L2
namespace L2
open PySem
def SameX (x : Addr) (H H' : Hp) : Prop := ∀ b u, b ≠ x → H b = some u → H' b = some u
theorem SameX.trans {x : Addr} {H H1 H2 : Hp} (a : SameX x H H1) (b : SameX x H1 H2) : SameX x H H2 := fun c u n e => b c u n (a c u n e)
theorem SameX.of {x : Addr} {H H' : Hp} (h : Same H H') : SameX x H H' := fun b u _ e => h b u e
theorem SameX.upd {x : Addr} {H : Hp} {o : HO} : SameX x H (upd H x o) := fun b u n e => by rw [upd_ne n]; exact e
theorem put_no {f g : Str} {v y : V} {r : List (Str × V)} (h : ¬ g = f) : putF f v ((g, y) :: r) = (g, y) :: putF f v r := by
  show (if g = f then _ else _) = _
  rw [if_neg h]
theorem put_yes {f : Str} {v y : V} {r : List (Str × V)} : putF f v ((f, y) :: r) = (f, v) :: r := by
  show (if f = f then _ else _) = _
  rw [if_pos rfl]
end L2
namespace L2
open PySem PySem.Spec PyProof.Rows
def lamArgs (e : Expr) : Arguments := match e with
  | .Lambda a _ _ _ => a
  | _ => { posonlyargs := [], args := [], vararg := none, kwonlyargs := [], kw_defaults := [], kwarg := none, defaults := [] }
def lamBody (e : Expr) : Expr := match e with
  | .Lambda _ b _ _ => b
  | _ => e
def lamScope (e : Expr) : Scope := match e with
  | .Lambda _ _ s _ => s
  | _ => { kind := .function, names := [], isGenerator := false, isCoroutine := false }
def lamPos (e : Expr) : Pos := match e with
  | .Lambda _ _ _ p => p
  | _ => ⟨0, 0, 0, 0⟩
def retOf (s : Stmt) : Expr := match (defBody s).getLast? with
  | some (.Return (some e) _) => e
  | _ => .Name "" ⟨0, 0, 0, 0⟩
def argOf (e : Expr) (i : Nat) : Expr := match e with
  | .Call _ as _ _ => as.getD i e
  | _ => e
def LamO (f : Addr) (fd : FuncData) : HO := .ext fun h => h.get? f = some { cls := .type "function", data := .func fd }
def CodO (c : Addr) (qual : Str) : HO := .ext fun h => h.CodeRec (.ref c) qual
def TbS (H : Hp) (T : Addr) (pos : Pos) (qual : Str) : Prop := H T = some (.tbl #[]) ∨ ∃ c, H T = some (.tbl #[rawInt pos.line, rawInt pos.col, .ref c]) ∧ H c = some (CodO c qual)
theorem TbS.at {H : Hp} {T : Addr} {pos : Pos} {qual : Str} (h : TbS H T pos qual) : ∃ ps, H T = some (.tbl ps) := by
  rcases h with h | ⟨c, h, _⟩
  · exact ⟨_, h⟩
  · exact ⟨_, h⟩
theorem TbS.same {H H' : Hp} {T : Addr} {pos : Pos} {qual : Str} (g : Same H H') (h : TbS H T pos qual) : TbS H' T pos qual := by
  rcases h with h | ⟨c, h, h2⟩
  · exact .inl (g _ _ h)
  · exact .inr ⟨c, g _ _ h, g _ _ h2⟩
theorem TbS.sameX {H H' : Hp} {T U : Addr} {pos : Pos} {qual : Str} {ps : Array Value} (hU : H U = some (.tbl ps)) (ne : T ≠ U) (g : SameX U H H') (h : TbS H T pos qual) : TbS H' T pos qual := by
  rcases h with h | ⟨c, h, h2⟩
  · exact .inl (g _ _ ne h)
  · exact .inr ⟨c, g _ _ ne h, g _ _ (ne_of h2 hU (by intro z; cases z)) h2⟩
def BtAt (mg : Str → Option Value) (base : Heap) : Prop := ∃ bm o, mg "__builtins__" = some (.ref bm) ∧ bm ≠ builtinsNs ∧ bm ≠ mainGlobals ∧ base.get? bm = some o ∧ o.cls = .type "module" ∧ o.dict = some builtinsNs ∧ o.data = .plain
section
variable {X : Cx}
theorem ext_lam {P : Program} {w : World} {H : Hp} {h : Heap} {f : Addr} {fd : FuncData} (e : h.get? f = some { cls := .type "function", data := .func fd }) : ObjOk P w H h f (LamO f fd) := ⟨e, ⟨_, e⟩, fun _ _ e1 k => k _ e1⟩
theorem ext_cod {P : Program} {w : World} {H : Hp} {h : Heap} {c : Addr} {qual : Str} (e : h.CodeRec (.ref c) qual) : ObjOk P w H h c (CodO c qual) := by
  refine ⟨e, ?_, fun h1 h2 e1 k => ?_⟩
  · obtain ⟨c', oc, vs, tq, z, hoc, _⟩ := e
    cases z
    exact ⟨_, hoc⟩
  · obtain ⟨c', oc, vs, tq, z, hoc, r⟩ := e1
    cases z
    exact ⟨c, oc, vs, tq, rfl, k _ hoc, r⟩
end
end L2
namespace L2
open PySem PySem.Spec PyProof.Rows
section
variable {X : Cx}
end
section
variable {P : Program} {w : World} {K : PySem.W.Frag} {mg : Str → Option Value} {base : Heap}
theorem code_of {x : Str} {f c T : Addr} {oc : Value} {od : Option Addr} {fd : FuncData} {sl : Array (Option Value)} (hn : PySem.W.nsIn K mainGlobals x = some (some (.ref f))) (lk : K.lookup f = some ⟨oc, od, .func fd, sl⟩) (h : PySem.W.tabIn K x = some (c, T)) : fd.code = .ref c := by
  unfold PySem.W.tabIn at h
  rw [hn] at h
  simp only [lk] at h
  split at h
  · rename_i c2 hc
    split at h
    · split at h
      · cases h; exact hc
      · cases h
    · cases h
  · cases h
theorem Fun.okC {x qual : Str} {st : Stmt} {f c T : Addr} {fd : FuncData} {N ps : List Str} {k : Nat} {sp : Sp} (F : Fun K x qual st f fd) (hn : PySem.W.nsIn K mainGlobals x = some (some (.ref f))) (hT : PySem.W.tabIn K x = some (c, T)) (S : FnScope N ps (defScope st)) (len : ∀ vs H Q E, sp vs H Q E → vs.length = ps.length)
    (hbody : ∀ (A : Around) (outer : List Env) (s : Shared) (H : Hp) (vs : List V) (Q : VK) (E : XK), Room k (A.deeper (envOfC qual (defScope st) s.heap.objs.size f (.ref c))) → sp vs H Q E →
      ∃ t, PSs (cxOf CX0 P w K mg base N qual (defScope st) f (.ref c) A outer s H E).nox (defBody st) t ∧ t { nx := fun _ H' => Q .non H', rt := Q } (start N vs) H) : FnOk P w K mg base CX0 (k + 1) f fd ps sp := by
  obtain ⟨oc, od, kV, doc, pm, an, cdv, ct, osl, rfl, lk, hcd⟩ := F.ex
  have e : cdv = .ref c := code_of hn lk hT
  subst e
  refine fn_of lk hcd S len fun A outer s H vs Q E hr hsp => ?_
  obtain ⟨t, h, q⟩ := hbody A outer s H vs Q E hr hsp
  exact ⟨t, h.nox, q⟩
end
end L2
namespace L2
open PySem PySem.Spec PyProof.Rows
def hidF (h : Heap) (H : Hp) (l : List Addr) : Heap := PySem.W.hideAll h (trk h H ++ l)
theorem hidF_size (h : Heap) (H : Hp) (l : List Addr) : (hidF h H l).objs.size = h.objs.size := PySem.W.hideAll_size _ _
theorem hidF_get {h : Heap} {H : Hp} {l : List Addr} {b : Addr} {o : Obj} (e : h.get? b = some o) (n : H b = none) (m : b ∉ l) : (hidF h H l).get? b = some o :=
  PySem.W.hideAll_get _ e fun hm => by
    rcases List.mem_append.mp hm with hm | hm
    · have q : (H b).isSome = true := (List.mem_filter.mp hm).2
      rw [n] at q; simp at q
    · exact m hm
theorem of_hidF {h : Heap} {H : Hp} {l : List Addr} {b : Addr} {o : Obj} (e : (hidF h H l).get? b = some o) : h.get? b = some o ∧ H b = none ∧ b ∉ l := by
  have e' : h.get? b = some o := PySem.W.of_hideAll (trk h H ++ l) e
  have no : ∀ m : b ∈ trk h H ++ l, False := fun m => by
    have z : (hidF h H l).get? b = none := PySem.W.hideAll_none (trk h H ++ l) m
    rw [z] at e; cases e
  refine ⟨e', ?_, fun m => no (List.mem_append_right _ m)⟩
  cases q : H b with
  | none => rfl
  | some x => exact (no (List.mem_append_left _ (List.mem_filter.mpr ⟨List.mem_range.mpr (Heap.lt_size e'), by simp [q]⟩))).elim
def Sub (g h : Heap) : Prop := ∀ b o, g.get? b = some o → h.get? b = some o
theorem Mod.sub {K : PySem.W.Frag} {mg : Str → Option Value} {g h : Heap} (s : Sub g h) (m : Mod K mg g) : Mod K mg h :=
  ⟨m.kin.keeps s, m.glob.keeps s, let ⟨mb, hb, q⟩ := m.blt; ⟨mb, hb.keeps s, q⟩, m.nolimit.keeps s⟩
theorem BtAt.sub {mg : Str → Option Value} {g h : Heap} (s : Sub g h) (b : BtAt mg g) : BtAt mg h := by
  obtain ⟨bm, ob, b1, b2, b3, b4, r⟩ := b
  exact ⟨bm, ob, b1, b2, b3, s _ _ b4, r⟩
theorem funs_to {h g base : Heap} : ∀ {l : List Env}, h.FunFrames base l → (∀ b ∈ frs l, g.get? b = none) → h.FunFrames g l
  | [], _, _ => trivial
  | env :: rest, hf, hn => by
    obtain ⟨h1, ⟨L, o, e1, e2, e3, e4⟩, r⟩ := hf
    refine ⟨h1, ⟨L, o, e1, hn L ?_, e3, e4⟩, funs_to r fun b hb => hn b ?_⟩
    · exact List.mem_filterMap.mpr ⟨env, List.mem_cons_self, e1⟩
    · obtain ⟨e, he, q⟩ := List.mem_filterMap.mp hb
      exact List.mem_filterMap.mpr ⟨e, List.mem_cons_of_mem _ he, q⟩
theorem Env0.sub {P : Program} {w : World} {K : PySem.W.Frag} {mg : Str → Option Value} {base : Heap} {A : Around} {outer : List Env} {s : Shared} {H : Hp} (e : Env0 P w K mg base A outer s H) : Sub base (hidF s.heap H (frs outer)) := fun b o h =>
  hidF_get (e.bs b o h).1 (e.bs b o h).2 fun m => by
    have := (e.funs.mem m).1
    rw [h] at this; cases this
theorem Env0.big {P : Program} {w : World} {K : PySem.W.Frag} {mg : Str → Option Value} {base : Heap} {A : Around} {outer : List Env} {s : Shared} {H : Hp} (e : Env0 P w K mg base A outer s H) : Env0 P w K mg (hidF s.heap H (frs outer)) A outer s H :=
  ⟨e.frames, e.mod.sub e.sub, fun b o h => ⟨(of_hidF h).1, (of_hidF h).2.1⟩, Nat.le_of_eq (hidF_size _ _ _), funs_to e.funs fun b hb => by
    cases q : (hidF s.heap H (frs outer)).get? b with
    | none => rfl
    | some o => exact absurd hb (of_hidF q).2.2, e.frf, e.hok, e.bare⟩
def Cells (X : Cx) (σ : St) (g : Heap) : Prop := ∀ (i : Nat) (x : Str) (v : V), X.N[i]? = some x → σ[i]? = some (some v) → X.env.scope.names.lookup x = some .cell → ∃ c u, X.env.cells.lookup x = some c ∧ g.IsCell c (some u) ∧ RelV v u
section
variable {X : Cx} {pins : List (Addr × Obj)} {σ : St} {H : Hp} {s : Shared}
theorem Inv.cells (I : Inv X pins σ H s) (hfn : ∀ x, X.fn x = true) : Cells X σ (hidF s.heap H (frs X.stack)) := by
  intro i x v h1 h2 h3
  obtain ⟨m, hns, hl⟩ := I.loc
  obtain ⟨u, rv, lk⟩ := hl i x v h1 h2 (.inr (.inl h3))
  rcases lk with ⟨k, _⟩ | ⟨_, c, hc, ic⟩
  · have k' : X.env.scope.names.lookup x = some .local := k
    rw [h3] at k'; cases k'
  refine ⟨c, u, hc, ?_, rv⟩
  obtain ⟨o, ho, r⟩ := ic
  refine ⟨o, hidF_get ho (I.freeC x c hc) (fun m => ?_), r⟩
  have hge := I.ok.cab x c (hfn x) hc
  have lt : ∀ b ∈ frs X.outer, b < X.s₀.heap.objs.size := fun b hb => by
    obtain ⟨_, o', ho', _⟩ := I.ok.funs.mem hb
    exact Heap.lt_size ho'
  rcases I.ok.stk with e | ⟨e, e2⟩
  · rw [e] at m
    exact absurd (lt c m) (Nat.not_lt.mpr hge)
  · rw [e] at m
    rcases List.mem_filterMap.mp m with ⟨env, he, hf⟩
    rcases List.mem_cons.mp he with rfl | he
    · rw [e2] at hf
      obtain rfl := Option.some.inj hf
      obtain ⟨o2, es, ep, h5, h6, _⟩ := hns
      rw [h5] at ho
      obtain rfl := Option.some.inj ho
      rw [h6] at r
      cases r
    · exact absurd (lt c (List.mem_filterMap.mpr ⟨env, he, hf⟩)) (Nat.not_lt.mpr hge)
end
abbrev lamFnC (qual : Str) (e : Expr) (cl : List (Str × Addr)) (pm : Value) (c : Addr) (ctv : Value) : FuncData := PySem.W.kla_fn "<lambda>" qual (lamArgs e) (lamBody e) (lamScope e) cl pm (.ref c) ctv
structure LamAtC (H : Hp) (f : Addr) (e : Expr) (cl : List (Str × Addr)) : Prop where
  ex : ∃ qual pm c ctv, H f = some (LamO f (lamFnC qual e cl pm c ctv)) ∧ H c = some (CodO c qual)
theorem LamAtC.same {H H' : Hp} {f : Addr} {e : Expr} {cl : List (Str × Addr)} (g : Same H H') (h : LamAtC H f e cl) : LamAtC H' f e cl := by
  obtain ⟨q, pm, c, ctv, h1, h2⟩ := h.ex
  exact ⟨q, pm, c, ctv, g _ _ h1, g _ _ h2⟩
def tLamC (T : Addr) (qual : Str) (e : Expr) (cl : List (Str × Addr)) : TE := fun σ H Q => TbS H T (lamPos e) qual ∧ ∀ f H', SameX T H H' → H f = none → LamAtC H' f e cl → TbS H' T (lamPos e) qual → Q (.ref f) H'
section
variable {X : Cx}
theorem pe_lamC {cl : List (Str × Addr)} {a : Arguments} {b : Expr} {sc : Scope} {pos : Pos} {c T : Addr} (hcode : X.env.code = .ref c) (hC : PySem.W.codeHdIn X.K c T = true) (hB : BtAt X.mg X.base) (hcl : closureFor sc X.env = pure cl := by rfl) (hdef : defaultsOf a X.env = ([], []) := by rfl) :
    PE X (.Lambda a b sc pos) (tLamC T (X.env.qual ++ "<lambda>") (.Lambda a b sc pos) cl) := by
  intro pins s σ H Q I h
  obtain ⟨ht, q⟩ := h
  obtain ⟨ps0, hT⟩ := ht.at
  obtain ⟨bm, ob, b1, b2, b3, b4, b5, b6, b7⟩ := hB
  have hbT : bm ≠ T := fun z => by have := (I.bs _ _ b4).2; rw [z, hT] at this; cases this
  have hg : s.heap.Ns mainGlobals X.mg := I.mod.glob.keeps I.bk
  have hgT : mainGlobals ≠ T := fun z => by
    obtain ⟨o, es, ep, e, _⟩ := I.mod.glob
    have := (I.bs _ _ e).2
    rw [z, hT] at this; cases this
  have hb : s.heap.BuiltinsAt X.mg T := ⟨bm, ob, b1, b2, b3, hbT, I.bk _ _ b4, b5, b6, b7⟩
  have hCd : PySem.W.CodeHd s.heap c T := PySem.W.codeHd_of_K I.kIn hC
  have hLT : X.env.locals ≠ T := fun z => by have := I.free; rw [z, hT] at this; cases this
  refine PySem.W.kla_eval hdef ?_
  rcases ht with h0 | ⟨c', h0, hc'⟩
  · have hP : s.heap.get? T = some (PySem.W.tabObj #[]) := I.hok T _ h0
    refine PySem.W.kla_makeFunction (mg := X.mg) hcl I.ok.glob hg hcode hCd hP trivial rfl hgT hb fun c' ctv h' tk hx hge hlt hrec htb => ?_
    obtain ⟨qual, hqual⟩ : ∃ qual, qual = X.env.qual ++ "<lambda>" := ⟨_, rfl⟩
    rw [← hqual] at hrec ⊢
    have hHc : H c' = none := I.hok.fresh hge
    have hHf : H h'.objs.size = none := I.hok.fresh (Nat.le_of_lt (Nat.lt_of_le_of_lt hge hlt))
    have nTc : T ≠ c' := ne_of_none h0 hHc
    have nTf : T ≠ h'.objs.size := ne_of_none h0 hHf
    have ncf : c' ≠ h'.objs.size := Nat.ne_of_lt hlt
    obtain ⟨fd, hfd⟩ : ∃ fd : FuncData, fd = lamFnC qual (.Lambda a b sc pos) cl ((X.mg "__name__").getD .none) c' ctv := ⟨_, rfl⟩
    have hob : PySem.W.kla_obj "<lambda>" qual a b sc cl ((X.mg "__name__").getD .none) c' ctv = { cls := .type "function", data := .func fd } := by rw [hfd]; rfl
    rw [hob]
    obtain ⟨ps, hps⟩ : ∃ ps : Array Value, ps = #[rawInt pos.line, rawInt pos.col, .ref c'] := ⟨_, rfl⟩
    have htb' : h'.get? T = some { cls := .none, data := .fields ps } := by rw [hps]; exact htb
    obtain ⟨H', hH'⟩ : ∃ H' : Hp, H' = upd (upd (upd H T (.tbl ps)) c' (CodO c' qual)) h'.objs.size (LamO h'.objs.size fd) := ⟨_, rfl⟩
    have eF : H' h'.objs.size = some (LamO h'.objs.size fd) := by rw [hH']; exact upd_same
    have eC : H' c' = some (CodO c' qual) := by rw [hH', upd_ne ncf]; exact upd_same
    have eT : H' T = some (.tbl ps) := by rw [hH', upd_ne nTf, upd_ne nTc]; exact upd_same
    have eO : ∀ x, x ≠ T → x ≠ c' → x ≠ h'.objs.size → H' x = H x := fun x n1 n2 n3 => by rw [hH', upd_ne n3, upd_ne n2, upd_ne n1]
    have eK : ∀ x u, H x = some u → x ≠ T → H' x = some u := fun x u e n1 => by rw [eO x n1 (ne_of_none e hHc) (ne_of_none e hHf)]; exact e
    have hpush : ∀ x o, h'.get? x = some o → (h'.push { cls := .type "function", data := .func fd }).get? x = some o := fun x o e => Heap.get?_push_of_some _ e
    have J : Inv X pins σ H' { s with heap := h'.push { cls := .type "function", data := .func fd }, toks := tk } := by
      refine I.step (g' := s.gens) (d' := s.drawn) (ch := []) (fun _ z => nomatch z) (fun x o _ _ _ e n => ?_) (fun x o _ _ _ e n => ?_) (fun x o _ e n => ?_) (fun x o _ e => ?_) (fun x xs e => ?_) (fun x o u e => ?_) (fun x qs e => ?_) (fun m hn => ?_) (fun x o e => ?_) I.bare
      · exact hpush _ _ (hx _ _ (fun z => by rw [z, hT] at n; cases n) e)
      · exact ⟨o.slots, hpush _ _ (hx _ _ (fun z => by rw [z, hT] at n; cases n) e)⟩
      · have lx := Heap.lt_size e
        rw [eO x (fun z => by rw [z, hT] at n; cases n) (Nat.ne_of_lt (Nat.lt_of_lt_of_le lx hge)) (Nat.ne_of_lt (Nat.lt_trans (Nat.lt_of_lt_of_le lx hge) hlt))]
        exact n
      · by_cases z : x = T
        · exact ⟨_, hpush _ _ (z ▸ htb')⟩
        · exact ⟨o, hpush _ _ (hx _ _ z e)⟩
      · exact eK x _ e (ne_of e h0 (by intro z; cases z))
      · exact eK x _ e (ne_of e h0 (by intro z; cases z))
      · by_cases z : x = T
        · subst z
          rw [h0] at e
          cases e
          exact ⟨ps, by rw [eT]; simp⟩
        · exact ⟨#[], by rw [eK x _ e z]; simp⟩
      · exact (hn.extBut hx hLT).push _
      · by_cases z1 : x = h'.objs.size
        · subst z1
          rw [eF] at e
          cases e
          exact ext_lam (Heap.get?_push_size _ rfl)
        by_cases z2 : x = c'
        · subst z2
          rw [eC] at e
          cases e
          refine ext_cod ?_
          obtain ⟨c2, oc, vs, tq, z, hoc, r⟩ := hrec
          exact ⟨c2, oc, vs, tq, z, hpush _ _ hoc, r⟩
        by_cases z3 : x = T
        · subst z3
          rw [eT] at e
          cases e
          exact hpush _ _ htb'
        rw [eO x z3 z2 z1] at e
        refine (I.hok x o e).stay (fun y u hy r => ?_) (fun y r => ?_) fun y xs r => ?_
        · refine hpush _ _ (hx _ _ (fun z => ?_) r)
          rcases hy with hy | hy
          · exact z3 (hy.symm.trans z)
          · rw [z, hT] at hy; cases hy
        · exact eK y _ r (ne_of r h0 (by intro z; cases z))
        · exact eK y _ r (ne_of r h0 (by intro z; cases z))
    refine ⟨.ref h'.objs.size, H', J, rfl, q h'.objs.size H' (fun x u n e => eK x u e n) hHf ⟨qual, _, c', ctv, by rw [eF, hfd], eC⟩ ?_⟩
    refine .inr ⟨c', ?_, by rw [← hqual]; exact eC⟩
    rw [eT, hps]; rfl
  · have hP : s.heap.get? T = some (PySem.W.tabObj #[rawInt pos.line, rawInt pos.col, .ref c']) := I.hok T _ h0
    have hf : codeAmong pos (#[rawInt pos.line, rawInt pos.col, Value.ref c'] : Array Value).toList = some (.ref c') := by
      show (if ((pos.line : Int) == (pos.line : Int) && (pos.col : Int) == (pos.col : Int)) = true then some (Value.ref c') else _) = _
      simp
    refine PySem.W.kla_makeFunctionHit (mg := X.mg) hcl I.ok.glob hg hcode hCd hP trivial hf hb fun ctv h' tk hk hsz => ?_
    obtain ⟨qual, hqual⟩ : ∃ qual, qual = X.env.qual ++ "<lambda>" := ⟨_, rfl⟩
    rw [← hqual]
    have hHf : H h'.objs.size = none := I.hok.fresh hsz
    refine ⟨.ref h'.objs.size, upd H h'.objs.size (LamO h'.objs.size (lamFnC qual (.Lambda a b sc pos) cl ((X.mg "__name__").getD .none) c' ctv)), I.laid (t' := tk) (fun x o e => Heap.get?_push_of_some _ (hk _ _ e)) hsz (ext_lam (Heap.get?_push_size _ rfl)), rfl, ?_⟩
    have g := same_new hHf (LamO h'.objs.size (lamFnC qual (.Lambda a b sc pos) cl ((X.mg "__name__").getD .none) c' ctv))
    refine q h'.objs.size _ (SameX.of g) hHf ⟨qual, _, c', ctv, upd_same, g _ _ (by rw [hqual]; exact hc')⟩ (.inr ⟨c', g _ _ h0, g _ _ hc'⟩)
end
end L2
namespace L2
open PySem PySem.Spec PyProof.Rows
abbrev envL (qual : Str) (scope : Scope) (cl : List (Str × Addr)) (L f : Addr) (cd : Value) : Env := newEnv scope L mainGlobals cl (qual ++ Str.ofString ".<locals>.") (some f) cd none builtinsNs
def cxL (CX : CXT) (P : Program) (w : World) (K : PySem.W.Frag) (mg : Str → Option Value) (base : Heap) (N : List Str) (qual : Str) (scope : Scope) (cl : List (Str × Addr)) (f : Addr) (cd : Value) (A : Around) (outer : List Env) (s : Shared) (H : Hp) (E : XK) : Cx :=
  { prog := P, w := w, K := K, mg := mg, base := base, A := A.deeper (envL qual scope cl s.heap.objs.size f cd), N := N, s₀ := s, H₀ := H, env := envL qual scope cl s.heap.objs.size f cd, outer := outer, stack := envL qual scope cl s.heap.objs.size f cd :: outer, ex := [], fn := fun _ => false, calm := true, pn := [],
    xe := fun e s' => wpAny (model P w) (A.deeper (envL qual scope cl s.heap.objs.size f cd)) (leaving (envL qual scope cl s.heap.objs.size f cd) e) (fun _ s'' => CX outer H s E e s'') (fun e' s'' => CX outer H s E e' s'') s' }
structure ClAt (base : Heap) (N : List Str) (cl : List (Str × Addr)) (vs : List V) : Prop where
  len : vs.length = N.length
  val : ∀ (i : Nat) (x : Str) (v : V), N[i]? = some x → vs[i]? = some v → ∃ c u, cl.lookup x = some c ∧ base.IsCell c (some u) ∧ RelV v u
  cel : ∀ x c, cl.lookup x = some c → ∃ u, base.IsCell c u
  inj : ∀ x y c, cl.lookup x = some c → cl.lookup y = some c → x = y
def CalC (P : Program) (w : World) (K : PySem.W.Frag) (mg : Str → Option Value) (base : Heap) (k : Nat) (e : Expr) (cl : List (Str × Addr)) (sp : Sp) : Prop :=
  ∀ (f : Addr) (A : Around) (outer : List Env) (s : Shared) (H : Hp) (Q : VK) (E : XK), Room k A → Env0 P w K mg base A outer s H → LamAtC H f e cl → sp [] H Q E →
    codeAny (model P w) A (.call (.ref f) ⟨[], []⟩) (CR CX0 outer P w H s Q E) s
theorem lam_runC {P : Program} {w : World} {K : PySem.W.Frag} {mg : Str → Option Value} {base : Heap} {k : Nat} {e : Expr} {cl : List (Str × Addr)} {N : List Str} {vs : List V} {sp : Sp} (hk : (lamScope e).kind = ScopeKind.function) (hco : (lamScope e).isCoroutine = false) (hge : (lamScope e).isGenerator = false) (hfree : ∀ y ∈ (lamScope e).names, y.2 ≠ NameKind.cell ∧ y.2 ≠ NameKind.local)
    (hN : ∀ x, (lamScope e).names.lookup x = some .free → ∃ c, cl.lookup x = some c) (hC : ClAt base N cl vs)
    (hbind : ∀ (qual : Str) (pm : Value) (c : Addr) (ctv : Value), bindArgs (lamFnC qual e cl pm c ctv) ⟨[], []⟩ = pure [])
    (hbody : ∀ (qual : Str) (f c : Addr) (A : Around) (outer : List Env) (s : Shared) (H : Hp) (Q : VK) (E : XK), Room k (A.deeper (envL qual (lamScope e) cl s.heap.objs.size f (.ref c))) → sp [] H Q E →
      ∃ t, PE (cxL CX0 P w K mg base N qual (lamScope e) cl f (.ref c) A outer s H E).nox (lamBody e) t ∧ t (vs.map some) H Q) : CalC P w K mg base (k + 1) e cl sp := by
  intro f A outer s H Q E hr e0 hL hsp
  obtain ⟨qual, pm, c, ctv, hf, hc⟩ := hL.ex
  have hfo : s.heap.get? f = some { cls := .type "function", data := .func (lamFnC qual e cl pm c ctv) } := (e0.hok f _ hf).1
  have hrec : s.heap.CodeRec (.ref c) qual := (e0.hok c _ hc).1
  have lim : s.heap.NoLimit := e0.mod.nolimit.keeps fun b o e => (e0.bs b o e).1
  refine PySem.W.kla_callFunE hr.depth hfo rfl hco hge rfl hrec ?_
  rw [hbind qual pm c ctv]
  refine wpAny_pure ?_
  refine wpAny_newFunctionEnv (fun y hy => (hfree y hy).1) (by intro y hy; simp at hy) (fun h1 hns hsb => ?_) hk
  have keep : ∀ b o, s.heap.get? b = some o → h1.get? b = some o := fun b o e => (hsb.2 b (Nat.ne_of_lt (Heap.lt_size e))).trans (Heap.get?_push_of_some _ e)
  refine ⟨lim.keeps keep, PySem.W.kla_codeExpr ?_⟩
  obtain ⟨t, ht, hq⟩ := hbody qual f c A outer s H Q E (hr.deeper _) hsp
  have inb : ∀ {x : Str} {cc : Addr} {u : Option Value}, base.IsCell cc u → h1.IsCell cc u ∧ H cc = none ∧ cc < s.heap.objs.size := fun {x cc u} ⟨o, ho, r⟩ => ⟨⟨o, keep _ _ (e0.bs _ _ ho).1, r⟩, (e0.bs _ _ ho).2, Heap.lt_size (e0.bs _ _ ho).1⟩
  have noA : ∀ b : Addr, b ∉ (cxL CX0 P w K mg base N qual (lamScope e) cl f (.ref c) A outer s H E).ex := fun b z => absurd (show b ∈ ([] : List Addr) from z) (by simp)
  have I : Inv (cxL CX0 P w K mg base N qual (lamScope e) cl f (.ref c) A outer s H E) [] (vs.map some) H { s with heap := h1, toks := s.toks + 0 } := by
    refine ⟨⟨e0.mod, hk, rfl, rfl, Nat.le_refl _, fun y z cc h1 h2 => hC.inj y z cc h1 h2, fun y hy => ?_, fun y cc h _ => ?_, fun _ => hr.hd, Around.frames_deeper e0.frames, .inr ⟨rfl, rfl⟩, fun b z => absurd z (noA b), e0.bs, e0.bsz, fun b _ _ => noA b, fun b z => absurd z (noA b), e0.funs, e0.frf⟩,
      rfl, e0.bare, Un.kept keep, ⟨_, hns, fun i y v h1 h2 h3 => ?_⟩, fun y cc h => ?_, e0.hok.fresh (Nat.le_refl _), fun y cc h => ?_, fun p hp => absurd (show p ∈ ([] : List (Addr × Obj)) from hp) (by simp), e0.hok.kept keep, ?_⟩
    · have hy : (lamScope e).names.lookup y = some .cell ∨ (lamScope e).names.lookup y = some .free := hy
      rcases hy with hy | hy
      · exact absurd rfl (hfree _ (PySem.mem_of_lookup hy)).1
      · exact hN y hy
    · cases h
    · have hv : vs[i]? = some v := by
        rw [List.getElem?_map] at h2
        cases q : vs[i]? with
        | none => rw [q] at h2; cases h2
        | some a => rw [q] at h2; cases h2; rfl
      obtain ⟨cc, u, e1, e2, e3⟩ := hC.val i y v h1 hv
      have h3 : (lamScope e).names.lookup y = some .local ∨ (lamScope e).names.lookup y = some .cell ∨ (lamScope e).names.lookup y = some .free := h3
      rcases h3 with k | k | k
      · exact absurd rfl (hfree _ (PySem.mem_of_lookup k)).2
      · exact absurd rfl (hfree _ (PySem.mem_of_lookup k)).1
      · exact ⟨u, e3, .inr ⟨.inr k, cc, e1, (inb (x := y) e2).1⟩⟩
    · obtain ⟨u, hu⟩ := hC.cel y cc h
      exact ⟨u, (inb (x := y) hu).1⟩
    · obtain ⟨u, hu⟩ := hC.cel y cc h
      exact (inb (x := y) hu).2.1
    · rw [List.length_map]; exact hC.len
  refine wpAny_mono (ht.nox [] _ (vs.map some) H _ I hq) (fun u s' hs => ?_) fun e s' hs => hs
  obtain ⟨v, H', J, rv, q⟩ := hs
  exact ⟨v, H', J.os, J.bare, J.base, J.hok, rv, q⟩
def tCallV0 (i : Nat) (e : Expr) (cl : List (Str × Addr)) (sp : Sp) : TE := fun σ H Q => ∃ f, σ[i]? = some (some (.ref f)) ∧ LamAtC H f e cl ∧ sp [] H Q E0
section
variable {X : Cx}
theorem pe_callV0 {i : Nat} {x : Str} {e : Expr} {cl : List (Str × Addr)} {sp : Sp} {k : Nat} {p pos : Pos} (C : CalC X.prog X.w X.K X.mg X.base k e cl sp) (hr : Room k X.A) (hN : X.N[i]? = some x := by rfl) (hv : Vis X.env.scope x := by first | exact Or.inl rfl | exact Or.inr (Or.inl rfl) | exact Or.inr (Or.inr rfl))
    (hd : (x == ("__debug__" : Str)) = false := by decide) (hcd : (x == ("__classdict__" : Str)) = false := by decide) :
    PE X (.Call (.Name x p) [] [] pos) (tCallV0 i e cl sp) := by
  intro pins s σ H Q I h
  obtain ⟨f, hs, hL, q2⟩ := h
  refine wpAny_Call_Name_kw (thn (pe_var (pos := p) hN hv hd hcd pins s σ H (fun v H1 => v = .ref f ∧ H1 = H) I ⟨.ref f, hs, rfl, rfl⟩) fun u s1 ⟨v, H1, I1, r1, ev, eH⟩ => ?_)
  subst ev eH
  obtain rfl : u = Value.ref f := r1
  refine PySem.W.callWith_of (P := fun h => ∃ fd, h.get? f = some { cls := .type "function", data := .func fd }) rfl
    (fun h ⟨fd, hf⟩ => ⟨.frame, .inl rfl, (PySem.W.Looks.ld (part := none) hf).andThen .now⟩) (PySem.evalArgs_none ⟨?_, ?_⟩)
  · obtain ⟨qual, pm, c, ctv, hf, hc⟩ := hL.ex
    exact ⟨_, (I1.hok f _ hf).1⟩
  · refine wpAny_call (codeAny_mono (C f X.A X.stack s1 H1 Q E0 hr I1.env0 hL q2) fun r s' hq => ?_)
    cases r with
    | error e => exact hq.elim
    | ok fl =>
      cases fl with
      | ret u => exact I1.after hq
      | next => exact False.elim hq
      | brk => exact False.elim hq
      | cont => exact False.elim hq
def tMethB (X : Cx) (C : Addr) (m : Str) (sp : Heap → Sp) (dvs : List V) (ta : TE) (t : TA) : TE := fun σ H Q => ta σ H fun x H1 => ∃ a dx fs, x = .ref a ∧ H1 a = some (.ins C dx fs) ∧ fs.lookup m = none ∧
  t σ H1 fun vs H2 => ∀ g : Heap, Sub X.base g → Cells X σ g → sp g (.ref a :: vs ++ dvs) H2 Q E0
theorem run_fnB {f : Addr} {fd : FuncData} {k : Nat} {ps : List Str} {ds : List Value} {dvs : List V} {sp : Heap → Sp} {pins : List (Addr × Obj)} {σ : St} {H : Hp} {s : Shared} {Q : VK} {us : List Value} {vs : List V} (F : ∀ g : Heap, Sub X.base g → FnOk X.prog X.w X.K X.mg g CX0 k f fd ps (sp g)) (hr : Room k X.A) (hb : Binds X.K fd ps ds) (hd : Vals dvs ds) (hfn : ∀ x, X.fn x = true)
    (I : Inv X pins σ H s) (r : Vals vs us) (h : ∀ g : Heap, Sub X.base g → Cells X σ g → sp g (vs ++ dvs) H Q E0) : wpAny (model X.prog X.w) X.A (call (.ref f) us) (EP X pins σ Q) X.xe s := by
  have r2 : Vals (vs ++ dvs) (us ++ ds) := r.append hd
  have h' := h _ I.env0.sub (I.cells hfn)
  have hl : (us ++ ds).length = ps.length := by rw [← r2.length]; exact (F _ I.env0.sub).len _ _ _ _ h'
  refine wpAny_call (codeAny_mono ((F _ I.env0.sub).run X.A X.stack s H ⟨us, []⟩ (us ++ ds) (vs ++ dvs) Q E0 hr I.env0.big (hb s us I.kIn hl) r2 h') fun r s' hq => ?_)
  cases r with
  | error e => exact hq.elim
  | ok fl =>
    cases fl with
    | ret u => exact I.after hq
    | next => exact False.elim hq
    | brk => exact False.elim hq
    | cont => exact False.elim hq
theorem pe_methB {o e : Expr} {es : List Expr} {m : Str} {apos pos : Pos} {C f : Addr} {fd : FuncData} {k : Nat} {ps : List Str} {ds : List Value} {dvs : List V} {sp : Heap → Sp} {ta : TE} {t : TA} {pl : Sem Bool} (he : PE X o ta) (c : Cls X.K C) (hm : Meth X.K C m f) (F : ∀ g : Heap, Sub X.base g → FnOk X.prog X.w X.K X.mg g CX0 k f fd ps (sp g)) (hr : Room k X.A) (hb : Binds X.K fd ps ds) (hd : Vals dvs ds) (hfn : ∀ x, X.fn x = true) (ha : PA X (e :: es) t)
    (hst : starEach (e :: es) X.env = (false, eval e X.env) :: starEach es X.env := by rfl) (hpl : (backTo pos (starEach es X.env)).any (·.1) = false := by rfl)
    (ht : eval (.Call (.Attribute o m apos) (e :: es) [] pos) X.env = (do
      let ov ← eval o X.env
      standAt apos.atName
      let (f, first) ← holding [ov] (getMethod ov m pl)
      callWith pos f first (backTo pos (starEach (e :: es) X.env)) (backToKw pos (keywordEach [] X.env))) := by rfl) :
    PE X (.Call (.Attribute o m apos) (e :: es) [] pos) (tMethB X C m sp dvs ta t) := by
  intro pins s σ H Q I h
  refine PySem.W.methodCall_KW (pl := pl) (thn (he pins s σ H _ I h) fun u s1 ⟨x, H1, I1, rx, a, dx, fs, ex, ea, l, q⟩ => ?_) ht
  subst ex
  obtain rfl : u = Value.ref a := rx
  refine getmeth_ok I1 ea c hm l ?_
  refine PySem.W.callWith_K (first := [.ref a]) (h₀ := X.base) I.ok.mod.kin hm.kp (thn (ha pos pins s1 σ H1 _ I1 q) fun us s2 ⟨vs, H2, I2, r, q2⟩ => ⟨I2.kIn, ?_⟩) hst hpl
  exact run_fnB (us := .ref a :: us) (vs := .ref a :: vs) F hr hb hd hfn I2 (.cons rfl r) q2
end
end L2
namespace L2
open PySem PySem.Spec PyProof.Rows
structure Mt (P : Program) (w : World) (K : PySem.W.Frag) (mg : Str → Option Value) (base : Heap) (C : Addr) (k : Nat) (m : Str) (ps : List Str) (sp : Sp) : Prop where
  ex : ∃ f fd, Meth K C m f ∧ FnOk P w K mg base CX0 k f fd ps sp ∧ Binds K fd ps []
section
variable {X : Cx} {C : Addr} {k k' : Nat} {m : Str} {ps : List Str} {sp : Sp} {o e : Expr} {es : List Expr} {ta : TE} {t : TA} {apos pos : Pos}
theorem pe_mt0 {pl : Sem Bool} (M : Mt X.prog X.w X.K X.mg X.base C k m ps sp) (c : Cls X.K C) (hr : Room k' X.A) (he : PE X o ta) (hk : k ≤ k' := by decide)
    (ht : eval (.Call (.Attribute o m apos) [] [] pos) X.env = (do
      let ov ← eval o X.env
      standAt apos.atName
      let (f, first) ← holding [ov] (getMethod ov m pl)
      callWith pos f first (backTo pos (starEach [] X.env)) (backToKw pos (keywordEach [] X.env))) := by rfl) :
    PE X (.Call (.Attribute o m apos) [] [] pos) (tMeth C m sp [] E0 ta tNil) := by
  obtain ⟨f, fd, h1, h2, h3⟩ := M.ex
  exact pe_meth0 (pl := pl) he c h1 h2 (hr.mono hk) h3 .nil pass0 ht
theorem pe_mt {pl : Sem Bool} (M : Mt X.prog X.w X.K X.mg X.base C k m ps sp) (c : Cls X.K C) (hr : Room k' X.A) (he : PE X o ta) (ha : PA X (e :: es) t) (hk : k ≤ k' := by decide)
    (hst : starEach (e :: es) X.env = (false, eval e X.env) :: starEach es X.env := by rfl) (hpl : (backTo pos (starEach es X.env)).any (·.1) = false := by rfl)
    (ht : eval (.Call (.Attribute o m apos) (e :: es) [] pos) X.env = (do
      let ov ← eval o X.env
      standAt apos.atName
      let (f, first) ← holding [ov] (getMethod ov m pl)
      callWith pos f first (backTo pos (starEach (e :: es) X.env)) (backToKw pos (keywordEach [] X.env))) := by rfl) :
    PE X (.Call (.Attribute o m apos) (e :: es) [] pos) (tMeth C m sp [] E0 ta t) := by
  obtain ⟨f, fd, h1, h2, h3⟩ := M.ex
  exact pe_meth (pl := pl) he c h1 h2 (hr.mono hk) h3 .nil pass0 ha hst hpl ht
end
end L2
namespace K3
open PySem L2
end K3
namespace K7
open PySem L2 K3
abbrev sInit : Stmt := inClass sReader 0
abbrev sAhead : Stmt := inClass sReader 1
abbrev sAtName : Stmt := inClass sReader 2
abbrev sPassed : Stmt := inClass sReader 4
abbrev sNeed : Stmt := inClass sReader 5
abbrev sNeedEnd : Stmt := inClass sReader 6
abbrev sTakeName : Stmt := inClass sReader 7
abbrev sTakeWord : Stmt := inClass sReader 9
abbrev sInB : Stmt := inClass sReader 10
abbrev sPart : Stmt := inClass sReader 11
def rdV (l : Addr) (v : V) : List (Str × V) := [("found", .ref l), ("spot", v)]
def rd (l : Addr) (n : Nat) : List (Str × V) := rdV l (.int (n : Int))
theorem put_spot (l : Addr) (n : Nat) (v : V) : putF "spot" v (rd l n) = rdV l v := by
  unfold rd rdV
  rw [put_no (by decide +kernel), put_yes]
structure RdAt (C : Addr) (H : Hp) (r l : Addr) (ws : List (List Nat)) (n : Nat) : Prop where
  ins : ∃ dx, H r = some (.ins C dx (rd l n))
  fl : H l = some (.lst (W ws))
theorem RdAt.same {C : Addr} {H H' : Hp} {r l : Addr} {ws : List (List Nat)} {n : Nat} (g : Same H H') (h : RdAt C H r l ws n) : RdAt C H' r l ws n := by
  obtain ⟨⟨dx, h1⟩, h2⟩ := h
  exact ⟨⟨dx, g _ _ h1⟩, g _ _ h2⟩
structure RdT (K : PySem.W.Frag) (mg : Str → Option Value) (C : Addr) : Prop where
  cl : Cls K C
  nf : NoAttr K C "found"
  ns : NoAttr K C "spot"
  mgC : mg "Reader" = some (.ref C)
def ah (ws : List (List Nat)) (n : Nat) : List Nat := (ws[n]?).getD []
def beg (w sg : List Nat) : Bool := match w with
  | [] => false
  | c :: _ => decide (c ∈ sg)
def spBeg : Sp := fun vs H Q _ => ∃ (w sg : List Nat), vs = [.str (S w), .str (S sg)] ∧ w.length ≤ 100 ∧ Q (.bl (beg w sg)) H
def spAhead (C : Addr) : Sp := fun vs H Q _ => ∃ (r l : Addr) (ws : List (List Nat)) (n : Nat), vs = [.ref r] ∧ RdAt C H r l ws n ∧ n ≤ ws.length ∧ Q (.str (S (ah ws n))) H
def spAt (C : Addr) (sg : List Nat) : Sp := fun vs H Q _ => ∃ (r l : Addr) (ws : List (List Nat)) (n : Nat), vs = [.ref r] ∧ RdAt C H r l ws n ∧ n ≤ ws.length ∧ (ah ws n).length ≤ 100 ∧ Q (.bl (beg (ah ws n) sg)) H
def spPassed (C : Addr) : Sp := fun vs H Q _ => ∃ (r l : Addr) (ws : List (List Nat)) (n : Nat) (c : List Nat), vs = [.ref r, .str (S c)] ∧ RdAt C H r l ws n ∧ n ≤ ws.length ∧ (ah ws n ≠ c → Q (.bl false) H) ∧ (ah ws n = c → ∀ H', SameX r H H' → RdAt C H' r l ws (n + 1) → Q (.bl true) H')
def spNeed (C : Addr) : Sp := fun vs H Q _ => ∃ (r l : Addr) (ws : List (List Nat)) (n : Nat) (c : List Nat), vs = [.ref r, .str (S c)] ∧ RdAt C H r l ws n ∧ n ≤ ws.length ∧ ah ws n = c ∧ ∀ H', SameX r H H' → RdAt C H' r l ws (n + 1) → Q .non H'
def spEnd (C : Addr) : Sp := fun vs H Q _ => ∃ (r l : Addr) (ws : List (List Nat)) (n : Nat), vs = [.ref r] ∧ RdAt C H r l ws n ∧ n = ws.length ∧ Q .non H
def spTakeW (C : Addr) : Sp := fun vs H Q _ => ∃ (r l : Addr) (ws : List (List Nat)) (n : Nat), vs = [.ref r] ∧ RdAt C H r l ws n ∧ n ≤ ws.length ∧ ∀ H', SameX r H H' → RdAt C H' r l ws (n + 1) → Q (.str (S (ah ws n))) H'
def spTakeN (C : Addr) : Sp := fun vs H Q _ => ∃ (r l : Addr) (ws : List (List Nat)) (n : Nat), vs = [.ref r] ∧ RdAt C H r l ws n ∧ n ≤ ws.length ∧ (ah ws n).length ≤ 100 ∧ beg (ah ws n) letL = true ∧ ∀ H', SameX r H H' → RdAt C H' r l ws (n + 1) → Q (.str (S (ah ws n))) H'
def spInit (C : Addr) : Sp := fun vs H Q _ => ∃ (r dx : Addr) (z : List Nat) (ws : List (List Nat)), vs = [.ref r, .str (S z)] ∧ H r = some (.ins C dx []) ∧ z.length ≤ 5000 ∧ Writ z ws ∧ ∀ (l : Addr) (H' : Hp), SameX r H H' → RdAt C H' r l ws 0 → Q .non H'
theorem RdAt.step {C : Addr} {H : Hp} {r l dx : Addr} {ws : List (List Nat)} {n : Nat} (h : RdAt C H r l ws n) (hx : H r = some (.ins C dx (rd l n))) : RdAt C (upd H r (.ins C dx (putF "spot" (.int ((n : Int) + 1)) (rd l n)))) r l ws (n + 1) := by
  refine ⟨⟨dx, ?_⟩, ?_⟩
  · rw [upd_same, put_spot]; rfl
  · rw [upd_ne (ne_of h.fl hx (by intro z; cases z))]; exact h.fl
theorem ah_at {ws : List (List Nat)} {n : Nat} (h : n < ws.length) : (W ws)[n]? = some (.str (S (ah ws n))) := by
  unfold W ah
  rw [List.getElem?_map, List.getElem?_eq_getElem h]; rfl
section
variable {P : Program} {w : World} {K : PySem.W.Frag} {mg : Str → Option Value} {base : Heap} {f : Addr} {fd : FuncData} {C : Addr}
theorem scBegins : FnScope ["word", "signs"] ["word", "signs"] (defScope sBegins) := ⟨rfl, rfl, rfl, by decide +kernel, rfl, by decide +kernel, by decide +kernel⟩
theorem ok_begins (F : Fun K "begins_in" "begins_in" sBegins f fd) : FnOk P w K mg base CX0 1 f fd ["word", "signs"] spBeg := by
  refine F.ok scBegins (fun vs H Q E h => ?_) (fun cdv A outer s H vs Q E hr h => ?_)
  · obtain ⟨u, sg, rfl, _⟩ := h
    rfl
  obtain ⟨u, sg, rfl, hu, q⟩ := h
  refine ⟨_, (pss_one (ps_ret (pe_and (pe_cmpR op_ne (pv 0) pe_str (nomark _)) (pe_one (pe_cmpR op_in_one (pe_ix ix_str (pv 0) pe_int (fun _ _ => rfl)) (pv 1) (by with_unfolding_all rfl)))))), ?_⟩
  cases u with
  | nil =>
    refine ⟨_, rfl, rfl, _, rfl, ?_⟩
    have e : decide (V.str (S []) = V.str (Str.ofString "")) = true := decide_eq_true (by rw [none_eq])
    rw [e]
    exact iteF q
  | cons c u =>
    refine ⟨_, rfl, rfl, _, rfl, ?_⟩
    have e : decide (V.str (S (c :: u)) = V.str (Str.ofString "")) = false := decide_eq_false (by rw [none_eq]; exact str_ne (by simp))
    rw [e]
    refine iteT ⟨_, rfl, _, _, c, rfl, rfl, (by rw [S_len]; exact line_of (by omega)), atS (k := 0) rfl, _, rfl, _, _, rfl, rfl, ?_⟩
    rw [S_list]
    exact q
theorem scAhead : FnScope ["self"] ["self"] (defScope sAhead) := ⟨rfl, rfl, rfl, by decide +kernel, rfl, by decide +kernel, by decide +kernel⟩
theorem ok_ahead (F : Fun K "ahead" "Reader.ahead" sAhead f fd) (G : Gm mg) (T : RdT K mg C) : FnOk P w K mg base CX0 1 f fd ["self"] (spAhead C) := by
  refine F.ok scAhead (fun vs H Q E h => ?_) (fun cdv A outer s H vs Q E hr h => ?_)
  · obtain ⟨r, l, ws, n, rfl, _⟩ := h
    rfl
  obtain ⟨r, l, ws, n, rfl, hR, hn, q⟩ := h
  refine ⟨_, (pss_cons (ps_if (pt_cmpR op_eq (pe_fld (pv 0) rfl) (pe_callB call_len_seq rfl G.len PySem.boot_len (pa_cons (pe_fld (pv 0) rfl) pa_nil)) (nomark _)) (pss_one (ps_ret pe_str)) pss_nil)
    (pss_one (ps_ret (pe_ix ix_list (pe_fld (pv 0) rfl) (pe_fld (pv 0) rfl) (fun _ _ => rfl))))), ?_⟩
  obtain ⟨dx, hx⟩ := hR.ins
  refine ⟨_, rfl, r, C, dx, _, _, rfl, hx, T.cl, T.ns, rfl, _, rfl, r, C, dx, _, _, rfl, hx, T.cl, T.nf, rfl, l, _, rfl, .inl (SqL.of hR.fl), rfl, _, rfl, ?_⟩
  rw [W_len]
  by_cases h : n = ws.length
  · refine iteP (by rw [h]) ?_
    have e : ah ws n = [] := by unfold ah; rw [List.getElem?_eq_none (by omega)]; rfl
    rw [e] at q
    show Q (.str (Str.ofString "")) H
    rw [none_eq]; exact q
  · refine iteN (fun z => h (by injection z with z; omega)) ⟨_, rfl, r, C, dx, _, _, rfl, hx, T.cl, T.nf, rfl, _, rfl, r, C, dx, _, _, rfl, hx, T.cl, T.ns, rfl, l, _, _, _, rfl, rfl, SqL.of hR.fl, atI_nat (ah_at (by omega)), q⟩
theorem scAtName : FnScope ["self"] ["self"] (defScope sAtName) := ⟨rfl, rfl, rfl, by decide +kernel, rfl, by decide +kernel, by decide +kernel⟩
theorem ok_atName (F : Fun K "at_name" "Reader.at_name" sAtName f fd) (G : Gm mg) (T : RdT K mg C) (RB : Fn P w K mg base 1 "begins_in" ["word", "signs"] spBeg) (MA : Mt P w K mg base C 1 "ahead" ["self"] (spAhead C)) : FnOk P w K mg base CX0 2 f fd ["self"] (spAt C letL) := by
  obtain ⟨tl, hl⟩ := G.lets
  refine F.ok scAtName (fun vs H Q E h => ?_) (fun cdv A outer s H vs Q E hr h => ?_)
  · obtain ⟨r, l, ws, n, rfl, _⟩ := h
    rfl
  obtain ⟨r, l, ws, n, rfl, hR, hn, hw, q⟩ := h
  refine ⟨_, (pss_one (ps_ret (pe_fn RB hr (pa_cons (pe_mt0 MA T.cl hr (pv 0)) (pa_cons (pe_glob (v := .str LETS) rfl hl ⟨_, rfl⟩) pa_nil))))), ?_⟩
  obtain ⟨dx, hx⟩ := hR.ins
  refine ⟨_, rfl, r, dx, _, rfl, hx, rfl, r, l, ws, n, rfl, hR, hn, ah ws n, letL, ?_, hw, q⟩
  rw [← let_eq]; rfl
theorem scPassed : FnScope ["self", "sign"] ["self", "sign"] (defScope sPassed) := ⟨rfl, rfl, rfl, by decide +kernel, rfl, by decide +kernel, by decide +kernel⟩
theorem ok_passed (F : Fun K "passed" "Reader.passed" sPassed f fd) (T : RdT K mg C) (MA : Mt P w K mg base C 1 "ahead" ["self"] (spAhead C)) : FnOk P w K mg base CX0 2 f fd ["self", "sign"] (spPassed C) := by
  refine F.ok scPassed (fun vs H Q E h => ?_) (fun cdv A outer s H vs Q E hr h => ?_)
  · obtain ⟨r, l, ws, n, c, rfl, _⟩ := h
    rfl
  obtain ⟨r, l, ws, n, c, rfl, hR, hn, q1, q2⟩ := h
  refine ⟨_, (pss_cons (ps_if (pt_cmpR op_ne (pe_mt0 MA T.cl hr (pv 0)) (pv 1) (nomark _)) (pss_one (ps_ret pe_bl)) pss_nil)
    (pss_cons (ps_fldaug (pv 0) pe_int in_add)
    (pss_one (ps_ret pe_bl)))), ?_⟩
  obtain ⟨dx, hx⟩ := hR.ins
  refine ⟨_, rfl, r, dx, _, rfl, hx, rfl, r, l, ws, n, rfl, hR, hn, _, rfl, rfl, _, rfl, ?_⟩
  by_cases h : ah ws n = c
  · refine iteNS (by rw [h]) ⟨_, rfl, r, C, dx, _, _, rfl, hx, T.cl, T.ns, rfl, _, _, rfl, rfl, dx, _, hx, (by show 2 < 1000; decide), ?_⟩
    exact q2 h _ SameX.upd (hR.step hx)
  · have e : decide (V.str (S (ah ws n)) = V.str (S c)) = false := decide_eq_false (str_ne h)
    rw [e]
    exact iteT (q1 h)
theorem scTakeWord : FnScope ["self", "word"] ["self"] (defScope sTakeWord) := ⟨rfl, rfl, rfl, by decide +kernel, rfl, by decide +kernel, by decide +kernel⟩
theorem ok_takeWord (F : Fun K "take_word" "Reader.take_word" sTakeWord f fd) (T : RdT K mg C) (MA : Mt P w K mg base C 1 "ahead" ["self"] (spAhead C)) : FnOk P w K mg base CX0 2 f fd ["self"] (spTakeW C) := by
  refine F.ok scTakeWord (fun vs H Q E h => ?_) (fun cdv A outer s H vs Q E hr h => ?_)
  · obtain ⟨r, l, ws, n, rfl, _⟩ := h
    rfl
  obtain ⟨r, l, ws, n, rfl, hR, hn, q⟩ := h
  refine ⟨_, (pss_cons (ps_set (i := 1) scTakeWord.nd rfl (Or.inl rfl) (pe_mt0 MA T.cl hr (pv 0)))
    (pss_cons (ps_fldaug (pv 0) pe_int in_add)
    (pss_one (ps_ret (pv 1))))), ?_⟩
  obtain ⟨dx, hx⟩ := hR.ins
  refine ⟨_, rfl, r, dx, _, rfl, hx, rfl, r, l, ws, n, rfl, hR, hn, ?_⟩
  refine ⟨_, rfl, r, C, dx, _, _, rfl, hx, T.cl, T.ns, rfl, _, _, rfl, rfl, dx, _, hx, (by show 2 < 1000; decide), _, rfl, ?_⟩
  exact q _ SameX.upd (hR.step hx)
theorem scTakeName : FnScope ["self"] ["self"] (defScope sTakeName) := ⟨rfl, rfl, rfl, by decide +kernel, rfl, by decide +kernel, by decide +kernel⟩
theorem ok_takeName (F : Fun K "take_name" "Reader.take_name" sTakeName f fd) (T : RdT K mg C) (MN : Mt P w K mg base C 2 "at_name" ["self"] (spAt C letL)) (MW : Mt P w K mg base C 2 "take_word" ["self"] (spTakeW C)) : FnOk P w K mg base CX0 3 f fd ["self"] (spTakeN C) := by
  refine F.ok scTakeName (fun vs H Q E h => ?_) (fun cdv A outer s H vs Q E hr h => ?_)
  · obtain ⟨r, l, ws, n, rfl, _⟩ := h
    rfl
  obtain ⟨r, l, ws, n, rfl, hR, hn, hw, hb, q⟩ := h
  refine ⟨_, (pss_cons (ps_if (pt_not (pt_val (pe_mt0 MN T.cl hr (pv 0)))) pss_never pss_nil)
    (pss_one (ps_ret (pe_mt0 MW T.cl hr (pv 0))))), ?_⟩
  obtain ⟨dx, hx⟩ := hR.ins
  refine ⟨_, rfl, r, dx, _, rfl, hx, rfl, r, l, ws, n, rfl, hR, hn, hw, _, rfl, ?_⟩
  rw [hb]
  exact iteF ⟨_, rfl, r, dx, _, rfl, hx, rfl, r, l, ws, n, rfl, hR, hn, q⟩
theorem scNeed : FnScope ["self", "sign"] ["self", "sign"] (defScope sNeed) := ⟨rfl, rfl, rfl, by decide +kernel, rfl, by decide +kernel, by decide +kernel⟩
theorem ok_need (F : Fun K "need" "Reader.need" sNeed f fd) (T : RdT K mg C) (MP : Mt P w K mg base C 2 "passed" ["self", "sign"] (spPassed C)) : FnOk P w K mg base CX0 3 f fd ["self", "sign"] (spNeed C) := by
  refine F.ok scNeed (fun vs H Q E h => ?_) (fun cdv A outer s H vs Q E hr h => ?_)
  · obtain ⟨r, l, ws, n, c, rfl, _⟩ := h
    rfl
  obtain ⟨r, l, ws, n, c, rfl, hR, hn, ha, q⟩ := h
  refine ⟨_, (pss_one (ps_if (pt_not (pt_val (pe_mt MP T.cl hr (pv 0) (pa_cons (pv 1) pa_nil)))) pss_never pss_nil)), ?_⟩
  obtain ⟨dx, hx⟩ := hR.ins
  exact ⟨_, rfl, r, dx, _, rfl, hx, rfl, _, rfl, r, l, ws, n, c, rfl, hR, hn, fun z => absurd ha z, fun _ H' g' hR' => ⟨_, rfl, iteF (q H' g' hR')⟩⟩
theorem scNeedEnd : FnScope ["self", "word"] ["self"] (defScope sNeedEnd) := ⟨rfl, rfl, rfl, by decide +kernel, rfl, by decide +kernel, by decide +kernel⟩
theorem ok_needEnd (F : Fun K "need_end" "Reader.need_end" sNeedEnd f fd) (T : RdT K mg C) (MA : Mt P w K mg base C 1 "ahead" ["self"] (spAhead C)) : FnOk P w K mg base CX0 2 f fd ["self"] (spEnd C) := by
  refine F.ok scNeedEnd (fun vs H Q E h => ?_) (fun cdv A outer s H vs Q E hr h => ?_)
  · obtain ⟨r, l, ws, n, rfl, _⟩ := h
    rfl
  obtain ⟨r, l, ws, n, rfl, hR, hn, q⟩ := h
  refine ⟨_, (pss_cons (ps_set (i := 1) scNeedEnd.nd rfl (Or.inl rfl) (pe_mt0 MA T.cl hr (pv 0)))
    (pss_one (ps_if (pt_cmpR op_ne (pv 1) pe_str (nomark _)) pss_never pss_nil))), ?_⟩
  obtain ⟨dx, hx⟩ := hR.ins
  have e : ah ws n = [] := by unfold ah; rw [List.getElem?_eq_none (by omega)]; rfl
  refine ⟨_, rfl, r, dx, _, rfl, hx, rfl, r, l, ws, n, rfl, hR, by omega, _, rfl, rfl, _, rfl, iteNS ?_ q⟩
  rw [e, none_eq]
theorem scInit : FnScope ["self", "text"] ["self", "text"] (defScope sInit) := ⟨rfl, rfl, rfl, by decide +kernel, rfl, by decide +kernel, by decide +kernel⟩
theorem ok_init (F : Fun K "__init__" "Reader.__init__" sInit f fd) (T : RdT K mg C) (RW : Fn P w K mg base 5 "words" ["text"] spWords) : FnOk P w K mg base CX0 6 f fd ["self", "text"] (spInit C) := by
  refine F.ok scInit (fun vs H Q E h => ?_) (fun cdv A outer s H vs Q E hr h => ?_)
  · obtain ⟨r, dx, z, ws, rfl, _⟩ := h
    rfl
  obtain ⟨r, dx, z, ws, rfl, hx, hz, hw, q⟩ := h
  refine ⟨_, (pss_cons (ps_fld (pv 0) (pe_fn RW hr (pa_cons (pv 1) pa_nil)) rfl)
    (pss_one (ps_fld (pv 0) pe_int rfl))), ?_⟩
  refine ⟨_, rfl, z, ws, rfl, hz, hw, fun l H' g' hl hl0 => ?_⟩
  have hx' := g' _ _ hx
  have ne : l ≠ r := fun e => by rw [e, hx] at hl0; cases hl0
  refine ⟨_, rfl, r, C, dx, _, rfl, hx', T.cl, T.nf, (by show 0 < 1000; decide), ?_⟩
  refine ⟨_, rfl, r, C, dx, _, rfl, upd_same, T.cl, T.ns, (by show 1 < 1000; decide), ?_⟩
  refine q l _ (((SameX.of g').trans SameX.upd).trans SameX.upd) ⟨⟨dx, ?_⟩, ?_⟩
  · rw [upd_same]
    show some (HO.ins C dx (putF "spot" _ (putF "found" _ []))) = _
    rw [show putF "found" (V.ref l) [] = ([("found", V.ref l)] : List (Str × V)) from rfl, put_no (by decide +kernel)]; rfl
  · rw [upd_ne ne, upd_ne ne]; exact hl
end
end K7
namespace TM
variable {α : Type}
mutual
def sz : Tree α → Nat
  | .node _ _ bs => 1 + szs bs
def szs : List (Tree α) → Nat
  | [] => 0
  | t :: r => sz t + szs r
end
mutual
def pl : Tree α → List (List Int)
  | .node _ _ bs => [] :: pls 0 bs
def pls : Nat → List (Tree α) → List (List Int)
  | _, [] => []
  | i, t :: r => (pl t).map (List.cons (i : Int)) ++ pls (i + 1) r
end
open HT (lexLt)
variable {R : Rows α} {K : Nat → List Int} {B : Nat → Tree α} {o0 : Tree α}
end TM
namespace L2
open PySem PySem.Spec PyProof.Rows
def compX (X : Cx) (N' : List Str) (scope : Scope) (cl : List (Str × Addr)) (C : Addr) (fp : List Addr) (s₀ : Shared) (H₀ : Hp) : Cx :=
  { X with N := N', s₀ := s₀, H₀ := H₀, env := compEnvC scope cl C X.env, outer := X.stack, ex := fp, fn := fun _ => false, pn := [], xe := fun _ _ => False }
def PF (X : Cx) (ifs : List Expr) (t : TT) : Prop :=
  ∀ (pins : List (Addr × Obj)) (s : Shared) (σ : St) (H : Hp) (Q : Bool → Hp → Prop), Inv X pins σ H s → t σ H Q →
    wpAny (model X.prog X.w) X.A (forIn ifs true fun c r => if r = true then do let ok ← isTrue c X.env (eval c X.env); pure (ForInStep.yield ok) else pure (ForInStep.yield r)) (TP X pins σ Q) X.xe s
theorem pf_nil {X : Cx} : PF X [] (fun _ H Q => Q true H) := by
  intro pins s σ H Q I h
  rw [List.forIn_nil]
  exact wpAny_pure ⟨H, I, h⟩
theorem pf_one {X : Cx} {c : Expr} {t : TT} (hc : PT X c t) : PF X [c] t := by
  intro pins s σ H Q I h
  rw [List.forIn_cons]
  refine wpAny_bind ?_
  rw [if_pos rfl]
  refine wpAny_bind (thn (hc pins s σ H Q I h) fun ok s1 q => wpAny_pure ?_)
  dsimp only
  rw [List.forIn_nil]
  exact wpAny_pure q
structure OwnAt (X : Cx) (pins : List (Addr × Obj)) (H : Hp) (s : Shared) (C : Addr) : Prop where
  ns : ∃ m, s.heap.Ns C m
  free : H C = none
  loc : C ≠ X.env.locals
  above : X.s₀.heap.objs.size ≤ C
  cells : ∀ x c, X.env.cells.lookup x = some c → c ≠ C
  pins : ∀ p ∈ X.pn ++ pins, p.1 ≠ C
theorem OwnAt.go {X : Cx} {pins : List (Addr × Obj)} {σ : St} {H : Hp} {s : Shared} {C : Addr} {h' : Heap} (I : Inv X pins σ H s) (o : OwnAt X pins H s C) (hb : Heap.SameBut C s.heap h') : Inv X pins σ H { s with heap := h' } :=
  I.turned (t' := s.toks) (fun b u hb' e => (hb.2 b hb').trans e) o.free o.loc (.inr o.above) o.cells o.pins
def compW (n : Nat) (Pv : Nat → List V → Hp → Prop) : Nat → Nat → Hp → Prop := fun i m H => m = n - i ∧ i ≤ n ∧ ∃ ys, Pv i ys H
def compN (n : Nat) (Pv : Nat → List V → Hp → Prop) (acc : Addr) (i m : Nat) : VK := fun y H5 => ∃ ys, H5 acc = some (.lst ys) ∧ ys.length < sizeLine ∧ ∃ m', m' < m ∧ compW n Pv (i + 1) m' (upd H5 acc (.lst (ys ++ [y])))
theorem comp_next {n : Nat} {Pv : Nat → List V → Hp → Prop} {acc : Addr} {i : Nat} {y : V} {H5 : Hp} {ys : List V} (hi : i < n) (hacc : H5 acc = some (.lst ys)) (hl : ys.length < 5000) (hP : Pv (i + 1) (ys ++ [y]) (upd H5 acc (.lst (ys ++ [y])))) : compN n Pv acc i (n - i) y H5 :=
  ⟨ys, hacc, Nat.lt_trans hl (by decide), n - (i + 1), by omega, rfl, hi, _, hP⟩
theorem comp_skip {n : Nat} {Pv : Nat → List V → Hp → Prop} {i : Nat} {H : Hp} {ys : List V} (hi : i < n) (hP : Pv (i + 1) ys H) : ∃ m', m' < n - i ∧ compW n Pv (i + 1) m' H := ⟨n - (i + 1), by omega, rfl, hi, ys, hP⟩
end L2
namespace L2
open PySem PySem.Spec PyProof.Rows
end L2
namespace L2
open PySem PySem.Spec PyProof.Rows
section
variable {X : Cx}
end
end L2
namespace L2
open PySem PySem.Spec PyProof.Rows
theorem vals_items : ∀ {ns : List Int} {us : List Value}, Vals (ns.map V.int) us → ∃ xs : List (Int × Tok), us = xs.map (fun p => Value.int p.1 p.2) ∧ xs.map (·.1) = ns
  | [], _, .nil => ⟨[], rfl, rfl⟩
  | n :: ns, _, .cons r rr => by
    obtain ⟨t, e⟩ := r
    obtain ⟨xs, e1, e2⟩ := vals_items rr
    exact ⟨(n, t) :: xs, by rw [e, e1]; rfl, by rw [List.map_cons, e2]⟩
theorem items_arr (xs : List (Int × Tok)) : intItems xs.toArray = (xs.map (fun p => Value.int p.1 p.2)).toArray := by
  simp [intItems]
theorem num_at (xs : List (Int × Tok)) (j : Nat) : numAt xs.toArray j = (xs.map (·.1)).getD j 0 := by rw [numAt_eq]
theorem pre_sum (xs : List (Int × Tok)) (j : Nat) : preSum (numAt xs.toArray) j = ((xs.map (·.1)).take j).sum := by rw [preSum_eq]
def Fits (ns : List Int) : Prop := (∀ n ∈ ns, 0 ≤ n) ∧ ns.sum ≤ 1000000000
theorem sum_nonneg : ∀ {ns : List Int}, (∀ n ∈ ns, 0 ≤ n) → 0 ≤ ns.sum
  | [], _ => by simp
  | n :: ns, h => by
    have h1 := h n List.mem_cons_self
    have h2 := sum_nonneg (ns := ns) fun m hm => h m (List.mem_cons_of_mem _ hm)
    rw [List.sum_cons]; omega
theorem Fits.le {ns : List Int} (h : Fits ns) (j : Nat) : 0 ≤ (ns.take j).sum ∧ (ns.take j).sum ≤ ns.sum := by
  have h1 := sum_nonneg (ns := ns.take j) fun m hm => h.1 m (List.mem_of_mem_take hm)
  have h2 := sum_nonneg (ns := ns.drop j) fun m hm => h.1 m (List.mem_of_mem_drop hm)
  have h3 : ns.sum = (ns.take j).sum + (ns.drop j).sum := by rw [← List.sum_append, List.take_append_drop]
  omega
section
variable {X : Cx}
theorem call_sum (hc : X.calm = true) : CallR X (.builtin "sum") (fun xs H Q => ∃ l ns, xs = [.ref l] ∧ SqL X.K H l (ns.map V.int) ∧ Fits ns ∧ Q (.int ns.sum) H) := by
  intro pins s σ H xs us Q I r h
  obtain ⟨l, ns, rfl, hl, hf, q⟩ := h
  cases r with
  | cons r rr =>
    cases rr
    obtain rfl : _ = Value.ref l := r
    obtain ⟨its, rv, p, _⟩ := I.list hl
    obtain ⟨ys, rfl, e2⟩ := vals_items rv
    have hL : s.heap.IsList l (intItems ys.toArray) := by rw [items_arr]; exact p.isList
    refine sum_intList (I.ok.hd hc) hL (fun j hj => ?_) fun h' tk t' hk => ⟨.int ns.sum, H, I.kept (t' := tk) hk, ⟨t', ?_⟩, q⟩
    · have hjl : j < ns.length := by rw [← e2]; simpa using hj
      have a := hf.le (j + 1)
      have b := hf.1 _ (List.getElem_mem hjl)
      have c := hf.le j
      have d : (ns.take (j + 1)).sum = (ns.take j).sum + ns[j] := by rw [List.take_add_one, List.getElem?_eq_getElem hjl, List.sum_append]; simp
      have e := hf.2
      rw [num_at, pre_sum, e2]
      have f : ns.getD j 0 = ns[j] := by simp [List.getD, List.getElem?_eq_getElem hjl]
      rw [f]
      exact ⟨⟨by omega, by omega⟩, ⟨by omega, by omega⟩⟩
    · rw [pre_sum, e2, List.take_of_length_le]
      rw [← e2]; simp
end
section
variable {prog : Program} {w : World} {A : Around} {R : Result → Shared → Prop} {I : Addr} {fp wr : List Addr} {n : Nat} {P : Nat → Value → Prop} {St : Nat → Heap → Prop}
end
section
variable {prog : Program} {w : World} {A : Around} {E : Value → Shared → Prop} {s : Shared}
end
end L2
namespace Srt
open PySem PySem.W PyProof.Rows
variable {α β : Type} {O : KeyOrd} {key : Nat → O.α} {n : Nat}
def Ok (O : KeyOrd) (key : Nat → O.α) (n : Nat) (Q : α → Prop) : KasT α → Prop
  | .ret a => Q a
  | .ask i j k => i < n ∧ j < n ∧ Ok O key n Q (k (O.blt (key i) (key j)))
theorem Ok.bind {t : KasT α} {f : α → KasT β} {Q : β → Prop} : Ok O key n (fun a => Ok O key n Q (f a)) t → Ok O key n Q (t.bind f) := by
  induction t with
  | ret a => exact id
  | ask i j k ih => exact fun h => ⟨h.1, h.2.1, ih _ h.2.2⟩
theorem Ok.wp {cmp : Nat → Nat → (Bool → Shared → Prop) → Shared → Prop} {s : Shared} (hc : ∀ i j C, i < n → j < n → C (O.blt (key i) (key j)) s → cmp i j C s) {G : α → Shared → Prop} {Q : α → Prop} (hq : ∀ a, Q a → G a s) {t : KasT α} : Ok O key n Q t → t.kasWp cmp G s := by
  induction t with
  | ret a => exact hq a
  | ask i j k ih => exact fun h => hc i j _ h.1 h.2.1 (ih _ h.2.2)
def Pm (n : Nat) (p : Array Nat) : Prop := p.toList.Perm (List.range n)
theorem Pm.size {p : Array Nat} (h : Pm n p) : p.size = n := by
  have := h.length_eq
  simpa using this
theorem Pm.lt {p : Array Nat} (h : Pm n p) {i : Nat} (hi : i < n) : p.getD i 0 < n := by
  have hs : i < p.size := by rw [h.size]; exact hi
  have e : p.getD i 0 = p[i] := by simp [Array.getD, hs]
  rw [e]
  have : p[i] ∈ p.toList := by simp
  exact List.mem_range.mp (h.mem_iff.mp this)
theorem Pm.of {p q : Array Nat} (h : Pm n p) (e : q.Perm p) : Pm n q := (Array.perm_iff_toList_perm.mp e).trans h
variable (key) in
def kk (p : Array Nat) (i : Nat) : O.α := key (p.getD i 0)
theorem kk_congr {p q : Array Nat} {i j : Nat} (h : p[i]? = q[j]?) : kk key p i = kk key q j := by
  unfold kk
  rw [Array.getD_eq_getD_getElem?, Array.getD_eq_getD_getElem?, h]
variable (key) in
def Up (p : Array Nat) (k : Nat) : Prop := ∀ i j, i ≤ j → j < k → O.kle (kk key p i) (kk key p j)
variable (key) in
def Down (p : Array Nat) (k : Nat) : Prop := ∀ i j, i ≤ j → j < k → O.kle (kk key p j) (kk key p i)
theorem rev_kk {p : Array Nat} {i j : Nat} (hj : j ≤ p.size) (k : Nat) : kk key (kas_rev p i j) k = if i ≤ k ∧ k < j then kk key p (i + j - 1 - k) else kk key p k := by
  have e := getElem?_mirror_all (xs := p) (i := i) hj k
  unfold kas_rev
  by_cases h : i ≤ k ∧ k < j
  · rw [if_pos h] at e ⊢; exact kk_congr e
  · rw [if_neg h] at e ⊢; exact kk_congr e
theorem rev_same {p : Array Nat} {i j : Nat} (hj : j ≤ p.size) (heq : ∀ k, i ≤ k → k < j → kk key p k = kk key p (j - 1)) (k : Nat) : kk key (kas_rev p i j) k = kk key p k := by
  rw [rev_kk hj]
  by_cases h : i ≤ k ∧ k < j
  · rw [if_pos h, heq _ (by omega) (by omega), heq k h.1 h.2]
  · rw [if_neg h]
theorem Pm.rev {p : Array Nat} (h : Pm n p) (i j : Nat) : Pm n (kas_rev p i j) := h.of (mirror_perm _ _ _ _)
theorem grow_up {p : Array Nat} {m : Nat} (h1 : 1 ≤ m) (hs : Up key p m) (h : O.kle (kk key p (m - 1)) (kk key p m)) : Up key p (m + 1) := fun i j hij hj => by
  by_cases hjm : j < m
  · exact hs i j hij hjm
  · have : j = m := by omega
    subst this
    by_cases hi : i = j
    · subst hi; exact KeyOrd.kle_refl _
    · exact KeyOrd.kle_trans (hs i (j - 1) (by omega) (by omega)) h
theorem grow_down {p : Array Nat} {m : Nat} (h1 : 1 ≤ m) (hs : Down key p m) (h : O.kle (kk key p m) (kk key p (m - 1))) : Down key p (m + 1) := fun i j hij hj => by
  by_cases hjm : j < m
  · exact hs i j hij hjm
  · have : j = m := by omega
    subst this
    by_cases hi : i = j
    · subst hi; exact KeyOrd.kle_refl _
    · exact KeyOrd.kle_trans h (hs i (j - 1) (by omega) (by omega))
theorem asc_ok {p : Array Nat} (hP : Pm n p) {Q : Nat → Prop} : ∀ (f m : Nat), 1 ≤ m → m + f ≤ n → Up key p m → (∀ m', m ≤ m' → m' ≤ m + f → Up key p m' → (m' = m + f ∨ O.klt (kk key p m') (kk key p (m' - 1))) → Q m') → Ok O key n Q (kas_asc p f m)
  | 0, m, _, _, hs, h => h m (Nat.le_refl _) (Nat.le_refl _) hs (.inl rfl)
  | f + 1, m, h1, hn, hs, h => by
    refine ⟨hP.lt (by omega), hP.lt (by omega), ?_⟩
    show Ok O key n Q (if O.blt (kk key p m) (kk key p (m - 1)) = true then .ret m else kas_asc p f (m + 1))
    cases hb : O.blt (kk key p m) (kk key p (m - 1)) with
    | true =>
      rw [if_pos rfl]
      exact h m (Nat.le_refl _) (by omega) hs (.inr hb)
    | false =>
      rw [if_neg Bool.false_ne_true]
      exact asc_ok hP f (m + 1) (by omega) (by omega) (grow_up h1 hs hb) fun m' a b c d => h m' (by omega) (by omega) c (by rcases d with d | d; exact .inl (by omega); exact .inr d)
variable (key) in
def Tail (p : Array Nat) (m q : Nat) : Prop := q + 1 ≤ m ∧ ∀ i, m - (q + 1) ≤ i → i < m → kk key p i = kk key p (m - 1)
theorem desc_ok {Q : Array Nat × Nat × Nat → Prop} : ∀ (f : Nat) (p : Array Nat) (m q : Nat), Pm n p → 1 ≤ m → m + f ≤ n → Down key p m → Tail key p m q →
    (∀ p' m' q', Pm n p' → m ≤ m' → m' ≤ m + f → Down key p' m' → Tail key p' m' q' → Q (p', m', q')) → Ok O key n Q (kas_desc f p m q)
  | 0, p, m, q, hP, _, _, hs, ht, h => h p m q hP (Nat.le_refl _) (Nat.le_refl _) hs ht
  | f + 1, p, m, q, hP, h1, hn, hs, ht, h => by
    have hsz := hP.size
    refine ⟨hP.lt (by omega), hP.lt (by omega), ?_⟩
    show Ok O key n Q (if O.blt (kk key p m) (kk key p (m - 1)) = true then (if q > 0 then kas_desc f (kas_rev p (m - (q + 1)) m) (m + 1) 0 else kas_desc f p (m + 1) 0)
      else .ask (p.getD (m - 1) 0) (p.getD m 0) fun d => if d = true then .ret (p, m, q) else kas_desc f p (m + 1) (q + 1))
    have one : ∀ p' : Array Nat, Tail key p' (m + 1) 0 := fun p' => ⟨by omega, fun i a b => by congr 1; omega⟩
    cases hb : O.blt (kk key p m) (kk key p (m - 1)) with
    | true =>
      rw [if_pos rfl]
      have hd := grow_down h1 hs (KeyOrd.kle_of_klt hb)
      by_cases hq : q > 0
      · rw [if_pos hq]
        have e := rev_same (key := key) (p := p) (i := m - (q + 1)) (j := m) (by omega) ht.2
        refine desc_ok f _ (m + 1) 0 (hP.rev _ _) (by omega) (by omega) (fun i j a b => by rw [e, e]; exact hd i j a b) (one _) fun p' m' q' a b c d g => h p' m' q' a (by omega) (by omega) d g
      · rw [if_neg hq]
        exact desc_ok f p (m + 1) 0 hP (by omega) (by omega) hd (one _) fun p' m' q' a b c d g => h p' m' q' a (by omega) (by omega) d g
    | false =>
      rw [if_neg Bool.false_ne_true]
      refine ⟨hP.lt (by omega), hP.lt (by omega), ?_⟩
      show Ok O key n Q (if O.blt (kk key p (m - 1)) (kk key p m) = true then .ret (p, m, q) else kas_desc f p (m + 1) (q + 1))
      cases hc : O.blt (kk key p (m - 1)) (kk key p m) with
      | true =>
        rw [if_pos rfl]
        exact h p m q hP (Nat.le_refl _) (by omega) hs ht
      | false =>
        rw [if_neg Bool.false_ne_true]
        have he : kk key p m = kk key p (m - 1) := KeyOrd.kle_antisymm hc hb
        refine desc_ok f p (m + 1) (q + 1) hP (by omega) (by omega) (grow_down h1 hs hc) ⟨by have := ht.1; omega, fun i a b => ?_⟩ fun p' m' q' a b c d g => h p' m' q' a (by omega) (by omega) d g
        rw [Nat.add_sub_cancel]
        by_cases hi : i = m
        · rw [hi]
        · rw [he]; exact ht.2 i (by omega) (by omega)
theorem tail_ok {p : Array Nat} {m : Nat} (hP : Pm n p) (h1 : 1 ≤ m) (hm : m ≤ n) (hs : Down key p m) {Q : Nat × Array Nat → Prop} (h : ∀ m' p', Pm n p' → 1 ≤ m' → m' ≤ n → Up key p' m' → Q (m', p')) : Ok O key n Q (kas_tail3 m n p) := by
  have hsz := hP.size
  refine Ok.bind (asc_ok (hP.rev 0 m) (n - m) m h1 (by omega) (fun i j hij hj => ?_) fun m' a b c _ => h m' _ (hP.rev 0 m) (by omega) (by omega) c)
  rw [rev_kk (by omega), rev_kk (by omega), if_pos (by omega), if_pos (by omega)]
  exact hs _ _ (by omega) (by omega)
theorem descPart_ok {p : Array Nat} {m : Nat} (hP : Pm n p) (h1 : 1 ≤ m) (hm : m + 1 ≤ n) (hs : Down key p (m + 1)) {Q : Nat × Array Nat → Prop} (h : ∀ m' p', Pm n p' → 1 ≤ m' → m' ≤ n → Up key p' m' → Q (m', p')) : Ok O key n Q (kas_descPart m n p) := by
  refine Ok.bind (desc_ok (n - (m + 1)) p (m + 1) 0 hP (by omega) (by omega) hs ⟨by omega, fun i a b => by congr 1; omega⟩ fun p' m' q' a b c d g => ?_)
  have hsz := a.size
  show Ok O key n Q (if q' > 0 then kas_tail3 m' n (kas_rev p' (m' - (q' + 1)) m') else kas_tail3 m' n p')
  by_cases hq : q' > 0
  · rw [if_pos hq]
    have e := rev_same (key := key) (p := p') (i := m' - (q' + 1)) (j := m') (by omega) g.2
    exact tail_ok (a.rev _ _) (by omega) (by omega) (fun i j x y => by rw [e, e]; exact d i j x y) h
  · rw [if_neg hq]
    exact tail_ok a (by omega) (by omega) d h
theorem count_ok {p : Array Nat} (hP : Pm n p) (h1 : 1 ≤ n) {Q : Nat × Array Nat → Prop} (h : ∀ m' p', Pm n p' → 1 ≤ m' → m' ≤ n → Up key p' m' → Q (m', p')) : Ok O key n Q (kas_count n p) := by
  have hsz := hP.size
  refine Ok.bind (asc_ok hP (n - 1) 1 (Nat.le_refl _) (by omega) (fun i j a b => ?_) fun m a b c d => ?_)
  · have : i = j := by omega
    subst this; exact KeyOrd.kle_refl _
  · show Ok O key n Q (if (m == n) = true then .ret (m, p) else if m > 1 then .ask (p.getD 0 0) (p.getD (m - 1) 0) fun c => if c = true then .ret (m, p) else kas_descPart m n (kas_rev p 0 m) else kas_descPart m n p)
    by_cases hm : m = n
    · rw [if_pos (by simpa using hm)]
      exact h m p hP a (by omega) c
    · rw [if_neg (by simpa using hm)]
      have hlt : O.klt (kk key p m) (kk key p (m - 1)) := by
        rcases d with d | d
        · exact absurd (by omega) hm
        · exact d
      by_cases hg : m > 1
      · rw [if_pos hg]
        refine ⟨hP.lt (by omega), hP.lt (by omega), ?_⟩
        show Ok O key n Q (if O.blt (kk key p 0) (kk key p (m - 1)) = true then .ret (m, p) else kas_descPart m n (kas_rev p 0 m))
        cases hb : O.blt (kk key p 0) (kk key p (m - 1)) with
        | true =>
          rw [if_pos rfl]
          exact h m p hP a (by omega) c
        | false =>
          rw [if_neg Bool.false_ne_true]
          have hall : ∀ k, 0 ≤ k → k < m → kk key p k = kk key p (m - 1) := fun k _ hk =>
            KeyOrd.kle_antisymm (c k (m - 1) (by omega) (by omega)) (KeyOrd.kle_trans hb (c 0 k (by omega) hk))
          have e := rev_same (key := key) (p := p) (i := 0) (j := m) (by omega) hall
          refine descPart_ok (hP.rev _ _) (by omega) (by omega) (grow_down (by omega) (fun i j x y => ?_) ?_) h
          · rw [e, e, hall i (by omega) (by omega), hall j (by omega) y]; exact KeyOrd.kle_refl _
          · rw [e, e]; exact KeyOrd.kle_of_klt hlt
      · rw [if_neg hg]
        have : m = 1 := by omega
        subst this
        refine descPart_ok hP (Nat.le_refl _) (by omega) (grow_down (Nat.le_refl _) (fun i j x y => ?_) (KeyOrd.kle_of_klt hlt)) h
        have : i = j := by omega
        subst this; exact KeyOrd.kle_refl _
theorem place_ok {p : Array Nat} {k : Nat} (hP : Pm n p) (hk : k < n) (hs : Up key p k) {Q : Nat → Prop}
    (h : ∀ l, l ≤ k → (∀ i, i < l → O.kle (kk key p i) (kk key p k)) → (∀ i, l ≤ i → i < k → O.klt (kk key p k) (kk key p i)) → Q l) : ∀ (f l r : Nat), l ≤ r → r ≤ k → r - l ≤ f →
      (∀ i, i < l → O.kle (kk key p i) (kk key p k)) → (∀ i, r ≤ i → i < k → O.klt (kk key p k) (kk key p i)) → Ok O key n Q (kas_place p k f l r)
  | 0, l, r, a, b, c, d, e => by
    have : l = r := by omega
    subst this
    exact h l b d e
  | f + 1, l, r, a, b, c, d, e => by
    show Ok O key n Q (if l ≥ r then .ret l else .ask (p.getD k 0) (p.getD ((l + r) / 2) 0) fun c => if c = true then kas_place p k f l ((l + r) / 2) else kas_place p k f ((l + r) / 2 + 1) r)
    by_cases hge : l ≥ r
    · rw [if_pos hge]
      have : l = r := by omega
      subst this
      exact h l b d e
    · rw [if_neg hge]
      refine ⟨hP.lt hk, hP.lt (by omega), ?_⟩
      show Ok O key n Q (if O.blt (kk key p k) (kk key p ((l + r) / 2)) = true then kas_place p k f l ((l + r) / 2) else kas_place p k f ((l + r) / 2 + 1) r)
      cases hb : O.blt (kk key p k) (kk key p ((l + r) / 2)) with
      | true =>
        rw [if_pos rfl]
        exact place_ok hP hk hs h f l ((l + r) / 2) (by omega) (by omega) (by omega) d fun i x y => KeyOrd.klt_of_klt_of_kle hb (hs _ _ x y)
      | false =>
        rw [if_neg Bool.false_ne_true]
        exact place_ok hP hk hs h f ((l + r) / 2 + 1) r (by omega) b (by omega) (fun i x => KeyOrd.kle_trans (hs i ((l + r) / 2) (by omega) (by omega)) hb) e
theorem bubble_kk {p : Array Nat} {k d : Nat} (hs : k < p.size) (hd : d ≤ k) (i : Nat) : kk key (bubble p k d) i = if i = k - d then kk key p k else if k - d < i ∧ i ≤ k then kk key p (i - 1) else kk key p i := by
  have e := getElem?_bubble hs d hd i
  by_cases h1 : i = k - d
  · rw [if_pos h1] at e ⊢; exact kk_congr e
  · rw [if_neg h1] at e ⊢
    by_cases h2 : k - d < i ∧ i ≤ k
    · rw [if_pos h2] at e ⊢; exact kk_congr e
    · rw [if_neg h2] at e ⊢; exact kk_congr e
theorem bin_ok {Q : Array Nat → Prop} : ∀ (f : Nat) (p : Array Nat) (k : Nat), Pm n p → 1 ≤ k → k + f = n → Up key p k → (∀ p', Pm n p' → Up key p' n → Q p') → Ok O key n Q (kas_bin f p k)
  | 0, p, k, hP, _, hn, hs, h => h p hP (by rw [← hn]; exact hs)
  | f + 1, p, k, hP, h1, hn, hs, h => by
    have hsz := hP.size
    have hk : k < n := by omega
    refine Ok.bind (place_ok hP hk hs (fun l a b c => ?_) k 0 k (Nat.zero_le _) (Nat.le_refl _) (by omega) (fun i x => by omega) fun i x y => by omega)
    refine bin_ok f _ (k + 1) (hP.of (bubble_perm _ _ _)) (by omega) (by omega) (fun i j hij hj => ?_) h
    rw [bubble_kk (by omega) (by omega), bubble_kk (by omega) (by omega), show k - (k - l) = l by omega]
    repeat' split
    all_goals first
      | (exfalso; omega)
      | exact KeyOrd.kle_refl _
      | exact b _ (by omega)
      | exact KeyOrd.kle_of_klt (c _ (by omega) (by omega))
      | exact hs _ _ (by omega) (by omega)
theorem sort_ok (h1 : 1 ≤ n) {Q : Array Nat → Prop} (h : ∀ p, Pm n p → Up key p n → Q p) : Ok O key n Q (kas_sort n) := by
  have hP : Pm n (List.toArray (List.range n)) := List.Perm.refl _
  refine Ok.bind (count_ok hP h1 fun m p a b c d => ?_)
  show Ok O key n Q (if m < n then kas_bin (n - max m 1) p (max m 1) else .ret p)
  have hm : max m 1 = m := by omega
  by_cases hlt : m < n
  · rw [if_pos hlt, hm]
    exact bin_ok (n - m) p m a b (by omega) d h
  · rw [if_neg hlt]
    have : m = n := by omega
    subst this
    exact h p a d
end Srt
namespace L2
open PySem PySem.Spec PyProof.Rows PySem.W
section
variable {prog : Program} {w : World} {A : Around} {E : Value → Shared → Prop} {s : Shared}
end
section
variable {X : Cx}
end
end L2
namespace L2
open PySem PySem.Spec PyProof.Rows PySem.W
section
variable {prog : Program} {w : World} {A : Around} {E : Value → Shared → Prop} {s : Shared}
theorem sort_gen {a : Addr} {vs : List Value} {n : Nat} {P : PySem.Fin → Shared → Prop} (O : KeyOrd) (key : Nat → O.α) (κ : SortKind) (ho : s.heap.get? a = some (seqObj "list" vs.toArray n)) (h64 : vs.length < 64)
    (hk : ∀ (s' : Shared) (Q : SortKind → Shared → Prop), (∀ b o, b ≠ a → s.heap.get? b = some o → s'.heap.get? b = some o) → 2 ≤ vs.length → Q κ s' → wpAny (model prog w) A (keyKind' vs.toArray) Q E s')
    (hc : ∀ (s' : Shared) (i j : Nat) (C : Bool → Shared → Prop), (∀ b o, b ≠ a → s.heap.get? b = some o → s'.heap.get? b = some o) → i < vs.length → j < vs.length → C (O.blt (key i) (key j)) s' → wpAny (model prog w) A (keyLt' κ (vs.getD i Value.none) (vs.getD j Value.none)) C (fun _ _ => False) s')
    (h : ∀ p : Array Nat, Srt.Pm vs.length p → Srt.Up (O := O) key p vs.length → P (.done (.ret .none)) { s with heap := sortedHeap s.heap a vs (p.toList.map fun i => vs.getD i Value.none).toArray }) :
    wpAny (model prog w) A (Builtin.«list.sort» ⟨[.ref a], []⟩) P E s := by
  have hal : a < s.heap.objs.size := Heap.lt_size ho
  rw [list_sort_plain]
  refine wpAny_bind (listItems_at ho rfl ?_)
  refine wpAny_bind (listUpdate_at ho rfl ?_ (by rw [List.size_toArray, sizeLine_eq]; omega) (Nat.zero_le _))
  obtain ⟨e1, ho1⟩ : ∃ e1, (s.heap.update a (Obj.mapSeq fun _ => (#[] : Array Value))).get? a = some (seqObj "list" #[] e1) := ⟨_, get?_update_seq ho fun _ => #[]⟩
  refine wpAny_bind (seqEpoch_at ho1 rfl (wpAny_bind (wpAny_newTuple ?_ (by show vs.length ≤ _; rw [sizeLine_eq]; omega))))
  refine wpAny_bind (wpAny_newList (wpAny_holding ?_) (Nat.zero_le _))
  have keep : ∀ b o, b ≠ a → s.heap.get? b = some o → (((s.heap.update a (Obj.mapSeq fun _ => (#[] : Array Value))).push (seqObj "tuple" vs.toArray 0)).push (seqObj "list" #[] 0)).get? b = some o := fun b o hb e =>
    Heap.get?_push_of_some _ (Heap.get?_push_of_some _ ((Heap.get?_update_ne _ _ _ _ hb).trans e))
  have ho6 : (((s.heap.update a (Obj.mapSeq fun _ => (#[] : Array Value))).push (seqObj "tuple" vs.toArray 0)).push (seqObj "list" #[] 0)).get? a = some (seqObj "list" #[] e1) := Heap.get?_push_of_some _ (Heap.get?_push_of_some _ ho1)
  show wpAny (model prog w) A _ P E { s with heap := ((s.heap.update a (Obj.mapSeq fun _ => (#[] : Array Value))).push (seqObj "tuple" vs.toArray 0)).push (seqObj "list" #[] 0) }
  dsimp only
  have hz : vs.toArray.size = vs.length := List.size_toArray
  by_cases h2 : vs.toArray.size < 2
  · rw [if_pos h2, if_pos h2]
    refine wpAny_bind (wpAny_pure ?_)
    rw [StateT.run_pure]
    refine wpAny_bind (wpAny_pure ?_)
    dsimp only
    refine wpAny_bind (seqEpoch_at ho6 rfl ?_)
    have e2 : (arrOf (SortSt.mk' general' (vs.toArray.zip vs.toArray) #[] 7 none)).map (·.2) = vs.toArray := by
      show (vs.toArray.zip vs.toArray).map (·.2) = vs.toArray
      apply Array.toList_inj.mp
      rw [Array.toList_map, Array.toList_zip]
      exact List.map_snd_zip (Nat.le_refl _)
    rw [e2]
    refine wpAny_bind (listUpdate_at ho6 rfl ?_ (hsz2 := by show vs.toArray.size ≤ _; rw [sizeLine_eq]; omega))
    simp only [bne_self_eq_false, Bool.false_eq_true, if_false]
    have := h (List.range vs.length).toArray (List.Perm.refl _) (fun i j hij hj => by
      have : i = j := by omega
      subst this
      exact O.irrefl _)
    have e3 : ((List.range vs.length).toArray.toList.map fun i => vs.getD i Value.none) = vs := by
      apply List.ext_getElem (by simp)
      intro i a b
      simp at a
      simp [a]
    rw [e3] at this
    exact wpAny_pure this
  · rw [if_neg h2, if_neg h2]
    refine wpAny_bind ?_
    refine hk { s with heap := ((s.heap.update a (Obj.mapSeq fun _ => (#[] : Array Value))).push (seqObj "tuple" vs.toArray 0)).push (seqObj "list" #[] 0) } _ keep (by omega) ?_
    refine wpAny_bind (wpAny_mono (kat_run (Q := fun st' s' => ∃ p : Array Nat, Srt.Pm vs.length p ∧ Srt.Up (O := O) key p vs.length ∧ (arrOf st').map (·.2) = (p.toList.map fun i => vs.getD i Value.none).toArray ∧ failedOf st' = none ∧
        s' = { s with heap := ((s.heap.update a (Obj.mapSeq fun _ => (#[] : Array Value))).push (seqObj "tuple" vs.toArray 0)).push (seqObj "list" #[] 0) })
      (G := fun p s' => Srt.Pm vs.length p ∧ Srt.Up (O := O) key p vs.length ∧ s' = { s with heap := ((s.heap.update a (Obj.mapSeq fun _ => (#[] : Array Value))).push (seqObj "tuple" vs.toArray 0)).push (seqObj "list" #[] 0) })
      (vs := vs) (ks := vs) rfl (by omega) (by omega) (fun p st' s' hsz har hfl hg => ?_) ?_) (fun r s' hq => ?_) fun _ _ e => e)
    · obtain ⟨hP, hU, es⟩ := hg
      exact ⟨p, hP, hU, kat_snds rfl har, hfl, es⟩
    · refine Srt.Ok.wp (O := O) (key := key) (n := vs.length) (fun i j C hi hj hC => ?_) (Q := fun p => Srt.Pm vs.length p ∧ Srt.Up (O := O) key p vs.length) (fun p hp => ⟨hp.1, hp.2, rfl⟩) (Srt.sort_ok (by omega) fun p a b => ⟨a, b⟩)
      exact hc { s with heap := ((s.heap.update a (Obj.mapSeq fun _ => (#[] : Array Value))).push (seqObj "tuple" vs.toArray 0)).push (seqObj "list" #[] 0) } i j C keep hi hj hC
    · obtain ⟨p, o1, o2, o3, o4, rfl⟩ := hq
      obtain ⟨⟨⟩, st'⟩ := r
      dsimp only at o3 o4 ⊢
      refine wpAny_bind (seqEpoch_at ho6 rfl ?_)
      rw [o3]
      refine wpAny_bind (listUpdate_at ho6 rfl ?_ (hsz2 := by show (p.toList.map fun i => vs.getD i Value.none).toArray.size ≤ _; rw [List.size_toArray, List.length_map, o1.length_eq, List.length_range, sizeLine_eq]; omega))
      rw [o4]
      simp only [bne_self_eq_false, Bool.false_eq_true, if_false]
      exact wpAny_pure (h p o1 o2)
theorem sorted_gen {l : Addr} {vs : List Value} {Q : Value → Shared → Prop} (O : KeyOrd) (key : Nat → O.α) (κ : SortKind) (hl : s.heap.IsList l vs.toArray) (h64 : vs.length < 64)
    (hk : ∀ (s' : Shared) (E' : Value → Shared → Prop) (Q : SortKind → Shared → Prop), (∀ b o, s.heap.get? b = some o → s'.heap.get? b = some o) → 2 ≤ vs.length → Q κ s' → wpAny (model prog w) A.in1.in1 (keyKind' vs.toArray) Q E' s')
    (hc : ∀ (s' : Shared) (i j : Nat) (C : Bool → Shared → Prop), (∀ b o, s.heap.get? b = some o → s'.heap.get? b = some o) → i < vs.length → j < vs.length → C (O.blt (key i) (key j)) s' → wpAny (model prog w) A.in1.in1 (keyLt' κ (vs.getD i Value.none) (vs.getD j Value.none)) C (fun _ _ => False) s')
    (h : ∀ p : Array Nat, Srt.Pm vs.length p → Srt.Up (O := O) key p vs.length → Q (.ref (s.heap.objs.size + 1)) { s with heap := sortedAll s.heap vs (p.toList.map fun i => vs.getD i Value.none).toArray }) :
    wpAny (model prog w) A (call (.builtin "sorted") [.ref l]) Q E s := by
  refine Calls.call_function_entry kind_sorted plain_sorted entry_sorted (args_sorted1 _) ?_
  unfold Builtin.«sorted»
  refine wpAny_bind (m := checkCount "sorted" 1 1 _) (wpAny_pure ?_)
  refine wpAny_bind (collect_list hl ?_ (by rw [sizeLine_eq]; omega))
  refine wpAny_bind (wpAny_newList ?_ (by rw [sizeLine_eq]; omega))
  have hsz : ((s.heap.push (seqObj "list" #[] 0)).update s.heap.objs.size (Obj.mapSeq (· ++ vs.toArray))).objs.size = s.heap.objs.size + 1 := by rw [Heap.size_update, size_push']
  have hoL : (((s.heap.push (seqObj "list" #[] 0)).update s.heap.objs.size (Obj.mapSeq (· ++ vs.toArray))).push (seqObj "list" vs.toArray 0)).get? (s.heap.objs.size + 1) = some (seqObj "list" vs.toArray 0) := by
    rw [← hsz]; exact Heap.get?_push_size _ rfl
  have keep : ∀ b o, s.heap.get? b = some o → (((s.heap.push (seqObj "list" #[] 0)).update s.heap.objs.size (Obj.mapSeq (· ++ vs.toArray))).push (seqObj "list" vs.toArray 0)).get? b = some o := fun b o e => by
    have hlt : b < s.heap.objs.size := Heap.lt_size e
    exact Heap.get?_push_of_some _ ((Heap.get?_update_ne _ _ _ _ (Nat.ne_of_lt hlt)).trans (Heap.get?_push_of_some _ e))
  show wpAny _ _ _ _ _ { s with heap := ((s.heap.push (seqObj "list" #[] 0)).update s.heap.objs.size (Obj.mapSeq (· ++ vs.toArray))).push (seqObj "list" vs.toArray 0) }
  rw [hsz]
  refine wpAny_bind (wpAny_holding (wpAny_call_entry slot_list_sort ⟨_, hoL, rfl⟩ entry_list_sort ?_ (args_list_sort _)))
  have old : ∀ (s' : Shared), (∀ b o, b ≠ s.heap.objs.size + 1 → (((s.heap.push (seqObj "list" #[] 0)).update s.heap.objs.size (Obj.mapSeq (· ++ vs.toArray))).push (seqObj "list" vs.toArray 0)).get? b = some o → s'.heap.get? b = some o) → ∀ b o, s.heap.get? b = some o → s'.heap.get? b = some o := fun s' h b o e => by
    have hlt : b < s.heap.objs.size := Heap.lt_size e
    exact h b o (fun z => by rw [z] at hlt; exact absurd hlt (Nat.not_lt.mpr (Nat.le_succ _))) (keep b o e)
  refine sort_gen (A := A.in1.in1) O key κ hoL h64 (fun s' Q' hs h2 hq => hk s' _ Q' (old s' hs) h2 hq) (fun s' i j C hs hi hj hC => hc s' i j C (old s' hs) hi hj hC) fun p o1 o2 => ⟨_, rfl, wpAny_pure ⟨_, rfl, h p o1 o2⟩⟩
theorem pair_lt {x y : Addr} {fx sx fy sy : Value} {b : Bool} {C : Bool → Shared → Prop} (hx : s.heap.IsTuple x [fx, sx].toArray) (hy : s.heap.IsTuple y [fy, sy].toArray)
    (hne : x ≠ y → SeqAt.EqAt A s fx fy false ∧ wpAny (model prog w) A (oneLt' b fx fy) C (fun _ _ => False) s) (heq : x = y → SeqAt.EqAt A s fx fx true ∧ SeqAt.EqAt A s sx sx true ∧ C false s) :
    wpAny (model prog w) A (keyLt' (tuples' b) (.ref x) (.ref y)) C E s := by
  obtain ⟨ox, gx, cx, nx, dx⟩ := hx
  obtain ⟨oy, gy, cy, ny, dy⟩ := hy
  refine kat_lt gx dx gy dy ?_
  by_cases h : x = y
  · subst h
    obtain rfl := Option.some.inj (gx.symm.trans gy)
    rw [dx] at dy
    injection dy with e1 e2
    have e3 : [fx, sx] = [fy, sy] := by simpa using congrArg Array.toList e1
    injection e3 with e4 e5
    injection e5 with e6 e7
    subst e4 e6
    obtain ⟨q1, q2, q3⟩ := heq rfl
    show KatLex prog w A b _ C [(fx, fx), (sx, sx)] 0 s
    refine kat_cons (q1 _ _ _ _ (kat_yes (kat_cons (q2 _ _ _ _ (kat_yes (kat_nil ?_))))))
    exact q3
  · obtain ⟨q1, q2⟩ := hne h
    show KatLex prog w A b _ C [(fx, fy), (sx, sy)] 0 s
    refine kat_cons (q1 _ _ _ _ (kat_no ?_))
    have : (b && (0 : Nat) == 0) = b := by simp
    rw [this]
    exact q2
end
theorem out_gen {α : Type} {O : KeyOrd} {ts : List α} {d : α} {key : α → O.α} {p : Array Nat} (hP : Srt.Pm ts.length p) (hU : Srt.Up (O := O) (fun i => key (ts.getD i d)) p ts.length) :
    (p.toList.map fun i => ts.getD i d).Perm ts ∧ (p.toList.map fun i => ts.getD i d).Pairwise fun x y => O.blt (key y) (key x) = false := by
  constructor
  · have h1 := List.Perm.map (fun i => ts.getD i d) hP
    have e : (List.range ts.length).map (fun i => ts.getD i d) = ts := by
      apply List.ext_getElem (by simp)
      intro i a b
      simp at a
      simp [a]
    rwa [e] at h1
  · rw [List.pairwise_iff_getElem]
    intro i j hi hj hij
    have hsz := hP.size
    simp only [List.length_map, Array.length_toList] at hi hj
    have := hU i j (Nat.le_of_lt hij) (by omega)
    unfold KeyOrd.kle Srt.kk at this
    have ei : p.getD i 0 = p[i] := by simp [Array.getD, hi]
    have ej : p.getD j 0 = p[j] := by simp [Array.getD, hj]
    rw [ei, ej] at this
    simpa using this
theorem IsTuple.keeps {h h' : Heap} {a : Addr} {xs : Array Value} (k : ∀ b o, h.get? b = some o → h'.get? b = some o) (x : h.IsTuple a xs) : h'.IsTuple a xs := by
  obtain ⟨o, e, r⟩ := x
  exact ⟨o, k _ _ e, r⟩
section
variable {prog : Program} {w : World} {A : Around} {E : Value → Shared → Prop} {s : Shared}
end
section
variable {X : Cx}
theorem vals_mapF {α : Type} {f : α → Addr} : ∀ {ts : List α} {us : List Value}, Vals (ts.map fun t => V.ref (f t)) us → us = ts.map fun t => Value.ref (f t)
  | [], _, .nil => rfl
  | t :: ts, _, .cons r rr => by
    have e : _ = Value.ref (f t) := r
    rw [List.map_cons, ← vals_mapF rr, ← e]
theorem mapF_vals {α : Type} {f : α → Addr} : ∀ ts : List α, Vals (ts.map fun t => V.ref (f t)) (ts.map fun t => Value.ref (f t))
  | [] => .nil
  | t :: ts => .cons rfl (mapF_vals ts)
end
end L2
namespace L2
open PySem PySem.Spec PyProof.Rows
section
variable {prog : Program} {w : World} {A : Around} {E : Value → Shared → Prop} {s : Shared}
end
section
variable {X : Cx}
theorem vals_bools : ∀ {bs : List Bool} {us : List Value}, Vals (bs.map V.bl) us → us = bs.map Value.bool
  | [], _, .nil => rfl
  | b :: bs, _, .cons r rr => by
    have e : _ = Value.bool b := r
    rw [List.map_cons, ← vals_bools rr, ← e]
theorem call_allB (hc : X.calm = true) : CallR X (.builtin "all") (fun xs H Q => ∃ (l : Addr) (bs : List Bool), xs = [.ref l] ∧ SqL X.K H l (bs.map V.bl) ∧ Q (.bl (bs.all id)) H) := by
  intro pins s σ H xs us Q I r h
  obtain ⟨l, bs, rfl, hl, q⟩ := h
  cases r with
  | cons r rr =>
    cases rr
    obtain rfl : _ = Value.ref l := r
    obtain ⟨its, rv, p, _⟩ := I.list hl
    obtain rfl := vals_bools rv
    have hL := p.isList
    have hlt : l < s.heap.objs.size := by obtain ⟨_, e, _⟩ := hL; exact Heap.lt_size e
    refine call_all_walk (wpAny_pyIter_list hL ?_)
    refine ⟨s.heap.objs.size, [s.heap.objs.size, l], [s.heap.objs.size], (bs.map Value.bool).toArray.size, _, _, fun i => (bs[i]?).getD true, rfl, Walks.list (A := X.A.in1) (I.ok.hd hc) _ l (Nat.ne_of_lt hlt) (bs.map Value.bool).toArray,
      ⟨⟨_, Heap.get?_push_size _ rfl, rfl, rfl⟩, hL.push _⟩, fun i v s' Q' E' hP hQ => ?_, fun h' tk hk => ?_⟩
    · have hP' : (bs.map Value.bool)[i]? = some v := by simpa using hP
      rw [List.getElem?_map] at hP'
      cases eb : bs[i]? with
      | none => rw [eb] at hP'; simp at hP'
      | some b =>
        rw [eb] at hP'
        obtain rfl : Value.bool b = v := by simpa using hP'
        have hQ2 : Q' ((bs[i]?).getD true) s' := hQ
        rw [eb] at hQ2
        exact wpAny_truthy_bool hQ2
    · have e : ((List.range (bs.map Value.bool).toArray.size).all fun i => (bs[i]?).getD true) = bs.all id := by
        rw [List.size_toArray, List.length_map, Bool.eq_iff_iff, List.all_eq_true, List.all_eq_true]
        constructor
        · intro h x hx
          obtain ⟨i, hi, rfl⟩ := List.getElem_of_mem hx
          have := h i (List.mem_range.mpr hi)
          rw [List.getElem?_eq_getElem hi] at this
          exact this
        · intro h i hi
          have hi' := List.mem_range.mp hi
          rw [List.getElem?_eq_getElem hi']
          exact h _ (List.getElem_mem hi')
      rw [e]
      exact ⟨.bl _, H, I.kept (t' := tk) (fun b o eb => hk b o (fun hm => by rw [List.mem_singleton.mp hm] at eb; exact Nat.lt_irrefl _ (Heap.lt_size eb)) (Heap.get?_push_of_some _ eb)), rfl, q⟩
end
end L2
namespace L2
open PySem PySem.Spec PyProof.Rows PySem.W
section
variable {X : Cx}
end
@[reducible] def strOrd : KeyOrd := ⟨List Nat, fun a b => decide (a < b), fun a => strKind.irrefl a, fun a b c => strKind.trans a b c, fun a b c => strKind.negTrans a b c, fun a b => strKind.total a b⟩
abbrev PNx := Addr × Str × Addr × List Str
def PairN (h : Heap) (t : PNx) : Prop := ∃ (tk : Tok) (as : List Addr), h.IsTuple t.1 [Value.str t.2.1 tk, Value.ref t.2.2.1].toArray ∧ Reads h (.ref t.2.2.1) (.tuple (t.2.2.2.map PyData.str)) as
theorem PairN.keeps {h h' : Heap} {t : PNx} (k : ∀ b o, h.get? b = some o → h'.get? b = some o) (x : PairN h t) : PairN h' t := by
  obtain ⟨tk, as, h1, h2⟩ := x
  exact ⟨tk, as, IsTuple.keeps k h1, Reads.keeps k h2⟩
theorem rd_strs {K : PySem.W.Frag} {H : Hp} : ∀ p : List Str, RdAll K H (p.map V.str) (p.map PyData.str)
  | [] => .nil
  | i :: r => .cons (.str i) (rd_strs r)
theorem lay_strs : ∀ p : List Str, (∀ x ∈ p, PyData.strOk x = true) → PyData.canLayAll0 (p.map PyData.str) = true
  | [], _ => by simp [PyData.canLayAll0]
  | i :: r, h => by simp only [List.map_cons, PyData.canLayAll0, PyData.canLay0, lay_strs r fun x hx => h x (List.mem_cons_of_mem _ hx), h i List.mem_cons_self, Bool.and_self]
theorem pairN_tups {h : Heap} : ∀ {ts : List PNx}, (∀ t ∈ ts, PairN h t) → ∃ fs : List Value, KatTups h (ts.map fun t => Value.ref t.1) fs ∧ (∀ v ∈ fs, ∃ x t, v = Value.str x t) ∧ fs.length = ts.length
  | [], _ => ⟨[], KatTups.nil, fun v hv => (nomatch hv), rfl⟩
  | t :: r, ht => by
    obtain ⟨tk, as, ⟨o, go, gc, n, gd⟩, _⟩ := ht t List.mem_cons_self
    obtain ⟨fs, h1, h2, h3⟩ := pairN_tups fun u hu => ht u (List.mem_cons_of_mem _ hu)
    refine ⟨Value.str t.2.1 tk :: fs, KatTups.cons go gc gd rfl h1, fun v hv => ?_, by simp [h3]⟩
    rcases List.mem_cons.mp hv with rfl | hv
    · exact ⟨_, _, rfl⟩
    · exact h2 v hv
section
variable {prog : Program} {w : World} {A : Around} {E : Value → Shared → Prop} {s : Shared}
theorem pairN_lt {t u : PNx} {C : Bool → Shared → Prop} (ht : PairN s.heap t) (hu : PairN s.heap u) (hok : ∀ x ∈ t.2.2.2, PyData.strOk x = true) (hd : t.1 ≠ u.1 → t.2.1 ≠ u.2.1) (hA : A.units + 2 < cLine) (h : C (decide (t.2.1.cps.toList < u.2.1.cps.toList)) s) : wpAny (model prog w) A (keyLt' (tuples' true) (.ref t.1) (.ref u.1)) C E s := by
  obtain ⟨tk, as, h1, h4⟩ := ht
  obtain ⟨tk2, as2, g1, g4⟩ := hu
  have lay : (PyData.tuple (t.2.2.2.map PyData.str)).canLay0 = true := by simp only [PyData.canLay0]; exact lay_strs _ hok
  have dep : (PyData.tuple (t.2.2.2.map PyData.str)).depth ≤ 1 := by simp only [PyData.depth, depth_strs]; omega
  refine pair_lt h1 g1 (fun hne => ?_) (fun heq => ?_)
  · refine ⟨?_, oneLt_str h⟩
    have e := (eqGives_str t.2.1 u.2.1 tk tk2).at A s
    have : (t.2.1 == u.2.1) = false := by simpa using hd hne
    rw [this] at e
    exact e
  · refine ⟨?_, ?_, ?_⟩
    · have e := (eqGives_str t.2.1 t.2.1 tk tk).at A s
      simpa using e
    · have e := SeqAt.eqAt_reads _ _ A s _ _ _ _ h4 h4 lay lay (by omega)
      rw [eqv_self _ lay] at e
      exact e
    · have e1 : t.2.1 = u.2.1 := by
        obtain ⟨o, e, _, n, d⟩ := h1
        obtain ⟨o2, e2, _, n2, d2⟩ := g1
        rw [heq, e2] at e
        cases e
        rw [d] at d2
        injection d2 with z1 z2
        have z3 : [Value.str t.2.1 tk, Value.ref t.2.2.1] = [Value.str u.2.1 tk2, Value.ref u.2.2.1] := by simpa using congrArg Array.toList z1
        injection z3 with z4 z5
        injection z4
      rw [← e1, decide_eq_false (List.lt_irrefl _)] at h
      exact h
end
section
variable {X : Cx}
theorem call_sortedN (hu : X.A.units + 4 < cLine) : CallR X (.builtin "sorted") (fun xs H Q => ∃ (l : Addr) (ts : List PNx), xs = [.ref l] ∧ SqL X.K H l (ts.map fun t => V.ref t.1) ∧ (∀ t ∈ ts, SqT X.K H t.1 [.str t.2.1, .ref t.2.2.1] ∧ SqT X.K H t.2.2.1 (t.2.2.2.map V.str) ∧ ∀ x ∈ t.2.2.2, PyData.strOk x = true) ∧ (ts.map fun t => t.2.1).Nodup ∧ ts.length < 64 ∧
    ∀ (out : List PNx) p, out.Perm ts → (out.Pairwise fun x y => ¬ y.2.1.cps.toList < x.2.1.cps.toList) → H p = none → Q (.ref p) (upd H p (.lst (out.map fun t => V.ref t.1)))) := by
  intro pins s σ H xs us Q I r h
  obtain ⟨l, ts, rfl, hl, ht, hnd, h64, q⟩ := h
  cases r with
  | cons r rr =>
    cases rr
    obtain rfl : _ = Value.ref l := r
    obtain ⟨its, rv, p, _⟩ := I.list hl
    obtain rfl := vals_mapF rv
    have hP : ∀ t ∈ ts, PairN s.heap t := fun t htm => by
      obtain ⟨h1, h2, _⟩ := ht t htm
      obtain ⟨its1, r1, p1, _⟩ := I.tuple h1
      obtain ⟨u, v, rfl, ru, rv⟩ := r1.two
      cases (show v = Value.ref _ from rv)
      obtain ⟨tk, rfl⟩ := (show ∃ tk, u = Value.str _ tk from ru)
      obtain ⟨as, q4⟩ := (RdV.tup h2 (rd_strs _)).reads I (show RelV (.ref t.2.2.1) (.ref t.2.2.1) from rfl)
      exact ⟨tk, as, p1, q4⟩
    let d : PNx := (0, ⟨#[]⟩, 0, [])
    have gd : ∀ i, i < ts.length → (ts.map fun t => Value.ref t.1).getD i Value.none = .ref (ts.getD i d).1 := fun i hi => by simp [List.getD_eq_getElem?_getD, hi]
    have md : ∀ i, i < ts.length → ts.getD i d ∈ ts := fun i hi => by simp [List.getD_eq_getElem?_getD, hi]
    have ek : (Value.type "str" != Value.type "tuple") = true := by decide +kernel
    refine sorted_gen strOrd (fun i => (ts.getD i d).2.1.cps.toList) (tuples' true) p.isList (by simpa using h64) (fun s' E' Q' hs h2 hq => ?_) (fun s' i j C hs hi hj hC => ?_) fun pp o1 o2 => ?_
    · obtain ⟨fs, f1, f2, f3⟩ := pairN_tups (h := s'.heap) fun t htm => (hP t htm).keeps hs
      refine kat_kind (T := .type "str") f1 (by rw [f3]; rw [List.length_map] at h2; omega) (fun v hv => ?_) (by decide +kernel) (by rw [ek]; exact hq)
      obtain ⟨x, t, rfl⟩ := f2 v hv
      exact .now
    · rw [List.length_map] at hi hj
      rw [gd i hi, gd j hj]
      refine pairN_lt ((hP _ (md i hi)).keeps hs) ((hP _ (md j hj)).keeps hs) (ht _ (md i hi)).2.2 (fun hne he => hne ?_) (by show X.A.units + 1 + 1 + 2 < cLine; omega) hC
      have hij : i = j := by
        have a1 : (ts.map fun t => t.2.1)[i]'(by simpa using hi) = (ts.getD i d).2.1 := by simp [List.getD_eq_getElem?_getD, hi]
        have a2 : (ts.map fun t => t.2.1)[j]'(by simpa using hj) = (ts.getD j d).2.1 := by simp [List.getD_eq_getElem?_getD, hj]
        exact (List.getElem_inj hnd).mp (a1.trans (he.trans a2.symm))
      rw [hij]
    · rw [List.length_map] at o1 o2
      obtain ⟨w1, w2⟩ := out_gen (O := strOrd) (ts := ts) (d := d) (key := fun t => t.2.1.cps.toList) o1 o2
      have em : (pp.toList.map fun i => (ts.map fun t => Value.ref t.1).getD i Value.none) = (pp.toList.map fun i => ts.getD i d).map fun t => Value.ref t.1 := by
        rw [List.map_map]
        refine List.map_congr_left fun i hi => ?_
        exact gd i (List.mem_range.mp (o1.mem_iff.mp hi))
      rw [em]
      generalize pp.toList.map (fun i => ts.getD i d) = out at w1 w2
      obtain ⟨e, he⟩ := sortedAll_at s.heap (ts.map fun t => Value.ref t.1) (out.map fun t => Value.ref t.1).toArray
      have hfr : H (s.heap.objs.size + 1) = none := I.hok.fresh (Nat.le_succ _)
      refine ⟨.ref (s.heap.objs.size + 1), _, I.laid (t' := s.toks) (o := .lst (out.map fun t => V.ref t.1)) (fun b o g => sortedAll_old g) (Nat.le_succ _) ?_, rfl, q out _ w1 (w2.imp fun h => by simpa using h) hfr⟩
      exact ⟨by rw [List.length_map, w1.length_eq, sizeLine_eq]; omega, _, e, mapF_vals out, he⟩
end
end L2
namespace L2
open PySem PySem.Spec PyProof.Rows
section
variable {X : Cx} {pins : List (Addr × Obj)} {σ : St} {H : Hp} {s : Shared} {h' : Heap}
end
section
variable {X : Cx} {elts : List Expr} {k1 : Nat} {tpos : Pos}
end
end L2
namespace L2
open PySem PySem.Spec PyProof.Rows
section
variable {prog : Program} {w : World} {A : Around} {E : Value → Shared → Prop} {s : Shared} {it t : Addr} {i : Nat} {its : Array Value} {x : Value} {Q : Value → Shared → Prop}
end
section
variable {X : Cx} {elts : List Expr} {k1 : Nat} {tpos : Pos}
end
end L2
namespace L2
open PySem PySem.Spec PyProof.Rows
section
variable {X : Cx} {x : Str} {p pos : Pos} {e : Expr} {es : List Expr} {kws : List Keyword} {t tk : TA} {id : String} {ks : List Str} {r : List V → List V → Hp → VK → Prop}
end
end L2
namespace L2
open PySem PySem.Spec PyProof.Rows
structure CompG (X : Cx) (xs caps : List Str) (cap : List Nat) (scope : Scope) (cl : List (Str × Addr)) : Prop where
  clos : closureFor scope X.env = pure cl
  cell : ∀ y ∈ scope.names, y.2 ≠ .cell
  kind : scope.kind = .function
  names : ∀ y ∈ scope.names, y.2 = .local → scope.names.lookup y.1 = some .local
  lx : ∀ x ∈ xs, scope.names.lookup x = some .local
  nd : (xs ++ caps).Nodup
  from_ : ∀ y c, cl.lookup y = some c → X.env.cells.lookup y = some c
  has : ∀ y, ((relabel scope X.env).names.lookup y = some .cell ∨ (relabel scope X.env).names.lookup y = some .free) → ∃ c, cl.lookup y = some c
  len : cap.length = caps.length
  cps : ∀ (i : Nat) (y : Str), caps[i]? = some y → ∃ j, cap[i]? = some j ∧ X.N[j]? = some y ∧ X.env.scope.names.lookup y = some .cell ∧ (relabel scope X.env).names.lookup y = some .cell
def capV (cap : List Nat) (σ : St) : St := cap.map fun j => (σ[j]?).getD none
def tCompG (n : Nat) (wi : TI) (cap : List Nat) (g : TG) (tt : TT) (te : TE) : TE := fun σ H Q => wi σ H fun J H1 => ∀ acc, H1 acc = none → ∃ W : Nat → Nat → Hp → Prop, (∃ m, W 0 m (upd H1 acc (.lst []))) ∧ ∀ i m H2, W i m H2 →
  (J.stop i H2 ∧ Q (.ref acc) H2) ∨ (J.go i H2 ∧ ∀ x H3, J.yld i H2 x H3 → ∀ as : St, as.length = n → g x (as ++ capV cap σ) H3 fun σ4 H4 => (∃ bs : St, bs.length = n ∧ σ4 = bs ++ capV cap σ) ∧ tt σ4 H4 fun ok H5 => if ok = true then
    te σ4 H5 (fun y H6 => ∃ ys, H6 acc = some (.lst ys) ∧ ys.length < sizeLine ∧ ∃ m', m' < m ∧ W (i + 1) m' (upd H6 acc (.lst (ys ++ [y]))))
    else ∃ m', m' < m ∧ W (i + 1) m' H5)
theorem compG_core {X : Cx} {elt iter tg : Expr} {xs : List Str} {ifs : List Expr} {scope : Scope} {pos pos' : Pos} {wi : TI} {g : TG} {tt : TT} {te : TE} {cl : List (Str × Addr)} {caps : List Str} {cap : List Nat}
    (O : CompG X xs caps cap scope cl) (hc : X.calm = true) (hi : PI X tg iter wi) (hg : ∀ C fp s₀ H₀, PG (compX X (xs ++ caps) scope cl C fp s₀ H₀) tg g)
    (ht : ∀ C fp s₀ H₀, PF (compX X (xs ++ caps) scope cl C fp s₀ H₀) ifs tt) (he : ∀ C fp s₀ H₀, PE (compX X (xs ++ caps) scope cl C fp s₀ H₀) elt te)
    (hs : ∀ x, foldedSetIterable iter X.env x = pure x) {pins : List (Addr × Obj)} {s : Shared} {σ : St} {H : Hp} {Q : VK} {use : Option (Value → Sem Unit)} {QQ : Value → Shared → Prop} (I : Inv X pins σ H s)
    (h : tCompG xs.length wi cap g tt te σ H Q)
    (hfin : ∀ D C H' s', Inv X pins σ H' s' → OwnAt X pins H' s' C → Q (.ref D) H' → compPost (model X.prog X.w) X.A X.xe use QQ (.ref D) C (.ok .next) s') :
    wpAny (model X.prog X.w) X.A (comprehension (.ListComp elt [⟨tg, iter, ifs, 0⟩] scope pos) scope X.env pos' (newList []) false (eval iter X.env) use) QQ X.xe s := by
  refine wpAny_comprehension_free rfl hs O.clos O.kind O.names (thn (hi pins s σ H _ I h) fun v s1 h1 => thn h1 fun itv s2 h2 => ?_)
  obtain ⟨it, fp, tn, J, H1, e, I2, T, t0, f2, hR⟩ := h2
  subst e
  refine wpAny_newObj_type (wpAny_newFunctionEnv O.cell (by intro y hy; simp at hy) (fun h₁ hns hsb => ?_) O.kind)
  have hacc : H1 s2.heap.objs.size = none := I2.fresh
  obtain ⟨W, ⟨m0, w0⟩, turn⟩ := hR s2.heap.objs.size hacc
  have I3 : Inv X pins σ (upd H1 s2.heap.objs.size (.lst [])) { s2 with heap := s2.heap.push { cls := .type "list", data := .seq ([] : List Value).toArray } } := I2.lnew (t' := s2.toks) (ys := []) (its := []) .nil (Nat.zero_le _)
  generalize hs3 : ({ s2 with heap := s2.heap.push { cls := .type "list", data := .seq ([] : List Value).toArray } } : Shared) = s3 at hns hsb I3 ⊢
  generalize hD : s2.heap.objs.size = D at I3 w0 turn hacc ⊢
  generalize hH3 : upd H1 D (.lst []) = H3 at I3 w0
  have keep3 : ∀ b o, s3.heap.get? b = some o → h₁.get? b = some o := fun b o e => (hsb.2 b (Nat.ne_of_lt (Heap.lt_size e))).trans (Heap.get?_push_of_some _ e)
  have hfp3 : ∀ b ∈ fp, H3 b = none := fun b hb => by
    rw [← hH3, upd_ne]
    · exact (f2 b hb).1
    · intro z
      obtain ⟨o, e, _⟩ := T.obj _ _ t0 b hb
      exact absurd (Heap.lt_size e) (by rw [z, hD]; exact Nat.lt_irrefl _)
  have hCfresh : H3 s3.heap.objs.size = none := I3.fresh
  have hCfp : ∀ b ∈ fp, b ≠ s3.heap.objs.size := fun b hb z => by
    obtain ⟨o, e, _⟩ := T.obj _ _ t0 b hb
    have h2 : s3.heap.objs.size = s2.heap.objs.size + 1 := by rw [← hs3]; exact Heap.size_push ..
    exact absurd (Heap.lt_size e) (by rw [z, h2]; exact Nat.not_lt.mpr (Nat.le_succ _))
  have t3 : tn 0 h₁ := T.keep _ _ _ t0 fun b hb o e => keep3 b o (by rw [← hs3]; exact Heap.get?_push_of_some _ e)
  have ok' : (compX X (xs ++ caps) scope cl s3.heap.objs.size fp s3 H3).Ok := by
    refine ⟨I3.ok.mod, O.kind, I3.ok.glob, I3.ok.blt, Nat.le_refl _, fun y z c e1 e2 => I3.ok.inj y z c (O.from_ y c e1) (O.from_ z c e2), fun y hy => O.has y hy, fun y c z _ => (nomatch z), I3.ok.hd, I3.ok.frames, .inl rfl, fun b hb => ⟨hCfp b hb, fun y c e => ?_⟩, I3.bs, Nat.le_trans I3.ok.bsz I3.sz, fun b o e hb => ?_, fun b hb z => ?_, I3.stack, I3.stkFree⟩
    · exact (f2 b hb).2.2.2.2.1 y c (O.from_ y c e)
    · rcases (f2 b hb).2.2.2.1 with q | q
      · exact I3.ok.noex b o e q
      · exact absurd (Nat.lt_of_lt_of_le (Heap.lt_size e) (Nat.le_trans I3.ok.bsz q)) (Nat.lt_irrefl _)
    · rcases List.mem_cons.mp (I3.stkSub b z) with q | q
      · exact (f2 b hb).2.1 q
      · exact (f2 b hb).2.2.1 q
  have I4 : Inv (compX X (xs ++ caps) scope cl s3.heap.objs.size fp s3 H3) [] (List.replicate xs.length none ++ capV cap σ) H3 { s3 with heap := h₁, toks := s3.toks + ([] : List (Str × Value)).length } := by
    obtain ⟨m, hn, hl⟩ := id I3.loc
    refine ⟨ok', rfl, I3.bare, Un.kept keep3, ⟨_, hns, fun i y v e1 e2 e3 => ?_⟩, fun y c e => ?_, hCfresh, fun y c e => I3.freeC y c (O.from_ y c e), fun p hp => (nomatch hp), I3.hok.kept keep3, ?_⟩
    · by_cases hix : i < xs.length
      · rw [List.getElem?_append_left (by rw [List.length_replicate]; exact hix), List.getElem?_replicate, if_pos hix] at e2
        cases e2
      · have e1' : caps[i - xs.length]? = some y := by
          have e1'' : (xs ++ caps)[i]? = some y := e1
          rwa [List.getElem?_append_right (by omega)] at e1''
        obtain ⟨j, hj, hN, hk, hk'⟩ := O.cps _ y e1'
        have e2' : (σ[j]?).getD none = some v := by
          rw [List.getElem?_append_right (by rw [List.length_replicate]; omega), List.length_replicate] at e2
          unfold capV at e2
          simpa [hj] using e2
        have e2'' : σ[j]? = some (some v) := by
          cases q : σ[j]? with
          | none => rw [q] at e2'; cases e2'
          | some a => rw [q] at e2'; exact congrArg some e2'
        obtain ⟨u, r, l⟩ := hl j y v hN e2'' (.inr (.inl hk))
        refine ⟨u, r, ?_⟩
        rcases l with ⟨k, _⟩ | ⟨k, c, e, z⟩
        · have k' : X.env.scope.names.lookup y = some .local := k
          rw [hk] at k'; cases k'
        · obtain ⟨c', hc'⟩ := O.has y (.inl hk')
          have : c' = c := Option.some.inj ((O.from_ y c' hc').symm.trans e)
          subst this
          refine .inr ⟨.inl hk', c', hc', ?_⟩
          obtain ⟨o, ho, hd⟩ := z
          exact ⟨o, keep3 _ _ ho, hd⟩
    · obtain ⟨v, o, ho, hd⟩ := I3.cell y c (O.from_ y c e)
      exact ⟨v, o, keep3 _ _ ho, hd⟩
    · show (List.replicate xs.length none ++ capV cap σ).length = (xs ++ caps).length
      simp [capV, O.len]
  have fin : ∀ (H' : Hp) (σ' : St) (s' : Shared), Inv (compX X (xs ++ caps) scope cl s3.heap.objs.size fp s3 H3) [] σ' H' s' → Q (.ref D) H' →
      compPost (model X.prog X.w) X.A X.xe use QQ (.ref D) s3.heap.objs.size (.ok .next) s' := fun H' σ' s' I' q => by
    obtain ⟨m, hn, _⟩ := id I'.loc
    have hU : Un (frs X.stack) fp H3 H' s3.heap s'.heap := I'.base
    have hok2 : HOk X.prog X.w H' s'.heap := I'.hok
    have os' : s'.os = s3.os := I'.os
    have I6 : Inv X pins σ H' s' := I3.call' (ch := fp) os' hU hok2 I'.bare (fun b hb => ⟨(f2 b hb).2.2.2.1, (f2 b hb).2.1, (f2 b hb).2.2.2.2⟩)
    refine hfin D _ H' s' I6 ⟨⟨m, hn⟩, I'.free, Nat.ne_of_gt I3.lt, I3.sz, fun y c e z => ?_, fun p hp z => ?_⟩ q
    · obtain ⟨v, hv⟩ := I3.cell y c e
      exact absurd hv.lt (by rw [z]; exact Nat.lt_irrefl _)
    · exact absurd (Heap.lt_size (I3.pin p hp).1) (by rw [z]; exact Nat.lt_irrefl _)
  have stat : ∀ {H' : Hp}, (∀ b ∈ fp, H' b = none) → ∀ b ∈ fp, FpOk (compX X (xs ++ caps) scope cl s3.heap.objs.size fp s3 H3) [] H' b := fun hn b hb =>
    ⟨hn b hb, hCfp b hb, ok'.exfs b hb, .inl hb, fun y c e => (f2 b hb).2.2.2.2.1 y c (O.from_ y c e), fun p hp => (nomatch hp)⟩
  have loop : codeAny (model X.prog X.w) X.A (.compLoop (.ListComp elt [⟨tg, iter, ifs, 0⟩] scope pos) 0 (.ref it) (.ref D) (compEnvC scope cl s3.heap.objs.size X.env))
      (compPost (model X.prog X.w) X.A X.xe use QQ (.ref D) s3.heap.objs.size) { s3 with heap := h₁, toks := s3.toks + ([] : List (Str × Value)).length } := by
    refine codeAny_loop rfl (fun n s' => ∃ i as H', as.length = xs.length ∧ Inv (compX X (xs ++ caps) scope cl s3.heap.objs.size fp s3 H3) [] (as ++ capV cap σ) H' s' ∧ tn i s'.heap ∧ (∀ b ∈ fp, H' b = none) ∧ W i n H') ?_ m0 ⟨0, _, H3, List.length_replicate, I4, t3, hfp3, w0⟩
    rintro n s5 ⟨i, as, H5, has, I5, st5, fr5, w5⟩
    show wpAny _ _ ((compTurn (.ListComp elt [⟨tg, iter, ifs, 0⟩] scope pos) 0 (.ref it) (.ref D) (compEnvC scope cl s3.heap.objs.size X.env)).onRaise (fun x => do noteFrame x (compEnvC scope cl s3.heap.objs.size X.env); theTreesLotGoes x)) _ _ s5
    refine wpAny_noted ?_
    rw [compTurn_list]
    refine wpAny_bind (wpAny_standAt (wpAny_bind ?_))
    have bad : ∀ {M : Model} {A : Around} {α : Type} {t : Sem α} {P : α → Shared → Prop} {E' : Value → Shared → Prop} {s' : Shared}, wpAny M A t P (fun _ _ => False) s' → wpAny M A t P E' s' := fun h => wpAny_mono h (fun _ _ q => q) fun _ _ z => z.elim
    rcases turn i n H5 w5 with ⟨stop, qn⟩ | ⟨go, step⟩
    · refine bad (thn (T.done (compX X (xs ++ caps) scope cl s3.heap.objs.size fp s3 H3) rfl rfl rfl hc i [] s5 _ H5 (fun _ _ => False) I5 (stat fr5) st5 stop) fun r s6 ⟨hr, I6⟩ => ?_)
      subst hr
      exact wpAny_pure (fin H5 _ s6 I6 qn)
    · refine bad (thn (T.item (compX X (xs ++ caps) scope cl s3.heap.objs.size fp s3 H3) rfl rfl rfl hc i [] s5 _ H5 (fun _ _ => False) I5 (stat fr5) st5 go) fun r s6 ⟨u, hr, h6⟩ => ?_)
      subst hr
      refine wpAny_bind (bad (thn h6 fun _ s7 ⟨y, H7, I7, r7, y7, st7, fr7⟩ => ?_))
      have I7' := I7.pinned (stat fr7) (T.obj _ _ st7)
      have goal := step y H7 y7 as has
      refine wpAny_bind (bad (thn (hg s3.heap.objs.size fp s3 H3 _ s7 _ H7 y _ _ I7' r7 goal) fun _ s8 ⟨σ8, H8, I8, ⟨bs, hbs, eσ⟩, goal8⟩ => ?_))
      subst eσ
      refine wpAny_bind (bad (thn (ht s3.heap.objs.size fp s3 H3 _ s8 _ H8 _ I8 goal8) fun okb s9 ⟨H9, I9, q9⟩ => ?_))
      have again : ∀ {H10 : Hp} {s10 : Shared} {m' : Nat}, Inv (compX X (xs ++ caps) scope cl s3.heap.objs.size fp s3 H3) ([] ++ pinsAt fp s7.heap) (bs ++ capV cap σ) H10 s10 → m' < n → W (i + 1) m' H10 →
          ∃ m, m < n ∧ ∃ i as H', as.length = xs.length ∧ Inv (compX X (xs ++ caps) scope cl s3.heap.objs.size fp s3 H3) [] (as ++ capV cap σ) H' s10 ∧ tn i s10.heap ∧ (∀ b ∈ fp, H' b = none) ∧ W i m H' := fun {H10 s10 m'} I10 hm w10 => by
        refine ⟨m', hm, i + 1, bs, H10, hbs, I10.unpinned, T.keep _ _ _ st7 fun b hb o e => (I10.pin (b, o) (List.mem_append_right _ (List.mem_append_right _ (mem_pinsAt hb e)))).1, fun b hb => ?_, w10⟩
        obtain ⟨o, e, d⟩ := T.obj _ _ st7 b hb
        exact (I10.pin (b, o) (List.mem_append_right _ (List.mem_append_right _ (mem_pinsAt hb e)))).2.1
      cases okb with
      | false =>
        rw [if_neg Bool.false_ne_true] at q9
        obtain ⟨m', hm, w9⟩ := q9
        exact wpAny_pure ⟨rfl, again I9 hm w9⟩
      | true =>
        rw [if_pos rfl] at q9
        refine wpAny_bind (wpAny_bind (bad (thn (he s3.heap.objs.size fp s3 H3 _ s9 _ H9 _ I9 q9) fun yv s10 ⟨yy, H10, I10, r10, ys, hys, hlen, m', hm, w10⟩ => ?_)))
        refine wpAny_bind (bad (thn (mt_append (X := compX X (xs ++ caps) scope cl s3.heap.objs.size fp s3 H3) _ s10 _ H10 (.ref D) [yy] (.ref D) [yv] (fun _ H11 => W (i + 1) m' H11) I10 rfl (.cons r10 .nil) ⟨D, ys, yy, rfl, rfl, hys, hlen, w10⟩) fun _ s11 ⟨_, H11, I11, _, q11⟩ => ?_))
        exact wpAny_pure (wpAny_pure ⟨rfl, again I11 hm q11⟩)
  refine codeAny_compStart_list loop (T.self _ 0 _ _ _ t3 loop)
theorem pe_lcompG {X : Cx} {elt iter tg : Expr} {xs : List Str} {ifs : List Expr} {scope : Scope} {pos : Pos} {wi : TI} {g : TG} {tt : TT} {te : TE} {cl : List (Str × Addr)} {caps : List Str} {cap : List Nat}
    (O : CompG X xs caps cap scope cl) (hc : X.calm = true) (hi : PI X tg iter wi) (hg : ∀ C fp s₀ H₀, PG (compX X (xs ++ caps) scope cl C fp s₀ H₀) tg g)
    (ht : ∀ C fp s₀ H₀, PF (compX X (xs ++ caps) scope cl C fp s₀ H₀) ifs tt) (he : ∀ C fp s₀ H₀, PE (compX X (xs ++ caps) scope cl C fp s₀ H₀) elt te)
    (hs : ∀ x, foldedSetIterable iter X.env x = pure x := by intro _; rfl) :
    PE X (.ListComp elt [⟨tg, iter, ifs, 0⟩] scope pos) (tCompG xs.length wi cap g tt te) := by
  intro pins s σ H Q I h
  rw [eval_ListComp]
  exact compG_core (use := none) O hc hi hg ht he hs I h fun D C H' s' I' o q => by
    obtain ⟨m, hn⟩ := o.ns
    exact ⟨m, hn, fun h' hb => ⟨.ref D, H', o.go I' hb, rfl, q⟩⟩
theorem ps_setG {X : Cx} {elt iter tg : Expr} {xs : List Str} {y : Str} {py : Pos} {ifs : List Expr} {scope : Scope} {pos spos : Pos} {wi : TI} {g : TG} {tt : TT} {te : TE} {cl : List (Str × Addr)} {caps : List Str} {cap : List Nat} {i : Nat}
    (O : CompG X xs caps cap scope cl) (hc : X.calm = true) (hi : PI X tg iter wi) (hg : ∀ C fp s₀ H₀, PG (compX X (xs ++ caps) scope cl C fp s₀ H₀) tg g)
    (ht : ∀ C fp s₀ H₀, PF (compX X (xs ++ caps) scope cl C fp s₀ H₀) ifs tt) (he : ∀ C fp s₀ H₀, PE (compX X (xs ++ caps) scope cl C fp s₀ H₀) elt te)
    (hN : X.N.Nodup) (hy : X.N[i]? = some y) (hl : X.env.scope.names.lookup y = some .local)
    (hsw : swapsWith (.ListComp elt [⟨tg, iter, ifs, 0⟩] scope pos) (some (.Name y py)) spos.line X.env = pure true := by rfl)
    (hs : ∀ x, foldedSetIterable iter X.env x = pure x := by intro _; rfl) :
    PS X (.Assign [.Name y py] (.ListComp elt [⟨tg, iter, ifs, 0⟩] scope pos) spos) (tAsg (tCompG xs.length wi cap g tt te) (gName i)) := by
  intro pins s σ H D I h
  rw [exec_Assign_Name_used _ _ _ _ hsw]
  refine wpAny_bind (wpAny_standAt (wpAny_bind ?_))
  show wpAny _ X.A (do let _ ← comprehension (.ListComp elt [⟨tg, iter, ifs, 0⟩] scope pos) scope X.env _ (newList []) false (eval iter X.env) (some (assign (.Name y py) X.env))) _ _ s
  refine wpAny_bind (thn (compG_core (use := some (assign (.Name y py) X.env)) (QQ := fun _ s' => SP X pins D .next s') O hc hi hg ht he hs I h fun Dd C H' s' I' o q => ?_) fun _ s' hq => wpAny_pure (wpAny_pure hq))
  obtain ⟨m, hn⟩ := o.ns
  show wpAny _ X.A (assign (.Name y py) X.env (.ref Dd)) _ _ s'
  refine wpAny_assign_Name (store_ok2 (v := .ref Dd) I' hN hy (.inl hl) rfl (fun s2 I2 sb => ?_) (.inr hl))
  obtain ⟨a, sb, ha⟩ := sb
  have hCa : C ≠ a := by
    rcases ha with z | z
    · rw [z]; exact o.loc
    · exact Ne.symm (o.cells y a z)
  have o2 : OwnAt X pins H' s2 C := ⟨⟨m, hn.sameBut sb hCa⟩, o.free, o.loc, o.above, o.cells, o.pins⟩
  refine ⟨m, hn.sameBut sb hCa, fun h' hb => ?_⟩
  exact ⟨_, H', o2.go I2 hb, q⟩
section
variable {X : Cx} {xs caps : List Str} {cap : List Nat} {scope : Scope} {cl : List (Str × Addr)}
theorem pg_c1 {x : Str} {px : Pos} (O : CompG X [x] caps cap scope cl) : ∀ C fp s₀ H₀, PG (compX X ([x] ++ caps) scope cl C fp s₀ H₀) (.Name x px) (gName 0) := fun C fp s₀ H₀ =>
  pg_name (X := compX X ([x] ++ caps) scope cl C fp s₀ H₀) (i := 0) O.nd rfl (.inl (lookup_relabel_local (O.lx x (by simp)))) (.inr (lookup_relabel_local (O.lx x (by simp))))
theorem pg_c2 {x y : Str} {px py pos : Pos} {k : Nat} (O : CompG X [x, y] caps cap scope cl) (hc : X.calm = true) : ∀ C fp s₀ H₀, PG (compX X ([x, y] ++ caps) scope cl C fp s₀ H₀) (.Tuple [.Name x px, .Name y py] k pos) (gTup X.K 2 (gCons (gName 0) (gCons (gName 1) gNil))) := fun C fp s₀ H₀ =>
  pg_tup (X := compX X ([x, y] ++ caps) scope cl C fp s₀ H₀) hc (pgs_cons (pg_name (i := 0) O.nd rfl (.inl (lookup_relabel_local (O.lx x (by simp)))) (.inr (lookup_relabel_local (O.lx x (by simp)))))
    (pgs_cons (pg_name (i := 1) O.nd rfl (.inl (lookup_relabel_local (O.lx y (by simp)))) (.inr (lookup_relabel_local (O.lx y (by simp))))) pgs_nil))
end
theorem lookup_in {k : NameKind} {y : Str} : ∀ {l : List (Str × NameKind)}, l.lookup y = some k → (y, k) ∈ l
  | [], h => by simp at h
  | (n, j) :: r, h => by
    cases hx : y == n with
    | true =>
      simp only [List.lookup_cons, hx] at h
      have : y = n := by simpa using hx
      cases h
      rw [this]; exact List.mem_cons_self
    | false =>
      simp only [List.lookup_cons, hx] at h
      exact List.mem_cons_of_mem _ (lookup_in h)
theorem lookupA_in {y : Str} {c : Addr} : ∀ {l : List (Str × Addr)}, l.lookup y = some c → (y, c) ∈ l
  | [], h => by simp at h
  | (n, j) :: r, h => by
    cases hx : y == n with
    | true =>
      simp only [List.lookup_cons, hx] at h
      have : y = n := by simpa using hx
      cases h
      rw [this]; exact List.mem_cons_self
    | false =>
      simp only [List.lookup_cons, hx] at h
      exact List.mem_cons_of_mem _ (lookupA_in h)
theorem in_lookupA {y : Str} {c : Addr} : ∀ {l : List (Str × Addr)}, (y, c) ∈ l → ∃ c', l.lookup y = some c'
  | [], h => by cases h
  | (n, j) :: r, h => by
    cases hx : y == n with
    | true => exact ⟨j, by simp only [List.lookup_cons, hx]⟩
    | false =>
      simp only [List.lookup_cons, hx]
      rcases List.mem_cons.mp h with z | z
      · have : y = n := congrArg Prod.fst z
        rw [this] at hx
        simp at hx
      · exact in_lookupA z
theorem relabel_free {env : Env} {y : Str} (hf : env.scope.kind = .function) (hy : env.kindOf y = some .cell) : ∀ {names : List (Str × NameKind)}, names.lookup y = some .free →
    (names.map fun (n, k) => if (k == NameKind.free && env.scope.kind == .function && env.kindOf n == some .cell) then (n, NameKind.cell) else (n, k)).lookup y = some .cell
  | [], h => by simp at h
  | (n, k) :: r, h => by
    show List.lookup y ((if (k == NameKind.free && env.scope.kind == .function && env.kindOf n == some .cell) = true then (n, NameKind.cell) else (n, k)) :: _) = _
    cases hx : y == n with
    | true =>
      simp only [List.lookup_cons, hx] at h
      have e : y = n := by simpa using hx
      cases h
      rw [← e, hf, hy]
      simp
    | false =>
      simp only [List.lookup_cons, hx] at h
      have ih := relabel_free hf hy h
      split
      · simp only [List.lookup_cons, hx]; exact ih
      · simp only [List.lookup_cons, hx]; exact ih
def frees (names : List (Str × NameKind)) : List Str := names.filterMap fun z => if z.2 == NameKind.free then some z.1 else none
theorem closure_go {env : Env} : ∀ (names : List (Str × NameKind)) (caps : List Str) (cs : List Addr) (acc : List (Str × Addr)), frees names = caps → caps.map (fun y => env.cells.lookup y) = cs.map some →
    (forIn names acc fun (x : Str × NameKind) (r : List (Str × Addr)) => (if (x.2 == NameKind.free) = true then do let a ← cellOf env x.1; pure (ForInStep.yield ((x.1, a) :: r)) else pure (ForInStep.yield r) : Sem (ForInStep (List (Str × Addr))))) = (pure ((caps.zip cs).reverse ++ acc) : Sem (List (Str × Addr)))
  | [], caps, cs, acc, h1, h2 => by
    have : caps = [] := h1.symm
    subst this
    simp
  | (n, k) :: r, caps, cs, acc, h1, h2 => by
    rw [List.forIn_cons]
    by_cases hk : (k == NameKind.free) = true
    · have e1 : caps = n :: frees r := by
        rw [← h1]; unfold frees
        rw [List.filterMap_cons]
        simp only [hk, if_true]
      subst e1
      cases cs with
      | nil => simp at h2
      | cons c cs =>
        simp only [List.map_cons, List.cons.injEq] at h2
        have hcell : cellOf env n = pure c := by unfold cellOf; rw [h2.1]
        simp only [hk, if_true, hcell, pure_bind]
        rw [closure_go r _ cs ((n, c) :: acc) rfl h2.2]
        simp
    · have e1 : caps = frees r := by
        rw [← h1]; unfold frees
        rw [List.filterMap_cons]
        simp only [hk]
        rfl
      subst e1
      simp only [hk, if_false, pure_bind]
      exact closure_go r _ cs acc rfl h2
theorem closureFor_many {env : Env} {scope : Scope} {caps : List Str} {cs : List Addr} (hf : frees scope.names = caps) (hc : caps.map (fun y => env.cells.lookup y) = cs.map some) : closureFor scope env = pure (caps.zip cs).reverse := by
  have h := closure_go (env := env) scope.names caps cs [] hf hc
  rw [List.append_nil] at h
  unfold closureFor
  simp only [bind_pure]
  exact h
theorem CompG.many {X : Cx} {xs caps : List Str} {cap : List Nat} {cs : List Addr} {scope : Scope} (hk : scope.kind = .function) (hf : X.env.scope.kind = .function) (hfr : frees scope.names = caps)
    (hnc : ∀ z ∈ scope.names, z.2 ≠ .cell) (hl : ∀ y ∈ scope.names, y.2 = .local → scope.names.lookup y.1 = some .local) (hlx : ∀ x ∈ xs, scope.names.lookup x = some .local) (hnd : (xs ++ caps).Nodup)
    (hfl : ∀ y ∈ caps, scope.names.lookup y = some .free) (hce : caps.map (fun y => X.env.scope.names.lookup y) = caps.map fun _ => some .cell) (hcs : caps.map (fun y => X.env.cells.lookup y) = cs.map some)
    (hN : cap.map (fun j => X.N[j]?) = caps.map some) : CompG X xs caps cap scope (caps.zip cs).reverse := by
  have hlen : caps.length = cs.length := by simpa using congrArg List.length hcs
  have at_cs : ∀ (i : Nat) (y : Str), caps[i]? = some y → ∃ c, cs[i]? = some c ∧ X.env.cells.lookup y = some c := fun i y h => by
    have e := congrArg (fun l => l[i]?) hcs
    simp only [List.getElem?_map, h] at e
    cases q : cs[i]? with
    | none => rw [q] at e; simp at e
    | some c => rw [q] at e; exact ⟨c, rfl, by simpa using e⟩
  refine ⟨closureFor_many hfr hcs, hnc, hk, hl, hlx, hnd, fun y c h => ?_, fun y h => ?_, ?_, fun i y h => ?_⟩
  · have hm := lookupA_in h
    rw [List.mem_reverse] at hm
    obtain ⟨i, hi, e⟩ := List.getElem_of_mem hm
    have hi1 : i < caps.length := by rw [List.length_zip] at hi; omega
    have hi2 : i < cs.length := by rw [List.length_zip] at hi; omega
    rw [List.getElem_zip] at e
    obtain ⟨c', e1, e2⟩ := at_cs i caps[i] (List.getElem?_eq_getElem hi1)
    have e3 : caps[i] = y := congrArg Prod.fst e
    have e4 : cs[i] = c := congrArg Prod.snd e
    rw [List.getElem?_eq_getElem hi2, e4] at e1
    cases e1
    rw [← e3]; exact e2
  · have hm : y ∈ caps := by
      have aux : ∀ k : NameKind, (k = .cell ∨ k = .free) → (relabel scope X.env).names.lookup y = some k → y ∈ caps := fun k hk h => by
        have h1 := lookup_in h
        obtain ⟨z, hz, e⟩ := List.mem_map.mp h1
        obtain ⟨n, kk⟩ := z
        have hfree : kk = .free ∧ n = y := by
          dsimp only at e
          split at e
          · rename_i q
            simp only [Bool.and_eq_true] at q
            exact ⟨by simpa using q.1.1, congrArg Prod.fst e⟩
          · have e2 : kk = k := congrArg Prod.snd e
            refine ⟨?_, congrArg Prod.fst e⟩
            rcases hk with z | z
            · exact absurd (e2.trans z) (hnc _ hz)
            · exact e2.trans z
        rw [← hfr]
        refine List.mem_filterMap.mpr ⟨(n, kk), hz, ?_⟩
        rw [hfree.1, hfree.2]; rfl
      rcases h with h | h
      · exact aux _ (.inl rfl) h
      · exact aux _ (.inr rfl) h
    obtain ⟨i, hi, e⟩ := List.getElem_of_mem hm
    have hi2 : i < cs.length := by omega
    refine in_lookupA (c := cs[i]) ?_
    rw [List.mem_reverse]
    have hiz : i < (caps.zip cs).length := by rw [List.length_zip]; omega
    have := List.getElem_mem hiz
    rw [List.getElem_zip, e] at this
    exact this
  · have := congrArg List.length hN
    simpa using this
  · have e := congrArg (fun l => l[i]?) hN
    simp only [List.getElem?_map, h] at e
    have hm := List.mem_of_getElem? h
    cases q : cap[i]? with
    | none => rw [q] at e; simp at e
    | some j =>
      rw [q] at e
      have hcell : X.env.scope.names.lookup y = some .cell := by
        have e2 := congrArg (fun l => l[i]?) hce
        simpa only [List.getElem?_map, h, Option.map_some, Option.some.injEq] using e2
      exact ⟨j, rfl, by simpa using e, hcell, relabel_free hf hcell (hfl y hm)⟩
theorem compG_drive {J : It} {n N : Nat} {cs : St} {g : TG} {tt : TT} {te : TE} {H1 : Hp} {acc : Addr} {Q : Hp → Prop} (Pv : Nat → List V → Hp → Prop) (h0 : Pv 0 [] (upd H1 acc (.lst [])))
    (hstop : ∀ ys H, Pv N ys H → J.stop N H ∧ Q H)
    (hstep : ∀ i ys H, i < N → Pv i ys H → J.go i H ∧ ∀ x H3, J.yld i H x H3 → ∀ as : St, as.length = n → g x (as ++ cs) H3 fun σ4 H4 => (∃ bs : St, bs.length = n ∧ σ4 = bs ++ cs) ∧ tt σ4 H4 fun ok H5 => if ok = true then te σ4 H5 (compN N Pv acc i (N - i)) else ∃ m', m' < N - i ∧ compW N Pv (i + 1) m' H5) :
    ∃ W : Nat → Nat → Hp → Prop, (∃ m, W 0 m (upd H1 acc (.lst []))) ∧ ∀ i m H2, W i m H2 →
      (J.stop i H2 ∧ Q H2) ∨ (J.go i H2 ∧ ∀ x H3, J.yld i H2 x H3 → ∀ as : St, as.length = n → g x (as ++ cs) H3 fun σ4 H4 => (∃ bs : St, bs.length = n ∧ σ4 = bs ++ cs) ∧ tt σ4 H4 fun ok H5 => if ok = true then
        te σ4 H5 (fun y H6 => ∃ ys, H6 acc = some (.lst ys) ∧ ys.length < sizeLine ∧ ∃ m', m' < m ∧ W (i + 1) m' (upd H6 acc (.lst (ys ++ [y]))))
        else ∃ m', m' < m ∧ W (i + 1) m' H5) := by
  refine ⟨compW N Pv, ⟨N - 0, rfl, Nat.zero_le _, [], h0⟩, ?_⟩
  rintro i m H2 ⟨rfl, hi, ys, p⟩
  by_cases h : i < N
  · exact .inr (hstep i ys H2 h p)
  · have e : i = N := by omega
    subst e
    exact .inl (hstop ys H2 p)
abbrev CKon (N : Nat) (Pv : Nat → List V → Hp → Prop) (acc : Addr) (i : Nat) (te : TE) (σ : St) : Bool → Hp → Prop := fun ok H5 => if ok = true then te σ H5 (compN N Pv acc i (N - i)) else ∃ m', m' < N - i ∧ compW N Pv (i + 1) m' H5
abbrev CGoal (J : It) (n : Nat) (cs : St) (g : TG) (tt : TT) (te : TE) (H1 : Hp) (acc : Addr) (Q : Hp → Prop) : Prop :=
  ∃ W : Nat → Nat → Hp → Prop, (∃ m, W 0 m (upd H1 acc (.lst []))) ∧ ∀ i m H2, W i m H2 →
      (J.stop i H2 ∧ Q H2) ∨ (J.go i H2 ∧ ∀ x H3, J.yld i H2 x H3 → ∀ as : St, as.length = n → g x (as ++ cs) H3 fun σ4 H4 => (∃ bs : St, bs.length = n ∧ σ4 = bs ++ cs) ∧ tt σ4 H4 fun ok H5 => if ok = true then
        te σ4 H5 (fun y H6 => ∃ ys, H6 acc = some (.lst ys) ∧ ys.length < sizeLine ∧ ∃ m', m' < m ∧ W (i + 1) m' (upd H6 acc (.lst (ys ++ [y]))))
        else ∃ m', m' < m ∧ W (i + 1) m' H5)
section
variable {K : PySem.W.Frag} {a b acc : Addr} {xs zs : List V} {tt : TT} {te : TE} {cs : St} {H1 : Hp} {Q : Hp → Prop}
theorem c1_list (Pv : Nat → List V → Hp → Prop) (h0 : Pv 0 [] (upd H1 acc (.lst []))) (hl : ∀ i ys H, i ≤ xs.length → Pv i ys H → SqL K H a xs)
    (hs : ∀ i x ys H, i < xs.length → xs[i]? = some x → Pv i ys H → tt (some x :: cs) H (CKon xs.length Pv acc i te (some x :: cs))) (hd : ∀ ys H, Pv xs.length ys H → Q H) : CGoal (Itl K a) 1 cs (gName 0) tt te H1 acc Q := by
  refine compG_drive Pv h0 (fun ys H p => ⟨⟨xs, hl _ _ _ (Nat.le_refl _) p, Nat.le_refl _⟩, hd ys H p⟩) fun i ys H hi p => ⟨⟨xs, xs[i], hl _ _ _ (Nat.le_of_lt hi) p, List.getElem?_eq_getElem hi⟩, ?_⟩
  rintro x H3 ⟨rfl, hx⟩ as has
  obtain ⟨a0, rfl⟩ : ∃ a0, as = [a0] := List.length_eq_one_iff.mp has
  exact ⟨⟨[some x], rfl, rfl⟩, hs i x ys _ hi (hx xs (hl _ _ _ (Nat.le_of_lt hi) p)) p⟩
theorem c1_range {lo : Int} {n : Nat} (Pv : Nat → List V → Hp → Prop) (h0 : Pv 0 [] (upd H1 acc (.lst [])))
    (hs : ∀ i ys H, i < n → Pv i ys H → tt (some (.int (lo + i)) :: cs) H (CKon n Pv acc i te (some (.int (lo + i)) :: cs))) (hd : ∀ ys H, Pv n ys H → Q H) : CGoal (Itr lo n) 1 cs (gName 0) tt te H1 acc Q := by
  refine compG_drive Pv h0 (fun ys H p => ⟨Nat.le_refl _, hd ys H p⟩) fun i ys H hi p => ⟨hi, ?_⟩
  rintro x H3 ⟨rfl, rfl⟩ as has
  obtain ⟨a0, rfl⟩ : ∃ a0, as = [a0] := List.length_eq_one_iff.mp has
  exact ⟨⟨[some _], rfl, rfl⟩, hs i ys _ hi p⟩
theorem len_two {as : St} (h : as.length = 2) : ∃ a0 a1, as = [a0, a1] := by
  match as, h with
  | [a0, a1], _ => exact ⟨a0, a1, rfl⟩
theorem c2_list (Pv : Nat → List V → Hp → Prop) (h0 : Pv 0 [] (upd H1 acc (.lst []))) (hl : ∀ i ys H, i ≤ xs.length → Pv i ys H → SqL K H a xs)
    (hs : ∀ i x ys H, i < xs.length → xs[i]? = some x → Pv i ys H → ∃ p u v, x = .ref p ∧ SqT K H p [u, v] ∧ tt (some u :: some v :: cs) H (CKon xs.length Pv acc i te (some u :: some v :: cs))) (hd : ∀ ys H, Pv xs.length ys H → Q H) : CGoal (Itl K a) 2 cs (gTup K 2 (gCons (gName 0) (gCons (gName 1) gNil))) tt te H1 acc Q := by
  refine compG_drive Pv h0 (fun ys H p => ⟨⟨xs, hl _ _ _ (Nat.le_refl _) p, Nat.le_refl _⟩, hd ys H p⟩) fun i ys H hi p => ⟨⟨xs, xs[i], hl _ _ _ (Nat.le_of_lt hi) p, List.getElem?_eq_getElem hi⟩, ?_⟩
  rintro x H3 ⟨rfl, hx⟩ as has
  obtain ⟨a0, a1, rfl⟩ := len_two has
  obtain ⟨q, u, v, rfl, hq, h⟩ := hs i x ys _ hi (hx xs (hl _ _ _ (Nat.le_of_lt hi) p)) p
  exact ⟨q, [u, v], rfl, hq, rfl, u, [v], rfl, v, [], rfl, rfl, ⟨[some u, some v], rfl, rfl⟩, h⟩
end
end L2
namespace L2
open PySem PySem.Spec PyProof.Rows
section
variable {prog : Program} {w : World} {A : Around} {E : Value → Shared → Prop} {s : Shared}
end
section
variable {X : Cx} {elts : List Expr} {k1 : Nat} {tpos : Pos}
end
end L2
namespace L2
open PySem PySem.Spec PyProof.Rows
def rCatL (K : PySem.W.Frag) : R2 := fun x y H Q => ∃ l b xs zs, x = .ref l ∧ y = .ref b ∧ SqL K H l xs ∧ SqL K H b zs ∧ xs.length + zs.length ≤ sizeLine ∧ ∀ p, H p = none → Q (.ref p) (upd H p (.lst (xs ++ zs)))
theorem op_catL {X : Cx} : OpR X (binaryOp .Add) (rCatL X.K) := by
  intro pins s σ H x y v u Q I rx ry h
  obtain ⟨l, b, xs, zs, rfl, rfl, ha, hb, hz, q⟩ := h
  cases rx
  cases ry
  obtain ⟨its, r1, ⟨⟨c1, d1, t1, s1⟩, n1, g1, e1, f1, k1⟩, _⟩ := I.list ha
  obtain ⟨its2, r2, ⟨⟨c2, d2, t2, s2⟩, n2, g2, e2, f2, k2⟩, _⟩ := I.list hb
  simp only at e1 f1 k1 e2 f2 k2
  subst e1 f1 k1 e2 f2 k2
  have l1 := r1.length
  have l2 := r2.length
  refine concat_meets ⟨_, g1, rfl⟩ ⟨_, g2, rfl⟩ noFill_list_add seq_list_add PySem.F.slot_list_add PySem.F.entry_list_add (PySem.F.args_list_add_2 _ _) (list_addW l b _ _ n1 n2 none none s1 s2 (by rw [List.size_toArray, List.size_toArray]; omega)) ⟨g1, g2, ?_⟩
  have ea : its.toArray ++ its2.toArray = (its ++ its2).toArray := by simp
  rw [ea]
  exact ⟨.ref _, _, I.lnew (t' := s.toks) (r1.append r2) (by rw [List.length_append]; omega), rfl, q _ I.fresh⟩
theorem cutFrom (xs : List V) (k : Nat) : cutV xs (some (k : Int)) none = xs.drop k := by
  unfold cutV
  rw [HT.sIx_none, HT.sIx_nat]
  by_cases h : k ≤ xs.length
  · rw [Nat.min_eq_left h]
    exact List.take_of_length_le (by rw [List.length_drop]; omega)
  · rw [Nat.min_eq_right (by omega), List.drop_of_length_le (Nat.le_refl _), List.drop_of_length_le (by omega), List.take_nil]
theorem cutTo (xs : List V) (k : Nat) : cutV xs none (some (k : Int)) = xs.take k := by
  unfold cutV
  rw [HT.sIx_none, HT.sIx_nat, List.drop_zero, Nat.sub_zero]
  by_cases h : k ≤ xs.length
  · rw [Nat.min_eq_left h]
  · rw [Nat.min_eq_right (by omega), List.take_of_length_le (Nat.le_refl _), List.take_of_length_le (by omega)]
theorem size_line : sizeLine = 16777216 := by decide
theorem line_of {n : Nat} (h : n ≤ 5000) : n ≤ sizeLine := by rw [size_line]; omega
end L2
namespace K9
open PySem L2 TM
mutual
def td : Tree Str → PyData
  | .node n m bs => .tuple [.str n, .int m, .tuple (tds bs)]
def tds : List (Tree Str) → List PyData
  | [] => []
  | t :: r => td t :: tds r
end
abbrev KdT := Addr × Str × Addr × List PNx
def RowAt (K : PySem.W.Frag) (H : Hp) (t : PNx) : Prop := SqT K H t.1 [.str t.2.1, .ref t.2.2.1] ∧ SqT K H t.2.2.1 (t.2.2.2.map V.str)
def RowsL (K : PySem.W.Frag) (H : Hp) (lr : Addr) (rs : List PNx) : Prop := SqL K H lr (rs.map fun t => V.ref t.1) ∧ ∀ t ∈ rs, RowAt K H t
def WoodAt (K : PySem.W.Frag) (H : Hp) (w : Addr) (ks : List KdT) : Prop := SqL K H w (ks.map fun k => V.ref k.1) ∧ ∀ k ∈ ks, SqT K H k.1 [.str k.2.1, .ref k.2.2.1] ∧ RowsL K H k.2.2.1 k.2.2.2
theorem RowAt.same {K : PySem.W.Frag} {H H' : Hp} {t : PNx} (g : Same H H') (h : RowAt K H t) : RowAt K H' t := ⟨g.seqT h.1, g.seqT h.2⟩
theorem RowsL.same {K : PySem.W.Frag} {H H' : Hp} {lr : Addr} {rs : List PNx} (g : Same H H') (h : RowsL K H lr rs) : RowsL K H' lr rs := ⟨g.seq h.1, fun t ht => (h.2 t ht).same g⟩
theorem WoodAt.same {K : PySem.W.Frag} {H H' : Hp} {w : Addr} {ks : List KdT} (g : Same H H') (h : WoodAt K H w ks) : WoodAt K H' w ks := ⟨g.seq h.1, fun k hk => ⟨g.seqT (h.2 k hk).1, (h.2 k hk).2.same g⟩⟩
end K9
namespace K7
open PySem L2 K3 TM
structure Nm (w : List Nat) : Prop where
  ne : w ≠ []
  len : w.length ≤ 8
  all : ∀ c ∈ w, c ∈ letL
theorem ah_drop {ws : List (List Nat)} {n : Nat} {w : List Nat} {r : List (List Nat)} (h : ws.drop n = w :: r) : ah ws n = w ∧ n < ws.length ∧ ws.drop (n + 1) = r ∧ w ∈ ws := by
  have hn : n < ws.length := by
    rcases Nat.lt_or_ge n ws.length with q | q
    · exact q
    · rw [List.drop_eq_nil_of_le q] at h; cases h
  rw [List.drop_eq_getElem_cons hn] at h
  injection h with h1 h2
  refine ⟨?_, hn, h2, ?_⟩
  · unfold ah; rw [List.getElem?_eq_getElem hn, h1]; rfl
  · rw [← h1]; exact List.getElem_mem _
theorem drop_app {ws a r : List (List Nat)} {n : Nat} (h : ws.drop n = a ++ r) : ws.drop (n + a.length) = r := by
  rw [← List.drop_drop, h, List.drop_left]
theorem drop_le {ws a r : List (List Nat)} {n : Nat} (hn : n ≤ ws.length) (h : ws.drop n = a ++ r) : n + a.length ≤ ws.length := by
  have := congrArg List.length h
  rw [List.length_drop, List.length_append] at this
  omega
def SXs (Ts : List Addr) (r : Addr) (H H' : Hp) : Prop := ∀ b u, b ∉ Ts → b ≠ r → H b = some u → H' b = some u
theorem SXs.of {Ts : List Addr} {r : Addr} {H H' : Hp} (g : Same H H') : SXs Ts r H H' := fun b u _ _ e => g b u e
theorem SXs.ofT {Ts : List Addr} {T r : Addr} {H H' : Hp} (hT : T ∈ Ts) (g : SameX T H H') : SXs Ts r H H' := fun b u n _ e => g b u (fun z => n (z ▸ hT)) e
theorem SXs.ofR {Ts : List Addr} {r : Addr} {H H' : Hp} (g : SameX r H H') : SXs Ts r H H' := fun b u _ n e => g b u n e
theorem SXs.trans {Ts : List Addr} {r : Addr} {H H1 H2 : Hp} (a : SXs Ts r H H1) (b : SXs Ts r H1 H2) : SXs Ts r H H2 := fun c u n m e => b c u n m (a c u n m e)
structure TRs (C : Addr) (Ts : List Addr) (r : Addr) (H : Hp) : Prop where
  tb : ∀ T ∈ Ts, ∃ ps, H T = some (.tbl ps)
  ins : ∃ dx fs, H r = some (.ins C dx fs)
section
variable {C r : Addr} {Ts : List Addr} {H H' : Hp} {K : PySem.W.Frag}
theorem TRs.ne {b : Addr} {u : HO} (h : TRs C Ts r H) (e : H b = some u) (n1 : ∀ ps, u ≠ .tbl ps) (n2 : ∀ C dx fs, u ≠ .ins C dx fs) : b ∉ Ts ∧ b ≠ r := by
  obtain ⟨dx, fs, hr⟩ := h.ins
  refine ⟨fun z => ?_, fun z => by rw [z, hr] at e; exact n2 C dx fs (Option.some.inj e).symm⟩
  obtain ⟨ps, hT⟩ := h.tb b z
  rw [hT] at e; exact n1 ps (Option.some.inj e).symm
theorem TRs.keep {b : Addr} {u : HO} (h : TRs C Ts r H) (g : SXs Ts r H H') (e : H b = some u) (n1 : ∀ ps, u ≠ .tbl ps) (n2 : ∀ C dx fs, u ≠ .ins C dx fs) : H' b = some u := g b u (h.ne e n1 n2).1 (h.ne e n1 n2).2 e
theorem TRs.seqT {a : Addr} {xs : List V} (h : TRs C Ts r H) (g : SXs Ts r H H') (q : SqT K H a xs) : SqT K H' a xs := by
  rcases q with (q | ⟨o, q⟩) | q
  · exact .inl (.inl (h.keep g q (fun _ z => nomatch z) (fun _ _ _ z => nomatch z)))
  · exact .inl (.inr ⟨o, h.keep g q (fun _ z => nomatch z) (fun _ _ _ z => nomatch z)⟩)
  · exact .inr q
theorem TRs.lst {a : Addr} {xs : List V} (h : TRs C Ts r H) (g : SXs Ts r H H') (q : H a = some (.lst xs)) : H' a = some (.lst xs) := h.keep g q (fun _ z => nomatch z) (fun _ _ _ z => nomatch z)
theorem TRs.lam {f : Addr} {e : Expr} {cl : List (Str × Addr)} (h : TRs C Ts r H) (g : SXs Ts r H H') (q : LamAtC H f e cl) : LamAtC H' f e cl := by
  obtain ⟨qu, pm, c, ctv, h1, h2⟩ := q.ex
  exact ⟨qu, pm, c, ctv, h.keep g h1 (fun _ z => nomatch z) (fun _ _ _ z => nomatch z), h.keep g h2 (fun _ z => nomatch z) (fun _ _ _ z => nomatch z)⟩
end
structure ZOk (Ts : List Addr) (Z : Hp → Prop) : Prop where
  tb : ∀ H, Z H → ∀ T ∈ Ts, ∃ ps, H T = some (.tbl ps)
  sm : ∀ H H', Same H H' → Z H → Z H'
  ins : ∀ H H' r C dx fs, H r = some (.ins C dx fs) → SameX r H H' → Z H → Z H'
  lst : ∀ H a xs ys, H a = some (.lst xs) → Z H → Z (upd H a (.lst ys))
structure Rp (C : Addr) (Ts : List Addr) {α : Type} (Rv : (Addr → Prop) → Hp → V → α → Prop) : Prop where
  sx : ∀ ok H H' r v x, TRs C Ts r H → SXs Ts r H H' → Rv ok H v x → Rv ok H' v x
  pu : ∀ (ok : Addr → Prop) a xs ys H v x, (∀ b, ok b → b ≠ a) → H a = some (.lst xs) → Rv ok H v x → Rv ok (upd H a (.lst ys)) v x
  ex : ∀ ok H v x, Rv ok H v x → Rv (fun b => ok b ∧ H b ≠ none) H v x
  wk : ∀ (ok ok' : Addr → Prop) H v x, (∀ b, ok b → ok' b) → Rv ok H v x → Rv ok' H v x
inductive RL {α : Type} (Rv : (Addr → Prop) → Hp → V → α → Prop) (ok : Addr → Prop) (H : Hp) : List V → List α → Prop where
  | nil : RL Rv ok H [] []
  | cons {v : V} {vs : List V} {x : α} {xs : List α} : Rv ok H v x → RL Rv ok H vs xs → RL Rv ok H (v :: vs) (x :: xs)
theorem RL.imp {α : Type} {Rv : (Addr → Prop) → Hp → V → α → Prop} {ok ok' : Addr → Prop} {H H' : Hp} (k : ∀ v x, Rv ok H v x → Rv ok' H' v x) {vs : List V} {xs : List α} (h : RL Rv ok H vs xs) : RL Rv ok' H' vs xs := by
  induction h with
  | nil => exact .nil
  | cons a r ih => exact .cons (k _ _ a) ih
theorem RL.app {α : Type} {Rv : (Addr → Prop) → Hp → V → α → Prop} {ok : Addr → Prop} {H : Hp} {vs ws : List V} {xs ys : List α} (h : RL Rv ok H vs xs) (h2 : RL Rv ok H ws ys) : RL Rv ok H (vs ++ ws) (xs ++ ys) := by
  induction h with
  | nil => exact h2
  | cons a r ih => exact .cons a ih
theorem RL.len {α : Type} {Rv : (Addr → Prop) → Hp → V → α → Prop} {ok : Addr → Prop} {H : Hp} {vs : List V} {xs : List α} (h : RL Rv ok H vs xs) : vs.length = xs.length := by
  induction h with
  | nil => rfl
  | cons a r ih => rw [List.length_cons, List.length_cons, ih]
inductive PtL {α : Type} (Tk : α → List (List Nat) → Prop) (sg : List Nat) : List α → List (List Nat) → Prop where
  | one {x : α} {a : List (List Nat)} : Tk x a → PtL Tk sg [x] a
  | more {x y : α} {r : List α} {a b : List (List Nat)} : Tk x a → PtL Tk sg (y :: r) b → PtL Tk sg (x :: y :: r) (a ++ (sg :: b))
def spItem {α : Type} (C : Addr) (Ts : List Addr) (Z : Hp → Prop) (r l : Addr) (ws : List (List Nat)) (Rv : (Addr → Prop) → Hp → V → α → Prop) (Tk : α → List (List Nat) → Prop) (Fo : List (List Nat) → Prop) (ok : α → Prop) : Sp := fun vs H Q _ => ∃ (m : Nat) (x : α) (a rest : List (List Nat)), vs = [] ∧ RdAt C H r l ws m ∧ m ≤ ws.length ∧ ws.drop m = a ++ rest ∧ Tk x a ∧ Fo rest ∧ ok x ∧ Z H ∧
  ∀ (v : V) (H' : Hp), SXs Ts r H H' → RdAt C H' r l ws (m + a.length) → Rv (fun b => H b = none) H' v x → Z H' → Q v H'
def spPart {α : Type} (P : Program) (w : World) (K : PySem.W.Frag) (mg : Str → Option Value) (C : Addr) (Ts : List Addr) (Z : Hp → Prop) (Rv : (Addr → Prop) → Hp → V → α → Prop) (Tk : α → List (List Nat) → Prop) (Fo : List (List Nat) → Prop) (ok : α → Prop) (k : Nat) (g : Heap) : Sp := fun vs H Q _ => ∃ (r l L : Addr) (ws : List (List Nat)) (n : Nat) (sg : List Nat) (xs : List α) (us rest : List (List Nat)) (e : Expr) (cl : List (Str × Addr)), vs = [.ref r, .str (S sg), .ref L] ∧ RdAt C H r l ws n ∧ n ≤ ws.length ∧ ws.drop n = us ++ rest ∧ PtL Tk sg xs us ∧ (∀ q, Fo (sg :: q)) ∧ Fo rest ∧ rest[0]? ≠ some sg ∧ sg ≠ [] ∧ (∀ x ∈ xs, ok x) ∧ xs.length ≤ 1000 ∧ LamAtC H L e cl ∧ CalC P w K mg g k e cl (spItem C Ts Z r l ws Rv Tk Fo ok) ∧ Z H ∧
  ∀ (b : Addr) (vs : List V) (H' : Hp), SXs Ts r H H' → RdAt C H' r l ws (n + us.length) → H b = none → H' b = some (.lst vs) → RL Rv (fun c => H c = none ∧ c ≠ b) H' vs xs → Z H' → Q (.ref b) H'
theorem RdAt.trs {C r l : Addr} {Ts : List Addr} {Z : Hp → Prop} {H : Hp} {ws : List (List Nat)} {n : Nat} (h : RdAt C H r l ws n) (zo : ZOk Ts Z) (z : Z H) : TRs C Ts r H := by
  obtain ⟨dx, hx⟩ := h.ins
  exact ⟨zo.tb H z, dx, _, hx⟩
section
variable {P : Program} {w : World} {K : PySem.W.Frag} {mg : Str → Option Value} {base : Heap} {f : Addr} {fd : FuncData} {C : Addr} {Ts : List Addr} {Z : Hp → Prop} {α : Type} {Rv : (Addr → Prop) → Hp → V → α → Prop} {Tk : α → List (List Nat) → Prop} {Fo : List (List Nat) → Prop} {ok : α → Prop}
theorem scPart : FnScope ["self", "sign", "take_one", "taken"] ["self", "sign", "take_one"] (defScope sPart) := ⟨rfl, rfl, rfl, by decide +kernel, rfl, by decide +kernel, by decide +kernel⟩
theorem ok_part {k : Nat} (zo : ZOk Ts Z) (ro : Rp C Ts Rv) (F : Fun K "parted_by" "Reader.parted_by" sPart f fd) (TT : RdT K mg C) (MP : Mt P w K mg base C 2 "passed" ["self", "sign"] (spPassed C)) : FnOk P w K mg base CX0 (k + 3) f fd ["self", "sign", "take_one"] (spPart P w K mg C Ts Z Rv Tk Fo ok (k + 2) base) := by
  refine F.ok scPart (fun vs H Q E h => ?_) (fun cdv A outer s H vs Q E hr h => ?_)
  · obtain ⟨r, l, L, ws, n, sg, xs, us, rest, e, cl, rfl, _⟩ := h
    rfl
  obtain ⟨r, l, L, ws, n, sg, xs, us, rest, e, cl, rfl, hR, hn, hd, hp, hfs, hfo, hne, hsg, hok, hxl, hL, hC, hZ, q⟩ := h
  refine ⟨_, (pss_cons (ps_set (i := 3) scPart.nd rfl (Or.inl rfl) (pe_lst (pa_cons (pe_callV0 (i := 2) hC hr) pa_nil)))
    (pss_cons (ps_while PassesOwn.never (pt_val (pe_mt MP TT.cl hr (pv 0) (pa_cons (pv 1) pa_nil) (by omega))) (pss_one (ps_expr (pe_bm PySem.F.plainAttrs_list PySem.F.slot_list_append PySem.F.type_list_append mt_append (pv 3) (pa_cons (pe_callV0 (i := 2) hC hr) pa_nil)))))
    (pss_one (ps_ret (pv 3))))), ?_⟩
  have tr0 := hR.trs zo hZ
  obtain ⟨x, td, a, b0, hx1, hxs, hd0, htd, hbl⟩ : ∃ (x : α) (td : List α) (a c : List (List Nat)), Tk x a ∧ xs = x :: td ∧ ws.drop n = a ++ (c ++ rest) ∧ ((td = [] ∧ c = []) ∨ ∃ c', c = sg :: c' ∧ PtL Tk sg td c') ∧ us.length = a.length + c.length := by
    cases hp with
    | @one x a h => exact ⟨x, [], _, [], h, rfl, by simpa using hd, .inl ⟨rfl, rfl⟩, by simp⟩
    | @more x y r a b h1 h2 => exact ⟨x, y :: r, a, sg :: b, h1, rfl, by rw [hd]; simp, .inr ⟨b, rfl, h2⟩, by simp⟩
  have fo0 : Fo (b0 ++ rest) := by
    rcases htd with ⟨_, rfl⟩ | ⟨c', rfl, _⟩
    · exact hfo
    · exact hfs _
  refine ⟨L, rfl, hL, n, x, a, b0 ++ rest, rfl, hR, hn, hd0, hx1, fo0, hok x (by rw [hxs]; exact List.mem_cons_self), hZ, fun v1 H1 x1 hR1 rv1 hZ1 => ⟨(by show 1 ≤ sizeLine; decide), fun lt hlt => ?_⟩⟩
  have hL1 := tr0.lam x1 hL
  have s1 := same_new hlt (.lst [v1])
  have hR2 := hR1.same s1
  have hZ2 := zo.sm _ _ s1 hZ1
  have hL2 := hL1.same s1
  have f2 : upd H1 lt (.lst [v1]) lt = some (.lst [v1]) := upd_same
  have x2 : SXs Ts r H (upd H1 lt (.lst [v1])) := x1.trans (SXs.of s1)
  have free : ∀ {H' : Hp} {m : Nat} {b : Addr}, SXs Ts r H H' → Z H' → RdAt C H' r l ws m → H' b = none → H b = none := fun {H' m b} x h2 h3 h4 => by
    cases e : H b with
    | none => rfl
    | some u =>
      by_cases c1 : b ∈ Ts
      · obtain ⟨ps, h⟩ := zo.tb H' h2 b c1
        rw [h4] at h; cases h
      · by_cases c2 : b = r
        · obtain ⟨dx, h⟩ := h3.ins
          rw [← c2, h4] at h; cases h
        · have := x b u c1 c2 e
          rw [h4] at this; cases this
  have hl0 : H lt = none := free x1 hZ1 hR1 hlt
  have tr1 := hR1.trs zo hZ1
  have rv2 : Rv (fun c => H c = none ∧ c ≠ lt) (upd H1 lt (.lst [v1])) v1 x := by
    refine ro.wk _ _ _ _ _ (fun b hb => ⟨hb.1, fun z => ?_⟩) (ro.sx _ H1 _ r v1 x tr1 (SXs.of s1) (ro.ex _ _ _ _ rv1))
    exact hb.2 (z ▸ hlt)
  generalize upd H1 lt (.lst [v1]) = H2 at hR2 hZ2 hL2 f2 x2 rv2
  clear rv1 x1 hR1 hZ1 hL1 s1 hlt tr1
  have nel : l ≠ lt := fun z => by have h1 := hR.fl; rw [z, hl0] at h1; cases h1
  have neR : r ≠ lt := fun z => by
    obtain ⟨dx, h1⟩ := hR.ins
    rw [z, hl0] at h1; cases h1
  have growR : ∀ {H' : Hp} {ys' : List V} {p : Nat}, RdAt C H' r l ws p → RdAt C (upd H' lt (.lst ys')) r l ws p := fun {H' ys' p} h2 => by
    obtain ⟨⟨dx, h5⟩, h6⟩ := h2
    exact ⟨⟨dx, by rw [upd_ne neR]; exact h5⟩, by rw [upd_ne nel]; exact h6⟩
  have growL : ∀ {H' : Hp} {ys ys' : List V}, H' lt = some (.lst ys) → LamAtC H' L e cl → LamAtC (upd H' lt (.lst ys')) L e cl := fun {H' ys ys'} h1 h4 => by
    obtain ⟨qu, pm, c, ctv, h5, h6⟩ := h4.ex
    exact ⟨qu, pm, c, ctv, by rw [upd_ne (ne_of h5 h1 (by intro z; cases z))]; exact h5, by rw [upd_ne (ne_of h6 h1 (by intro z; cases z))]; exact h6⟩
  refine ⟨fun m σ' H' => ∃ (ys : List V) (dn td : List α) (c : List (List Nat)) (p : Nat), σ' = [some (.ref r), some (.str (S sg)), some (.ref L), some (.ref lt)] ∧ xs = dn ++ td ∧ td.length = m ∧ H' lt = some (.lst ys) ∧ SXs Ts r H H' ∧ RdAt C H' r l ws p ∧ p ≤ ws.length ∧ ws.drop p = c ++ rest ∧ ((td = [] ∧ c = []) ∨ ∃ c', c = sg :: c' ∧ PtL Tk sg td c') ∧ p + c.length = n + us.length ∧ RL Rv (fun c => H c = none ∧ c ≠ lt) H' ys dn ∧ Z H' ∧ LamAtC H' L e cl,
    ⟨td.length, [v1], [x], td, b0, n + a.length, rfl, hxs, rfl, f2, x2, hR2, drop_le hn hd0, drop_app hd0, htd, by omega, .cons rv2 .nil, hZ2, hL2⟩, ?_⟩
  rintro m σ H5 ⟨ys, dn, td5, c, p, rfl, exs, hm, f5, x5, hR5, hp5, hd5, ht5, len5, rl5, hZ5, hL5⟩
  obtain ⟨dx5, hx5⟩ := hR5.ins
  have tr5 := hR5.trs zo hZ5
  refine ⟨_, rfl, r, dx5, _, rfl, hx5, rfl, _, rfl, r, l, ws, p, sg, rfl, hR5, hp5, fun z => ⟨_, rfl, iteF ?_⟩, fun z H6 g6 hR6 => ⟨_, rfl, iteT ?_⟩⟩
  · rcases ht5 with ⟨rfl, rfl⟩ | ⟨c', rfl, _⟩
    · rw [List.append_nil] at exs
      have e6 : p = n + us.length := by simpa using len5
      subst e6
      exact ⟨_, rfl, q lt ys H5 x5 hR5 hl0 f5 (by rw [exs]; exact rl5) hZ5⟩
    · exact absurd (ah_drop hd5).1 z
  rcases ht5 with ⟨rfl, rfl⟩ | ⟨c', rfl, hpt⟩
  · exfalso
    have hd5' : ws.drop p = rest := hd5
    cases e : rest with
    | nil =>
      rw [e] at hd5'
      have hpl : ws.length ≤ p := by
        rcases Nat.lt_or_ge p ws.length with h | h
        · rw [List.drop_eq_getElem_cons h] at hd5'; cases hd5'
        · exact h
      have : ah ws p = [] := by unfold ah; rw [List.getElem?_eq_none hpl]; rfl
      exact hsg (z.symm.trans this)
    | cons w0 r0 =>
      rw [e] at hd5'
      rw [(ah_drop hd5').1] at z
      apply hne
      rw [e, z]; rfl
  have hd6 := (ah_drop hd5).2.2.1
  have hp6 := (ah_drop hd5).2.1
  have x6 : SXs Ts r H5 H6 := SXs.ofR g6
  have hZ6 := zo.ins _ _ r C dx5 _ hx5 g6 hZ5
  have f6 := tr5.lst x6 f5
  have hL6 := tr5.lam x6 hL5
  have tr6 := hR6.trs zo hZ6
  obtain ⟨x1, td2, a2, b2, hk2, htd2, hda2, hdis2, hlen2⟩ : ∃ (x : α) (td : List α) (a d : List (List Nat)), Tk x a ∧ td5 = x :: td ∧ ws.drop (p + 1) = a ++ (d ++ rest) ∧ ((td = [] ∧ d = []) ∨ ∃ c', d = sg :: c' ∧ PtL Tk sg td c') ∧ c'.length = a.length + d.length := by
    cases hpt with
    | @one x a h => exact ⟨x, [], _, [], h, rfl, by simpa using hd6, .inl ⟨rfl, rfl⟩, by simp⟩
    | @more x y r a b h1 h2 => exact ⟨x, y :: r, a, sg :: b, h1, rfl, by rw [hd6]; simp, .inr ⟨b, rfl, h2⟩, by simp⟩
  have fo2 : Fo (b2 ++ rest) := by
    rcases hdis2 with ⟨_, rfl⟩ | ⟨c'', rfl, _⟩
    · exact hfo
    · exact hfs _
  have hmem : x1 ∈ xs := by rw [exs, htd2]; exact List.mem_append_right _ List.mem_cons_self
  have hyl := rl5.len
  have hdl : dn.length + (td2.length + 1) ≤ 1000 := by
    have := congrArg List.length exs
    rw [htd2] at this
    simp at this; omega
  refine ⟨fun σ' H' => ∃ m', m' < m ∧ ∃ (ys : List V) (dn td : List α) (c : List (List Nat)) (p : Nat), σ' = [some (.ref r), some (.str (S sg)), some (.ref L), some (.ref lt)] ∧ xs = dn ++ td ∧ td.length = m' ∧ H' lt = some (.lst ys) ∧ SXs Ts r H H' ∧ RdAt C H' r l ws p ∧ p ≤ ws.length ∧ ws.drop p = c ++ rest ∧ ((td = [] ∧ c = []) ∨ ∃ c', c = sg :: c' ∧ PtL Tk sg td c') ∧ p + c.length = n + us.length ∧ RL Rv (fun c => H c = none ∧ c ≠ lt) H' ys dn ∧ Z H' ∧ LamAtC H' L e cl, fun σ' H' h => h, ?_⟩
  refine ⟨_, rfl, .inl ⟨rfl, _, SqL.of f6⟩, L, rfl, hL6, p + 1, x1, a2, b2 ++ rest, rfl, hR6, by omega, hda2, hk2, fo2, hok x1 hmem, hZ6, fun v7 H7 x7 hR7 rv7 hZ7 => ?_⟩
  have f7 := tr6.lst x7 f6
  have hL7 := tr6.lam x7 hL6
  have x07 := x5.trans (x6.trans x7)
  refine ⟨lt, ys, v7, rfl, rfl, f7, Nat.lt_of_lt_of_le (show ys.length < 1001 by omega) (by decide), ?_⟩
  have rv7' : Rv (fun c => H c = none ∧ c ≠ lt) H7 v7 x1 := ro.wk _ _ _ _ _ (fun b hb => ⟨free (x5.trans x6) hZ6 hR6 hb, fun z => by rw [z, f6] at hb; cases hb⟩) rv7
  have rl7 : RL Rv (fun c => H c = none ∧ c ≠ lt) H7 ys dn := rl5.imp fun v x h => ro.sx _ _ _ r v x tr6 x7 (ro.sx _ _ _ r v x tr5 x6 h)
  have hgp : ∀ v x, Rv (fun c => H c = none ∧ c ≠ lt) H7 v x → Rv (fun c => H c = none ∧ c ≠ lt) (upd H7 lt (.lst (ys ++ [v7]))) v x := fun v x h => ro.pu _ lt ys _ H7 v x (fun b hb => hb.2) f7 h
  refine ⟨td2.length, ?_, ys ++ [v7], dn ++ [x1], td2, b2, p + 1 + a2.length, rfl, by rw [exs, htd2]; simp, rfl, upd_same, fun c u n1 n2 e => ?_, growR hR7, drop_le (by omega) hda2, drop_app hda2, hdis2, ?_, (rl7.imp hgp).app (.cons (hgp _ _ rv7') .nil), zo.lst _ lt ys _ f7 hZ7, growL f7 hL7⟩
  · rw [← hm, htd2]; exact Nat.lt_succ_self _
  · rw [upd_ne (ne_of_none e hl0)]; exact x07 c u n1 n2 e
  · rw [List.length_cons] at len5; omega
end
end K7
namespace K7
open PySem L2 K3 TM
inductive TkL {α : Type} (Tk : α → List (List Nat) → Prop) : List α → List (List Nat) → Prop where
  | nil : TkL Tk [] []
  | cons {x : α} {xs : List α} {a b : List (List Nat)} : Tk x a → TkL Tk xs b → TkL Tk (x :: xs) (a ++ b)
def brG {α : Type} (xs : List α) (us : List (List Nat)) : List (List Nat) := match xs with
  | [] => []
  | _ :: _ => [40] :: (us ++ [[41]])
def spInG {α : Type} (P : Program) (w : World) (K : PySem.W.Frag) (mg : Str → Option Value) (C : Addr) (Ts : List Addr) (Z : Hp → Prop) (Rv : (Addr → Prop) → Hp → V → α → Prop) (Tk : α → List (List Nat) → Prop) (Fo : List (List Nat) → Prop) (ok : α → Prop) (k : Nat) (g : Heap) : Sp := fun vs H Q _ => ∃ (r l L : Addr) (ws : List (List Nat)) (n : Nat) (xs : List α) (us rest : List (List Nat)) (e : Expr) (cl : List (Str × Addr)), vs = [.ref r, .ref L] ∧ RdAt C H r l ws n ∧ n ≤ ws.length ∧ ws.drop n = brG xs us ++ rest ∧ TkL Tk xs us ∧ (∀ x a, Tk x a → ∃ w q, a = w :: q ∧ w ≠ [41]) ∧ (∀ x a q, Tk x a → Fo (a ++ q)) ∧ (∀ q, Fo ([41] :: q)) ∧ (xs = [] → ah ws n ≠ [40]) ∧ (∀ x ∈ xs, ok x) ∧ xs.length ≤ 1000 ∧ LamAtC H L e cl ∧ CalC P w K mg g k e cl (spItem C Ts Z r l ws Rv Tk Fo ok) ∧ Z H ∧
  ∀ (b : Addr) (vs : List V) (H' : Hp), SXs Ts r H H' → RdAt C H' r l ws (n + (brG xs us).length) → SqT K H' b vs → RL Rv (fun c => H c = none) H' vs xs → Z H' → Q (.ref b) H'
section
variable {P : Program} {w : World} {K : PySem.W.Frag} {mg : Str → Option Value} {base : Heap} {f : Addr} {fd : FuncData} {C : Addr} {Ts : List Addr} {Z : Hp → Prop} {α : Type} {Rv : (Addr → Prop) → Hp → V → α → Prop} {Tk : α → List (List Nat) → Prop} {Fo : List (List Nat) → Prop} {ok : α → Prop}
theorem TkL.fol {xs : List α} {us : List (List Nat)} (h : TkL Tk xs us) (h1 : ∀ x a q, Tk x a → Fo (a ++ q)) {r : List (List Nat)} (hr : Fo r) : Fo (us ++ r) := by
  cases h with
  | nil => exact hr
  | cons a b => rw [List.append_assoc]; exact h1 _ _ _ a
theorem scInB : FnScope ["self", "take_one", "taken"] ["self", "take_one"] (defScope sInB) := ⟨rfl, rfl, rfl, by decide +kernel, rfl, by decide +kernel, by decide +kernel⟩
theorem ok_inG {k : Nat} (zo : ZOk Ts Z) (ro : Rp C Ts Rv) (F : Fun K "in_brackets" "Reader.in_brackets" sInB f fd) (G : Gm mg) (TT : RdT K mg C) (MP : Mt P w K mg base C 2 "passed" ["self", "sign"] (spPassed C)) : FnOk P w K mg base CX0 (k + 3) f fd ["self", "take_one"] (spInG P w K mg C Ts Z Rv Tk Fo ok (k + 2) base) := by
  refine F.ok scInB (fun vs H Q E h => ?_) (fun cdv A outer s H vs Q E hr h => ?_)
  · obtain ⟨r, l, L, ws, n, xs, us, rest, e, cl, rfl, _⟩ := h
    rfl
  obtain ⟨r, l, L, ws, n, xs, us, rest, e, cl, rfl, hR, hn, hd, ht, hT1, hT2, hf41, hnil, hok, hxl, hL, hC, hZ, q⟩ := h
  refine ⟨_, (pss_cons (ps_set (i := 2) scInB.nd rfl (Or.inl rfl) (pe_lst pa_nil))
    (pss_cons (ps_cut (ps_if (pt_val (pe_mt MP TT.cl hr (pv 0) (pa_cons (pe_str) pa_nil) (by omega))) (pss_cons (ps_expr (pe_bm PySem.F.plainAttrs_list PySem.F.slot_list_append PySem.F.type_list_append mt_append (pv 2) (pa_cons (pe_callV0 (i := 1) hC hr) pa_nil)))
    (pss_one (ps_while PassesOwn.never (pt_not (pt_val (pe_mt MP TT.cl hr (pv 0) (pa_cons (pe_str) pa_nil) (by omega)))) (pss_one (ps_expr (pe_bm PySem.F.plainAttrs_list PySem.F.slot_list_append PySem.F.type_list_append mt_append (pv 2) (pa_cons (pe_callV0 (i := 1) hC hr) pa_nil))))))) pss_nil))
    (pss_one (ps_ret (pe_callTy call_tuple_of rfl G.tup PyProof.Rows.boot_tuple (pa_cons (pv 2) pa_nil)))))), ?_⟩
  have e40 : S [40] = Str.ofString "(" := by decide +kernel
  have e41 : S [41] = Str.ofString ")" := by decide +kernel
  refine ⟨(by show 0 ≤ sizeLine; decide), fun lt hlt => ?_⟩
  have s1 := same_new hlt (.lst [])
  have f1 : upd H lt (.lst []) lt = some (.lst []) := upd_same
  have hR1 := hR.same s1
  have hZ1 := zo.sm _ _ s1 hZ
  have hL1 := hL.same s1
  generalize upd H lt (.lst []) = H1 at s1 f1 hR1 hZ1 hL1
  have free : ∀ {H' : Hp} {m : Nat} {b : Addr}, SXs Ts r H H' → Z H' → RdAt C H' r l ws m → H' b = none → H b = none := fun {H' m b} x h2 h3 h4 => by
    cases e : H b with
    | none => rfl
    | some u =>
      by_cases c1 : b ∈ Ts
      · obtain ⟨ps, h⟩ := zo.tb H' h2 b c1
        rw [h4] at h; cases h
      · by_cases c2 : b = r
        · obtain ⟨dx, h⟩ := h3.ins
          rw [← c2, h4] at h; cases h
        · have := x b u c1 c2 e
          rw [h4] at this; cases this
  have nel : l ≠ lt := fun z => by have h1 := hR.fl; rw [z, hlt] at h1; cases h1
  have neR : r ≠ lt := fun z => by
    obtain ⟨dx, h1⟩ := hR.ins
    rw [z, hlt] at h1; cases h1
  have growR : ∀ {H' : Hp} {ys' : List V} {p : Nat}, RdAt C H' r l ws p → RdAt C (upd H' lt (.lst ys')) r l ws p := fun {H' ys' p} h2 => by
    obtain ⟨⟨dx, h5⟩, h6⟩ := h2
    exact ⟨⟨dx, by rw [upd_ne neR]; exact h5⟩, by rw [upd_ne nel]; exact h6⟩
  have growL : ∀ {H' : Hp} {ys ys' : List V}, H' lt = some (.lst ys) → LamAtC H' L e cl → LamAtC (upd H' lt (.lst ys')) L e cl := fun {H' ys ys'} h1 h4 => by
    obtain ⟨qu, pm, c, ctv, h5, h6⟩ := h4.ex
    exact ⟨qu, pm, c, ctv, by rw [upd_ne (ne_of h5 h1 (by intro z; cases z))]; exact h5, by rw [upd_ne (ne_of h6 h1 (by intro z; cases z))]; exact h6⟩
  refine ⟨fun σ' H' => ∃ ys : List V, σ' = [some (.ref r), some (.ref L), some (.ref lt)] ∧ H' lt = some (.lst ys) ∧ SXs Ts r H H' ∧ RdAt C H' r l ws (n + (brG xs us).length) ∧ RL Rv (fun c => H c = none ∧ c ≠ lt) H' ys xs ∧ Z H', ?_, ?_⟩
  case refine_2 =>
    rintro σ H2 ⟨ys, rfl, hy, x2, hR2, ht2, hZ2⟩
    refine ⟨_, rfl, lt, ys, rfl, .inl ⟨SqL.of hy, fun tp htp => ?_⟩⟩
    have s3 := same_new htp (.tup ys)
    have tr2 := hR2.trs zo hZ2
    exact q tp ys _ (x2.trans (SXs.of s3)) (hR2.same s3) (SqT.of upd_same) (ht2.imp fun v x h => ro.wk _ _ _ _ _ (fun b hb => hb.1) (ro.sx _ _ _ r v x tr2 (SXs.of s3) h)) (zo.sm _ _ s3 hZ2)
  obtain ⟨dx, hx⟩ := hR1.ins
  cases ht with
  | nil =>
    exact ⟨_, rfl, r, dx, _, rfl, hx, rfl, r, l, ws, n, [40], (by rw [e40]; rfl), hR1, hn, fun _ => ⟨_, rfl, iteF ⟨[], rfl, f1, SXs.of s1, hR1, .nil, hZ1⟩⟩, fun z => absurd z (hnil rfl)⟩
  | @cons x0 xs' a b ht1 ht2 =>
  have hd' : ws.drop n = [40] :: ((a ++ b) ++ ([41] :: rest)) := by rw [hd]; simp [brG]
  obtain ⟨ha, hn1, hd1, _⟩ := ah_drop hd'
  refine ⟨_, rfl, r, dx, _, rfl, hx, rfl, r, l, ws, n, [40], (by rw [e40]; rfl), hR1, hn, fun z => absurd ha z, fun _ H2 g2 hR2 => ⟨_, rfl, iteT ?_⟩⟩
  have tr1 := hR1.trs zo hZ1
  have x2 : SXs Ts r H1 H2 := SXs.ofR g2
  have f2 := tr1.lst x2 f1
  have hZ2 := zo.ins _ _ r C dx _ hx g2 hZ1
  have hL2 := tr1.lam x2 hL1
  have tr2 := hR2.trs zo hZ2
  have x02 := (SXs.of s1 (Ts := Ts) (r := r)).trans x2
  have hda : ws.drop (n + 1) = a ++ (b ++ ([41] :: rest)) := by rw [hd1, List.append_assoc]
  have len : n + 1 + a.length + b.length + 1 = n + (brG (x0 :: xs') (a ++ b)).length := by simp [brG]; omega
  refine ⟨_, rfl, .inl ⟨rfl, _, SqL.of f2⟩, L, rfl, hL2, n + 1, x0, a, b ++ ([41] :: rest), rfl, hR2, by omega, hda, ht1, ht2.fol hT2 (hf41 _), hok x0 List.mem_cons_self, hZ2, fun v H3 x3 hR3 rv3 hZ3 => ?_⟩
  have f3 := tr2.lst x3 f2
  have hL3 := tr2.lam x3 hL2
  refine ⟨lt, [], v, rfl, rfl, f3, (by show 0 < sizeLine; decide), ?_⟩
  have rv3' : Rv (fun c => H c = none ∧ c ≠ lt) (upd H3 lt (.lst ([] ++ [v]))) v x0 := ro.pu _ lt [] _ H3 v x0 (fun b hb => hb.2) f3 (ro.wk _ _ _ _ _ (fun b hb => ⟨free x02 hZ2 hR2 hb, fun z => by rw [z, f2] at hb; cases hb⟩) rv3)
  have hR4 := growR (ys' := [] ++ [v]) hR3
  have hZ4 := zo.lst _ lt [] ([] ++ [v]) f3 hZ3
  have hL4 := growL (ys' := [] ++ [v]) f3 hL3
  have x14 : SXs Ts r H (upd H3 lt (.lst ([] ++ [v]))) := fun c u n1 n2 e => by
    rw [upd_ne (ne_of_none e hlt)]
    exact x3 c u n1 n2 (x02 c u n1 n2 e)
  have f4 : upd H3 lt (.lst ([] ++ [v])) lt = some (.lst ([] ++ [v])) := upd_same
  generalize upd H3 lt (.lst ([] ++ [v])) = H4 at hR4 hZ4 hL4 x14 rv3' f4
  refine ⟨fun m σ' H' => ∃ (ys : List V) (dn td : List α) (c : List (List Nat)) (p : Nat), σ' = [some (.ref r), some (.ref L), some (.ref lt)] ∧ x0 :: xs' = dn ++ td ∧ td.length = m ∧ H' lt = some (.lst ys) ∧ SXs Ts r H H' ∧ RdAt C H' r l ws p ∧ p ≤ ws.length ∧ ws.drop p = c ++ ([41] :: rest) ∧ TkL Tk td c ∧ p + c.length + 1 = n + (brG (x0 :: xs') (a ++ b)).length ∧ RL Rv (fun c => H c = none ∧ c ≠ lt) H' ys dn ∧ Z H' ∧ LamAtC H' L e cl,
    ⟨xs'.length, [] ++ [v], [x0], xs', b, n + 1 + a.length, rfl, rfl, rfl, f4, x14, hR4, drop_le (by omega) hda, drop_app hda, ht2, len, .cons rv3' .nil, hZ4, hL4⟩, ?_⟩
  rintro m σ H5 ⟨ys, dn, td, c, p, rfl, ets, hm, f5, x5, hR5, hp5, hd5, ht5, len5, rl5, hZ5, hL5⟩
  obtain ⟨dx5, hx5⟩ := hR5.ins
  have tr5 := hR5.trs zo hZ5
  refine ⟨_, rfl, r, dx5, _, rfl, hx5, rfl, r, l, ws, p, [41], (by rw [e41]; rfl), hR5, hp5, fun z => ?_, fun z H6 g6 hR6 => ⟨_, rfl, iteF ?_⟩⟩
  · cases ht5 with
    | nil => exact absurd (ah_drop hd5).1 z
    | @cons x2 td2 a2 b2 h1 h2 =>
    have hmem : x2 ∈ x0 :: xs' := by rw [ets]; exact List.mem_append_right _ List.mem_cons_self
    have hda2 : ws.drop p = a2 ++ (b2 ++ ([41] :: rest)) := by rw [hd5, List.append_assoc]
    have hyl := rl5.len
    have hdl : dn.length + (td2.length + 1) = xs'.length + 1 := by
      have := congrArg List.length ets
      simp at this; omega
    have hts' : xs'.length + 1 ≤ 1000 := hxl
    refine ⟨_, rfl, iteT ⟨fun σ' H' => ∃ m', m' < m ∧ ∃ (ys : List V) (dn td : List α) (c : List (List Nat)) (p : Nat), σ' = [some (.ref r), some (.ref L), some (.ref lt)] ∧ x0 :: xs' = dn ++ td ∧ td.length = m' ∧ H' lt = some (.lst ys) ∧ SXs Ts r H H' ∧ RdAt C H' r l ws p ∧ p ≤ ws.length ∧ ws.drop p = c ++ ([41] :: rest) ∧ TkL Tk td c ∧ p + c.length + 1 = n + (brG (x0 :: xs') (a ++ b)).length ∧ RL Rv (fun c => H c = none ∧ c ≠ lt) H' ys dn ∧ Z H' ∧ LamAtC H' L e cl, fun σ' H' h => h, ?_⟩⟩
    refine ⟨_, rfl, .inl ⟨rfl, _, SqL.of f5⟩, L, rfl, hL5, p, x2, a2, b2 ++ ([41] :: rest), rfl, hR5, hp5, hda2, h1, h2.fol hT2 (hf41 _), hok x2 hmem, hZ5, fun v6 H6 x6 hR6 rv6 hZ6 => ?_⟩
    have f6 := tr5.lst x6 f5
    have hL6 := tr5.lam x6 hL5
    refine ⟨lt, ys, v6, rfl, rfl, f6, Nat.lt_of_lt_of_le (show ys.length < 1001 by omega) (by decide), ?_⟩
    have rv6' : Rv (fun c => H c = none ∧ c ≠ lt) H6 v6 x2 := ro.wk _ _ _ _ _ (fun b hb => ⟨free x5 hZ5 hR5 hb, fun z => by rw [z, f5] at hb; cases hb⟩) rv6
    have rl6 : RL Rv (fun c => H c = none ∧ c ≠ lt) H6 ys dn := rl5.imp fun v x h => ro.sx _ _ _ r v x tr5 x6 h
    have hgp : ∀ v x, Rv (fun c => H c = none ∧ c ≠ lt) H6 v x → Rv (fun c => H c = none ∧ c ≠ lt) (upd H6 lt (.lst (ys ++ [v6]))) v x := fun v x h => ro.pu _ lt ys _ H6 v x (fun b hb => hb.2) f6 h
    refine ⟨td2.length, ?_, ys ++ [v6], dn ++ [x2], td2, b2, p + a2.length, rfl, by rw [ets]; simp, rfl, upd_same, fun c u n1 n2 e => ?_, growR hR6, drop_le hp5 hda2, drop_app hda2, h2, ?_, (rl6.imp hgp).app (.cons (hgp _ _ rv6') .nil), zo.lst _ lt ys _ f6 hZ6, growL f6 hL6⟩
    · rw [← hm]; exact Nat.lt_succ_self _
    · rw [upd_ne (ne_of_none e hlt)]
      exact x6 c u n1 n2 (x5 c u n1 n2 e)
    · rw [List.length_append] at len5; omega
  · have hc0 : td = [] ∧ c = [] := by
      cases ht5 with
      | nil => exact ⟨rfl, rfl⟩
      | @cons x2 td2 a2 b2 h1 h2 =>
        obtain ⟨w1, r1, rfl, hw1⟩ := hT1 _ _ h1
        have := (ah_drop (show ws.drop p = w1 :: (r1 ++ (b2 ++ ([41] :: rest))) by rw [hd5]; simp)).1
        rw [z] at this
        exact absurd this.symm hw1
    obtain ⟨rfl, rfl⟩ := hc0
    have x6 : SXs Ts r H5 H6 := SXs.ofR g6
    rw [List.append_nil] at ets
    have e6 : p + 1 = n + (brG (x0 :: xs') (a ++ b)).length := by simpa using len5
    rw [e6] at hR6
    exact ⟨ys, rfl, tr5.lst x6 f5, x5.trans x6, hR6, by rw [ets]; exact rl5.imp fun v x h => ro.sx _ _ _ r v x tr5 x6 h, zo.ins _ _ r C dx5 _ hx5 g6 hZ5⟩
end
end K7
namespace L2
open PySem
theorem ClAt.one {base : Heap} {x1 : Str} {c1 : Addr} {v1 : V} {u1 : Value} (h1 : base.IsCell c1 (some u1)) (r1 : RelV v1 u1) : ClAt base [x1] [(x1, c1)] [v1] := by
  have l1 : List.lookup x1 [(x1, c1)] = some c1 := by simp [List.lookup]
  have any : ∀ x c, List.lookup x [(x1, c1)] = some c → x = x1 ∧ c = c1 := fun x c h => by
    by_cases e1 : x = x1
    · subst e1; rw [l1] at h; exact ⟨rfl, (Option.some.inj h).symm⟩
    · have b : (x == x1) = false := by simpa using e1
      simp [List.lookup, b] at h
  refine ⟨rfl, fun i x v e1 e2 => ?_, fun x c h => ?_, fun x y c a b => ?_⟩
  · match i, e1, e2 with
    | 0, e1, e2 => cases e1; cases e2; exact ⟨c1, u1, l1, h1, r1⟩
    | i + 1, e1, e2 => cases e1
  · obtain ⟨_, rfl⟩ := any x c h
    exact ⟨_, h1⟩
  · rw [(any x c a).1, (any y c b).1]
end L2
namespace K7
open PySem L2 K3 TM
def eltOf (e : Expr) (i : Nat) : Expr := match e with
  | .Tuple es _ _ => es.getD i e
  | _ => e
abbrev eRow : Expr := argOf (eltOf (retOf sRowF) 1) 0
abbrev qRow : Str := (PyProof.Rows.envOfC "row_from" (defScope sRowF) 0 0 .none).qual ++ "<lambda>"
abbrev eKind : Expr := argOf (eltOf (retOf sKindF) 1) 1
abbrev qKind : Str := (PyProof.Rows.envOfC "kind_from" (defScope sKindF) 0 0 .none).qual ++ "<lambda>"
def asgOf (s : Stmt) (i : Nat) : Expr := match (defBody s).getD i (.Pass ⟨0, 0, 0, 0⟩) with
  | .Assign _ e _ => e
  | _ => .Name "" ⟨0, 0, 0, 0⟩
abbrev eRead : Expr := argOf (asgOf sRead 1) 1
abbrev qRead : Str := (PyProof.Rows.envOfC "read_wood" (defScope sRead) 0 0 .none).qual ++ "<lambda>"
structure Ne3 (T1 T2 T3 : Addr) : Prop where
  a : T1 ≠ T2
  b : T1 ≠ T3
  c : T2 ≠ T3
structure Z3 (T1 T2 T3 : Addr) (H : Hp) : Prop where
  z1 : TbS H T1 (lamPos eRead) qRead
  z2 : TbS H T2 (lamPos eKind) qKind
  z3 : TbS H T3 (lamPos eRow) qRow
theorem tbs_ins {H H' : Hp} {T r C dx : Addr} {fs : List (Str × V)} {pos : Pos} {qual : Str} (hr : H r = some (.ins C dx fs)) (g : SameX r H H') (h : TbS H T pos qual) : TbS H' T pos qual := by
  rcases h with q | ⟨c, q, q2⟩
  · exact .inl (g _ _ (ne_of q hr (by intro z; cases z)) q)
  · exact .inr ⟨c, g _ _ (ne_of q hr (by intro z; cases z)) q, g _ _ (ne_of q2 hr (by intro z; cases z)) q2⟩
theorem tbs_lst {H : Hp} {T a : Addr} {xs ys : List V} {pos : Pos} {qual : Str} (ha : H a = some (.lst xs)) (h : TbS H T pos qual) : TbS (upd H a (.lst ys)) T pos qual := by
  rcases h with q | ⟨c, q, q2⟩
  · exact .inl (by rw [upd_ne (ne_of q ha (by intro z; cases z))]; exact q)
  · exact .inr ⟨c, by rw [upd_ne (ne_of q ha (by intro z; cases z))]; exact q, by rw [upd_ne (ne_of q2 ha (by intro z; cases z))]; exact q2⟩
theorem z3_ok (T1 T2 T3 : Addr) : ZOk [T1, T2, T3] (Z3 T1 T2 T3) := by
  refine ⟨fun H z T hT => ?_, fun H H' g z => ⟨z.z1.same g, z.z2.same g, z.z3.same g⟩, fun H H' r C dx fs hr g z => ⟨tbs_ins hr g z.z1, tbs_ins hr g z.z2, tbs_ins hr g z.z3⟩, fun H a xs ys ha z => ⟨tbs_lst ha z.z1, tbs_lst ha z.z2, tbs_lst ha z.z3⟩⟩
  simp only [List.mem_cons, List.not_mem_nil, or_false] at hT
  rcases hT with rfl | rfl | rfl
  · exact z.z1.at
  · exact z.z2.at
  · exact z.z3.at
theorem Z3.by3 {T1 T2 T3 : Addr} {H H' : Hp} (ne : Ne3 T1 T2 T3) (z : Z3 T1 T2 T3 H) (g : SameX T3 H H') (k : TbS H' T3 (lamPos eRow) qRow) : Z3 T1 T2 T3 H' := by
  obtain ⟨ps, hp⟩ := z.z3.at
  exact ⟨z.z1.sameX hp ne.b g, z.z2.sameX hp ne.c g, k⟩
theorem Z3.by2 {T1 T2 T3 : Addr} {H H' : Hp} (ne : Ne3 T1 T2 T3) (z : Z3 T1 T2 T3 H) (g : SameX T2 H H') (k : TbS H' T2 (lamPos eKind) qKind) : Z3 T1 T2 T3 H' := by
  obtain ⟨ps, hp⟩ := z.z2.at
  exact ⟨z.z1.sameX hp ne.a g, k, z.z3.sameX hp ne.c.symm g⟩
theorem Z3.by1 {T1 T2 T3 : Addr} {H H' : Hp} (ne : Ne3 T1 T2 T3) (z : Z3 T1 T2 T3 H) (g : SameX T1 H H') (k : TbS H' T1 (lamPos eRead) qRead) : Z3 T1 T2 T3 H' := by
  obtain ⟨ps, hp⟩ := z.z1.at
  exact ⟨k, z.z2.sameX hp ne.a.symm g, z.z3.sameX hp ne.b.symm g⟩
def TkN (x : List Nat) (a : List (List Nat)) : Prop := Nm x ∧ a = [x]
def RvN (_ : Addr → Prop) (_ : Hp) (v : V) (x : List Nat) : Prop := v = .str (S x)
abbrev RowD := List Nat × List (List Nat)
def TkR (x : RowD) (a : List (List Nat)) : Prop := Nm x.1 ∧ (∀ b ∈ x.2, Nm b) ∧ x.2.length ≤ 1000 ∧ a = x.1 :: brG x.2 x.2
def FoR (rest : List (List Nat)) : Prop := rest[0]? ≠ some [40]
def RvR (K : PySem.W.Frag) (_ : Addr → Prop) (H : Hp) (v : V) (x : RowD) : Prop := ∃ p b, v = .ref p ∧ SqT K H p [.str (S x.1), .ref b] ∧ SqT K H b (x.2.map fun y => V.str (S y))
abbrev KindD := List Nat × List RowD
def TkK (x : KindD) (a : List (List Nat)) : Prop := Nm x.1 ∧ x.2.length ≤ 1000 ∧ ∃ us, PtL TkR [124] x.2 us ∧ a = x.1 :: [61] :: us
def FoK (rest : List (List Nat)) : Prop := rest[0]? ≠ some [40] ∧ rest[0]? ≠ some [124]
def RvK (K : PySem.W.Frag) (ok : Addr → Prop) (H : Hp) (v : V) (x : KindD) : Prop := ∃ p l vs, v = .ref p ∧ SqT K H p [.str (S x.1), .ref l] ∧ ok l ∧ H l = some (.lst vs) ∧ RL (RvR K) (fun _ => True) H vs x.2
theorem rpN (C : Addr) (Ts : List Addr) : Rp C Ts RvN := ⟨fun _ _ _ _ _ _ _ _ h => h, fun _ _ _ _ _ _ _ _ _ h => h, fun _ _ _ _ h => h, fun _ _ _ _ _ _ h => h⟩
theorem rpR (K : PySem.W.Frag) (C : Addr) (Ts : List Addr) : Rp C Ts (RvR K) :=
  ⟨fun _ _ _ _ _ _ t g ⟨p, b, e, h1, h2⟩ => ⟨p, b, e, t.seqT g h1, t.seqT g h2⟩, fun _ _ _ _ _ _ _ _ ha ⟨p, b, e, h1, h2⟩ => ⟨p, b, e, h1.put ha, h2.put ha⟩, fun _ _ _ _ h => h, fun _ _ _ _ _ _ h => h⟩
theorem rpK (K : PySem.W.Frag) (C : Addr) (Ts : List Addr) : Rp C Ts (RvK K) :=
  ⟨fun _ _ _ _ _ _ t g ⟨p, l, vs, e, h1, o, h2, h3⟩ => ⟨p, l, vs, e, t.seqT g h1, o, t.lst g h2, h3.imp fun v x h => (rpR K C Ts).sx _ _ _ _ v x t g h⟩,
   fun _ a _ _ _ _ _ hne ha ⟨p, l, vs, e, h1, o, h2, h3⟩ => ⟨p, l, vs, e, h1.put ha, o, by rw [upd_ne (hne l o)]; exact h2, h3.imp fun v x ⟨p, b, e, g1, g2⟩ => ⟨p, b, e, g1.put ha, g2.put ha⟩⟩,
   fun _ _ _ _ ⟨p, l, vs, e, h1, o, h2, h3⟩ => ⟨p, l, vs, e, h1, ⟨o, by rw [h2]; exact fun z => nomatch z⟩, h2, h3⟩,
   fun _ _ _ _ _ hk ⟨p, l, vs, e, h1, o, h2, h3⟩ => ⟨p, l, vs, e, h1, hk l o, h2, h3⟩⟩
def spFrom {α : Type} (C : Addr) (Ts : List Addr) (Z : Hp → Prop) (Rv : (Addr → Prop) → Hp → V → α → Prop) (Tk : α → List (List Nat) → Prop) (Fo : List (List Nat) → Prop) : Sp := fun vs H Q _ => ∃ (r l : Addr) (ws : List (List Nat)) (m : Nat) (x : α) (a rest : List (List Nat)), vs = [.ref r] ∧ RdAt C H r l ws m ∧ (∀ w ∈ ws, w.length ≤ 61) ∧ m ≤ ws.length ∧ ws.drop m = a ++ rest ∧ Tk x a ∧ Fo rest ∧ Z H ∧
  ∀ (v : V) (H' : Hp), SXs Ts r H H' → RdAt C H' r l ws (m + a.length) → Rv (fun b => H b = none) H' v x → Z H' → Q v H'
theorem let_40 : ∀ c ∈ letL, c ≠ 40 ∧ c ≠ 41 := by decide
theorem Nm.beg {w : List Nat} (h : Nm w) : beg w letL = true ∧ w ≠ [40] ∧ w ≠ [41] := by
  cases w with
  | nil => exact absurd rfl h.ne
  | cons c r =>
    have hc := h.all c List.mem_cons_self
    refine ⟨decide_eq_true hc, fun z => ?_, fun z => ?_⟩
    · injection z with z1 z2; exact (let_40 c hc).1 z1
    · injection z with z1 z2; exact (let_40 c hc).2 z1
theorem ah_len {ws : List (List Nat)} (hW : ∀ w ∈ ws, w.length ≤ 61) (n : Nat) : (ah ws n).length ≤ 100 := by
  unfold ah
  cases q : ws[n]? with
  | none => simp
  | some w => have := hW w (List.mem_of_getElem? q); simp; omega
theorem tkl_names : ∀ xs : List (List Nat), (∀ b ∈ xs, Nm b) → TkL TkN xs xs
  | [], _ => .nil
  | x :: r, h => TkL.cons (a := [x]) ⟨h x List.mem_cons_self, rfl⟩ (tkl_names r fun b hb => h b (List.mem_cons_of_mem _ hb))
theorem rl_names {H : Hp} {ok : Addr → Prop} {vs : List V} {xs : List (List Nat)} (h : RL RvN ok H vs xs) : vs = xs.map fun y => V.str (S y) := by
  induction h with
  | nil => rfl
  | cons a r ih => rw [show _ = _ from a, ih]; rfl
section
variable {P : Program} {w : World} {K : PySem.W.Frag} {mg : Str → Option Value} {base : Heap} {f : Addr} {fd : FuncData} {C T1 T2 T3 c : Addr}
theorem scRowF : FnScope ["reader", "name"] ["reader"] (defScope sRowF) := ⟨rfl, rfl, rfl, by decide +kernel, rfl, by decide +kernel, by decide +kernel⟩
theorem fr_row : ∀ y ∈ (lamScope eRow).names, y.2 ≠ NameKind.cell ∧ y.2 ≠ NameKind.local := by decide +kernel
theorem on_row : ∀ y ∈ (lamScope eRow).names, y.2 = NameKind.free → y.1 = Str.ofString "reader" := by decide +kernel
theorem ok_rowF {fI : Addr} {fdI : FuncData} (ne : Ne3 T1 T2 T3) (F : Fun K "row_from" "row_from" sRowF f fd) (hn : PySem.W.nsIn K mainGlobals "row_from" = some (some (.ref f))) (hTb : PySem.W.tabIn K "row_from" = some (c, T3)) (hC : PySem.W.codeHdIn K c T3 = true) (hB : BtAt mg base) (TT : RdT K mg C)
    (MN : ∀ g : Heap, Mt P w K mg g C 3 "take_name" ["self"] (spTakeN C)) (mI : Meth K C "in_brackets" fI) (bI : Binds K fdI ["self", "take_one"] [])
    (FI : ∀ g : Heap, FnOk P w K mg g CX0 (2 + 3) fI fdI ["self", "take_one"] (spInG P w K mg C [T1, T2, T3] (Z3 T1 T2 T3) RvN TkN (fun _ => True) (fun _ => True) (2 + 2) g)) : FnOk P w K mg base CX0 6 f fd ["reader"] (spFrom C [T1, T2, T3] (Z3 T1 T2 T3) (RvR K) TkR FoR) := by
  refine Fun.okC F hn hTb scRowF (fun vs H Q E h => ?_) (fun A outer s H vs Q E hr h => ?_)
  · obtain ⟨r, l, ws, m, x, a, rest, rfl, _⟩ := h
    rfl
  obtain ⟨r, l, ws, m, x, a, rest, rfl, hR, hW, hm, hd, ht, hf, hZ, q⟩ := h
  refine ⟨_, (pss_cons (ps_set (i := 1) scRowF.nd rfl (Or.inl rfl) (pe_mt0 (MN base) TT.cl hr (pv 0) (by omega)))
    (pss_one (ps_ret (pe_tup (pa_cons (pv 1) (pa_cons (pe_methB (pv 0) TT.cl mI (fun g _ => FI g) hr bI .nil (fun _ => rfl) (pa_cons (pe_lamC (c := c) (T := T3) rfl hC hB) pa_nil)) pa_nil)))))), ?_⟩
  obtain ⟨h1, h2, h3, rfl⟩ := ht
  obtain ⟨dx, hx⟩ := hR.ins
  have hd0 : ws.drop m = x.1 :: (brG x.2 x.2 ++ rest) := hd
  obtain ⟨ha, hm1, hd1, _⟩ := ah_drop hd0
  have zo := z3_ok T1 T2 T3
  refine ⟨_, rfl, r, dx, _, rfl, hx, rfl, r, l, ws, m, rfl, hR, hm, ah_len hW m, by rw [ha]; exact h1.beg.1, fun H1 g1 hR1 => ?_⟩
  rw [ha]
  have hZ1 := zo.ins _ _ r C dx _ hx g1 hZ
  have x1 : SXs [T1, T2, T3] r H H1 := SXs.ofR g1
  obtain ⟨dx1, hx1⟩ := hR1.ins
  refine ⟨_, rfl, _, rfl, r, dx1, _, rfl, hx1, rfl, hZ1.z3, fun L H4 x4 hL0 hL4 tb4 g hs hc => ?_⟩
  obtain ⟨ps, hps⟩ := hZ1.z3.at
  have nr : r ≠ T3 := fun z => by rw [z, hps] at hx1; cases hx1
  have nl : l ≠ T3 := fun z => by have h := hR1.fl; rw [z, hps] at h; cases h
  have hR4 : RdAt C H4 r l ws (m + 1) := ⟨⟨dx1, x4 _ _ nr hx1⟩, x4 _ _ nl hR1.fl⟩
  have hZ4 := hZ1.by3 ne x4 tb4
  have x14 : SXs [T1, T2, T3] r H H4 := x1.trans (SXs.ofT (by simp) x4)
  obtain ⟨c1, u1, e1, i1, v1⟩ := hc 0 "reader" (.ref r) rfl rfl rfl
  have hl' : m + 1 + (brG x.2 x.2).length = m + (x.1 :: brG x.2 x.2).length := by simp; omega
  refine ⟨r, l, L, ws, m + 1, x.2, x.2, rest, eRow, _, rfl, hR4, by omega, hd1, tkl_names _ h2, fun y a hy => ⟨y, [], hy.2, hy.1.beg.2.2⟩, fun _ _ _ _ => trivial, fun _ => trivial, fun z => ?_, fun _ _ => trivial, h3, hL4, ?_, hZ4, fun b vs H5 x5 hR5 sq5 rl5 hZ5 => ⟨(by show 2 ≤ sizeLine; decide), fun tp htp => ?_⟩⟩
  · rw [z] at hd1
    have hd1' : ws.drop (m + 1) = rest := hd1
    intro z2
    cases e : rest with
    | nil =>
      rw [e] at hd1'
      have hpl : ws.length ≤ m + 1 := by
        rcases Nat.lt_or_ge (m + 1) ws.length with h | h
        · rw [List.drop_eq_getElem_cons h] at hd1'; cases hd1'
        · exact h
      have : ah ws (m + 1) = [] := by unfold ah; rw [List.getElem?_eq_none hpl]; rfl
      rw [this] at z2; cases z2
    | cons w0 r0 =>
      rw [e] at hd1'
      rw [(ah_drop hd1').1] at z2
      apply hf
      rw [e, z2]; rfl
  · obtain rfl : s.heap.objs.size + 1 = c1 := Option.some.inj e1
    refine lam_runC (k := 3) (N := ["reader"]) (vs := [.ref r]) rfl rfl rfl fr_row (fun y hy => ?_) (ClAt.one i1 v1) (fun _ _ _ _ => rfl) (fun qual' f' c' A' outer' s' H' Q' E' hr' h' => ?_)
    · have z := on_row _ (PySem.mem_of_lookup hy) rfl
      have z' : y = Str.ofString "reader" := z
      rw [z']
      obtain ⟨c0, u0, e0, _⟩ := (ClAt.one (x1 := Str.ofString "reader") i1 v1).val 0 (Str.ofString "reader") (.ref r) rfl rfl
      exact ⟨c0, e0⟩
    · obtain ⟨m', y, a', rest', _, hR', hm', hd', ht', _, _, hZ', q'⟩ := h'
      refine ⟨_, pe_mt0 (MN g) TT.cl hr' (pv 0) (Nat.le_refl _), ?_⟩
      obtain ⟨hy1, rfl⟩ := ht'
      obtain ⟨dx', hx'⟩ := hR'.ins
      obtain ⟨ha', _, _, _⟩ := ah_drop (show ws.drop m' = y :: rest' from hd')
      refine ⟨_, rfl, r, dx', _, rfl, hx', rfl, r, l, ws, m', rfl, hR', hm', ah_len hW m', by rw [ha']; exact hy1.beg.1, fun H6 g6 hR6 => ?_⟩
      rw [ha']
      exact q' _ _ (SXs.ofR g6) hR6 rfl (zo.ins _ _ r C dx' _ hx' g6 hZ')
  · have s6 := same_new htp (.tup [.str (S x.1), .ref b])
    rw [hl'] at hR5
    rw [rl_names rl5] at sq5
    exact q _ _ (x14.trans (x5.trans (SXs.of s6))) (hR5.same s6) ⟨tp, b, rfl, SqT.of upd_same, s6.seqT sq5⟩ (zo.sm _ _ s6 hZ5)
end
end K7
namespace K7
open PySem L2 K3 TM
theorem sx_free {C r l b : Addr} {Ts : List Addr} {Z : Hp → Prop} {H H' : Hp} {ws : List (List Nat)} {m : Nat} (zo : ZOk Ts Z) (x : SXs Ts r H H') (h2 : Z H') (h3 : RdAt C H' r l ws m) (h4 : H' b = none) : H b = none := by
  cases e : H b with
  | none => rfl
  | some u =>
    by_cases c1 : b ∈ Ts
    · obtain ⟨ps, h⟩ := zo.tb H' h2 b c1
      rw [h4] at h; cases h
    · by_cases c2 : b = r
      · obtain ⟨dx, h⟩ := h3.ins
        rw [← c2, h4] at h; cases h
      · have := x b u c1 c2 e
        rw [h4] at this; cases this
section
variable {P : Program} {w : World} {K : PySem.W.Frag} {mg : Str → Option Value} {base : Heap} {f : Addr} {fd : FuncData} {C T1 T2 T3 c : Addr}
theorem scKindF : FnScope ["reader", "kind"] ["reader"] (defScope sKindF) := ⟨rfl, rfl, rfl, by decide +kernel, rfl, by decide +kernel, by decide +kernel⟩
theorem fr_kind : ∀ y ∈ (lamScope eKind).names, y.2 ≠ NameKind.cell ∧ y.2 ≠ NameKind.local := by decide +kernel
theorem on_kind : ∀ y ∈ (lamScope eKind).names, y.2 = NameKind.free → y.1 = Str.ofString "reader" := by decide +kernel
theorem ok_kindF {fP : Addr} {fdP : FuncData} (ne : Ne3 T1 T2 T3) (F : Fun K "kind_from" "kind_from" sKindF f fd) (hn : PySem.W.nsIn K mainGlobals "kind_from" = some (some (.ref f))) (hTb : PySem.W.tabIn K "kind_from" = some (c, T2)) (hC : PySem.W.codeHdIn K c T2 = true) (hB : BtAt mg base) (TT : RdT K mg C)
    (MN : Mt P w K mg base C 3 "take_name" ["self"] (spTakeN C)) (ME : Mt P w K mg base C 3 "need" ["self", "sign"] (spNeed C)) (mP : Meth K C "parted_by" fP) (bP : Binds K fdP ["self", "sign", "take_one"] [])
    (FP : ∀ g : Heap, FnOk P w K mg g CX0 (5 + 3) fP fdP ["self", "sign", "take_one"] (spPart P w K mg C [T1, T2, T3] (Z3 T1 T2 T3) (RvR K) TkR FoR (fun _ => True) (5 + 2) g))
    (R : ∀ g : Heap, BtAt mg g → Fn P w K mg g 6 "row_from" ["reader"] (spFrom C [T1, T2, T3] (Z3 T1 T2 T3) (RvR K) TkR FoR)) : FnOk P w K mg base CX0 9 f fd ["reader"] (spFrom C [T1, T2, T3] (Z3 T1 T2 T3) (RvK K) TkK FoK) := by
  refine Fun.okC F hn hTb scKindF (fun vs H Q E h => ?_) (fun A outer s H vs Q E hr h => ?_)
  · obtain ⟨r, l, ws, m, x, a, rest, rfl, _⟩ := h
    rfl
  obtain ⟨r, l, ws, m, x, a, rest, rfl, hR, hW, hm, hd, ht, hf, hZ, q⟩ := h
  refine ⟨_, (pss_cons (ps_set (i := 1) scKindF.nd rfl (Or.inl rfl) (pe_mt0 MN TT.cl hr (pv 0) (by omega)))
    (pss_cons (ps_expr (pe_mt ME TT.cl hr (pv 0) (pa_cons (pe_str) pa_nil) (by omega)))
    (pss_one (ps_ret (pe_tup (pa_cons (pv 1) (pa_cons (pe_methB (pv 0) TT.cl mP (fun g _ => FP g) hr bP .nil (fun _ => rfl) (pa_cons (pe_str) (pa_cons (pe_lamC (c := c) (T := T2) rfl hC hB) pa_nil))) pa_nil))))))), ?_⟩
  obtain ⟨h1, h3, us, h2, rfl⟩ := ht
  obtain ⟨dx, hx⟩ := hR.ins
  have hd0 : ws.drop m = x.1 :: ([61] :: (us ++ rest)) := hd
  obtain ⟨ha, hm1, hd1, _⟩ := ah_drop hd0
  obtain ⟨ha1, hm2, hd2, _⟩ := ah_drop hd1
  have zo := z3_ok T1 T2 T3
  have e61 : S [61] = Str.ofString "=" := by decide +kernel
  have e124 : S [124] = Str.ofString "|" := by decide +kernel
  refine ⟨_, rfl, r, dx, _, rfl, hx, rfl, r, l, ws, m, rfl, hR, hm, ah_len hW m, by rw [ha]; exact h1.beg.1, fun H1 g1 hR1 => ?_⟩
  rw [ha]
  have hZ1 := zo.ins _ _ r C dx _ hx g1 hZ
  obtain ⟨dx1, hx1⟩ := hR1.ins
  refine ⟨_, rfl, r, dx1, _, rfl, hx1, rfl, r, l, ws, m + 1, [61], (by rw [e61]; rfl), hR1, by omega, ha1, fun H2 g2 hR2 => ?_⟩
  have hZ2 := zo.ins _ _ r C dx1 _ hx1 g2 hZ1
  have x2 : SXs [T1, T2, T3] r H H2 := (SXs.ofR g1).trans (SXs.ofR g2)
  obtain ⟨dx2, hx2⟩ := hR2.ins
  refine ⟨_, rfl, _, rfl, r, dx2, _, rfl, hx2, rfl, hZ2.z2, fun L H4 x4 hL0 hL4 tb4 g hs hc => ?_⟩
  obtain ⟨ps, hps⟩ := hZ2.z2.at
  have nr : r ≠ T2 := fun z => by rw [z, hps] at hx2; cases hx2
  have nl : l ≠ T2 := fun z => by have h := hR2.fl; rw [z, hps] at h; cases h
  have hR4 : RdAt C H4 r l ws (m + 1 + 1) := ⟨⟨dx2, x4 _ _ nr hx2⟩, x4 _ _ nl hR2.fl⟩
  have hZ4 := hZ2.by2 ne x4 tb4
  have x14 : SXs [T1, T2, T3] r H H4 := x2.trans (SXs.ofT (by simp) x4)
  obtain ⟨c1, u1, e1, i1, v1⟩ := hc 0 "reader" (.ref r) rfl rfl rfl
  have hl' : m + 1 + 1 + us.length = m + (x.1 :: [61] :: us).length := by simp; omega
  refine ⟨r, l, L, ws, m + 1 + 1, [124], x.2, us, rest, eKind, _, (by rw [e124]; rfl), hR4, by omega, hd2, h2, fun q z => (by cases z), hf.1, hf.2, by decide, fun _ _ => trivial, h3, hL4, ?_, hZ4, fun b vs H5 x5 hR5 hb0 hb5 rl5 hZ5 => ⟨(by show 2 ≤ sizeLine; decide), fun tp htp => ?_⟩⟩
  · obtain rfl : s.heap.objs.size + 1 = c1 := Option.some.inj e1
    refine lam_runC (k := 6) (N := ["reader"]) (vs := [.ref r]) rfl rfl rfl fr_kind (fun y hy => ?_) (ClAt.one i1 v1) (fun _ _ _ _ => rfl) (fun qual' f' c' A' outer' s' H' Q' E' hr' h' => ?_)
    · have z := on_kind _ (PySem.mem_of_lookup hy) rfl
      have z' : y = Str.ofString "reader" := z
      rw [z']
      obtain ⟨c0, u0, e0, _⟩ := (ClAt.one (x1 := Str.ofString "reader") i1 v1).val 0 (Str.ofString "reader") (.ref r) rfl rfl
      exact ⟨c0, e0⟩
    · obtain ⟨m', y, a', rest', _, hR', hm', hd', ht', hf', _, hZ', q'⟩ := h'
      refine ⟨_, pe_fn (R g (hB.sub hs)) hr' (pa_cons (pv 0) pa_nil) (Nat.le_refl _), ?_⟩
      exact ⟨_, rfl, r, l, ws, m', y, a', rest', rfl, hR', hW, hm', hd', ht', hf', hZ', q'⟩
  · have s6 := same_new htp (.tup [.str (S x.1), .ref b])
    rw [hl'] at hR5
    have tr5 := hR5.trs zo hZ5
    exact q _ _ (x14.trans (x5.trans (SXs.of s6))) (hR5.same s6) ⟨tp, b, vs, rfl, SqT.of upd_same, sx_free zo x14 hZ4 hR4 hb0, s6 _ _ hb5, rl5.imp fun v x h => (rpR K C [T1, T2, T3]).wk _ _ _ _ _ (fun _ _ => trivial) ((rpR K C [T1, T2, T3]).sx _ _ _ r v x tr5 (SXs.of s6) h)⟩ (zo.sm _ _ s6 hZ5)
end
end K7
namespace K7
open PySem L2 K3 TM K9
abbrev codes (z : Str) : List Nat := z.cps.toList
def datR' (t : PNx) : RowD := (codes t.2.1, t.2.2.2.map codes)
def datK' (k : KdT) : KindD := (codes k.2.1, k.2.2.2.map datR')
theorem rl_rows {K : PySem.W.Frag} {H : Hp} {ok : Addr → Prop} {vs : List V} {rs : List RowD} (h : RL (RvR K) ok H vs rs) : ∃ ts : List PNx, vs = ts.map (fun t => V.ref t.1) ∧ (∀ t ∈ ts, RowAt K H t) ∧ ts.map datR' = rs := by
  induction h with
  | nil => exact ⟨[], rfl, fun t ht => (nomatch ht), rfl⟩
  | @cons v vs x xs a r ih =>
    obtain ⟨ts, rfl, h1, h2⟩ := ih
    obtain ⟨p, b, rfl, g1, g2⟩ := a
    refine ⟨(p, S x.1, b, x.2.map S) :: ts, rfl, fun t ht => ?_, ?_⟩
    · rcases List.mem_cons.mp ht with rfl | ht
      · exact ⟨g1, by rw [show (x.2.map S).map V.str = x.2.map fun y => V.str (S y) by rw [List.map_map]; rfl]; exact g2⟩
      · exact h1 t ht
    · rw [List.map_cons, h2]
      congr 1
      simp only [datR', codes, S_list, List.map_map]
      rw [show ((fun z : Str => z.cps.toList) ∘ S) = id from funext fun y => S_list y, List.map_id]
theorem rl_kinds {K : PySem.W.Frag} {H : Hp} {ok : Addr → Prop} {vs : List V} {ks : List KindD} (h : RL (RvK K) ok H vs ks) : ∃ hs : List KdT, vs = hs.map (fun k => V.ref k.1) ∧ (∀ k ∈ hs, SqT K H k.1 [.str k.2.1, .ref k.2.2.1] ∧ H k.2.2.1 = some (.lst (k.2.2.2.map fun t => V.ref t.1)) ∧ ok k.2.2.1 ∧ ∀ t ∈ k.2.2.2, RowAt K H t) ∧ hs.map datK' = ks := by
  induction h with
  | nil => exact ⟨[], rfl, fun t ht => (nomatch ht), rfl⟩
  | @cons v vs x xs a r ih =>
    obtain ⟨hs, rfl, h1, h2⟩ := ih
    obtain ⟨p, l, us, rfl, g1, go, g2, g3⟩ := a
    obtain ⟨ts, rfl, t1, t2⟩ := rl_rows g3
    refine ⟨(p, S x.1, l, ts) :: hs, rfl, fun k hk => ?_, ?_⟩
    · rcases List.mem_cons.mp hk with rfl | hk
      · exact ⟨g1, g2, go, t1⟩
      · exact h1 k hk
    · rw [List.map_cons, h2]
      congr 1
      show (codes (S x.1), ts.map datR') = x
      rw [t2, codes, S_list]
abbrev rLenS (K : PySem.W.Frag) : List V → Hp → VK → Prop := fun xs H Q => ∃ p ys, xs = [.ref p] ∧ (SqL K H p ys ∨ SqT K H p ys) ∧ Q (.int ys.length) H
structure Gm2 (mg : Str → Option Value) : Prop where
  ks : ∃ t, mg "MOST_KINDS" = some (.int 6 t)
  rs : ∃ t, mg "MOST_ROWS" = some (.int 16 t)
  bs : ∃ t, mg "MOST_BRANCHES" = some (.int 4 t)
  all : mg "all" = none
  srt : mg "sorted" = none
  set : mg "set" = none
  mn : mg "min" = none
def spChkN (K : PySem.W.Frag) : Sp := fun vs H Q _ => ∃ (lw : Addr) (ks : List KdT), vs = [.ref lw] ∧ WoodAt K H lw ks ∧ ks.length ≤ 6 ∧ (ks.map fun k => k.2.2.2.length).sum ≤ 16 ∧ (∀ k ∈ ks, ∀ t ∈ k.2.2.2, t.2.2.2.length ≤ 4) ∧ ∀ H', Same H H' → Q .non H'
section
variable {P : Program} {w : World} {K : PySem.W.Frag} {mg : Str → Option Value} {base : Heap} {f : Addr} {fd : FuncData}
theorem sum_len (ks : List KdT) : ((ks.map fun k => ((k.2.2.2.length : Nat) : Int)).sum) = (((ks.map fun k => k.2.2.2.length).sum : Nat) : Int) := by
  induction ks with
  | nil => rfl
  | cons k r ih => rw [List.map_cons, List.sum_cons, List.map_cons, List.sum_cons, ih]; omega
theorem scChkN : FnScope ["wood", "kind", "rows", "name", "branches"] ["wood"] (defScope sChkN) := ⟨rfl, rfl, rfl, by decide +kernel, rfl, by decide +kernel, by decide +kernel⟩
theorem ok_chkN (F : Fun K "check_numbers" "check_numbers" sChkN f fd) (G : Gm mg) (G2 : Gm2 mg) : FnOk P w K mg base CX0 1 f fd ["wood"] (spChkN K) := by
  obtain ⟨t1, h1⟩ := G2.ks
  obtain ⟨t2, h2⟩ := G2.rs
  obtain ⟨t3, h3⟩ := G2.bs
  refine F.ok scChkN (fun vs H Q E h => ?_) (fun cdv A outer s H vs Q E hr h => ?_)
  · obtain ⟨lw, ks, rfl, _⟩ := h
    rfl
  obtain ⟨lw, ks, rfl, hW, h6, h16, h4, q⟩ := h
  refine ⟨_, (pss_cons (ps_if (pt_cmpR op_gt (pe_callB call_len_seq rfl G.len PySem.boot_len (pa_cons (pv 0) pa_nil)) (pe_glob (v := .int 6) rfl h1 ⟨_, rfl⟩) (nomark _)) pss_never pss_nil)
    (pss_cons (ps_if (pt_cmpR op_gt (pe_callB (call_sum rfl) rfl G.sum PyProof.Rows.boot_sum (pa_cons (pe_lcompG (CompG.many (xs := ["kind", "rows"]) (caps := []) (cap := []) (cs := []) rfl rfl (by decide +kernel) (by decide +kernel) (by decide +kernel) (by decide +kernel) (by decide +kernel) (by decide +kernel) rfl rfl rfl) rfl (pi_list (pv 0)) (pg_c2 (CompG.many (xs := ["kind", "rows"]) (caps := []) (cap := []) (cs := []) rfl rfl (by decide +kernel) (by decide +kernel) (by decide +kernel) (by decide +kernel) (by decide +kernel) (by decide +kernel) rfl rfl rfl) rfl) (fun _ _ _ _ => pf_nil) (fun _ _ _ _ => pe_callB (r := rLenS K) call_len_seq rfl G.len PySem.boot_len (pa_cons (pv 1) pa_nil))) pa_nil)) (pe_glob (v := .int 16) rfl h2 ⟨_, rfl⟩) (nomark _)) pss_never pss_nil)
    (pss_one (ps_for PassesOwn.never rfl (pi_list (pv 0)) (pg_tup rfl (pgs_cons (pg_name (i := 1) scChkN.nd rfl (Or.inl rfl)) (pgs_cons (pg_name (i := 2) scChkN.nd rfl (Or.inl rfl)) pgs_nil))) (pss_one (ps_for PassesOwn.never rfl (pi_list (pv 2)) (pg_tup rfl (pgs_cons (pg_name (i := 3) scChkN.nd rfl (Or.inl rfl)) (pgs_cons (pg_name (i := 4) scChkN.nd rfl (Or.inl rfl)) pgs_nil))) (pss_one (ps_if (pt_cmpR op_gt (pe_callB call_len_seq rfl G.len PySem.boot_len (pa_cons (pv 4) pa_nil)) (pe_glob (v := .int 4) rfl h3 ⟨_, rfl⟩) (nomark _)) pss_never pss_nil)))))))), ?_⟩
  refine ⟨_, rfl, lw, _, rfl, .inl hW.1, _, _, rfl, rfl, _, rfl, iteN (by rw [List.length_map]; omega) ?_⟩
  refine ⟨_, rfl, lw, rfl, ⟨_, hW.1⟩, fun acc hacc => ?_⟩
  refine c2_list (K := K) (xs := ks.map fun k => V.ref k.1) (cs := []) (tt := fun _ H Q => Q true H) (te := tCB (rLenS K) (tCons (tVar 1) tNil)) (fun j ys H' => ys = ((ks.take j).map fun k => ((k.2.2.2.length : Nat) : Int)).map V.int ∧ H' acc = some (.lst ys) ∧ Same H H')
    ⟨rfl, upd_same, same_new hacc _⟩ ?_ ?_ ?_
  · rintro j ys H' _ ⟨_, _, g⟩
    exact g.seq hW.1
  · rintro j x ys H' hj hx ⟨rfl, hy, g⟩
    rw [List.length_map] at hj
    obtain rfl : x = .ref ks[j].1 := by
      rw [List.getElem?_map, List.getElem?_eq_getElem hj] at hx
      exact (Option.some.inj hx).symm
    obtain ⟨k1, k2⟩ := hW.2 ks[j] (List.getElem_mem hj)
    refine ⟨_, _, _, rfl, g.seqT k1, iteT ⟨_, rfl, _, _, rfl, .inl (g.seq k2.1), ?_⟩⟩
    rw [List.length_map]
    refine comp_next hj hy (by rw [List.length_map, List.length_map, List.length_take]; omega) ⟨?_, upd_same, fun b u e => ?_⟩
    · rw [List.take_add_one, List.getElem?_eq_getElem hj, Option.toList_some, List.map_append, List.map_append, List.length_map]; rfl
    · rw [upd_ne (ne_of_none e hacc)]; exact g _ _ e
  rintro ys H1 ⟨rfl, hy1, g1⟩
  rw [List.length_map, List.take_length] at hy1
  refine ⟨acc, _, rfl, SqL.of hy1, ⟨fun n hn => ?_, ?_⟩, _, _, rfl, rfl, _, rfl, iteN (by rw [sum_len]; omega) ?_⟩
  · obtain ⟨k, _, rfl⟩ := List.mem_map.mp hn
    omega
  · rw [sum_len]; omega
  refine ⟨_, rfl, lw, rfl, ⟨_, g1.seq hW.1⟩, ?_⟩
  refine for_list (K := K) (xs := ks.map fun k => V.ref k.1) (fun i σ H' => ∃ c1 c2 c3 c4 : Option V, σ = [some (.ref lw), c1, c2, c3, c4] ∧ Same H H') ⟨none, none, none, none, rfl, g1⟩ ?_ ?_ ?_
  · rintro i σ H' _ ⟨_, _, _, _, _, g⟩
    exact g.seq hW.1
  · rintro i x σ H' hx ⟨c1, c2, c3, c4, rfl, g⟩
    have hi : i < ks.length := by have := (List.getElem?_eq_some_iff.mp hx).1; rw [List.length_map] at this; exact this
    obtain rfl : x = .ref ks[i].1 := by
      rw [List.getElem?_map, List.getElem?_eq_getElem hi] at hx
      exact (Option.some.inj hx).symm
    obtain ⟨k1, k2⟩ := hW.2 ks[i] (List.getElem_mem hi)
    refine ⟨_, _, rfl, g.seqT k1, rfl, _, _, rfl, _, _, rfl, rfl, _, rfl, _, rfl, ⟨_, g.seq k2.1⟩, ?_⟩
    refine for_list (K := K) (xs := ks[i].2.2.2.map fun t => V.ref t.1) (fun j σ H' => ∃ c3 c4 : Option V, σ = [some (.ref lw), some (.str ks[i].2.1), some (.ref ks[i].2.2.1), c3, c4] ∧ Same H H') ⟨c3, c4, rfl, g⟩ ?_ ?_ ?_
    · rintro j σ H' _ ⟨_, _, _, g⟩
      exact g.seq k2.1
    · rintro j x σ H2 hx ⟨c3, c4, rfl, g2⟩
      have hj : j < ks[i].2.2.2.length := by have := (List.getElem?_eq_some_iff.mp hx).1; rw [List.length_map] at this; exact this
      obtain rfl : x = .ref ks[i].2.2.2[j].1 := by
        rw [List.getElem?_map, List.getElem?_eq_getElem hj] at hx
        exact (Option.some.inj hx).symm
      obtain ⟨r1, r2⟩ := k2.2 ks[i].2.2.2[j] (List.getElem_mem hj)
      have hb := h4 ks[i] (List.getElem_mem hi) ks[i].2.2.2[j] (List.getElem_mem hj)
      refine ⟨_, _, rfl, g2.seqT r1, rfl, _, _, rfl, _, _, rfl, rfl, ?_⟩
      refine ⟨_, rfl, _, _, rfl, .inr (g2.seqT r2), _, _, rfl, rfl, _, rfl, iteN (by rw [List.length_map]; omega) ?_⟩
      exact ⟨_, _, rfl, g2⟩
    · rintro σ H2 ⟨c3, c4, rfl, g2⟩
      exact ⟨_, _, _, _, rfl, g2⟩
  · rintro σ H' ⟨_, _, _, _, rfl, g⟩
    exact q H' g
end
end K7
namespace K7
open PySem L2 K3 TM K9
def spTw (K : PySem.W.Frag) : Sp := fun vs H Q _ => ∃ (l : Addr) (ns : List Str), vs = [.ref l] ∧ SqL K H l (ns.map V.str) ∧ ns.Nodup ∧ ns.length ≤ 30 ∧ ∀ H', Same H H' → Q (.bl false) H'
structure RowsGood (kn : List Str) (rs : List PNx) : Prop where
  nd : (rs.map fun t => t.2.1).Nodup
  len : rs.length ≤ 30
  ins : ∀ t ∈ rs, ∀ x ∈ t.2.2.2, x ∈ kn
  leaf : ∃ t ∈ rs, t.2.2.2 = []
def spChkR (K : PySem.W.Frag) : Sp := fun vs H Q _ => ∃ (lk lr : Addr) (kd : Str) (kn : List Str) (rs : List PNx), vs = [.ref lk, .str kd, .ref lr] ∧ SqL K H lk (kn.map V.str) ∧ RowsL K H lr rs ∧ RowsGood kn rs ∧ ∀ H', Same H H' → Q .non H'
def spChkK (K : PySem.W.Frag) : Sp := fun vs H Q _ => ∃ (lw : Addr) (ks : List KdT), vs = [.ref lw] ∧ WoodAt K H lw ks ∧ (ks.map fun k => k.2.1).Nodup ∧ ks.length ≤ 30 ∧ (∀ k ∈ ks, RowsGood (ks.map fun k => k.2.1) k.2.2.2) ∧ ∀ H', Same H H' → Q .non H'
section
variable {P : Program} {w : World} {K : PySem.W.Frag} {mg : Str → Option Value} {base : Heap} {f : Addr} {fd : FuncData}
theorem in_strs {x : Str} {xs : List Str} (h : x ∈ xs) : inV (.str x) (xs.map V.str) = true := by
  unfold inV
  rw [List.any_eq_true]
  exact ⟨.str x, List.mem_map.mpr ⟨x, h, rfl⟩, by simp [eqV]⟩
theorem flat_strs (xs : List Str) : (xs.map V.str).all flatV = true := by
  rw [List.all_eq_true]
  intro v hv
  obtain ⟨x, _, rfl⟩ := List.mem_map.mp hv
  rfl
theorem scChkR : FnScope ["kinds", "kind", "rows", "name", "branches", "wanted"] ["kinds", "kind", "rows"] (defScope sChkR) := ⟨rfl, rfl, rfl, by decide +kernel, rfl, by decide +kernel, by decide +kernel⟩
theorem ok_chkR (F : Fun K "check_rows" "check_rows" sChkR f fd) (G : Gm mg) (G2 : Gm2 mg) (RTw : Fn P w K mg base 1 "has_one_twice" ["names"] (spTw K)) : FnOk P w K mg base CX0 2 f fd ["kinds", "kind", "rows"] (spChkR K) := by
  refine F.ok scChkR (fun vs H Q E h => ?_) (fun cdv A outer s H vs Q E hr h => ?_)
  · obtain ⟨lk, lr, kd, kn, rs, rfl, _⟩ := h
    rfl
  obtain ⟨lk, lr, kd, kn, rs, rfl, hk, hL, hG, q⟩ := h
  refine ⟨_, (pss_cons (ps_if (pt_val (pe_fn RTw hr (pa_cons (pe_lcompG (CompG.many (xs := ["name", "branches"]) (caps := []) (cap := []) (cs := []) rfl rfl (by decide +kernel) (by decide +kernel) (by decide +kernel) (by decide +kernel) (by decide +kernel) (by decide +kernel) rfl rfl rfl) rfl (pi_list (pv 2)) (pg_c2 (CompG.many (xs := ["name", "branches"]) (caps := []) (cap := []) (cs := []) rfl rfl (by decide +kernel) (by decide +kernel) (by decide +kernel) (by decide +kernel) (by decide +kernel) (by decide +kernel) rfl rfl rfl) rfl) (fun _ _ _ _ => pf_nil) (fun _ _ _ _ => pv 0)) pa_nil))) pss_never pss_nil)
    (pss_cons (ps_for PassesOwn.never rfl (pi_list (pv 2)) (pg_tup rfl (pgs_cons (pg_name (i := 3) scChkR.nd rfl (Or.inl rfl)) (pgs_cons (pg_name (i := 4) scChkR.nd rfl (Or.inl rfl)) pgs_nil))) (pss_one (ps_for PassesOwn.never rfl (pi_tup (pv 4)) (pg_name (i := 5) scChkR.nd rfl (Or.inl rfl)) (pss_one (ps_if (pt_cmpR op_notIn_seq (pv 5) (pv 0) rfl) pss_never pss_nil)))))
    (pss_one (ps_if (pt_val (pe_callB (call_allB rfl) rfl G2.all PyProof.Rows.boot_all (pa_cons (pe_lcompG (CompG.many (xs := ["name", "branches"]) (caps := []) (cap := []) (cs := []) rfl rfl (by decide +kernel) (by decide +kernel) (by decide +kernel) (by decide +kernel) (by decide +kernel) (by decide +kernel) rfl rfl rfl) rfl (pi_list (pv 2)) (pg_c2 (CompG.many (xs := ["name", "branches"]) (caps := []) (cap := []) (cs := []) rfl rfl (by decide +kernel) (by decide +kernel) (by decide +kernel) (by decide +kernel) (by decide +kernel) (by decide +kernel) rfl rfl rfl) rfl) (fun _ _ _ _ => pf_nil) (fun _ _ _ _ => pe_cmpR (r := rI0 fun i j => .bl (decide (j < i))) op_gt (pe_callB (r := rLenS K) call_len_seq rfl G.len PySem.boot_len (pa_cons (pv 1) pa_nil)) pe_int (nomark _))) pa_nil))) pss_never pss_nil)))), ?_⟩
  refine ⟨_, rfl, lr, rfl, ⟨_, hL.1⟩, fun ln hln => ?_⟩
  refine c2_list (K := K) (xs := rs.map fun t => V.ref t.1) (cs := []) (tt := fun _ H Q => Q true H) (te := tVar 0) (fun j ys H' => ys = ((rs.take j).map fun t => t.2.1).map V.str ∧ H' ln = some (.lst ys) ∧ Same H H')
    ⟨rfl, upd_same, same_new hln _⟩ ?_ ?_ ?_
  · rintro j ys H' _ ⟨_, _, g⟩
    exact g.seq hL.1
  · rintro j x ys H' hj hx ⟨rfl, hy, g⟩
    rw [List.length_map] at hj
    obtain rfl : x = .ref rs[j].1 := by
      rw [List.getElem?_map, List.getElem?_eq_getElem hj] at hx
      exact (Option.some.inj hx).symm
    obtain ⟨k1, k2⟩ := hL.2 rs[j] (List.getElem_mem hj)
    have h30 := hG.len
    refine ⟨_, _, _, rfl, g.seqT k1, iteT ⟨_, rfl, ?_⟩⟩
    rw [List.length_map]
    refine comp_next hj hy (by rw [List.length_map, List.length_map, List.length_take]; omega) ⟨?_, upd_same, fun b u e => ?_⟩
    · rw [List.take_add_one, List.getElem?_eq_getElem hj, Option.toList_some, List.map_append, List.map_append]; rfl
    · rw [upd_ne (ne_of_none e hln)]; exact g _ _ e
  rintro ys H1 ⟨rfl, hy1, g1⟩
  rw [List.length_map, List.take_length] at hy1
  refine ⟨ln, _, rfl, SqL.of hy1, hG.nd, by rw [List.length_map]; exact hG.len, fun H2 g2 => ⟨_, rfl, iteF ?_⟩⟩
  have g12 := g1.trans g2
  refine ⟨_, rfl, lr, rfl, ⟨_, g12.seq hL.1⟩, ?_⟩
  refine for_list (K := K) (xs := rs.map fun t => V.ref t.1) (fun i σ H' => ∃ c3 c4 c5 : Option V, σ = [some (.ref lk), some (.str kd), some (.ref lr), c3, c4, c5] ∧ Same H H') ⟨none, none, none, rfl, g12⟩ ?_ ?_ ?_
  · rintro i σ H' _ ⟨_, _, _, _, g⟩
    exact g.seq hL.1
  · rintro i x σ H' hx ⟨c3, c4, c5, rfl, g⟩
    have hi : i < rs.length := by have := (List.getElem?_eq_some_iff.mp hx).1; rw [List.length_map] at this; exact this
    obtain rfl : x = .ref rs[i].1 := by
      rw [List.getElem?_map, List.getElem?_eq_getElem hi] at hx
      exact (Option.some.inj hx).symm
    obtain ⟨k1, k2⟩ := hL.2 rs[i] (List.getElem_mem hi)
    refine ⟨_, _, rfl, g.seqT k1, rfl, _, _, rfl, _, _, rfl, rfl, ?_⟩
    refine ⟨_, rfl, _, rfl, ⟨_, g.seqT k2⟩, ?_⟩
    refine for_tup (K := K) (xs := rs[i].2.2.2.map V.str) (fun j σ H' => ∃ c5 : Option V, σ = [some (.ref lk), some (.str kd), some (.ref lr), some (.str rs[i].2.1), some (.ref rs[i].2.2.1), c5] ∧ Same H H') ⟨c5, rfl, g⟩ ?_ ?_ ?_
    · rintro j σ H' _ ⟨_, _, g⟩
      exact g.seqT k2
    · rintro j x σ H3 hx ⟨c5, rfl, g3⟩
      obtain ⟨y, hy, rfl⟩ : ∃ y, y ∈ rs[i].2.2.2 ∧ x = .str y := by
        have := List.mem_of_getElem? hx
        obtain ⟨y, hy, e⟩ := List.mem_map.mp this
        exact ⟨y, hy, e.symm⟩
      have hin := hG.ins rs[i] (List.getElem_mem hi) y hy
      refine ⟨_, rfl, _, rfl, lk, _, rfl, .inl (g3.seq hk), rfl, flat_strs kn, _, rfl, ?_⟩
      rw [if_pos rfl, in_strs hin]
      exact iteF ⟨_, rfl, g3⟩
    · rintro σ H3 ⟨c5, rfl, g3⟩
      exact ⟨_, _, _, rfl, g3⟩
  rintro σ H3 ⟨c3, c4, c5, rfl, g3⟩
  refine ⟨_, rfl, lr, rfl, ⟨_, g3.seq hL.1⟩, fun la hla => ?_⟩
  refine c2_list (K := K) (xs := rs.map fun t => V.ref t.1) (cs := []) (tt := fun _ H Q => Q true H) (te := tOp (rI0 fun i j => .bl (decide (j < i))) (tCB (rLenS K) (tCons (tVar 1) tNil)) (tC (.int 0))) (fun j ys H' => ys = ((rs.take j).map fun t => decide (0 < t.2.2.2.length)).map V.bl ∧ H' la = some (.lst ys) ∧ Same H H')
    ⟨rfl, upd_same, g3.trans (same_new hla _)⟩ ?_ ?_ ?_
  · rintro j ys H' _ ⟨_, _, g⟩
    exact g.seq hL.1
  · rintro j x ys H' hj hx ⟨rfl, hy, g⟩
    rw [List.length_map] at hj
    obtain rfl : x = .ref rs[j].1 := by
      rw [List.getElem?_map, List.getElem?_eq_getElem hj] at hx
      exact (Option.some.inj hx).symm
    obtain ⟨k1, k2⟩ := hL.2 rs[j] (List.getElem_mem hj)
    have h30 := hG.len
    refine ⟨_, _, _, rfl, g.seqT k1, iteT ⟨_, rfl, _, _, rfl, .inr (g.seqT k2), _, _, rfl, rfl, ?_⟩⟩
    rw [List.length_map]
    refine comp_next hj hy (by rw [List.length_map, List.length_map, List.length_take]; omega) ⟨?_, upd_same, fun b u e => ?_⟩
    · rw [List.take_add_one, List.getElem?_eq_getElem hj, Option.toList_some, List.map_append, List.map_append, List.length_map]
      congr 2
      show V.bl (decide ((0 : Int) < ((rs[j].2.2.2.length : Nat) : Int))) = V.bl (decide (0 < rs[j].2.2.2.length))
      congr 1
      exact decide_eq_decide.mpr (by omega)
    · rw [upd_ne (ne_of_none (g3 _ _ e) hla)]; exact g _ _ e
  · rintro ys H4 ⟨rfl, hy4, g4⟩
    rw [List.length_map, List.take_length] at hy4
    have hall : ((rs.map fun t => decide (0 < t.2.2.2.length)).all id) = false := by
      obtain ⟨t, ht, e⟩ := hG.leaf
      rw [List.all_eq_false]
      exact ⟨false, List.mem_map.mpr ⟨t, ht, by rw [e]; rfl⟩, by simp⟩
    refine ⟨la, _, rfl, SqL.of hy4, _, rfl, ?_⟩
    rw [hall]
    exact iteF (q H4 g4)
theorem scChkK : FnScope ["wood", "kinds", "kind", "rows"] ["wood"] (defScope sChkK) := ⟨rfl, rfl, rfl, by decide +kernel, rfl, by decide +kernel, by decide +kernel⟩
theorem ok_chkK (F : Fun K "check_kinds" "check_kinds" sChkK f fd) (RTw : Fn P w K mg base 1 "has_one_twice" ["names"] (spTw K)) (RR : Fn P w K mg base 2 "check_rows" ["kinds", "kind", "rows"] (spChkR K)) : FnOk P w K mg base CX0 3 f fd ["wood"] (spChkK K) := by
  refine F.ok scChkK (fun vs H Q E h => ?_) (fun cdv A outer s H vs Q E hr h => ?_)
  · obtain ⟨lw, ks, rfl, _⟩ := h
    rfl
  obtain ⟨lw, ks, rfl, hW, hnd, h30, hG, q⟩ := h
  refine ⟨_, (pss_cons (ps_setG (i := 1) (CompG.many (xs := ["kind", "rows"]) (caps := []) (cap := []) (cs := []) rfl rfl (by decide +kernel) (by decide +kernel) (by decide +kernel) (by decide +kernel) (by decide +kernel) (by decide +kernel) rfl rfl rfl) rfl (pi_list (pv 0)) (pg_c2 (CompG.many (xs := ["kind", "rows"]) (caps := []) (cap := []) (cs := []) rfl rfl (by decide +kernel) (by decide +kernel) (by decide +kernel) (by decide +kernel) (by decide +kernel) (by decide +kernel) rfl rfl rfl) rfl) (fun _ _ _ _ => pf_nil) (fun _ _ _ _ => pv 0) scChkK.nd rfl rfl)
    (pss_cons (ps_if (pt_val (pe_fn RTw hr (pa_cons (pv 1) pa_nil))) pss_never pss_nil)
    (pss_one (ps_for PassesOwn.never rfl (pi_list (pv 0)) (pg_tup rfl (pgs_cons (pg_name (i := 2) scChkK.nd rfl (Or.inl rfl)) (pgs_cons (pg_name (i := 3) scChkK.nd rfl (Or.inl rfl)) pgs_nil))) (pss_one (ps_expr (pe_fn RR hr (pa_cons (pv 1) (pa_cons (pv 2) (pa_cons (pv 3) pa_nil)))))))))), ?_⟩
  refine ⟨_, rfl, lw, rfl, ⟨_, hW.1⟩, fun lk hlk => ?_⟩
  refine c2_list (K := K) (xs := ks.map fun k => V.ref k.1) (cs := []) (tt := fun _ H Q => Q true H) (te := tVar 0) (fun j ys H' => ys = ((ks.take j).map fun k => k.2.1).map V.str ∧ H' lk = some (.lst ys) ∧ Same H H')
    ⟨rfl, upd_same, same_new hlk _⟩ ?_ ?_ ?_
  · rintro j ys H' _ ⟨_, _, g⟩
    exact g.seq hW.1
  · rintro j x ys H' hj hx ⟨rfl, hy, g⟩
    rw [List.length_map] at hj
    obtain rfl : x = .ref ks[j].1 := by
      rw [List.getElem?_map, List.getElem?_eq_getElem hj] at hx
      exact (Option.some.inj hx).symm
    obtain ⟨k1, k2⟩ := hW.2 ks[j] (List.getElem_mem hj)
    refine ⟨_, _, _, rfl, g.seqT k1, iteT ⟨_, rfl, ?_⟩⟩
    rw [List.length_map]
    refine comp_next hj hy (by rw [List.length_map, List.length_map, List.length_take]; omega) ⟨?_, upd_same, fun b u e => ?_⟩
    · rw [List.take_add_one, List.getElem?_eq_getElem hj, Option.toList_some, List.map_append, List.map_append]; rfl
    · rw [upd_ne (ne_of_none e hlk)]; exact g _ _ e
  rintro ys H1 ⟨rfl, hy1, g1⟩
  rw [List.length_map, List.take_length] at hy1
  refine ⟨_, rfl, lk, _, rfl, SqL.of hy1, hnd, by rw [List.length_map]; exact h30, fun H2 g2 => ⟨_, rfl, iteF ?_⟩⟩
  have g12 := g1.trans g2
  refine ⟨_, rfl, lw, rfl, ⟨_, g12.seq hW.1⟩, ?_⟩
  refine for_list (K := K) (xs := ks.map fun k => V.ref k.1) (fun i σ H' => ∃ c2 c3 : Option V, σ = [some (.ref lw), some (.ref lk), c2, c3] ∧ Same H H' ∧ Same H2 H') ⟨none, none, rfl, g12, Same.refl _⟩ ?_ ?_ ?_
  · rintro i σ H' _ ⟨_, _, _, g, _⟩
    exact g.seq hW.1
  · rintro i x σ H' hx ⟨c2, c3, rfl, g, g'⟩
    have hi : i < ks.length := by have := (List.getElem?_eq_some_iff.mp hx).1; rw [List.length_map] at this; exact this
    obtain rfl : x = .ref ks[i].1 := by
      rw [List.getElem?_map, List.getElem?_eq_getElem hi] at hx
      exact (Option.some.inj hx).symm
    obtain ⟨k1, k2⟩ := hW.2 ks[i] (List.getElem_mem hi)
    refine ⟨_, _, rfl, g.seqT k1, rfl, _, _, rfl, _, _, rfl, rfl, ?_⟩
    exact ⟨_, rfl, _, rfl, _, rfl, lk, _, _, _, _, rfl, SqL.of (g' _ _ (g2 _ _ hy1)), k2.same g, hG ks[i] (List.getElem_mem hi), fun H3 g3 => ⟨_, _, rfl, g.trans g3, g'.trans g3⟩⟩
  · rintro σ H' ⟨_, _, rfl, g, _⟩
    exact q H' g
end
end K7
namespace L2
open PySem PySem.Spec PyProof.Rows PySem.W
theorem strs_of_vals : ∀ {ss : List Str} {us : List Value}, Vals (ss.map V.str) us → StrsAre us ss
  | [], _, .nil => .nil
  | x :: r, _, .cons h t => by
    obtain ⟨k, rfl⟩ := (show ∃ t, _ = Value.str x t from h)
    exact .cons x k (strs_of_vals t)
section
variable {X : Cx}
theorem mt_join : MtR X "str.join" (fun x vs H Q => ∃ (sep : Str) (l : Addr) (ss : List Str), x = .str sep ∧ vs = [.ref l] ∧ SqL X.K H l (ss.map V.str) ∧ (ss.map (·.length)).sum + ss.length * sep.length ≤ 16777216 ∧ Q (.str (Txt.join sep ss)) H) := by
  intro pins s σ H x xs v us Q I rx rv h
  obtain ⟨sep, l, ss, rfl, rfl, hl, hz, q⟩ := h
  obtain ⟨t, rfl⟩ := (show ∃ t, v = Value.str sep t from rx)
  obtain ⟨u, rfl, ru⟩ := rv.one
  obtain rfl : u = Value.ref l := ru
  obtain ⟨its, r, p, _⟩ := I.list hl
  exact join_list p.isList (strs_of_vals r) hz fun t' k => ⟨.str _, H, I.tok _, ⟨_, rfl⟩, q⟩
end
section
variable {prog : Program} {w : World} {A : Around} {E : Value → Shared → Prop} {s : Shared}
end
section
variable {X : Cx} {tg : Expr}
end
end L2
namespace L2
open PySem PySem.Spec PyProof.Rows PySem.W
theorem mt_joinT {X : Cx} : MtR X "str.join" (fun x vs H Q => ∃ (sep : Str) (l : Addr) (ss : List Str), x = .str sep ∧ vs = [.ref l] ∧ SqT X.K H l (ss.map V.str) ∧ (ss.map (·.length)).sum + ss.length * sep.length ≤ 16777216 ∧ Q (.str (Txt.join sep ss)) H) := by
  intro pins s σ H x xs v us Q I rx rv h
  obtain ⟨sep, l, ss, rfl, rfl, hl, hz, q⟩ := h
  obtain ⟨t, rfl⟩ := (show ∃ t, v = Value.str sep t from rx)
  obtain ⟨u, rfl, ru⟩ := rv.one
  obtain rfl : u = Value.ref l := ru
  obtain ⟨its, r, p, _⟩ := I.tuple hl
  exact join_tuple p (strs_of_vals r) hz fun t' k => ⟨.str _, H, I.tok _, ⟨_, rfl⟩, q⟩
end L2
namespace K7
open PySem L2 K3 TM K9
def gl (sep : List Nat) : List (List Nat) → List Nat
  | [] => []
  | x :: r => x ++ r.flatMap fun y => sep ++ y
theorem gl_fold (sep : List Nat) : ∀ (r : List (List Nat)) (acc : List Nat), (r.map S).foldl (fun a p => a ++ (S sep).cps ++ p.cps) acc.toArray = (acc ++ r.flatMap fun y => sep ++ y).toArray
  | [], acc => by simp
  | y :: r, acc => by
    rw [List.map_cons, List.foldl_cons]
    have e : acc.toArray ++ (S sep).cps ++ (S y).cps = (acc ++ (sep ++ y)).toArray := by
      apply Array.toList_inj.mp
      simp [S]
    rw [e, gl_fold sep r]
    simp [List.flatMap_cons]
theorem join_S (sep : List Nat) (xs : List (List Nat)) : Txt.join (S sep) (xs.map S) = S (gl sep xs) := by
  show Builtin.Str.glued (S sep) (xs.map S) = _
  unfold Builtin.Str.glued
  cases xs with
  | nil => rfl
  | cons x r =>
    have := gl_fold sep r x
    show (⟨((r.map S).foldl (fun a p => a ++ (S sep).cps ++ p.cps) (S x).cps)⟩ : Str) = _
    rw [show (S x).cps = x.toArray from rfl, this]
    rfl
theorem gl_len (sep : List Nat) : ∀ xs : List (List Nat), (xs.map List.length).sum ≤ (gl sep xs).length
  | [] => by simp [gl]
  | x :: r => by
    have : ∀ r : List (List Nat), (r.map List.length).sum ≤ (r.flatMap fun y => sep ++ y).length := fun r => by
      induction r with
      | nil => simp
      | cons y r ih => simp only [List.map_cons, List.sum_cons, List.flatMap_cons, List.length_append]; omega
    have h := this r
    simp only [gl, List.map_cons, List.sum_cons, List.length_append]; omega
theorem gl_cnt {sep : List Nat} (hs : 0 < sep.length) : ∀ xs : List (List Nat), xs.length ≤ (gl sep xs).length + 1
  | [] => by simp
  | x :: r => by
    have : ∀ r : List (List Nat), r.length ≤ (r.flatMap fun y => sep ++ y).length := fun r => by
      induction r with
      | nil => simp
      | cons y r ih => simp only [List.flatMap_cons, List.length_append, List.length_cons]; omega
    have h := this r
    simp only [gl, List.length_cons, List.length_append]; omega
def shB (xs : List (List Nat)) : List Nat := match xs with
  | [] => []
  | _ :: _ => [40] ++ gl [32] xs ++ [41]
def spSB (K : PySem.W.Frag) : Sp := fun vs H Q _ => ∃ (l : Addr) (xs : List (List Nat)), vs = [.ref l] ∧ SqT K H l (xs.map fun x => V.str (S x)) ∧ (shB xs).length ≤ 5000 ∧ Q (.str (S (shB xs))) H
section
variable {P : Program} {w : World} {K : PySem.W.Frag} {mg : Str → Option Value} {base : Heap} {f : Addr} {fd : FuncData}
theorem scSB : FnScope ["texts"] ["texts"] (defScope sShowB) := ⟨rfl, rfl, rfl, by decide +kernel, rfl, by decide +kernel, by decide +kernel⟩
theorem ok_sb (F : Fun K "show_in_brackets" "show_in_brackets" sShowB f fd) (G : Gm mg) : FnOk P w K mg base CX0 1 f fd ["texts"] (spSB K) := by
  refine F.ok scSB (fun vs H Q E h => ?_) (fun cdv A outer s H vs Q E hr h => ?_)
  · obtain ⟨l, xs, rfl, _⟩ := h
    rfl
  obtain ⟨l, xs, rfl, hl, hz, q⟩ := h
  refine ⟨_, (pss_cons (ps_if (pt_cmpR op_eq (pe_callB call_len_seq rfl G.len PySem.boot_len (pa_cons (pv 0) pa_nil)) pe_int (nomark _)) (pss_one (ps_ret pe_str)) pss_nil)
    (pss_one (ps_ret (pe_op op_add_str (pe_op op_add_str pe_str (pe_bm PySem.F.plainAttrs_str PySem.F.slot_str_join PySem.F.type_str_join mt_joinT pe_str (pa_cons (pv 0) pa_nil))) pe_str)))), ?_⟩
  refine ⟨_, rfl, l, _, rfl, .inr hl, rfl, _, rfl, ?_⟩
  rw [List.length_map]
  cases xs with
  | nil =>
    refine iteP rfl ?_
    show Q (.str (Str.ofString "")) H
    rw [none_eq]; exact q
  | cons x r =>
    refine iteN (fun z => by have := V.int.inj z; simp at this; omega) ?_
    have h1 := gl_len [32] (x :: r)
    have h2 := gl_cnt (sep := [32]) (by decide) (x :: r)
    have e : (shB (x :: r)).length = (gl [32] (x :: r)).length + 2 := by simp [shB]
    have eb : Str.ofString " " = S [32] := by decide +kernel
    have eo : Str.ofString "(" = S [40] := by decide +kernel
    have ec : Str.ofString ")" = S [41] := by decide +kernel
    have hm : ((x :: r).map S).map V.str = (x :: r).map fun x => V.str (S x) := by rw [List.map_map]; rfl
    have hls : (((x :: r).map S).map fun z : Str => z.length) = (x :: r).map List.length := by
      rw [List.map_map]
      exact List.map_congr_left fun y _ => S_len y
    refine ⟨rfl, _, rfl, S [32], l, (x :: r).map S, (by rw [← eb]), rfl, (by rw [hm]; exact hl), ?_, ?_⟩
    · rw [hls, List.length_map, S_len]
      show _ + _ * 1 ≤ _
      omega
    · rw [join_S]
      refine ⟨_, _, rfl, rfl, ?_, _, _, rfl, rfl, ?_, ?_⟩
      · rw [eo, S_len, S_len]; exact line_of (by simp only [List.length_singleton]; omega)
      · rw [eo, ec, S_app, S_len, S_len]; exact line_of (by simp only [List.length_append, List.length_singleton]; omega)
      · rw [eo, ec, S_app, S_app]; exact q
end
end K7
namespace K7
open PySem L2 K3 TM K9
def shR (t : PNx) : List Nat := codes t.2.1 ++ shB (t.2.2.2.map codes)
def shRs (rs : List PNx) : List Nat := gl [32, 124, 32] (rs.map shR)
def shK (k : KdT) : List Nat := codes k.2.1 ++ [32, 61, 32] ++ shRs k.2.2.2
def shW (ks : List KdT) : List Nat := gl [59, 32] (ks.map shK)
def spSR (K : PySem.W.Frag) : Sp := fun vs H Q _ => ∃ (lr : Addr) (rs : List PNx), vs = [.ref lr] ∧ RowsL K H lr rs ∧ rs.length ≤ 30 ∧ (shRs rs).length ≤ 5000 ∧ (∀ t ∈ rs, (shR t).length ≤ 5000) ∧ ∀ H', Same H H' → Q (.str (S (shRs rs))) H'
theorem cod_strs (xs : List Str) : (xs.map codes).map (fun x => V.str (S x)) = xs.map V.str := by
  rw [List.map_map]
  exact List.map_congr_left fun x _ => congrArg V.str (S_self x)
section
variable {P : Program} {w : World} {K : PySem.W.Frag} {mg : Str → Option Value} {base : Heap} {f : Addr} {fd : FuncData}
theorem scShowR : FnScope ["rows"] ["rows"] (defScope sShowR) := ⟨rfl, rfl, rfl, by decide +kernel, rfl, by decide +kernel, by decide +kernel⟩
theorem ok_showR (F : Fun K "show_rows" "show_rows" sShowR f fd) (RB : Fn P w K mg base 1 "show_in_brackets" ["texts"] (spSB K)) : FnOk P w K mg base CX0 2 f fd ["rows"] (spSR K) := by
  refine F.ok scShowR (fun vs H Q E h => ?_) (fun cdv A outer s H vs Q E hr h => ?_)
  · obtain ⟨lr, rs, rfl, _⟩ := h
    rfl
  obtain ⟨lr, rs, rfl, hL, h30, hz, hz1, q⟩ := h
  refine ⟨_, (pss_one (ps_ret (pe_bm PySem.F.plainAttrs_str PySem.F.slot_str_join PySem.F.type_str_join mt_join pe_str (pa_cons (pe_lcompG (CompG.many (xs := ["name", "branches"]) (caps := []) (cap := []) (cs := []) rfl rfl (by decide +kernel) (by decide +kernel) (by decide +kernel) (by decide +kernel) (by decide +kernel) (by decide +kernel) rfl rfl rfl) rfl (pi_list (pv 0)) (pg_c2 (CompG.many (xs := ["name", "branches"]) (caps := []) (cap := []) (cs := []) rfl rfl (by decide +kernel) (by decide +kernel) (by decide +kernel) (by decide +kernel) (by decide +kernel) (by decide +kernel) rfl rfl rfl) rfl) (fun _ _ _ _ => pf_nil) (fun _ _ _ _ => pe_op op_add_str (pv 0) (pe_fn RB hr (pa_cons (pv 1) pa_nil)))) pa_nil)))), ?_⟩
  refine ⟨rfl, _, rfl, lr, rfl, ⟨_, hL.1⟩, fun acc hacc => ?_⟩
  refine c2_list (K := K) (xs := rs.map fun t => V.ref t.1) (cs := []) (tt := fun _ H Q => Q true H) (fun j ys H' => ys = ((rs.take j).map shR).map (fun x => V.str (S x)) ∧ H' acc = some (.lst ys) ∧ Same H H')
    ⟨rfl, upd_same, same_new hacc _⟩ ?_ ?_ ?_
  · rintro j ys H' _ ⟨_, _, g⟩
    exact g.seq hL.1
  · rintro j x ys H' hj hx ⟨rfl, hy, g⟩
    rw [List.length_map] at hj
    obtain rfl : x = .ref rs[j].1 := by
      rw [List.getElem?_map, List.getElem?_eq_getElem hj] at hx
      exact (Option.some.inj hx).symm
    obtain ⟨k1, k2⟩ := hL.2 rs[j] (List.getElem_mem hj)
    have hl1 := hz1 rs[j] (List.getElem_mem hj)
    unfold shR at hl1
    rw [List.length_append] at hl1
    have ec : rs[j].2.1.length = (codes rs[j].2.1).length := by simp [codes, Str.length]
    refine ⟨_, _, _, rfl, g.seqT k1, iteT ⟨_, rfl, _, rfl, rs[j].2.2.1, rs[j].2.2.2.map codes, rfl, (by rw [cod_strs]; exact g.seqT k2), by omega, _, _, rfl, rfl, ?_, ?_⟩⟩
    · rw [S_len, ec]; exact line_of (by omega)
    rw [List.length_map]
    refine comp_next hj hy (by rw [List.length_map, List.length_map, List.length_take]; omega) ⟨?_, upd_same, fun b u e => ?_⟩
    · rw [List.take_add_one, List.getElem?_eq_getElem hj, Option.toList_some, List.map_append, List.map_append]
      have : rs[j].2.1 ++ S (shB (rs[j].2.2.2.map codes)) = S (shR rs[j]) := by
        unfold shR
        rw [← S_app, S_self]
      rw [this]; rfl
    · rw [upd_ne (ne_of_none e hacc)]; exact g _ _ e
  rintro ys H1 ⟨rfl, hy1, g1⟩
  rw [List.length_map, List.take_length] at hy1
  have es : Str.ofString " | " = S [32, 124, 32] := by decide +kernel
  have hms : ((rs.map shR).map S).map V.str = (rs.map shR).map fun x => V.str (S x) := by rw [List.map_map]; rfl
  have hls : (((rs.map shR).map S).map fun z : Str => z.length) = (rs.map shR).map List.length := by
    rw [List.map_map]
    exact List.map_congr_left fun y _ => S_len y
  refine ⟨S [32, 124, 32], acc, (rs.map shR).map S, (by rw [← es]), rfl, (by rw [hms]; exact SqL.of hy1), ?_, ?_⟩
  · have := gl_len [32, 124, 32] (rs.map shR)
    unfold shRs at hz
    rw [hls, List.length_map, List.length_map, S_len]
    show _ + _ * 3 ≤ _
    omega
  · rw [join_S]; exact q H1 g1
end
end K7
namespace K7
open PySem L2 K3 TM K9
def spSW (K : PySem.W.Frag) : Sp := fun vs H Q _ => ∃ (lw : Addr) (ks : List KdT), vs = [.ref lw] ∧ WoodAt K H lw ks ∧ ks.length ≤ 30 ∧ (shW ks).length ≤ 5000 ∧ (∀ k ∈ ks, (shK k).length ≤ 5000 ∧ k.2.2.2.length ≤ 30 ∧ ∀ t ∈ k.2.2.2, (shR t).length ≤ 5000) ∧ ∀ H', Same H H' → Q (.str (S (shW ks))) H'
section
variable {P : Program} {w : World} {K : PySem.W.Frag} {mg : Str → Option Value} {base : Heap} {f : Addr} {fd : FuncData}
theorem scShowW : FnScope ["wood"] ["wood"] (defScope sShow) := ⟨rfl, rfl, rfl, by decide +kernel, rfl, by decide +kernel, by decide +kernel⟩
theorem ok_showW (F : Fun K "show_wood" "show_wood" sShow f fd) (RR : Fn P w K mg base 2 "show_rows" ["rows"] (spSR K)) : FnOk P w K mg base CX0 3 f fd ["wood"] (spSW K) := by
  refine F.ok scShowW (fun vs H Q E h => ?_) (fun cdv A outer s H vs Q E hr h => ?_)
  · obtain ⟨lw, ks, rfl, _⟩ := h
    rfl
  obtain ⟨lw, ks, rfl, hL, h30, hz, hz1, q⟩ := h
  refine ⟨_, (pss_one (ps_ret (pe_bm PySem.F.plainAttrs_str PySem.F.slot_str_join PySem.F.type_str_join mt_join pe_str (pa_cons (pe_lcompG (CompG.many (xs := ["kind", "rows"]) (caps := []) (cap := []) (cs := []) rfl rfl (by decide +kernel) (by decide +kernel) (by decide +kernel) (by decide +kernel) (by decide +kernel) (by decide +kernel) rfl rfl rfl) rfl (pi_list (pv 0)) (pg_c2 (CompG.many (xs := ["kind", "rows"]) (caps := []) (cap := []) (cs := []) rfl rfl (by decide +kernel) (by decide +kernel) (by decide +kernel) (by decide +kernel) (by decide +kernel) (by decide +kernel) rfl rfl rfl) rfl) (fun _ _ _ _ => pf_nil) (fun _ _ _ _ => pe_op op_add_str (pe_op op_add_str (pv 0) pe_str) (pe_fn RR hr (pa_cons (pv 1) pa_nil)))) pa_nil)))), ?_⟩
  refine ⟨rfl, _, rfl, lw, rfl, ⟨_, hL.1⟩, fun acc hacc => ?_⟩
  refine c2_list (K := K) (xs := ks.map fun t => V.ref t.1) (cs := []) (tt := fun _ H Q => Q true H) (fun j ys H' => ys = ((ks.take j).map shK).map (fun x => V.str (S x)) ∧ H' acc = some (.lst ys) ∧ Same H H')
    ⟨rfl, upd_same, same_new hacc _⟩ ?_ ?_ ?_
  · rintro j ys H' _ ⟨_, _, g⟩
    exact g.seq hL.1
  · rintro j x ys H' hj hx ⟨rfl, hy, g⟩
    rw [List.length_map] at hj
    obtain rfl : x = .ref ks[j].1 := by
      rw [List.getElem?_map, List.getElem?_eq_getElem hj] at hx
      exact (Option.some.inj hx).symm
    obtain ⟨k1, k2⟩ := hL.2 ks[j] (List.getElem_mem hj)
    obtain ⟨hl1, hl2, hl3⟩ := hz1 ks[j] (List.getElem_mem hj)
    unfold shK at hl1
    rw [List.length_append, List.length_append] at hl1
    have ec : ks[j].2.1.length = (codes ks[j].2.1).length := by simp [codes, Str.length]
    have es : Str.ofString " = " = S [32, 61, 32] := by decide +kernel
    have hsr : ∀ x : List Nat, S (codes ks[j].2.1) = ks[j].2.1 := fun _ => S_self _
    have e3 : ks[j].2.1 ++ Str.ofString " = " = S (codes ks[j].2.1 ++ [32, 61, 32]) := by
      rw [es, ← S_app, hsr []]
    have e4 : ks[j].2.1 ++ Str.ofString " = " ++ S (shRs ks[j].2.2.2) = S (shK ks[j]) := by
      rw [e3, S_app]; rfl
    have e5 : [32, 61, 32].length = 3 := rfl
    refine ⟨_, _, _, rfl, g.seqT k1, iteT ⟨_, rfl, _, _, rfl, rfl, ?_, _, rfl, ks[j].2.2.1, ks[j].2.2.2, rfl, k2.same g, hl2, (by omega), hl3, fun H2 g2 => ⟨_, _, rfl, rfl, ?_, ?_⟩⟩⟩
    · rw [es, S_len, ec]; exact line_of (by omega)
    · rw [e3, S_len, S_len, List.length_append]; exact line_of (by omega)
    rw [e4, List.length_map]
    refine comp_next hj (g2 _ _ hy) (by rw [List.length_map, List.length_map, List.length_take]; omega) ⟨?_, upd_same, fun b u e => ?_⟩
    · rw [List.take_add_one, List.getElem?_eq_getElem hj, Option.toList_some, List.map_append, List.map_append]
      rfl
    · rw [upd_ne (ne_of_none e hacc)]; exact g2 _ _ (g _ _ e)
  rintro ys H1 ⟨rfl, hy1, g1⟩
  rw [List.length_map, List.take_length] at hy1
  have es : Str.ofString "; " = S [59, 32] := by decide +kernel
  have hms : ((ks.map shK).map S).map V.str = (ks.map shK).map fun x => V.str (S x) := by rw [List.map_map]; rfl
  have hls : (((ks.map shK).map S).map fun z : Str => z.length) = (ks.map shK).map List.length := by
    rw [List.map_map]
    exact List.map_congr_left fun y _ => S_len y
  refine ⟨S [59, 32], acc, (ks.map shK).map S, (by rw [← es]), rfl, (by rw [hms]; exact SqL.of hy1), ?_, ?_⟩
  · have := gl_len [59, 32] (ks.map shK)
    unfold shW at hz
    rw [hls, List.length_map, List.length_map, S_len]
    show _ + _ * 2 ≤ _
    omega
  · rw [join_S]; exact q H1 g1
end
end K7
namespace K7
open PySem L2 K3 TM K9
def spCell (K : PySem.W.Frag) : Sp := fun vs H Q _ => ∃ (a : Addr) (ns : List Int) (k : Nat), vs = [.ref a, .int k] ∧ SqL K H a (ns.map V.int) ∧ ∀ c : Int, Q (.int c) H
theorem letL_inj {i j : Nat} (hi : i < 26) (hj : j < 26) (e : letL.getD i 0 = letL.getD j 0) : i = j := by
  have hn : letL.Nodup := by decide
  have h1 : letL.getD i 0 = letL[i]'hi := by rw [List.getD_eq_getElem?_getD, List.getElem?_eq_getElem (show i < letL.length from hi)]; rfl
  have h2 : letL.getD j 0 = letL[j]'hj := by rw [List.getD_eq_getElem?_getD, List.getElem?_eq_getElem (show j < letL.length from hj)]; rfl
  rw [h1, h2] at e
  exact (List.getElem_inj hn).mp e
theorem letL_mem {i : Nat} (hi : i < 26) : letL.getD i 0 ∈ letL ∧ letL[i]? = some (letL.getD i 0) := by
  have hl : i < letL.length := hi
  have e : letL.getD i 0 = letL[i] := by rw [List.getD_eq_getElem?_getD, List.getElem?_eq_getElem hl]; rfl
  rw [e]
  exact ⟨List.getElem_mem hl, List.getElem?_eq_getElem hl⟩
theorem cutTo (z : List Nat) (k : Nat) : cutS (S z) none (some (k : Int)) = S (z.take k) := by
  unfold cutS
  rw [HT.sIx_none, HT.sIx_nat, S_len, S_list, List.drop_zero, Nat.sub_zero]
  by_cases h : k ≤ z.length
  · rw [Nat.min_eq_left h]; rfl
  · rw [Nat.min_eq_right (by omega), List.take_of_length_le (Nat.le_refl _), List.take_of_length_le (by omega)]; rfl
theorem cutFr (z : List Nat) (k : Nat) : cutS (S z) (some (k : Int)) none = S (z.drop k) := by
  unfold cutS
  rw [HT.sIx_none, HT.sIx_nat, S_len, S_list]
  by_cases h : k ≤ z.length
  · rw [Nat.min_eq_left h, List.take_of_length_le (by rw [List.length_drop]; omega)]; rfl
  · rw [Nat.min_eq_right (by omega), List.drop_of_length_le (Nat.le_refl _), List.drop_of_length_le (by omega), List.take_nil]; rfl
def famN (base : List Nat) (there first k : Nat) : List Nat := base.take there ++ [letL.getD ((first + k) % 26) 0] ++ base.drop (there + 1)
def nmK (n : Int) (base : List Nat) (there first k : Nat) : List Nat := if n % 3 = 1 ∧ k < 8 ∧ base.length = 8 then base.take (8 - k) else famN base there first k
theorem fam_inj {base : List Nat} {there first i j : Nat} (hi : i < 26) (hj : j < 26) (e : famN base there first i = famN base there first j) : i = j := by
  unfold famN at e
  have e2 := List.append_inj_left' e rfl
  have e3 := List.append_cancel_left e2
  have e4 : letL.getD ((first + i) % 26) 0 = letL.getD ((first + j) % 26) 0 := by simpa using e3
  have := letL_inj (Nat.mod_lt _ (by decide)) (Nat.mod_lt _ (by decide)) e4
  omega
theorem fam_len {base : List Nat} {there first k : Nat} (h : there < base.length) : (famN base there first k).length = base.length := by
  unfold famN
  rw [List.length_append, List.length_append, List.length_take, List.length_singleton, List.length_drop]
  omega
theorem fam_zero {base : List Nat} {there first : Nat} (h : there < base.length) (e : letL[first]? = some base[there]) : famN base there first 0 = base := by
  have hf : first < 26 := (List.getElem?_eq_some_iff.mp e).1
  unfold famN
  rw [Nat.add_zero, Nat.mod_eq_of_lt hf, List.getD_eq_getElem?_getD, e]
  show base.take there ++ [base[there]] ++ _ = _
  rw [← List.take_succ_eq_append_getElem h, List.take_append_drop]
theorem nm_inj {n : Int} {base : List Nat} {there first i j : Nat} (hi : i < 26) (hj : j < 26) (h : there < base.length) (e : letL[first]? = some base[there]) (q : nmK n base there first i = nmK n base there first j) : i = j := by
  have lt : ∀ k, k < 8 → base.length = 8 → (base.take (8 - k)).length = 8 - k := fun k _ h8 => by rw [List.length_take]; omega
  have one : ∀ a b, a < 8 → ¬ b < 8 → b < 26 → base.length = 8 → base.take (8 - a) = famN base there first b → False := by
    intro a b ha hb hb2 h8 q
    have hl := congrArg List.length q
    rw [lt a ha h8, fam_len h] at hl
    obtain rfl : a = 0 := by omega
    rw [List.take_of_length_le (by omega)] at q
    rw [← fam_zero h e] at q
    rw [show famN (famN base there first 0) there first b = famN base there first b by rw [fam_zero h e]] at q
    have := fam_inj (by omega) hb2 q
    omega
  unfold nmK at q
  by_cases c : n % 3 = 1 ∧ base.length = 8
  · by_cases a : i < 8
    · by_cases b : j < 8
      · rw [if_pos ⟨c.1, a, c.2⟩, if_pos ⟨c.1, b, c.2⟩] at q
        have hl := congrArg List.length q
        rw [lt i a c.2, lt j b c.2] at hl
        omega
      · rw [if_pos ⟨c.1, a, c.2⟩, if_neg (fun z => b z.2.1)] at q
        exact (one i j a b hj c.2 q).elim
    · by_cases b : j < 8
      · rw [if_neg (fun z => a z.2.1), if_pos ⟨c.1, b, c.2⟩] at q
        exact (one j i b a hi c.2 q.symm).elim
      · rw [if_neg (fun z => a z.2.1), if_neg (fun z => b z.2.1)] at q
        exact fam_inj hi hj q
  · rw [if_neg (fun z => c ⟨z.1, z.2.2⟩), if_neg (fun z => c ⟨z.1, z.2.2⟩)] at q
    exact fam_inj hi hj q
theorem nm_nm {n : Int} {base : List Nat} {there first k : Nat} (h : there < base.length) (h8 : base.length ≤ 8) (ha : ∀ x ∈ base, x ∈ letL) : Nm (nmK n base there first k) := by
  unfold nmK
  by_cases c : n % 3 = 1 ∧ k < 8 ∧ base.length = 8
  · rw [if_pos c]
    refine ⟨fun z => ?_, ?_, fun x hx => ha x (List.mem_of_mem_take hx)⟩
    · have := congrArg List.length z
      rw [List.length_take] at this
      simp only [List.length_nil] at this
      omega
    · rw [List.length_take]; omega
  · rw [if_neg c]
    refine ⟨fun z => ?_, ?_, fun x hx => ?_⟩
    · have := congrArg List.length z
      rw [fam_len h] at this
      simp only [List.length_nil] at this
      omega
    · rw [fam_len h]; exact h8
    · unfold famN at hx
      rcases List.mem_append.mp hx with hx | hx
      · rcases List.mem_append.mp hx with hx | hx
        · exact ha x (List.mem_of_mem_take hx)
        · have : x = letL.getD ((first + k) % 26) 0 := by simpa using hx
          rw [this]
          exact (letL_mem (Nat.mod_lt _ (by decide))).1
      · exact ha x (List.mem_of_mem_drop hx)
def spNames (K : PySem.W.Frag) : Sp := fun vs H Q _ => ∃ (c wh : Int) (lots : Nat), vs = [.int c, .int wh, .int (lots : Int)] ∧ lots ≤ 26 ∧ ∀ (l : Addr) (H' : Hp) (ns : List (List Nat)), Same H H' → H' l = some (.lst (ns.map fun x => V.str (S x))) → H l = none → ns.length = lots → ns.Nodup → (∀ n ∈ ns, Nm n) → Q (.ref l) H'
section
variable {P : Program} {w : World} {K : PySem.W.Frag} {mg : Str → Option Value} {base : Heap} {f : Addr} {fd : FuncData}
theorem scCell : FnScope ["_law_script", "_law_k"] ["_law_script", "_law_k"] (defScope sCell) := ⟨rfl, rfl, rfl, by decide +kernel, rfl, by decide +kernel, by decide +kernel⟩
theorem ok_cell (F : Fun K "_law_cell_at" "_law_cell_at" sCell f fd) (G : Gm mg) : FnOk P w K mg base CX0 1 f fd ["_law_script", "_law_k"] (spCell K) := by
  refine F.ok scCell (fun vs H Q E h => ?_) (fun cdv A outer s H vs Q E hr h => ?_)
  · obtain ⟨a, ns, k, rfl, _⟩ := h
    rfl
  obtain ⟨a, ns, k, rfl, hS, q⟩ := h
  refine ⟨_, pss_cons (ps_if (pt_cmpR op_lt (pv 1) (pe_callB call_len_seq rfl G.len PySem.boot_len (pa_cons (pv 0) pa_nil)) (nomark _)) (pss_one (ps_ret (pe_ix ix_list (pv 0) (pv 1) (fun _ _ => rfl)))) pss_nil)
    (pss_one (ps_ret pe_int)), ?_⟩
  refine ⟨_, rfl, _, rfl, a, _, rfl, .inl hS, _, _, rfl, rfl, _, rfl, ite2 (fun c => ?_) (fun c => ?_)⟩
  · have c' : (k : Int) < (((ns.map V.int).length : Nat) : Int) := of_decide_eq_true c
    rw [List.length_map] at c'
    have hk : k < ns.length := by omega
    exact ⟨_, rfl, _, rfl, a, _, k, .int ns[k], rfl, rfl, hS, atI_nat (by rw [List.getElem?_map, List.getElem?_eq_getElem hk]; rfl), q _⟩
  · exact q 0
end
end K7
namespace K7
open PySem L2 K3 TM K9
theorem occ_all : (letL.all fun c => match Builtin.Str.occurrences LETS ⟨#[c]⟩ 0 LETS.length 1 with | i :: _ => letL[i]? == some c | [] => false) = true := by decide +kernel
theorem mt_indexL {X : Cx} : MtR X "str.index" (fun x vs H Q => ∃ (c : Nat), x = .str LETS ∧ vs = [.str ⟨#[c]⟩] ∧ c ∈ letL ∧ ∀ i : Nat, letL[i]? = some c → Q (.int (i : Int)) H) := by
  intro pins s σ H x xs v us Q I rx rv h
  obtain ⟨c, rfl, rfl, hc, q⟩ := h
  obtain ⟨t, rfl⟩ := (show ∃ t, v = Value.str LETS t from rx)
  obtain ⟨u, rfl, ru⟩ := rv.one
  obtain ⟨t2, rfl⟩ := (show ∃ t, u = Value.str ⟨#[c]⟩ t from ru)
  have h1 := List.all_eq_true.mp occ_all c hc
  cases ho : Builtin.Str.occurrences LETS ⟨#[c]⟩ 0 LETS.length 1 with
  | nil => rw [ho] at h1; cases h1
  | cons i rest =>
    rw [ho] at h1
    exact SC.index ho ⟨.int i, H, I.tok _, ⟨_, rfl⟩, q i (beq_iff_eq.mp h1)⟩
section
variable {P : Program} {w : World} {K : PySem.W.Frag} {mg : Str → Option Value} {base : Heap} {f : Addr} {fd : FuncData}
abbrev nmsN : List Str := ["_law_cell", "_law_where", "_law_lots", "_law_letters", "_law_number", "_law_base", "_law_k", "_law_there", "_law_first", "_law_names_here", "_law_name"]
theorem scNames : FnScope nmsN ["_law_cell", "_law_where", "_law_lots"] (defScope sNames) := ⟨rfl, rfl, rfl, by decide +kernel, rfl, by decide +kernel, by decide +kernel⟩
theorem ok_names (F : Fun K "_law_names" "_law_names" sNames f fd) (G : Gm mg) : FnOk P w K mg base CX0 1 f fd ["_law_cell", "_law_where", "_law_lots"] (spNames K) := by
  refine F.ok scNames (fun vs H Q E h => ?_) (fun cdv A outer s H vs Q E hr h => ?_)
  · obtain ⟨c, wh, lots, rfl, _⟩ := h
    rfl
  obtain ⟨c, wh, lots, rfl, hlots, q⟩ := h
  refine ⟨_, (pss_cons (ps_set (i := 3) scNames.nd rfl (Or.inl rfl) pe_str)
    (pss_cons (ps_set (i := 4) scNames.nd rfl (Or.inl rfl) (pe_op op_mod (pv 0) (pe_op op_pow pe_int pe_int)))
    (pss_cons (ps_set (i := 5) scNames.nd rfl (Or.inl rfl) pe_str)
    (pss_cons (ps_for PassesOwn.never rfl (pi_range1 rfl G.rng (pa_cons (pe_op op_add pe_int (pe_op op_mod (pv 4) pe_int)) pa_nil)) (pg_name (i := 6) scNames.nd rfl (Or.inl rfl)) (pss_one (ps_set (i := 5) scNames.nd rfl (Or.inl rfl) (pe_op op_add_str (pv 5) (pe_ix ix_str (pv 3) (pe_op op_mod (pe_op op_add (pe_op op_fdiv (pv 4) (pe_op op_add (pv 6) pe_int)) (pe_op op_mul (pe_op op_mul pe_int (pv 6)) (pv 6))) pe_int) (fun _ _ => rfl))))))
    (pss_cons (ps_set (i := 7) scNames.nd rfl (Or.inl rfl) (pe_op op_mod (pv 1) (pe_callB call_len_str rfl G.len PySem.boot_len (pa_cons (pv 5) pa_nil))))
    (pss_cons (ps_set (i := 8) scNames.nd rfl (Or.inl rfl) (pe_bm PySem.F.plainAttrs_str PySem.F.slot_str_index PySem.F.type_str_index mt_indexL (pv 3) (pa_cons (pe_ix ix_str (pv 5) (pv 7) (fun _ _ => rfl)) pa_nil)))
    (pss_cons (ps_set (i := 9) scNames.nd rfl (Or.inl rfl) (pe_lst pa_nil))
    (pss_cons (ps_for PassesOwn.never rfl (pi_range1 rfl G.rng (pa_cons (pv 2) pa_nil)) (pg_name (i := 6) scNames.nd rfl (Or.inl rfl)) (pss_cons (ps_set (i := 10) scNames.nd rfl (Or.inl rfl) (pe_op op_add_str (pe_op op_add_str (pe_slice sl_str (pv 5) po_none (po_some (pv 7))) (pe_ix ix_str (pv 3) (pe_op op_mod (pe_op op_add (pv 8) (pv 6)) pe_int) (fun _ _ => rfl))) (pe_slice sl_str (pv 5) (po_some (pe_op op_add (pv 7) pe_int)) po_none)))
    (pss_cons (ps_cut (ps_if (PW.pt (pw_and (pt_cmpR op_eq (pe_op op_mod (pv 4) pe_int) pe_int (nomark _)) (pw_and (pt_cmpR op_lt (pv 6) pe_int (nomark _)) (pw_and1 (pt_cmpR op_eq (pe_callB call_len_str rfl G.len PySem.boot_len (pa_cons (pv 5) pa_nil)) pe_int (nomark _)))))) (pss_one (ps_set (i := 10) scNames.nd rfl (Or.inl rfl) (pe_slice sl_str (pv 5) po_none (po_some (pe_op op_sub pe_int (pv 6)))))) pss_nil))
    (pss_one (ps_expr (pe_bm PySem.F.plainAttrs_list PySem.F.slot_list_append PySem.F.type_list_append mt_append (pv 9) (pa_cons (pv 10) pa_nil)))))))
    (pss_one (ps_ret (pv 9))))))))))), ?_⟩
  refine ⟨_, rfl, _, _, rfl, rfl, ⟨by decide, by decide, by decide⟩, _, _, rfl, rfl, (by show (0 : Int) < 10 ^ 20; decide), ?_⟩
  dsimp only
  generalize hn : c % 10 ^ Int.toNat 20 = n
  have hn0 : 0 ≤ n := by rw [← hn]; exact Int.emod_nonneg _ (by decide)
  have h0 : 0 ≤ n % 8 := Int.emod_nonneg n (by decide)
  have h8 : n % 8 < 8 := Int.emod_lt_of_pos n (by decide)
  refine ⟨_, rfl, _, _, rfl, rfl, (by show (0 : Int) < 8; decide), _, _, rfl, rfl, _, rfl, (by show -(2 ^ 62 : Int) ≤ 1 + n % 8; omega), (by show (1 + n % 8 : Int) < 2 ^ 62; omega), ?_⟩
  refine for_range (lo := 0) (n := (1 + n % 8).toNat) (fun i σ H' => ∃ (nm : List Nat) (kv : Option V), σ = [some (.int c), some (.int wh), some (.int (lots : Int)), some (.str LETS), some (.int n), some (.str (S nm)), kv, none, none, none, none] ∧ H' = H ∧ nm.length = i ∧ (∀ x ∈ nm, x ∈ letL))
    ⟨[], none, by rw [show S [] = Str.ofString "" by decide +kernel]; rfl, rfl, rfl, fun x hx => by cases hx⟩ ?_ ?_
  · rintro i σ H' hi ⟨nm, kv, rfl, rfl, hl, ha⟩
    have hi8 : i < 8 := by omega
    refine ⟨_, rfl, _, rfl, _, rfl, _, rfl, _, _, rfl, rfl, _, _, rfl, rfl, ⟨by omega, by omega⟩, _, rfl, _, _, rfl, rfl, .inl ⟨by decide, by decide⟩, _, rfl, _, _, rfl, rfl, .inl ⟨by omega, by omega⟩, _, _, rfl, rfl, _, _, rfl, rfl, (by show (0 : Int) < 26; decide), ?_⟩
    dsimp only
    generalize hx : (n / (0 + (i : Int) + 1) + 3 * (0 + (i : Int)) * (0 + (i : Int))) % 26 = x
    have hx0 : 0 ≤ x := by rw [← hx]; exact Int.emod_nonneg _ (by decide)
    have hx1 : x < 26 := by rw [← hx]; exact Int.emod_lt_of_pos _ (by decide)
    obtain ⟨y, rfl⟩ : ∃ y : Nat, x = (y : Int) := ⟨x.toNat, by omega⟩
    have hy : y < 26 := by omega
    obtain ⟨hm, hg⟩ := letL_mem hy
    have hat : atI LETS.cps.toList (y : Int) = some (letL.getD y 0) := by rw [let_cps]; exact atI_nat hg
    refine ⟨_, _, _, rfl, rfl, (by rw [let_eq, S_len]; exact line_of (by decide)), hat, _, _, rfl, rfl, ?_, ?_⟩
    · rw [one_S, S_len, S_len]; exact line_of (by simp only [List.length_singleton]; omega)
    · refine ⟨nm ++ [letL.getD y 0], some (.int (0 + (i : Int))), ?_, rfl, by simp [hl], fun z hz => ?_⟩
      · rw [one_S, S_app]; rfl
      · rcases List.mem_append.mp hz with w | w
        · exact ha z w
        · have : z = letL.getD y 0 := by simpa using w
          rw [this]; exact hm
  rintro σ H' ⟨nm, kv, rfl, rfl, hl, ha⟩
  have hlp : 0 < nm.length := by omega
  have hl8 : nm.length ≤ 8 := by omega
  refine ⟨_, rfl, _, rfl, S nm, rfl, (by rw [S_len]; exact line_of (by omega)), _, _, rfl, rfl, (by rw [S_len]; omega), ?_⟩
  rw [S_len]
  have ht0 : 0 ≤ wh % ((nm.length : Nat) : Int) := Int.emod_nonneg _ (by omega)
  have ht1 : wh % ((nm.length : Nat) : Int) < ((nm.length : Nat) : Int) := Int.emod_lt_of_pos _ (by omega)
  obtain ⟨there, hth⟩ : ∃ y : Nat, wh % ((nm.length : Nat) : Int) = (y : Int) := ⟨_, (Int.toNat_of_nonneg ht0).symm⟩
  dsimp only
  rw [hth]
  have htl : there < nm.length := by omega
  have hat : atI (S nm).cps.toList (there : Int) = some nm[there] := by rw [S_list]; exact atI_nat (List.getElem?_eq_getElem htl)
  refine ⟨_, rfl, rfl, _, rfl, _, rfl, S nm, _, _, rfl, rfl, (by rw [S_len]; exact line_of (by omega)), hat, nm[there], rfl, rfl, ha _ (List.getElem_mem htl), fun first hfi => ?_⟩
  have hf : first < 26 := (List.getElem?_eq_some_iff.mp hfi).1
  refine ⟨(by show 0 ≤ sizeLine; decide), fun l hlN => ?_⟩
  refine ⟨_, rfl, _, rfl, (by omega), (by omega), ?_⟩
  have ecnt : ((lots : Nat) : Int).toNat = lots := by omega
  rw [ecnt]
  refine for_range (lo := 0) (n := lots) (fun i σ H2 => ∃ (kv nv : Option V), σ = [some (.int c), some (.int wh), some (.int (lots : Int)), some (.str LETS), some (.int n), some (.str (S nm)), kv, some (.int (there : Int)), some (.int (first : Int)), some (.ref l), nv] ∧ Same H' H2 ∧ H2 l = some (.lst (((List.range i).map (nmK n nm there first)).map fun x => V.str (S x))))
    ⟨_, _, rfl, same_new hlN _, upd_same⟩ ?_ ?_
  · rintro i σ H2 hi ⟨kv, nv, rfl, g, hl2⟩
    have ej : (0 : Int) + (i : Int) = (i : Int) := by omega
    rw [ej]
    have em : ((first : Int) + (i : Int)) % 26 = (((first + i) % 26 : Nat) : Int) := by omega
    have hy : (first + i) % 26 < 26 := Nat.mod_lt _ (by decide)
    obtain ⟨hm, hg⟩ := letL_mem hy
    have hat2 : atI LETS.cps.toList (((first : Int) + (i : Int)) % 26) = some (letL.getD ((first + i) % 26) 0) := by rw [em, let_cps]; exact atI_nat hg
    have hzl : (S nm).length ≤ sizeLine := by rw [S_len]; exact line_of (by omega)
    have et : ((there : Nat) : Int) + 1 = ((there + 1 : Nat) : Int) := by omega
    refine ⟨_, rfl, _, rfl, _, rfl, S nm, rfl, hzl, _, rfl, _, rfl, _, rfl, _, _, rfl, rfl, _, _, rfl, rfl, (by show (0 : Int) < 26; decide), LETS, _, _, rfl, rfl, (by rw [let_eq, S_len]; exact line_of (by decide)), hat2, _, _, rfl, rfl, ?_, _, rfl, _, rfl, _, _, rfl, rfl, _, rfl, S nm, rfl, hzl, _, _, rfl, rfl, ?_, ?_⟩
    · rw [cutTo, one_S, S_len, S_len]
      refine line_of ?_
      rw [List.length_take, List.length_singleton]; omega
    · rw [cutTo, one_S, S_app, et, cutFr, S_len, S_len]
      refine line_of ?_
      rw [List.length_append, List.length_take, List.length_singleton, List.length_drop]; omega
    rw [cutTo, one_S, S_app, et, cutFr, S_app]
    refine ⟨fun σ' H3 => σ' = [some (.int c), some (.int wh), some (.int (lots : Int)), some (.str LETS), some (.int n), some (.str (S nm)), some (.int (i : Int)), some (.int (there : Int)), some (.int (first : Int)), some (.ref l), some (.str (S (nmK n nm there first i)))] ∧ H2 = H3, ?_, ?_⟩
    · have no : ¬ (n % 3 = 1 ∧ i < 8 ∧ nm.length = 8) → S (nmK n nm there first i) = S (famN nm there first i) := fun z => by rw [nmK, if_neg z]
      have bad : ∀ z : ¬ (n % 3 = 1 ∧ i < 8 ∧ nm.length = 8), [some (V.int c), some (.int wh), some (.int (lots : Int)), some (.str LETS), some (.int n), some (.str (S nm)), some (.int (i : Int)), some (.int (there : Int)), some (.int (first : Int)), some (.ref l), some (.str (S (famN nm there first i)))] = [some (V.int c), some (.int wh), some (.int (lots : Int)), some (.str LETS), some (.int n), some (.str (S nm)), some (.int (i : Int)), some (.int (there : Int)), some (.int (first : Int)), some (.ref l), some (.str (S (nmK n nm there first i)))] := fun z => by rw [no z]
      refine ⟨_, rfl, _, _, rfl, rfl, (by show (0 : Int) < 3; decide), rfl, _, rfl, ite2 (fun g1 => ?_) (fun g1 => ?_)⟩
      · have g1' : n % 3 = 1 := by have := of_decide_eq_true g1; injection this
        refine ⟨_, rfl, _, _, rfl, rfl, _, rfl, ite2 (fun g2 => ?_) (fun g2 => ?_)⟩
        · have g2' : (i : Int) < 8 := of_decide_eq_true g2
          refine ⟨_, rfl, S nm, rfl, hzl, rfl, _, rfl, ?_⟩
          show if decide (V.int ((S nm).length : Int) = V.int 8) = true then _ else _
          refine ite2 (fun g3 => ?_) (fun g3 => ?_)
          · have g3' : ((S nm).length : Int) = 8 := by have := of_decide_eq_true g3; injection this
            rw [S_len] at g3'
            have e8 : (8 : Int) - (i : Int) = ((8 - i : Nat) : Int) := by omega
            refine ⟨_, rfl, _, rfl, _, _, rfl, rfl, _, rfl, S nm, rfl, hzl, ?_, rfl⟩
            rw [e8, cutTo, nmK, if_pos ⟨g1', by omega, by omega⟩]
            rfl
          · have g3' : ¬ nm.length = 8 := fun z => g3 (decide_eq_true (by rw [S_len, z]; rfl))
            exact ⟨bad fun z => g3' z.2.2, rfl⟩
        · have g2' : ¬ (i : Int) < 8 := fun z => g2 (decide_eq_true z)
          show if (false : Bool) = true then _ else _
          rw [if_neg (by decide)]
          exact ⟨bad fun z => g2' (by omega), rfl⟩
      · have g1' : ¬ n % 3 = 1 := fun z => g1 (decide_eq_true (congrArg V.int z))
        show if (false : Bool) = true then _ else _
        rw [if_neg (by decide)]
        exact ⟨bad fun z => g1' z.1, rfl⟩
    rintro σ' _ ⟨rfl, rfl⟩
    refine ⟨_, rfl, .inl ⟨rfl, _, SqL.of hl2⟩, _, rfl, l, _, _, rfl, rfl, hl2, ?_, ?_⟩
    · rw [List.length_map, List.length_map, List.length_range]; exact Nat.lt_of_le_of_lt (show i ≤ 26 by omega) (by decide)
    refine ⟨_, _, rfl, ?_, ?_⟩
    · intro b u e
      rw [upd_ne (ne_of_none e hlN)]; exact g _ _ e
    · rw [upd_same, List.range_succ, List.map_append, List.map_append]; rfl
  rintro σ H2 ⟨kv, nv, rfl, g, hl2⟩
  refine ⟨_, rfl, q l H2 _ g hl2 hlN (by rw [List.length_map, List.length_range]) ?_ fun z hz => ?_⟩
  · rw [List.nodup_iff_pairwise_ne, List.pairwise_map]
    refine List.Pairwise.imp_of_mem (fun {i j} hi hj hne => ?_) (List.nodup_iff_pairwise_ne.mp List.nodup_range)
    have hi' := List.mem_range.mp hi
    have hj' := List.mem_range.mp hj
    exact fun e => hne (nm_inj (by omega) (by omega) htl hfi e)
  · obtain ⟨k, _, rfl⟩ := List.mem_map.mp hz
    exact nm_nm htl hl8 ha
end
end K7
namespace K7
open PySem L2 K3 TM K9
def spLS (K : PySem.W.Frag) : Sp := fun vs H Q _ => ∃ (lw : Addr) (ks : List KdT), vs = [.ref lw] ∧ WoodAt K H lw ks ∧ ks.length ≤ 30 ∧ (shW ks).length ≤ 5000 ∧ (∀ k ∈ ks, (shK k).length ≤ 5000 ∧ k.2.2.2.length ≤ 30 ∧ ∀ t ∈ k.2.2.2, (shR t).length ≤ 5000 ∧ ∀ x ∈ t.2.2.2, PyData.strOk x = true) ∧ ∀ H', Same H H' → Q (.str (S (shW ks))) H'
theorem eqv_tnil (ss : List Str) : PyData.eqv (.tuple (ss.map PyData.str)) (.tuple []) = ss.isEmpty := by
  cases ss <;> simp [PyData.eqv, PyData.eqvAll]
theorem fm_cnt : ∀ r : List (List Nat), r.length ≤ (r.flatMap fun y => [32] ++ y).length
  | [] => Nat.le_refl _
  | x :: r => by
    have := fm_cnt r
    rw [List.flatMap_cons, List.length_append, List.length_append, List.length_cons]
    simp only [List.length_singleton]
    omega
theorem gl_cn2 (xs : List (List Nat)) : xs.length ≤ (gl [32] xs).length + 1 := by
  cases xs with
  | nil => exact Nat.zero_le _
  | cons x r =>
    have := fm_cnt r
    unfold gl
    rw [List.length_append, List.length_cons]
    omega
theorem S_self' (z : Str) : S (codes z) = z := S_self z
section
variable {P : Program} {w : World} {K : PySem.W.Frag} {mg : Str → Option Value} {base : Heap} {f : Addr} {fd : FuncData}
theorem scShown : FnScope ["_law_wood_here", "_law_parts_here", "_law_kind", "_law_rows", "_law_texts", "_law_name", "_law_branches"] ["_law_wood_here"] (defScope sShown) := ⟨rfl, rfl, rfl, by decide +kernel, rfl, by decide +kernel, by decide +kernel⟩
theorem ok_shown (F : Fun K "_law_shown" "_law_shown" sShown f fd) : FnOk P w K mg base CX0 1 f fd ["_law_wood_here"] (spLS K) := by
  refine F.ok scShown (fun vs H Q E h => ?_) (fun cdv A outer s H vs Q E hr h => ?_)
  · obtain ⟨lw, ks, rfl, _⟩ := h
    rfl
  obtain ⟨lw, ks, rfl, hL, h30, hz, hz1, q⟩ := h
  have room : ∀ n : Nat, n ≤ 8 → (A.deeper (PyProof.Rows.envOfC "_law_shown" (defScope sShown) s.heap.objs.size f cdv)).units + n < cLine := fun n hn => by have := hr.units; omega
  refine ⟨_, (pss_cons (ps_set (i := 1) scShown.nd rfl (Or.inl rfl) (pe_lst pa_nil))
    (pss_cons (ps_for PassesOwn.never rfl (pi_list (pv 0)) (pg_tup rfl (pgs_cons (pg_name (i := 2) scShown.nd rfl (Or.inl rfl)) (pgs_cons (pg_name (i := 3) scShown.nd rfl (Or.inl rfl)) pgs_nil))) (pss_cons (ps_set (i := 4) scShown.nd rfl (Or.inl rfl) (pe_lst pa_nil))
    (pss_cons (ps_for PassesOwn.never rfl (pi_list (pv 3)) (pg_tup rfl (pgs_cons (pg_name (i := 5) scShown.nd rfl (Or.inl rfl)) (pgs_cons (pg_name (i := 6) scShown.nd rfl (Or.inl rfl)) pgs_nil))) (pss_one (ps_if (pt_cmpR op_eqD (pv 6) (pe_tup pa_nil) (nomark _))
        (pss_one (ps_expr (pe_bm PySem.F.plainAttrs_list PySem.F.slot_list_append PySem.F.type_list_append mt_append (pv 4) (pa_cons (pv 5) pa_nil))))
        (pss_one (ps_expr (pe_bm PySem.F.plainAttrs_list PySem.F.slot_list_append PySem.F.type_list_append mt_append (pv 4) (pa_cons (pe_op op_add_str (pe_op op_add_str (pe_op op_add_str (pv 5) pe_str) (pe_bm PySem.F.plainAttrs_str PySem.F.slot_str_join PySem.F.type_str_join mt_joinT pe_str (pa_cons (pv 6) pa_nil))) pe_str) pa_nil)))))))
    (pss_one (ps_expr (pe_bm PySem.F.plainAttrs_list PySem.F.slot_list_append PySem.F.type_list_append mt_append (pv 1) (pa_cons (pe_op op_add_str (pe_op op_add_str (pv 2) pe_str) (pe_bm PySem.F.plainAttrs_str PySem.F.slot_str_join PySem.F.type_str_join mt_join pe_str (pa_cons (pv 4) pa_nil))) pa_nil)))))))
    (pss_one (ps_ret (pe_bm PySem.F.plainAttrs_str PySem.F.slot_str_join PySem.F.type_str_join mt_join pe_str (pa_cons (pv 1) pa_nil)))))), ?_⟩
  refine ⟨(by show 0 ≤ sizeLine; decide), fun l hl => ?_⟩
  have g0 := same_new hl (.lst [])
  refine ⟨_, rfl, lw, rfl, ⟨_, g0.seq hL.1⟩, ?_⟩
  refine for_list (K := K) (xs := ks.map fun t => V.ref t.1) (fun i σ H' => ∃ c2 c3 c4 c5 c6 : Option V, σ = [some (.ref lw), some (.ref l), c2, c3, c4, c5, c6] ∧ Same H H' ∧ H' l = some (.lst (((ks.take i).map shK).map fun x => V.str (S x))))
    ⟨_, _, _, _, _, rfl, g0, upd_same⟩ ?_ ?_ ?_
  · rintro i σ H' _ ⟨_, _, _, _, _, _, g, _⟩
    exact g.seq hL.1
  · rintro i x σ H' hx ⟨c2, c3, c4, c5, c6, rfl, g, hl1⟩
    have hj : i < ks.length := by
      have := (List.getElem?_eq_some_iff.mp hx).1
      rw [List.length_map] at this; exact this
    obtain rfl : x = .ref ks[i].1 := by
      rw [List.getElem?_map, List.getElem?_eq_getElem hj] at hx
      exact (Option.some.inj hx).symm
    obtain ⟨k1, k2⟩ := hL.2 ks[i] (List.getElem_mem hj)
    obtain ⟨hl1', hl2, hl3⟩ := hz1 ks[i] (List.getElem_mem hj)
    refine ⟨_, _, rfl, g.seqT k1, rfl, _, _, rfl, _, _, rfl, rfl, (by show 0 ≤ sizeLine; decide), fun lt hlt => ?_⟩
    have gt := same_new hlt (.lst [])
    have ne : l ≠ lt := fun z => by rw [z, hlt] at hl1; cases hl1
    refine ⟨_, rfl, ks[i].2.2.1, rfl, ⟨_, (g.trans gt).seq k2.1⟩, ?_⟩
    refine for_list (K := K) (xs := ks[i].2.2.2.map fun t => V.ref t.1) (fun m σ H2 => ∃ c5 c6 : Option V, σ = [some (.ref lw), some (.ref l), some (.str ks[i].2.1), some (.ref ks[i].2.2.1), some (.ref lt), c5, c6] ∧ Same H' H2 ∧ H2 lt = some (.lst (((ks[i].2.2.2.take m).map shR).map fun x => V.str (S x))))
      ⟨_, _, rfl, gt, upd_same⟩ ?_ ?_ ?_
    · rintro m σ H2 _ ⟨_, _, _, g2, _⟩
      exact (g.trans g2).seq k2.1
    · rintro m x σ H2 hx ⟨c5, c6, rfl, g2, ht2⟩
      have hm : m < ks[i].2.2.2.length := by
        have := (List.getElem?_eq_some_iff.mp hx).1
        rw [List.length_map] at this; exact this
      obtain rfl : x = .ref ks[i].2.2.2[m].1 := by
        rw [List.getElem?_map, List.getElem?_eq_getElem hm] at hx
        exact (Option.some.inj hx).symm
      obtain ⟨r1, r2⟩ := k2.2 ks[i].2.2.2[m] (List.getElem_mem hm)
      obtain ⟨hr1, hr2⟩ := hl3 ks[i].2.2.2[m] (List.getElem_mem hm)
      have tk : ks[i].2.2.2.take (m + 1) = ks[i].2.2.2.take m ++ [ks[i].2.2.2[m]] := by rw [List.take_add_one, List.getElem?_eq_getElem hm]; rfl
      generalize ks[i].2.2.2[m] = t at *
      have gg := g.trans g2
      refine ⟨_, _, rfl, gg.seqT r1, rfl, _, _, rfl, _, _, rfl, rfl, _, rfl, (by show 0 ≤ sizeLine; decide), fun p hp => ?_⟩
      have g3 := same_new hp (.tup [])
      have lay1 : (PyData.tuple (t.2.2.2.map PyData.str)).canLay0 = true := by simp only [PyData.canLay0]; exact lay_strs _ hr2
      refine ⟨_, .tuple [], .tup ((gg.trans g3).seqT r2) (rd_strs _), .tup (SqT.of upd_same) .nil, lay1, by simp [PyData.canLay0, PyData.canLayAll0], room _ (Nat.le_trans (Nat.min_le_right _ _) (by simp [PyData.depth, PyData.depthAll])), _, rfl, ?_⟩
      show if _ = true then _ else _
      rw [if_neg Bool.false_ne_true, eqv_tnil]
      have ht3 := g3 _ _ ht2
      have hlen : (((ks[i].2.2.2.take m).map shR).map fun x => V.str (S x)).length < sizeLine := by
        rw [List.length_map, List.length_map, List.length_take]
        exact Nat.lt_of_le_of_lt (show _ ≤ 30 by omega) (by decide)
      have ec : t.2.1.length = (codes t.2.1).length := by simp [codes, Str.length]
      have fin : ∀ z, z = S (shR t) → ∃ c5 c6 : Option V, [some (V.ref lw), some (.ref l), some (.str ks[i].2.1), some (.ref ks[i].2.2.1), some (.ref lt), some (.str t.2.1), some (.ref t.2.2.1)] = [some (V.ref lw), some (.ref l), some (.str ks[i].2.1), some (.ref ks[i].2.2.1), some (.ref lt), c5, c6] ∧ Same H' (upd (upd H2 p (.tup [])) lt (.lst ((((ks[i].2.2.2.take m).map shR).map fun x => V.str (S x)) ++ [V.str z]))) ∧ upd (upd H2 p (.tup [])) lt (.lst ((((ks[i].2.2.2.take m).map shR).map fun x => V.str (S x)) ++ [V.str z])) lt = some (.lst (((ks[i].2.2.2.take (m + 1)).map shR).map fun x => V.str (S x))) := by
        rintro z rfl
        refine ⟨_, _, rfl, fun b u e => ?_, ?_⟩
        · rw [upd_ne (ne_of_none e hlt)]; exact g3 _ _ (g2 _ _ e)
        · rw [upd_same, tk, List.map_append, List.map_append]; rfl
      unfold shR at hr1
      rw [List.length_append] at hr1
      rcases he : t.2.2.2 with _ | ⟨b, bs⟩
      · refine iteT ⟨_, rfl, .inl ⟨rfl, _, SqL.of ht3⟩, _, rfl, lt, _, _, rfl, rfl, ht3, hlen, fin _ ?_⟩
        unfold shR
        rw [he]
        show _ = S (codes t.2.1 ++ [])
        rw [List.append_nil, S_self']
      · have eB : shB (t.2.2.2.map codes) = [40] ++ gl [32] (t.2.2.2.map codes) ++ [41] := by rw [he]; rfl
        rw [eB, List.length_append, List.length_append] at hr1
        have o1 : [40].length = 1 := rfl
        have o2 : [41].length = 1 := rfl
        have e1 : Str.ofString "(" = S [40] := by decide +kernel
        have e2 : Str.ofString ")" = S [41] := by decide +kernel
        have e3 : Str.ofString " " = S [32] := by decide +kernel
        have hms : ((t.2.2.2.map codes).map S).map V.str = t.2.2.2.map V.str := by
          rw [List.map_map]; exact cod_strs t.2.2.2
        have hls : (((t.2.2.2.map codes).map S).map fun z : Str => z.length) = (t.2.2.2.map codes).map List.length := by
          rw [List.map_map]
          exact List.map_congr_left fun y _ => S_len y
        refine iteF ⟨_, rfl, .inl ⟨rfl, _, SqL.of ht3⟩, _, rfl, _, _, rfl, rfl, ?_, rfl, _, rfl, S [32], t.2.2.1, (t.2.2.2.map codes).map S, (by rw [← e3]), rfl, (by rw [hms]; exact (gg.trans g3).seqT r2), ?_, _, _, rfl, rfl, ?_, _, _, rfl, rfl, ?_, lt, _, _, rfl, rfl, ht3, hlen, fin _ ?_⟩
        · rw [e1, S_len, ec]; exact line_of (by omega)
        · have := gl_len [32] (t.2.2.2.map codes)
          rw [hls, List.length_map, List.length_map, S_len]
          have c := gl_cn2 (t.2.2.2.map codes)
          rw [List.length_map] at c
          show _ + _ * 1 ≤ _
          omega
        · rw [join_S, e1, ← S_self' t.2.1, S_app, S_len, S_len, List.length_append]; exact line_of (by omega)
        · rw [join_S, e1, e2, ← S_self' t.2.1, S_app, S_app, S_len, S_len, List.length_append, List.length_append]; exact line_of (by omega)
        · rw [join_S, e1, e2]
          conv => lhs; rw [← S_self' t.2.1]
          rw [S_app, S_app, S_app]
          unfold shR
          rw [eB]
          simp only [List.append_assoc]
    rintro σ H2 ⟨c5, c6, rfl, g2, ht2⟩
    rw [List.length_map, List.take_length] at ht2
    have es : Str.ofString " = " = S [32, 61, 32] := by decide +kernel
    have ep : Str.ofString " | " = S [32, 124, 32] := by decide +kernel
    have tk : ks.take (i + 1) = ks.take i ++ [ks[i]] := by rw [List.take_add_one, List.getElem?_eq_getElem hj]; rfl
    generalize ks[i] = k at *
    have ec : k.2.1.length = (codes k.2.1).length := by simp [codes, Str.length]
    have hl2' := g2 _ _ hl1
    unfold shK at hl1'
    rw [List.length_append, List.length_append] at hl1'
    have o3 : [32, 61, 32].length = 3 := rfl
    have hms : ((k.2.2.2.map shR).map S).map V.str = (k.2.2.2.map shR).map fun x => V.str (S x) := by rw [List.map_map]; rfl
    have hls : (((k.2.2.2.map shR).map S).map fun z : Str => z.length) = (k.2.2.2.map shR).map List.length := by
      rw [List.map_map]
      exact List.map_congr_left fun y _ => S_len y
    have hlen : (((ks.take i).map shK).map fun x => V.str (S x)).length < sizeLine := by
      rw [List.length_map, List.length_map, List.length_take]
      exact Nat.lt_of_le_of_lt (show _ ≤ 30 by omega) (by decide)
    refine ⟨_, rfl, .inl ⟨rfl, _, SqL.of hl2'⟩, _, rfl, _, _, rfl, rfl, ?_, rfl, _, rfl, S [32, 124, 32], lt, (k.2.2.2.map shR).map S, (by rw [← ep]), rfl, (by rw [hms]; exact SqL.of ht2), ?_, _, _, rfl, rfl, ?_, l, _, _, rfl, rfl, hl2', hlen, ?_⟩
    · rw [es, S_len, ec]; exact line_of (by omega)
    · have := gl_len [32, 124, 32] (k.2.2.2.map shR)
      unfold shRs at hl1'
      rw [hls, List.length_map, List.length_map, S_len]
      show _ + _ * 3 ≤ _
      omega
    · rw [join_S, es, ← S_self' k.2.1, S_app, S_len, S_len, List.length_append]; exact line_of (by unfold shRs at hl1'; omega)
    have e4 : k.2.1 ++ Str.ofString " = " ++ Txt.join (S [32, 124, 32]) ((k.2.2.2.map shR).map S) = S (shK k) := by
      rw [join_S, es]
      conv => lhs; rw [← S_self' k.2.1]
      rw [S_app, S_app]; rfl
    rw [e4]
    refine ⟨_, _, _, _, _, rfl, fun b u e => ?_, ?_⟩
    · rw [upd_ne (ne_of_none e hl)]; exact g2 _ _ (g _ _ e)
    · rw [upd_same, tk, List.map_append, List.map_append]; rfl
  rintro σ H' ⟨_, _, _, _, _, rfl, g, hl1⟩
  rw [List.length_map, List.take_length] at hl1
  have es : Str.ofString "; " = S [59, 32] := by decide +kernel
  have hms : ((ks.map shK).map S).map V.str = (ks.map shK).map fun x => V.str (S x) := by rw [List.map_map]; rfl
  have hls : (((ks.map shK).map S).map fun z : Str => z.length) = (ks.map shK).map List.length := by
    rw [List.map_map]
    exact List.map_congr_left fun y _ => S_len y
  refine ⟨rfl, _, rfl, S [59, 32], l, (ks.map shK).map S, (by rw [← es]), rfl, (by rw [hms]; exact SqL.of hl1), ?_, ?_⟩
  · have := gl_len [59, 32] (ks.map shK)
    unfold shW at hz
    rw [hls, List.length_map, List.length_map, S_len]
    show _ + _ * 2 ≤ _
    omega
  · rw [join_S]; exact q H' g
end
end K7
namespace L2
open PySem PySem.Spec PyProof.Rows
theorem setOf_at {prog : Program} {w : World} {h h' : Heap} {S : Addr} {F : Str → Bool} {n : Nat} (k : ∀ o, h.get? S = some o → h'.get? S = some o) (q : Heap.SetOf (strKind prog w) h S F n) : Heap.SetOf (strKind prog w) h' S F n := by
  obtain ⟨o, es, ep, t, h1, r⟩ := q
  exact ⟨o, es, ep, t, k o h1, r⟩
theorem setOf_congr {prog : Program} {w : World} {h : Heap} {S : Addr} {F F' : Str → Bool} {n : Nat} (e : F = F') (q : Heap.SetOf (strKind prog w) h S F n) : Heap.SetOf (strKind prog w) h S F' n := e ▸ q
def TxtsAre (items : Array Value) (ns : List Str) : Prop := items.size = ns.length ∧ ∀ (j : Nat) (x : Str), ns[j]? = some x → ∃ t, items[j]? = some (.str x t)
def cntS (ns : List Str) : Nat → Nat
  | 0 => 0
  | i + 1 => match ns[i]? with
    | some x => if x ∈ ns.take i then cntS ns i else cntS ns i + 1
    | none => cntS ns i
theorem cntS_le (ns : List Str) : ∀ i, cntS ns i ≤ i
  | 0 => Nat.le_refl _
  | i + 1 => by
    have := cntS_le ns i
    unfold cntS
    split
    · split <;> omega
    · omega
theorem cntS_all {ns : List Str} (h : ns.Nodup) : ∀ i, i ≤ ns.length → cntS ns i = i
  | 0, _ => rfl
  | i + 1, hi => by
    have ih := cntS_all h i (by omega)
    have e : ns[i]? = some ns[i] := List.getElem?_eq_getElem (by omega)
    have hno : ns[i] ∉ ns.take i := fun z => by
      obtain ⟨j, hj, e⟩ := List.mem_take_iff_getElem.mp z
      have := (List.getElem_inj h).mp e
      omega
    unfold cntS
    rw [e]; simp only []; rw [if_neg hno, ih]
theorem set_loopS {prog : Program} {w : World} {A : Around} {R : Result → Shared → Prop} {I S l : Addr} {items : Array Value} {ns : List Str} (hh : A.handled = none) (hIS : S ≠ I) (hIl : l ≠ I) (hSl : l ≠ S) (hv : TxtsAre items ns) (hb : ns.length + 1 < scanBound) :
    ∀ (k i : Nat) (s : Shared), ns.length - i = k → i ≤ ns.length → s.heap.IsListIter I l i → s.heap.IsList l items → Heap.SetOf (strKind prog w) s.heap S (fun x => decide (x ∈ ns.take i)) (cntS ns i) →
      (∀ (h' : Heap) (tk : Nat), (∀ b o, b ≠ I → b ≠ S → s.heap.get? b = some o → h'.get? b = some o) → Heap.SetOf (strKind prog w) h' S (fun x => decide (x ∈ ns)) (cntS ns ns.length) → R (.ok (.ret .none)) { s with heap := h', toks := tk }) →
      codeAny (model prog w) A (.builtin "set.update.loop" ⟨[.ref S, .ref I], []⟩) R s := by
  intro k
  induction k with
  | zero =>
    intro i s hk hi st hl q kk
    have ei : i = ns.length := by omega
    refine codeAny_builtin F.entry_set_update_loop ?_; rw [Around.under_plainId F.plain_set_update_loop _]
    show wpAny _ A.in1 (pyNext (.ref I) >>= _) _ _ s
    refine wpAny_bind (wpAny_pyNext_list_end (A := A.in1) hh st hl (by have := hv.1; simp; omega) fun h' eb => ?_)
    refine wpAny_pure (kk h' s.toks (fun b o n1 _ e => eb b o n1 e) ?_)
    rw [ei, List.take_length] at q
    exact setOf_at (fun o e => eb S o hIS e) q
  | succ k ih =>
    intro i s hk hi st hl q kk
    have hi' : i < ns.length := by omega
    obtain ⟨t, ht⟩ := hv.2 i ns[i] (List.getElem?_eq_getElem hi')
    refine codeAny_builtin F.entry_set_update_loop ?_; rw [Around.under_plainId F.plain_set_update_loop _]
    show wpAny _ A.in1 (pyNext (.ref I) >>= _) _ _ s
    refine wpAny_bind (wpAny_pyNext_list_item (A := A.in1) st hl ht fun h1 st1 sb => ?_)
    have q1 := setOf_at (h' := h1) (fun o e => (sb.2 S hIS).trans e) q
    have hl1 : h1.IsList l items := by
      obtain ⟨o, e, r⟩ := hl
      exact ⟨o, (sb.2 l hIl).trans e, r⟩
    refine wpAny_bind (wpAny_holding ?_)
    unfold setAdd
    refine wpAny_holding (wpAny_bind ((strKind prog w).pyHash (strKind_is prog w ns[i] t) ?_))
    refine wpAny_setAddHashed_of (knd := strKind prog w) (strKind_is prog w ns[i] t) rfl q1 (by have := cntS_le ns i; omega) fun h2 sb2 q2 => ?_
    have hcn : cntS ns (i + 1) = if (fun x => decide (x ∈ ns.take i)) ns[i] then cntS ns i else cntS ns i + 1 := by
      show (match ns[i]? with | some x => if x ∈ ns.take i then cntS ns i else cntS ns i + 1 | none => cntS ns i) = _
      rw [List.getElem?_eq_getElem hi']; simp
    have q3 : Heap.SetOf (strKind prog w) h2 S (fun x => decide (x ∈ ns.take (i + 1))) (cntS ns (i + 1)) := by
      rw [hcn]; exact setOf_congr (by
      funext x
      rw [List.take_add_one, List.getElem?_eq_getElem hi', Option.toList_some, Bool.eq_iff_iff]
      simp only [Bool.or_eq_true, decide_eq_true_eq, List.mem_append, List.mem_singleton]) q2
    have st2 : h2.IsListIter I l (i + 1) := by
      obtain ⟨o, e, r⟩ := st1
      exact ⟨o, (sb2.2 I hIS.symm).trans e, r⟩
    have hl2 : h2.IsList l items := by
      obtain ⟨o, e, r⟩ := hl1
      exact ⟨o, (sb2.2 l hSl).trans e, r⟩
    refine wpAny_pure ⟨plainId_quiet F.plain_set_update_loop _, ?_⟩
    exact ih (i + 1) _ (by omega) (by omega) st2 hl2 q3 fun h' tk kp q' => kk h' tk (fun b o n1 n2 e => kp b o n1 n2 ((sb2.2 b n2).trans ((sb.2 b n1).trans e))) q'
section
variable {X : Cx} {pins : List (Addr × Obj)} {σ : St}
theorem fits0 (led : Bool) : (SetTable.fresh 0 0 led).fits 0 = true := by cases led <;> decide
theorem set_new {prog : Program} {w : World} {h : Heap} {S : Addr} {led : Bool} (e : h.get? S = some { cls := .type "set", data := .set #[] 0 (SetTable.fresh 0 0 led) }) : Heap.SetOf (strKind prog w) h S (fun x => decide (x ∈ ([] : List Str))) 0 := by
  refine ⟨_, #[], 0, _, e, ?_, rfl, ?_, ?_, by decide, fits0 led, rfl⟩
  · first | exact ⟨rfl, rfl⟩ | exact ⟨rfl, rfl, rfl⟩ | rfl | decide
  · first | exact .nil | exact ⟨fun _ h => nomatch h, .nil⟩ | simp [ElemsOf] | (unfold ElemsOf; simp)
  · intro k
    simp
end
end L2
namespace L2
open PySem PySem.Spec PyProof.Rows
section
variable {prog : Program} {w : World} {A : Around} {E : Value → Shared → Prop} {s : Shared}
abbrev bareSet (led : Bool) : Obj := { cls := .type "set", dict := none, data := .set #[] 0 (.fresh 0 0 led) }
theorem init_setS {led : Bool} {l : Addr} {its : Array Value} {ns : List Str} {R : Result → Shared → Prop} (hh : A.handled = none) (hl : s.heap.IsList l its) (hv : TxtsAre its ns) (hb : ns.length + 1 < scanBound) (hp : Heap)
    (ep : hp = s.heap.push (bareSet led))
    (k : ∀ (h2 : Heap) (tk : Nat), Heap.SetOf (strKind prog w) h2 s.heap.objs.size (fun x => decide (x ∈ ns)) (cntS ns ns.length) → (∀ b ob, b < s.heap.objs.size → s.heap.get? b = some ob → h2.get? b = some ob) → R (.ok (.ret .none)) { s with heap := h2, toks := tk }) :
    codeAny (model prog w) A (.call (.builtin "set.__init__") ⟨[.ref s.heap.objs.size, .ref l], []⟩) R { s with heap := hp } := by
  subst ep
  have gS : (s.heap.push (bareSet led)).get? s.heap.objs.size = some (bareSet led) := Heap.get?_push_size _ rfl
  have tS : Shared.TypeIs { s with heap := s.heap.push (bareSet led) } (.ref s.heap.objs.size) "set" := ⟨_, gS, rfl⟩
  refine codeAny_call_builtin F.called_set.init.plain F.entry_set_init (check_set_init_1 tS ?_)
  obtain ⟨ol, gl, cl, nl, dl⟩ := hl
  obtain ⟨oc, od, oda, osl⟩ := ol
  simp only at cl dl
  subst cl; subst dl
  have gl1 : (s.heap.push (bareSet led)).get? l = some { cls := .type "list", dict := od, data := .seq its nl, slots := osl } := Heap.get?_push_of_some _ gl
  have n1 := F.sub_list_set
  have n2 := F.sub_list_frozenset
  have n3 : (Value.type "list" == Value.type "dict") = false := by decide
  have il : (s.heap.push (bareSet led)).IsList l its := ⟨_, gl1, rfl, nl, rfl⟩
  unfold Builtin.«set.__init__» noKeywords Builtin.Frozenset.updateFrom
  generalize hPI : pyIter = PI
  wp_walk
  subst hPI
  refine wpAny_pyIter_list il ?_
  refine wpAny_bind (wpAny_runValue ?_)
  have ll : l < s.heap.objs.size := Heap.lt_size gl
  have e1 : (s.heap.push (bareSet led)).objs.size = s.heap.objs.size + 1 := Heap.size_push ..
  refine set_loopS (by simp [hh]) (by rw [e1]; exact Nat.ne_of_lt (Nat.lt_succ_self _)) (by rw [e1]; exact Nat.ne_of_lt (Nat.lt_succ_of_lt ll)) (Nat.ne_of_lt ll) hv hb (ns.length - 0) 0 _ (by omega) (Nat.zero_le _) ⟨_, Heap.get?_push_size _ rfl, rfl, rfl⟩ (il.push _) (set_new (led := led) (Heap.get?_push_of_some _ gS)) fun h2 tk kp q => ?_
  show wpAny _ _ _ _ _ _
  refine wpAny_pure ?_
  show wpAny _ _ (ret Value.none) _ _ _
  refine wpAny_pure (k h2 tk q fun b ob lb e => kp b ob (by rw [e1]; exact Nat.ne_of_lt (Nat.lt_succ_of_lt lb)) (Nat.ne_of_lt lb) (Heap.get?_push_of_some _ (Heap.get?_push_of_some _ e)))
theorem call_setS {l : Addr} {its : Array Value} {ns : List Str} {Q : Value → Shared → Prop} (hh : A.handled = none) (hl : s.heap.IsList l its) (hv : TxtsAre its ns) (hb : ns.length + 1 < scanBound)
    (k : ∀ (h2 : Heap) (tk : Nat), Heap.SetOf (strKind prog w) h2 s.heap.objs.size (fun x => decide (x ∈ ns)) (cntS ns ns.length) → (∀ b ob, b < s.heap.objs.size → s.heap.get? b = some ob → h2.get? b = some ob) → Q (.ref s.heap.objs.size) { s with heap := h2, toks := tk }) :
    wpAny (model prog w) A (call (.type "set") [.ref l]) Q E s := by
  obtain ⟨c, tl, hmro⟩ := F.called_set.mro
  have f1 := F.called_set.made
  have f2 := F.called_set.sub
  have f3 := F.called_set.notType
  have f4 := F.called_set.canCreate
  have f5 := F.typeCall_set_1 (.ref l)
  refine wpAny_call (codeAny_of_tree ?_)
  show wpAny _ _ (callAny (.type "set") _) _ _ _
  refine wpAny_pure ⟨Code.quiet_builtin _ (by decide +kernel), codeAny_builtin F.entry_type_call ?_⟩
  rw [Around.under_plain (weight_type_call_type "set" [.ref l] []) rfl]
  repeat (any_goals (first | assumption | wp_step))
  refine codeAny_mono (code_set_new_1 (.ref l) (E := E) (Q₁ := fun ob s1 => ∃ led : Bool, ob = .ref s.heap.objs.size ∧ s1 = { s with heap := s.heap.push (bareSet led) }) fun led => ⟨led, rfl, rfl⟩) fun r s1 hr => ?_
  cases r with
  | error e => exact hr
  | ok fl =>
    cases fl with
    | ret ob =>
      obtain ⟨led, rfl, rfl⟩ := hr
      have gS : (s.heap.push (bareSet led)).get? s.heap.objs.size = some (bareSet led) := Heap.get?_push_size _ rfl
      have tS : Shared.TypeIs { s with heap := s.heap.push (bareSet led) } (.ref s.heap.objs.size) "set" := ⟨_, gS, rfl⟩
      have f6 := F.called_set.init.lookup
      have f7 := F.called_set.init.bind (.ref s.heap.objs.size)
      repeat (any_goals (first | assumption | wp_step))
      refine codeAny_mono (init_setS (R := wants (fun r s2 => r = .none ∧ ∃ h2 tk, s2 = { s with heap := h2, toks := tk } ∧ Heap.SetOf (strKind prog w) h2 s.heap.objs.size (fun x => decide (x ∈ ns)) (cntS ns ns.length) ∧ ∀ b ob, b < s.heap.objs.size → s.heap.get? b = some ob → h2.get? b = some ob) E) (by simp [hh]) hl hv hb _ rfl fun h2 tk q kp => ⟨rfl, h2, tk, rfl, q, kp⟩) fun r2 s2 hr2 => ?_
      cases r2 with
      | error e => exact hr2
      | ok fl2 =>
        cases fl2 with
        | ret r =>
          obtain ⟨rfl, h2, tk, rfl, q, kp⟩ := hr2
          repeat (any_goals (first | assumption | wp_step))
          exact k _ _ q kp
        | _ => exact hr2.elim
    | _ => exact hr.elim
end
def TxO (P : Program) (w : World) (S : Addr) (F : Str → Bool) (n : Nat) : HO := .ext fun h => Heap.SetOf (strKind P w) h S F n
theorem txts_of_vals {its : List Value} {ns : List Str} (r : Vals (ns.map V.str) its) : TxtsAre its.toArray ns := by
  refine ⟨by have := r.length; simp at this ⊢; omega, fun j x h => ?_⟩
  have h2 : (ns.map V.str)[j]? = some (.str x) := by rw [List.getElem?_map, h]; rfl
  obtain ⟨u, hu, ⟨t, rfl⟩⟩ := Vals.get r h2
  exact ⟨t, by simpa using hu⟩
section
variable {X : Cx}
theorem call_setTx (hc : X.calm = true) : CallR X (.type "set") (fun xs H Q => ∃ (l : Addr) (ns : List Str), xs = [.ref l] ∧ SqL X.K H l (ns.map V.str) ∧ ns.length ≤ 1000 ∧ ∀ S, H S = none → Q (.ref S) (upd H S (TxO X.prog X.w S (fun x => decide (x ∈ ns)) (cntS ns ns.length)))) := by
  intro pins s σ H xs us Q I rr h
  obtain ⟨l, ns, rfl, hl, hn, q⟩ := h
  obtain ⟨u, rfl, rx⟩ := vals1 rr
  cases rx
  obtain ⟨its, r, pl, hz⟩ := I.list hl
  refine call_setS (ns := ns) (I.ok.hd hc) pl.isList (txts_of_vals r) (by unfold scanBound; omega) fun h2 tk hs kp => ?_
  exact ⟨.ref s.heap.objs.size, _, I.laid (t' := tk) (fun b o e => kp b o (Heap.lt_size e) e) (Nat.le_refl _) (show ObjOk X.prog X.w _ h2 _ (TxO X.prog X.w _ _ _) from ⟨hs, (by obtain ⟨o, _, _, _, e, _⟩ := hs; exact ⟨o, e⟩), fun h1 h3 a k => setOf_at k a⟩), rfl, q _ (I.hok.fresh (Nat.le_refl _))⟩
theorem call_lenTx : CallR X (.builtin "len") (fun xs H Q => ∃ (S : Addr) (F : Str → Bool) (n : Nat), xs = [.ref S] ∧ H S = some (TxO X.prog X.w S F n) ∧ n ≤ 1000 ∧ Q (.int n) H) := by
  intro pins s σ H xs us Q I rr h
  obtain ⟨S, F, n, rfl, hS, hn, q⟩ := h
  obtain ⟨u, rfl, rx⟩ := vals1 rr
  cases rx
  obtain ⟨⟨o, es, ep, t, g, ex, d, a, b, c, f, z⟩, _⟩ := (show ObjOk X.prog X.w H s.heap S (TxO X.prog X.w S F n) from I.hok S _ hS)
  exact call_len_set g ex d f (by rw [z]; omega) ⟨.int n, H, (I.tok _).tok _, ⟨s.toks + 1, by rw [z]⟩, q⟩
end
end L2
namespace K7
open PySem L2 K3 TM K9
structure GoodW (W : List KindD) : Prop where
  len : W.length ≤ 6
  pos : 0 < W.length
  sum : (W.map fun k => k.2.length).sum ≤ 16
  few : ∀ k ∈ W, ∀ r ∈ k.2, r.2.length ≤ 4
  nd : (W.map fun k => k.1).Nodup
  rnd : ∀ k ∈ W, (k.2.map fun r => r.1).Nodup
  ins : ∀ k ∈ W, ∀ r ∈ k.2, ∀ x ∈ r.2, x ∈ W.map fun k => k.1
  leaf : ∀ k ∈ W, ∃ r ∈ k.2, r.2 = []
  nmK : ∀ k ∈ W, Nm k.1
  nmR : ∀ k ∈ W, ∀ r ∈ k.2, Nm r.1
def SrtR (rs out : List RowD) : Prop := out.Perm rs ∧ out.Pairwise fun x y => ¬ y.1 < x.1
def SrtK (k out : KindD) : Prop := k.1 = out.1 ∧ SrtR k.2 out.2
inductive SrtW : List KindD → List KindD → Prop where
  | nil : SrtW [] []
  | cons {k o : KindD} {W O : List KindD} : SrtK k o → SrtW W O → SrtW (k :: W) (o :: O)
theorem SrtW.app {W O : List KindD} {k o : KindD} (h : SrtW W O) (hk : SrtK k o) : SrtW (W ++ [k]) (O ++ [o]) := by
  induction h with
  | nil => exact .cons hk .nil
  | cons a r ih => exact .cons a ih
structure NewW (K : PySem.W.Frag) (H H' : Hp) (lw : Addr) (hs : List KdT) : Prop where
  n0 : H lw = none
  at0 : H' lw = some (.lst (hs.map fun k => V.ref k.1))
  kd : ∀ k ∈ hs, SqT K H' k.1 [.str k.2.1, .ref k.2.2.1] ∧ H' k.2.2.1 = some (.lst (k.2.2.2.map fun t => V.ref t.1)) ∧ H k.2.2.1 = none ∧ k.2.2.1 ≠ lw ∧ ∀ t ∈ k.2.2.2, RowAt K H' t
theorem NewW.wood {K : PySem.W.Frag} {H H' : Hp} {lw : Addr} {hs : List KdT} (h : NewW K H H' lw hs) : WoodAt K H' lw hs := ⟨SqL.of h.at0, fun k hk => ⟨(h.kd k hk).1, SqL.of (h.kd k hk).2.1, (h.kd k hk).2.2.2.2⟩⟩
def SXT (Ts : List Addr) (H H' : Hp) : Prop := ∀ b u, b ∉ Ts → H b = some u → H' b = some u
theorem SXT.trans {Ts : List Addr} {H H1 H2 : Hp} (a : SXT Ts H H1) (b : SXT Ts H1 H2) : SXT Ts H H2 := fun c u n e => b c u n (a c u n e)
theorem SXT.of {Ts : List Addr} {H H' : Hp} (g : Same H H') : SXT Ts H H' := fun b u _ e => g b u e
def spReadW (K : PySem.W.Frag) (T1 T2 T3 : Addr) : Sp := fun vs H Q _ => ∃ (z : List Nat) (ws : List (List Nat)) (W : List KindD), vs = [.str (S z)] ∧ z.length ≤ 5000 ∧ Writ z ws ∧ PtL TkK [59] W ws ∧ GoodW W ∧ Z3 T1 T2 T3 H ∧
  ∀ (lw : Addr) (H' : Hp) (hs : List KdT), SXT [T1, T2, T3] H H' → NewW K H H' lw hs → SrtW W (hs.map datK') → Z3 T1 T2 T3 H' → Q (.ref lw) H'
theorem room_fit {k : Nat} {A : Around} (hr : Room k A) : A.units + 4 < cLine := by have := hr.units; omega
theorem let_low : ∀ c ∈ letL, c < 128 := by decide
theorem ok_low {u : List Nat} (h : ∀ c ∈ u, c < 128) : PyData.strOk (S u) = true := by
  unfold PyData.strOk
  rw [Array.all_eq_true_iff_forall_mem]
  intro c hc
  have : c ∈ u := by simpa [S] using hc
  have := h c this
  simp; omega
theorem codes_inj {a b : Str} (h : codes a = codes b) : a = b := by
  have := congrArg S h
  rwa [S_self, S_self] at this
theorem str_codes {x : Str} (h : Nm (codes x)) : PyData.strOk x = true := by
  rw [← S_self x]; exact ok_low fun c hc => let_low c (h.all c hc)
section
variable {hs : List KdT} (hG : GoodW (hs.map datK'))
include hG
theorem GoodW.sumT : (hs.map fun k => k.2.2.2.length).sum ≤ 16 := by
  have := hG.sum
  rw [List.map_map] at this
  have e : (fun k : KindD => k.2.length) ∘ datK' = fun k : KdT => k.2.2.2.length := funext fun k => by simp [datK']
  rwa [e] at this
theorem GoodW.row {k : KdT} (hk : k ∈ hs) {t : PNx} (ht : t ∈ k.2.2.2) : datK' k ∈ hs.map datK' ∧ datR' t ∈ (datK' k).2 := ⟨List.mem_map_of_mem hk, List.mem_map_of_mem ht⟩
theorem GoodW.fewT : ∀ k ∈ hs, ∀ t ∈ k.2.2.2, t.2.2.2.length ≤ 4 := fun k hk t ht => by
  have := hG.few _ (GoodW.row hG hk ht).1 _ (GoodW.row hG hk ht).2
  simpa [datR'] using this
theorem GoodW.ndT : (hs.map fun k => k.2.1).Nodup := by
  have := hG.nd
  rw [List.map_map] at this
  exact List.pairwise_map.mpr ((List.pairwise_map.mp this).imp fun h e => h (by simp [datK', e]))
theorem GoodW.namesT : ((hs.map datK').map fun k => k.1) = (hs.map fun k => k.2.1).map codes := by
  rw [List.map_map, List.map_map]; rfl
theorem GoodW.goodT : ∀ k ∈ hs, RowsGood (hs.map fun k => k.2.1) k.2.2.2 := fun k hk => by
  have hk' : datK' k ∈ hs.map datK' := List.mem_map_of_mem hk
  refine ⟨?_, ?_, fun t ht x hx => ?_, ?_⟩
  · have := hG.rnd _ hk'
    rw [show (datK' k).2 = k.2.2.2.map datR' from rfl, List.map_map] at this
    exact List.pairwise_map.mpr ((List.pairwise_map.mp this).imp fun h e => h (by simp [datR', e]))
  · have h1 := GoodW.sumT hG
    have h2 : k.2.2.2.length ≤ (hs.map fun k => k.2.2.2.length).sum := by
      have : ∀ (l : List Nat) (a : Nat), a ∈ l → a ≤ l.sum := fun l a h => by
        induction l with
        | nil => cases h
        | cons b r ih =>
          rw [List.sum_cons]
          rcases List.mem_cons.mp h with rfl | h
          · omega
          · have := ih h; omega
      exact this _ _ (List.mem_map_of_mem (f := fun k : KdT => k.2.2.2.length) hk)
    omega
  · have := hG.ins _ hk' _ (GoodW.row hG hk ht).2 (codes x) (List.mem_map_of_mem hx)
    rw [GoodW.namesT hG] at this
    obtain ⟨y, hy, e⟩ := List.mem_map.mp this
    rw [← codes_inj e]; exact hy
  · obtain ⟨r, hr, e⟩ := hG.leaf _ hk'
    obtain ⟨t, ht, rfl⟩ := List.mem_map.mp hr
    exact ⟨t, ht, List.map_eq_nil_iff.mp e⟩
theorem GoodW.strT : ∀ k ∈ hs, ∀ t ∈ k.2.2.2, ∀ x ∈ t.2.2.2, PyData.strOk x = true := fun k hk t ht x hx => by
  have h := (GoodW.goodT hG k hk).ins t ht x hx
  obtain ⟨k2, hk2, rfl⟩ := List.mem_map.mp h
  exact str_codes (hG.nmK _ (List.mem_map_of_mem hk2))
end
abbrev rSrtN (K : PySem.W.Frag) : List V → Hp → VK → Prop := fun xs H Q => ∃ (l : Addr) (ts : List PNx), xs = [.ref l] ∧ SqL K H l (ts.map fun t => V.ref t.1) ∧ (∀ t ∈ ts, SqT K H t.1 [.str t.2.1, .ref t.2.2.1] ∧ SqT K H t.2.2.1 (t.2.2.2.map V.str) ∧ ∀ x ∈ t.2.2.2, PyData.strOk x = true) ∧ (ts.map fun t => t.2.1).Nodup ∧ ts.length < 64 ∧
    ∀ (out : List PNx) p, out.Perm ts → (out.Pairwise fun x y => ¬ y.2.1.cps.toList < x.2.1.cps.toList) → H p = none → Q (.ref p) (upd H p (.lst (out.map fun t => V.ref t.1)))
theorem srt_loop {K : PySem.W.Frag} {H7 : Hp} {b lw : Addr} {hs : List KdT} {Q : Hp → Prop} (hW7 : WoodAt K H7 b hs) (hG : GoodW (hs.map datK')) (hlw : H7 lw = none) (q : ∀ (os : List KdT) (H8 : Hp), Same H7 H8 → NewW K H7 H8 lw os → SrtW (hs.map datK') (os.map datK') → Q H8) :
    CGoal (Itl K b) 2 [] (gTup K 2 (gCons (gName 0) (gCons (gName 1) gNil))) (fun _ H Q => Q true H) (tTup (tCons (tVar 0) (tCons (tCB (rSrtN K) (tCons (tVar 1) tNil)) tNil))) H7 lw Q := by
  have hl6 : hs.length ≤ 6 := by have := hG.len; simpa using this
  refine c2_list (K := K) (xs := hs.map fun k => V.ref k.1) (cs := []) (tt := fun _ H Q => Q true H) (fun j ys H' => ∃ os : List KdT, os.length = j ∧ ys = os.map (fun k => V.ref k.1) ∧ Same H7 H' ∧ NewW K H7 H' lw os ∧ SrtW ((hs.take j).map datK') (os.map datK'))
    ⟨[], rfl, rfl, same_new hlw _, ⟨hlw, upd_same, fun k hk => nomatch hk⟩, .nil⟩ ?_ ?_ ?_
  · rintro j ys H' _ ⟨_, _, _, g, _⟩
    exact g.seq hW7.1
  · rintro j x ys H' hj hx ⟨os, ho, rfl, g, hN, hS⟩
    rw [List.length_map] at hj
    obtain rfl : x = .ref hs[j].1 := by
      rw [List.getElem?_map, List.getElem?_eq_getElem hj] at hx
      exact (Option.some.inj hx).symm
    have hm := List.getElem_mem hj
    obtain ⟨k1, k2⟩ := hW7.2 hs[j] hm
    have gd := hG.goodT hs[j] hm
    refine ⟨_, _, _, rfl, g.seqT k1, iteT ⟨_, rfl, _, rfl, hs[j].2.2.1, hs[j].2.2.2, rfl, g.seq k2.1, fun t ht => ⟨g.seqT (k2.2 t ht).1, g.seqT (k2.2 t ht).2, hG.strT hs[j] hm t ht⟩, gd.nd, (by have := gd.len; omega), fun out p hp hsd hp0 => ⟨(by show 2 ≤ sizeLine; decide), fun tp htp => ?_⟩⟩⟩
    have s1 := same_new hp0 (.lst (out.map fun t => V.ref t.1))
    have s2 := same_new htp (.tup [.str hs[j].2.1, .ref p])
    have s12 := s1.trans s2
    have hp2 := s2 _ _ (upd_same (H := H') (a := p) (o := .lst (out.map fun t => V.ref t.1)))
    have np : p ≠ lw := fun z => by rw [z, hN.at0] at hp0; cases hp0
    generalize hX : upd (upd H' p (.lst (out.map fun t => V.ref t.1))) tp (.tup [.str hs[j].2.1, .ref p]) = H8 at s2 s12 hp2
    have htp8 : H8 tp = some (.tup [.str hs[j].2.1, .ref p]) := by rw [← hX]; exact upd_same
    refine comp_next (by rw [List.length_map]; exact hj) (s12 _ _ hN.at0) (by rw [List.length_map]; omega) ⟨os ++ [(tp, hs[j].2.1, p, out)], by simp [ho], by simp, fun c u e => ?_, ⟨hlw, by rw [upd_same]; simp, fun k hk => ?_⟩, ?_⟩
    · rw [upd_ne (ne_of_none e hlw)]; exact s12 _ _ (g _ _ e)
    · rcases List.mem_append.mp hk with hk | hk
      · obtain ⟨a1, a2, a3, a4, a5⟩ := hN.kd k hk
        have up : ∀ a xs, SqT K H' a xs → SqT K (upd H8 lw (.lst (os.map (fun k => V.ref k.1) ++ [.ref tp]))) a xs := fun a xs h => (s12.seqT h).put (s12 _ _ hN.at0)
        exact ⟨up _ _ a1, by rw [upd_ne a4]; exact s12 _ _ a2, a3, a4, fun t ht => ⟨up _ _ (a5 t ht).1, up _ _ (a5 t ht).2⟩⟩
      · obtain rfl := List.mem_singleton.mp hk
        have up : ∀ a xs, SqT K H' a xs → SqT K (upd H8 lw (.lst (os.map (fun k => V.ref k.1) ++ [.ref tp]))) a xs := fun a xs h => (s12.seqT h).put (s12 _ _ hN.at0)
        refine ⟨(SqT.of htp8).put (s12 _ _ hN.at0), by rw [upd_ne np]; exact hp2, ?_, np, fun t ht => ?_⟩
        · cases e : H7 p with
          | none => rfl
          | some u => rw [g _ _ e] at hp0; cases hp0
        · have ht' := hp.mem_iff.mp ht
          exact ⟨up _ _ (g.seqT (k2.2 t ht').1), up _ _ (g.seqT (k2.2 t ht').2)⟩
    · rw [List.take_add_one, List.getElem?_eq_getElem hj, Option.toList_some, List.map_append, List.map_append]
      exact hS.app ⟨rfl, hp.map _, List.pairwise_map.mpr hsd⟩
  · rintro ys H8 ⟨os, ho, rfl, g8, hN, hS⟩
    rw [List.length_map, List.take_length] at hS
    exact q os H8 g8 hN hS
section
variable {P : Program} {w : World} {K : PySem.W.Frag} {mg : Str → Option Value} {base : Heap} {f : Addr} {fd : FuncData} {C T1 T2 T3 c : Addr}
theorem scTw : FnScope ["names"] ["names"] (defScope sTwice) := ⟨rfl, rfl, rfl, by decide +kernel, rfl, by decide +kernel, by decide +kernel⟩
theorem ok_tw (F : Fun K "has_one_twice" "has_one_twice" sTwice f fd) (G : Gm mg) (G2 : Gm2 mg) : FnOk P w K mg base CX0 1 f fd ["names"] (spTw K) := by
  refine F.ok scTw (fun vs H Q E h => ?_) (fun cdv A outer s H vs Q E hr h => ?_)
  · obtain ⟨l, ns, rfl, _⟩ := h
    rfl
  obtain ⟨l, ns, rfl, hl, hnd, h30, q⟩ := h
  refine ⟨_, (pss_one (ps_ret (pe_cmpR op_lt (pe_callB call_lenTx rfl G.len PySem.boot_len (pa_cons (pe_callTy (call_setTx rfl) rfl G2.set PyProof.Rows.boot_set (pa_cons (pv 0) pa_nil)) pa_nil)) (pe_callB call_len_seq rfl G.len PySem.boot_len (pa_cons (pv 0) pa_nil)) (nomark _)))), ?_⟩
  refine ⟨_, rfl, l, ns, rfl, hl, by omega, fun S hS => ?_⟩
  have s1 := same_new hS (TxO P w S (fun x => decide (x ∈ ns)) (cntS ns ns.length))
  refine ⟨S, _, _, rfl, upd_same, (by have := cntS_le ns ns.length; omega), _, rfl, l, _, rfl, .inl (s1.seq hl), _, _, rfl, rfl, ?_⟩
  have e : decide (((cntS ns ns.length : Nat) : Int) < ((ns.map V.str).length : Nat)) = false := decide_eq_false (by rw [cntS_all hnd _ (Nat.le_refl _), List.length_map]; omega)
  show Q (.bl (decide (((cntS ns ns.length : Nat) : Int) < ((ns.map V.str).length : Nat)))) _
  rw [e]
  exact q _ s1
theorem scReadW : FnScope ["text", "reader", "found"] ["text"] (defScope sRead) := ⟨rfl, rfl, rfl, by decide +kernel, rfl, by decide +kernel, by decide +kernel⟩
theorem fr_read : ∀ y ∈ (lamScope eRead).names, y.2 ≠ NameKind.cell ∧ y.2 ≠ NameKind.local := by decide +kernel
theorem on_read : ∀ y ∈ (lamScope eRead).names, y.2 = NameKind.free → y.1 = Str.ofString "reader" := by decide +kernel
theorem ok_readW {fI fP : Addr} {fdI fdP : FuncData} (ne : Ne3 T1 T2 T3) (F : Fun K "read_wood" "read_wood" sRead f fd) (hn : PySem.W.nsIn K mainGlobals "read_wood" = some (some (.ref f))) (hTb : PySem.W.tabIn K "read_wood" = some (c, T1)) (hC : PySem.W.codeHdIn K c T1 = true) (hB : BtAt mg base) (G : Gm mg) (G2 : Gm2 mg) (TT : RdT K mg C)
    (mkI : Mk K C fI) (FI : FnOk P w K mg base CX0 6 fI fdI ["self", "text"] (spInit C)) (bI : Binds K fdI ["self", "text"] [])
    (ME : Mt P w K mg base C 2 "need_end" ["self"] (spEnd C)) (mP : Meth K C "parted_by" fP) (bP : Binds K fdP ["self", "sign", "take_one"] [])
    (FP : ∀ g : Heap, FnOk P w K mg g CX0 (8 + 3) fP fdP ["self", "sign", "take_one"] (spPart P w K mg C [T1, T2, T3] (Z3 T1 T2 T3) (RvK K) TkK FoK (fun _ => True) (8 + 2) g))
    (R : ∀ g : Heap, BtAt mg g → Fn P w K mg g 9 "kind_from" ["reader"] (spFrom C [T1, T2, T3] (Z3 T1 T2 T3) (RvK K) TkK FoK))
    (RN : Fn P w K mg base 1 "check_numbers" ["wood"] (spChkN K)) (RK : Fn P w K mg base 3 "check_kinds" ["wood"] (spChkK K)) : FnOk P w K mg base CX0 12 f fd ["text"] (spReadW K T1 T2 T3) := by
  refine Fun.okC F hn hTb scReadW (fun vs H Q E h => ?_) (fun A outer s H vs Q E hr h => ?_)
  · obtain ⟨z, ws, W, rfl, _⟩ := h
    rfl
  obtain ⟨z, ws, W, rfl, hz, hw, hp, hG, hZ, q⟩ := h
  have hr7 : Room 7 _ := hr.mono (by decide)
  have hfit := room_fit hr
  refine ⟨_, (pss_cons (ps_set (i := 1) scReadW.nd rfl (Or.inr rfl) (pe_make mkI FI hr7 rfl TT.mgC bI .nil pass0 (pa_cons (pv 0) pa_nil)))
    (pss_cons (ps_set (i := 2) scReadW.nd rfl (Or.inl rfl) (pe_methB (pv 1) TT.cl mP (fun g _ => FP g) hr bP .nil (fun _ => rfl) (pa_cons (pe_str) (pa_cons (pe_lamC (c := c) (T := T1) rfl hC hB) pa_nil))))
    (pss_cons (ps_expr (pe_mt0 ME TT.cl hr (pv 1)))
    (pss_cons (ps_expr (pe_fn RN hr (pa_cons (pv 2) pa_nil)))
    (pss_cons (ps_expr (pe_fn RK hr (pa_cons (pv 2) pa_nil)))
    (pss_one (ps_ret (pe_lcompG (CompG.many (xs := ["kind", "rows"]) (caps := []) (cap := []) (cs := []) rfl rfl (by decide +kernel) (by decide +kernel) (by decide +kernel) (by decide +kernel) (by decide +kernel) (by decide +kernel) rfl rfl rfl) rfl (pi_list (pv 2)) (pg_c2 (CompG.many (xs := ["kind", "rows"]) (caps := []) (cap := []) (cs := []) rfl rfl (by decide +kernel) (by decide +kernel) (by decide +kernel) (by decide +kernel) (by decide +kernel) (by decide +kernel) rfl rfl rfl) rfl) (fun _ _ _ _ => pf_nil) (fun _ _ _ _ => (pe_tup (pa_cons (pv 0) (pa_cons (pe_callB (r := rSrtN K) (call_sortedN hfit) rfl G2.srt PyProof.Rows.boot_sorted (pa_cons (pv 1) pa_nil)) pa_nil)))))))))))), ?_⟩
  have hW : ∀ u ∈ ws, u.length ≤ 61 := fun u hu => (hw.words u hu).len
  have zo := z3_ok T1 T2 T3
  have e59 : S [59] = Str.ofString ";" := by decide +kernel
  refine ⟨_, rfl, fun r dx hr0 hdx0 hne => ?_⟩
  have s1 : Same H (upd (upd H dx (.own r)) r (.ins C dx [])) := fun b u e => by rw [upd_ne (ne_of_none e hr0), upd_ne (ne_of_none e hdx0)]; exact e
  have hx1 : upd (upd H dx (.own r)) r (.ins C dx []) r = some (.ins C dx []) := upd_same
  generalize upd (upd H dx (.own r)) r (.ins C dx []) = H1 at s1 hx1
  refine ⟨r, dx, z, ws, rfl, hx1, hz, hw, fun l H2 g2 hR2 => ⟨rfl, ?_⟩⟩
  have hZ2 := zo.ins _ _ r C dx _ hx1 g2 (zo.sm _ _ s1 hZ)
  have x2 : SXT [T1, T2, T3] H H2 := fun b u n e => g2 _ _ (ne_of_none e hr0) (s1 _ _ e)
  obtain ⟨dx2, hx2⟩ := hR2.ins
  refine ⟨_, rfl, r, dx2, _, rfl, hx2, rfl, hZ2.z1, fun L H4 x4 hL0 hL4 tb4 g hs hc => ?_⟩
  obtain ⟨ps, hps⟩ := hZ2.z1.at
  have nr : r ≠ T1 := fun z => by rw [z, hps] at hx2; cases hx2
  have nl : l ≠ T1 := fun z => by have h := hR2.fl; rw [z, hps] at h; cases h
  have hR4 : RdAt C H4 r l ws 0 := ⟨⟨dx2, x4 _ _ nr hx2⟩, x4 _ _ nl hR2.fl⟩
  have hZ4 := hZ2.by1 ne x4 tb4
  have x24 : SXT [T1, T2, T3] H H4 := x2.trans fun b u n e => x4 _ _ (fun z => n (z ▸ List.mem_cons_self)) e
  obtain ⟨c1, u1, e1, i1, v1⟩ := hc 1 "reader" (.ref r) rfl rfl rfl
  refine ⟨r, l, L, ws, 0, [59], W, ws, [], eRead, _, (by rw [e59]; rfl), hR4, by omega, by simp, hp, fun q => ⟨fun z => (by cases z), fun z => (by cases z)⟩, ⟨fun z => (by cases z), fun z => (by cases z)⟩, (fun z => by cases z), by decide, fun _ _ => trivial, by have := hG.len; omega, hL4, ?_, hZ4, fun b vs H5 x5 hR5 hb0 hb5 rl5 hZ5 => ?_⟩
  · obtain rfl : s.heap.objs.size + 1 = c1 := Option.some.inj e1
    refine lam_runC (k := 9) (N := ["reader"]) (vs := [.ref r]) rfl rfl rfl fr_read (fun y hy => ?_) (ClAt.one i1 v1) (fun _ _ _ _ => rfl) (fun qual' f' c' A' outer' s' H' Q' E' hr' h' => ?_)
    · have z := on_read _ (PySem.mem_of_lookup hy) rfl
      have z' : y = Str.ofString "reader" := z
      rw [z']
      obtain ⟨c0, u0, e0, _⟩ := (ClAt.one (x1 := Str.ofString "reader") i1 v1).val 0 (Str.ofString "reader") (.ref r) rfl rfl
      exact ⟨c0, e0⟩
    · obtain ⟨m', y, a', rest', _, hR', hm', hd', ht', hf', _, hZ', q'⟩ := h'
      refine ⟨_, pe_fn (R g (hB.sub hs)) hr' (pa_cons (pv 0) pa_nil) (Nat.le_refl _), ?_⟩
      exact ⟨_, rfl, r, l, ws, m', y, a', rest', rfl, hR', hW, hm', hd', ht', hf', hZ', q'⟩
  obtain ⟨hs, rfl, hk5, rfl⟩ := rl_kinds rl5
  obtain ⟨dx5, hx5⟩ := hR5.ins
  have hW5 : WoodAt K H5 b hs := ⟨SqL.of hb5, fun k hk => ⟨(hk5 k hk).1, SqL.of (hk5 k hk).2.1, (hk5 k hk).2.2.2⟩⟩
  have x5' : SXT [T1, T2, T3] H H5 := fun b u n e => by
    have nr : b ≠ r := ne_of_none e hr0
    exact x5 _ _ n nr (x24 _ _ n e)
  refine ⟨_, rfl, r, dx5, _, rfl, hx5, rfl, r, l, ws, _, rfl, hR5, by simp, ?_⟩
  refine ⟨_, rfl, b, hs, rfl, hW5, by simpa using hG.len, hG.sumT, hG.fewT, fun H6 g6 => ?_⟩
  refine ⟨_, rfl, b, hs, rfl, hW5.same g6, hG.ndT, (by have := hG.len; simp at this; omega), hG.goodT, fun H7 g7 => ?_⟩
  have hW7 := (hW5.same g6).same g7
  have x7 : SXT [T1, T2, T3] H H7 := x5'.trans (SXT.of (g6.trans g7))
  have hZ7 := zo.sm _ _ (g6.trans g7) hZ5
  have fr7 : ∀ a, H7 a = none → H a = none := fun a ha => by
    cases e : H a with
    | none => rfl
    | some u =>
      by_cases hm : a ∈ [T1, T2, T3]
      · obtain ⟨ps, h⟩ := zo.tb H7 hZ7 a hm
        rw [ha] at h; cases h
      · rw [x7 _ _ hm e] at ha; cases ha
  refine ⟨_, rfl, b, rfl, ⟨_, hW7.1⟩, fun lw hlw => ?_⟩
  refine srt_loop hW7 hG hlw fun os H8 g8 hN hS => ?_
  exact q lw H8 os (x7.trans (SXT.of g8)) ⟨fr7 _ hN.n0, hN.at0, fun k hk => by
      obtain ⟨a1, a2, a3, a4, a5⟩ := hN.kd k hk
      exact ⟨a1, a2, fr7 _ a3, a4, a5⟩⟩ hS (zo.sm _ _ g8 hZ7)
end
end K7
namespace L2
open PySem PySem.Spec PyProof.Rows
def rInsertG : V → List V → Hp → VK → Prop := fun x vs H Q => ∃ (l : Addr) (xs : List V) (y : V) (k : Nat), x = .ref l ∧ vs = [.int (k : Int), y] ∧ k < 1000 ∧ H l = some (.lst xs) ∧ xs.length < sizeLine ∧ Q .non (upd H l (.lst (xs.take k ++ y :: xs.drop k)))
section
variable {X : Cx}
theorem mt_insertG : MtM X "list.insert" rInsertG := by
  intro pins s σ H x vs v us Q I rx rv h
  obtain ⟨l, xs, y, k, e1, e2, hk, hH, hz, q⟩ := h
  subst e1; subst e2
  cases (show v = Value.ref l from rx)
  obtain ⟨u0, u, e3, r0, ru⟩ := rv.two
  subst e3
  obtain ⟨t, e4⟩ := (show ∃ t, u0 = Value.int (k : Int) t from r0)
  subst e4
  obtain ⟨x, hx⟩ : ∃ x : Int, x = (k : Int) := ⟨_, rfl⟩
  rw [← hx]
  obtain ⟨z, its, n, r, hl, e⟩ := I.lstM hH
  have hfit : ¬ (!Builtin.List.listFitsIndex x) = true := by
    simp [Builtin.List.listFitsIndex]
    omega
  refine call_meets F.slot_list_insert ⟨_, e, rfl⟩ F.entry_list_insert (F.args_list_insert_3 _ _ _) (AutoSeq1.list_insert_list_int_val_1 l its.toArray n x t u hfit (by rw [List.size_toArray, ← hl]; exact Nat.le_of_lt hz)) ⟨e, ?_⟩
  refine ⟨.non, _, I.lset (its' := its.take k ++ u :: its.drop k) hH e ?_ (Vals.append (Vals.take k r) (.cons ru (Vals.drop k r))) ?_, rfl, q⟩
  · apply Array.toList_inj.mp
    subst hx
    have e1 : ¬ ((k : Int) < 0) := by omega
    simp only [e1, if_false, Int.toNat_natCast, List.size_toArray]
    by_cases hlt : k ≤ its.length
    · rw [Nat.min_eq_left hlt]
      simp
      exact List.take_of_length_le (by rw [List.length_drop]; omega)
    · rw [Nat.min_eq_right (by omega)]
      simp [List.take_of_length_le (show its.length ≤ k by omega), List.drop_of_length_le (show its.length ≤ k by omega)]
  · rw [List.length_append, List.length_cons, List.length_take, List.length_drop]; omega
end
end L2
namespace K7
open PySem L2 K3 TM K9
structure GK (kn nn : List (List Nat)) (k : KindD) : Prop where
  nd : (k.2.map fun r => r.1).Nodup
  nm : ∀ r ∈ k.2, r.1 ∈ nn
  few : ∀ r ∈ k.2, r.2.length ≤ 4
  ins : ∀ r ∈ k.2, ∀ x ∈ r.2, x ∈ kn
  leaf : ∃ r ∈ k.2, r.2 = []
structure DrW (kn nn : List (List Nat)) (m : Nat) (D : List KindD) : Prop where
  ks : D.map (fun k => k.1) = kn
  sum : (D.map fun k => k.2.length).sum = m
  gd : ∀ k ∈ D, GK kn nn k
def putR (k : KindD) (j : Nat) (r : RowD) : KindD := (k.1, k.2.take j ++ r :: k.2.drop j)
theorem mem_put {k : KindD} {j : Nat} {r x : RowD} : x ∈ (putR k j r).2 ↔ x = r ∨ x ∈ k.2 := by
  show x ∈ k.2.take j ++ r :: k.2.drop j ↔ _
  rw [List.mem_append, List.mem_cons]
  have e : x ∈ k.2 ↔ x ∈ k.2.take j ∨ x ∈ k.2.drop j := by
    conv => lhs; rw [← List.take_append_drop j k.2]
    exact List.mem_append
  rw [e]
  constructor
  · rintro (h | h | h)
    · exact .inr (.inl h)
    · exact .inl h
    · exact .inr (.inr h)
  · rintro (h | h | h)
    · exact .inr (.inl h)
    · exact .inl h
    · exact .inr (.inr h)
theorem GK.put {kn nn : List (List Nat)} {k : KindD} {j : Nat} {r : RowD} (h : GK kn nn k) (h1 : r.1 ∈ nn) (h2 : r.1 ∉ k.2.map fun r => r.1) (h3 : r.2.length ≤ 4) (h4 : ∀ x ∈ r.2, x ∈ kn) : GK kn nn (putR k j r) := by
  refine ⟨?_, fun x hx => ?_, fun x hx => ?_, fun x hx => ?_, ?_⟩
  · have p : (putR k j r).2.Perm (r :: k.2) := by
      show (k.2.take j ++ r :: k.2.drop j).Perm _
      refine List.perm_middle.trans (List.Perm.cons _ ?_)
      rw [List.take_append_drop]
    have p2 := p.map (fun r : RowD => r.1)
    rw [p2.nodup_iff, List.map_cons, List.nodup_cons]
    exact ⟨h2, h.nd⟩
  · rcases mem_put.mp hx with rfl | hx
    · exact h1
    · exact h.nm x hx
  · rcases mem_put.mp hx with rfl | hx
    · exact h3
    · exact h.few x hx
  · rcases mem_put.mp hx with rfl | hx
    · exact h4
    · exact h.ins x hx
  · obtain ⟨x, hx, e⟩ := h.leaf
    exact ⟨x, mem_put.mpr (.inr hx), e⟩
theorem sum_set : ∀ (l : List Nat) (i : Nat) (h : i < l.length) (v : Nat), (l.set i v).sum + l[i] = l.sum + v
  | a :: r, 0, _, v => by simp; omega
  | a :: r, i + 1, h, v => by
    have := sum_set r i (by simpa using h) v
    simp; omega
theorem DrW.low {kn nn : List (List Nat)} {m : Nat} {D : List KindD} (h : DrW kn nn m D) {k : KindD} (hk : k ∈ D) : k.2.length ≤ m := by
  rw [← h.sum]
  have : ∀ (l : List Nat) (a : Nat), a ∈ l → a ≤ l.sum := fun l a h => by
    induction l with
    | nil => cases h
    | cons b r ih =>
      rw [List.sum_cons]
      rcases List.mem_cons.mp h with rfl | h
      · omega
      · have := ih h; omega
  exact this _ _ (List.mem_map_of_mem (f := fun k : KindD => k.2.length) hk)
theorem DrW.free {kn nn : List (List Nat)} {m : Nat} {D : List KindD} (h : DrW kn nn m D) {k : KindD} (hk : k ∈ D) (hnn : nn.Nodup) (hm : m < nn.length) : 0 < (nn.filter fun n => decide (n ∉ k.2.map fun r => r.1)).length := by
  apply Classical.byContradiction
  intro z
  have z2 : nn.filter (fun n => decide (n ∉ k.2.map fun r => r.1)) = [] := List.length_eq_zero_iff.mp (by omega)
  rw [List.filter_eq_nil_iff] at z2
  have sub : nn ⊆ k.2.map fun r => r.1 := fun x hx => by
    have := z2 x hx
    simpa using this
  have h1 := List.Nodup.length_le_of_subset hnn sub
  have h2 := h.low hk
  rw [List.length_map] at h1
  omega
theorem DrW.good {kn nn : List (List Nat)} {m : Nat} {D : List KindD} (h : DrW kn nn m D) (hm : m ≤ 16) (hk : kn.length ≤ 6) (hp : 0 < kn.length) (hn : kn.Nodup) (hkn : ∀ x ∈ kn, Nm x) (hnn : ∀ x ∈ nn, Nm x) : GoodW D := by
  have hl : D.length = kn.length := by have := congrArg List.length h.ks; simpa using this
  refine ⟨by omega, by omega, by rw [h.sum]; exact hm, fun k hk r hr => (h.gd k hk).few r hr, by rw [h.ks]; exact hn, fun k hk => (h.gd k hk).nd, fun k hk r hr x hx => by rw [h.ks]; exact (h.gd k hk).ins r hr x hx, fun k hk => (h.gd k hk).leaf, fun k hk => hkn _ ?_, fun k hk r hr => hnn _ ((h.gd k hk).nm r hr)⟩
  rw [← h.ks]; exact List.mem_map_of_mem hk
end K7
namespace K7
open PySem L2 K3 TM K9
def spWood (K : PySem.W.Frag) : Sp := fun vs H Q _ => ∃ (a : Addr) (ns : List Int), vs = [.ref a] ∧ SqL K H a (ns.map V.int) ∧ ns.length ≤ 63 ∧ ∀ (lw : Addr) (H' : Hp) (ks : List KdT), Same H H' → WoodAt K H' lw ks → GoodW (ks.map datK') → Q (.ref lw) H'
theorem at_modI {α : Type} {xs : List α} {g : α → V} {k : Int} (hk : k = (xs.length : Int)) (h : 0 < xs.length) (n : Int) : ∃ (j : Nat) (hj : j < xs.length), atI (xs.map g) (n % k) = some (g xs[j]) := by
  subst hk
  have x0 : 0 ≤ n % (xs.length : Int) := Int.emod_nonneg _ (by omega)
  have x1 : n % (xs.length : Int) < (xs.length : Int) := Int.emod_lt_of_pos _ (by omega)
  obtain ⟨y, hy⟩ : ∃ y : Nat, n % (xs.length : Int) = (y : Int) := ⟨_, (Int.toNat_of_nonneg x0).symm⟩
  have hyl : y < xs.length := by omega
  exact ⟨y, hyl, by rw [hy]; exact atI_nat (by rw [List.getElem?_map, List.getElem?_eq_getElem hyl]; rfl)⟩
theorem in_strsC {x : List Nat} {xs : List (List Nat)} : inV (.str (S x)) (xs.map fun y => V.str (S y)) = decide (x ∈ xs) := by
  rw [Bool.eq_iff_iff, decide_eq_true_iff]
  unfold inV
  rw [List.any_eq_true]
  constructor
  · rintro ⟨v, hv, e⟩
    obtain ⟨y, hy, rfl⟩ := List.mem_map.mp hv
    have : S y = S x ∨ S x = S y := by
      first
      | (simp [eqV] at e; exact .inl e)
      | (simp [eqV] at e; exact .inr e)
    rcases this with z | z
    · rw [← S_inj z]; exact hy
    · rw [S_inj z]; exact hy
  · intro h
    exact ⟨.str (S x), List.mem_map.mpr ⟨x, h, rfl⟩, by simp [eqV]⟩
structure WdL (K : PySem.W.Frag) (H H' : Hp) (lw : Addr) (kn nn : List (List Nat)) (m : Nat) (ks : List KdT) : Prop where
  nw : NewW K H H' lw ks
  nd : (ks.map fun k => k.2.2.1).Nodup
  gk : ∀ k ∈ ks.map datK', GK kn nn k
  sum : ((ks.map datK').map fun k => k.2.length).sum = m
theorem NewW.keep {K : PySem.W.Frag} {H H1 H2 : Hp} {lw : Addr} {ks : List KdT} (h : NewW K H H1 lw ks) (g : Same H1 H2) : NewW K H H2 lw ks := ⟨h.n0, g _ _ h.at0, fun k hk => by
  obtain ⟨a1, a2, a3, a4, a5⟩ := h.kd k hk
  exact ⟨g.seqT a1, g _ _ a2, a3, a4, fun t ht => (a5 t ht).same g⟩⟩
theorem NewW.add {K : PySem.W.Frag} {H H1 H2 : Hp} {lw tp lr : Addr} {kd : Str} {rs : List PNx} {ks : List KdT} (h : NewW K H H1 lw ks) (g : Same H1 H2) (h1 : H2 tp = some (.tup [.str kd, .ref lr])) (h2 : H2 lr = some (.lst (rs.map fun t => V.ref t.1))) (h3 : H1 lr = none) (h4 : H lr = none) (h5 : ∀ t ∈ rs, RowAt K H2 t) : NewW K H (upd H2 lw (.lst (ks.map (fun k => V.ref k.1) ++ [.ref tp]))) lw (ks ++ [(tp, kd, lr, rs)]) := by
  have hl := g _ _ h.at0
  have np : lr ≠ lw := fun z => by rw [z, h.at0] at h3; cases h3
  refine ⟨h.n0, by rw [upd_same]; simp, fun k hk => ?_⟩
  rcases List.mem_append.mp hk with hk | hk
  · obtain ⟨a1, a2, a3, a4, a5⟩ := (h.keep g).kd k hk
    exact ⟨a1.put hl, by rw [upd_ne a4]; exact a2, a3, a4, fun t ht => ⟨(a5 t ht).1.put hl, (a5 t ht).2.put hl⟩⟩
  · obtain rfl := List.mem_singleton.mp hk
    exact ⟨(SqT.of h1).put hl, by rw [upd_ne np]; exact h2, h4, np, fun t ht => ⟨(h5 t ht).1.put hl, (h5 t ht).2.put hl⟩⟩
theorem ne_own {ks : List KdT} (nd : (ks.map fun k => k.2.2.1).Nodup) {i j : Nat} (hi : i < ks.length) (hj : j < ks.length) (h : j ≠ i) : ks[j].2.2.1 ≠ ks[i].2.2.1 := fun z => h (by
  have h1 : (ks.map fun k => k.2.2.1)[j]'(by simpa using hj) = (ks.map fun k => k.2.2.1)[i]'(by simpa using hi) := by rw [List.getElem_map, List.getElem_map]; exact z
  exact (List.getElem_inj nd).mp h1)
theorem WdL.put {K : PySem.W.Frag} {H H' : Hp} {lw : Addr} {kn nn : List (List Nat)} {m : Nat} {ks : List KdT} (h : WdL K H H' lw kn nn m ks) {i j : Nat} (hi : i < ks.length) {t : PNx} (ht : RowAt K H' t) (h1 : codes t.2.1 ∈ nn) (h2 : codes t.2.1 ∉ (datK' ks[i]).2.map fun r => r.1) (h3 : t.2.2.2.length ≤ 4) (h4 : ∀ x ∈ t.2.2.2, codes x ∈ kn) :
    WdL K H (upd H' ks[i].2.2.1 (.lst ((ks[i].2.2.2.map fun t => V.ref t.1).take j ++ .ref t.1 :: (ks[i].2.2.2.map fun t => V.ref t.1).drop j))) lw kn nn (m + 1) (ks.set i (ks[i].1, ks[i].2.1, ks[i].2.2.1, ks[i].2.2.2.take j ++ t :: ks[i].2.2.2.drop j)) := by
  obtain ⟨b1, b2, b3, b4, b5⟩ := h.nw.kd ks[i] (List.getElem_mem hi)
  have hdk : datK' (ks[i].1, ks[i].2.1, ks[i].2.2.1, ks[i].2.2.2.take j ++ t :: ks[i].2.2.2.drop j) = putR (datK' ks[i]) j (datR' t) := by
    simp [datK', putR, List.map_take, List.map_drop]
  have hms : (ks.set i (ks[i].1, ks[i].2.1, ks[i].2.2.1, ks[i].2.2.2.take j ++ t :: ks[i].2.2.2.drop j)).map datK' = (ks.map datK').set i (putR (datK' ks[i]) j (datR' t)) := by rw [List.map_set, hdk]
  refine ⟨⟨h.nw.n0, ?_, fun k hk => ?_⟩, ?_, ?_, ?_⟩
  · rw [upd_ne b4.symm, h.nw.at0]
    congr 2
    rw [List.map_set]
    have : V.ref ks[i].1 = (ks.map fun k => V.ref k.1)[i]'(by simpa using hi) := by rw [List.getElem_map]
    rw [this, List.set_getElem_self]
  · rcases List.mem_iff_getElem.mp hk with ⟨n, hn, rfl⟩
    rw [List.length_set] at hn
    by_cases e : n = i
    · subst e
      rw [List.getElem_set_self]
      refine ⟨b1.put b2, by rw [upd_same]; simp [List.map_take, List.map_drop], b3, b4, fun u hu => ?_⟩
      have hu' : u = t ∨ u ∈ ks[n].2.2.2 := by
        rcases List.mem_append.mp hu with hu | hu
        · exact .inr (List.mem_of_mem_take hu)
        · rcases List.mem_cons.mp hu with hu | hu
          · exact .inl hu
          · exact .inr (List.mem_of_mem_drop hu)
      rcases hu' with rfl | hu'
      · exact ⟨ht.1.put b2, ht.2.put b2⟩
      · exact ⟨(b5 u hu').1.put b2, (b5 u hu').2.put b2⟩
    · rw [List.getElem_set_ne (fun z => e z.symm)]
      obtain ⟨a1, a2, a3, a4, a5⟩ := h.nw.kd ks[n] (List.getElem_mem hn)
      exact ⟨a1.put b2, by rw [upd_ne (ne_own h.nd hi hn e)]; exact a2, a3, a4, fun u hu => ⟨(a5 u hu).1.put b2, (a5 u hu).2.put b2⟩⟩
  · rw [List.map_set]
    have : ks[i].2.2.1 = (ks.map fun k => k.2.2.1)[i]'(by simpa using hi) := by rw [List.getElem_map]
    show ((ks.map fun k => k.2.2.1).set i ks[i].2.2.1).Nodup
    rw [this, List.set_getElem_self]; exact h.nd
  · intro k hk
    rw [hms] at hk
    rcases List.mem_or_eq_of_mem_set hk with hk | rfl
    · exact h.gk k hk
    · exact (h.gk _ (List.mem_map_of_mem (List.getElem_mem hi))).put h1 h2 (by simpa [datR'] using h3) (fun x hx => by obtain ⟨y, hy, rfl⟩ := List.mem_map.mp hx; exact h4 y hy)
  · rw [hms]
    have hl : (putR (datK' ks[i]) j (datR' t)).2.length = (datK' ks[i]).2.length + 1 := by
      show ((datK' ks[i]).2.take j ++ datR' t :: (datK' ks[i]).2.drop j).length = _
      rw [List.length_append, List.length_cons, List.length_take, List.length_drop]; omega
    have := sum_set ((ks.map datK').map fun k => k.2.length) i (by simpa using hi) (putR (datK' ks[i]) j (datR' t)).2.length
    rw [List.map_set]
    show (((ks.map datK').map fun k => k.2.length).set i (putR (datK' ks[i]) j (datR' t)).2.length).sum = m + 1
    rw [List.getElem_map, List.getElem_map, h.sum] at this
    omega
end K7
namespace K7
open PySem L2 K3 TM K9
section
variable {P : Program} {w : World} {K : PySem.W.Frag} {mg : Str → Option Value} {base : Heap} {f : Addr} {fd : FuncData}
theorem pi_listK {X : Cx} {tg l : Expr} {tl : TE} (K : PySem.W.Frag) (hl : PE X l tl) (hK : X.K = K := by rfl) : PI X tg l (iList K tl) := hK ▸ pi_list hl
theorem scWood : FnScope ["_law_script", "_law_lots", "_law_kinds_here", "_law_names_here", "_law_start", "_law_k", "_law_wood_here", "_law_number", "_law_own", "_law_free", "_law_branches"] ["_law_script"] (defScope sWood) := ⟨rfl, rfl, rfl, by decide +kernel, rfl, by decide +kernel, by decide +kernel⟩
theorem ok_wood (F : Fun K "_law_wood" "_law_wood" sWood f fd) (G : Gm mg) (G2 : Gm2 mg) (RC : Fn P w K mg base 1 "_law_cell_at" ["_law_script", "_law_k"] (spCell K)) (RN : Fn P w K mg base 1 "_law_names" ["_law_cell", "_law_where", "_law_lots"] (spNames K)) : FnOk P w K mg base CX0 2 f fd ["_law_script"] (spWood K) := by
  refine F.ok scWood (fun vs H Q E h => ?_) (fun cdv A outer s H vs Q E hr h => ?_)
  · obtain ⟨a, ns, rfl, _⟩ := h
    rfl
  obtain ⟨a, ns, rfl, hs, h63, q⟩ := h
  refine ⟨_, (pss_cons (ps_set (i := 1) scWood.nd rfl (Or.inr rfl) (pe_op op_add pe_int (pe_op op_mod (pe_fn RC hr (pa_cons (pv 0) (pa_cons (pe_int) pa_nil))) pe_int)))
    (pss_cons (ps_set (i := 2) scWood.nd rfl (Or.inr rfl) (pe_slice sl_list (pe_fn RN hr (pa_cons (pe_fn RC hr (pa_cons (pv 0) (pa_cons (pe_int) pa_nil))) (pa_cons (pe_fn RC hr (pa_cons (pv 0) (pa_cons (pe_int) pa_nil))) (pa_cons (pe_int) pa_nil)))) po_none (po_some (pv 1))))
    (pss_cons (ps_set (i := 3) scWood.nd rfl (Or.inr rfl) (pe_fn RN hr (pa_cons (pe_fn RC hr (pa_cons (pv 0) (pa_cons (pe_int) pa_nil))) (pa_cons (pe_fn RC hr (pa_cons (pv 0) (pa_cons (pe_int) pa_nil))) (pa_cons (pe_int) pa_nil)))))
    (pss_cons (ps_set (i := 4) scWood.nd rfl (Or.inr rfl) (pe_op op_mod (pe_fn RC hr (pa_cons (pv 0) (pa_cons (pe_int) pa_nil))) (pe_op op_pow pe_int pe_int)))
    (pss_cons (ps_setG (i := 6) (CompG.many (xs := ["_law_k"]) (caps := ["_law_kinds_here", "_law_names_here", "_law_start"]) (cap := [2, 3, 4]) (cs := [_, _, _]) rfl rfl (by decide +kernel) (by decide +kernel) (by decide +kernel) (by decide +kernel) (by decide +kernel) (by decide +kernel) rfl rfl rfl) rfl (pi_range1 rfl G.rng (pa_cons (pv 1) pa_nil)) (pg_c1 (CompG.many (xs := ["_law_k"]) (caps := ["_law_kinds_here", "_law_names_here", "_law_start"]) (cap := [2, 3, 4]) (cs := [_, _, _]) rfl rfl (by decide +kernel) (by decide +kernel) (by decide +kernel) (by decide +kernel) (by decide +kernel) (by decide +kernel) rfl rfl rfl)) (fun _ _ _ _ => pf_nil) (fun _ _ _ _ => (pe_tup (pa_cons (pe_ix (r := rIxL K) ix_list (pv 1) (pv 0) (fun _ _ => rfl)) (pa_cons ((pe_lst (pa_cons ((pe_tup (pa_cons (pe_ix (r := rIxL K) ix_list (pv 2) (pe_op op_mod (pe_op op_fdiv (pv 3) (pe_op op_add (pv 0) pe_int)) pe_int) (fun _ _ => rfl)) (pa_cons (pe_tup pa_nil) pa_nil)))) pa_nil))) pa_nil)))) scWood.nd rfl rfl)
    (pss_cons (ps_for PassesOwn.never rfl (pi_range2 rfl G.rng (pa_cons (pe_int) (pa_cons (pe_callB (call_min2 rfl) rfl G2.mn PyProof.Rows.boot_min (pa_cons (pe_callB call_len_seq rfl G.len PySem.boot_len (pa_cons (pv 0) pa_nil)) (pa_cons (pe_op op_sub pe_int (pv 1)) pa_nil))) pa_nil))) (pg_name (i := 5) scWood.nd rfl (Or.inl rfl)) (pss_cons (ps_set (i := 7) scWood.nd rfl (Or.inr rfl) (pe_op op_mod (pe_ix ix_list (pv 0) (pv 5) (fun _ _ => rfl)) (pe_op op_pow pe_int pe_int)))
    (pss_cons (ps_set (i := 8) scWood.nd rfl (Or.inr rfl) (pe_ix ix_tup (pe_ix ix_list (pv 6) (pe_op op_mod (pv 7) (pv 1)) (fun _ _ => rfl)) pe_int (fun _ _ => rfl)))
    (pss_cons (ps_setG (i := 9) (CompG.many (xs := ["_law_name"]) (caps := ["_law_own"]) (cap := [8]) (cs := [_]) rfl rfl (by decide +kernel) (by decide +kernel) (by decide +kernel) (by decide +kernel) (by decide +kernel) (by decide +kernel) rfl rfl rfl) rfl (pi_list (pv 3)) (pg_c1 (CompG.many (xs := ["_law_name"]) (caps := ["_law_own"]) (cap := [8]) (cs := [_]) rfl rfl (by decide +kernel) (by decide +kernel) (by decide +kernel) (by decide +kernel) (by decide +kernel) (by decide +kernel) rfl rfl rfl)) (fun _ _ _ _ => pf_one (pt_cmpR (r := rIn K true) op_notIn_seq (pv 0) (pe_lcompG (CompG.many (xs := ["_law_row"]) (caps := []) (cap := []) (cs := []) rfl rfl (by decide +kernel) (by decide +kernel) (by decide +kernel) (by decide +kernel) (by decide +kernel) (by decide +kernel) rfl rfl rfl) rfl (pi_listK K (pv 1)) (pg_c1 (CompG.many (xs := ["_law_row"]) (caps := []) (cap := []) (cs := []) rfl rfl (by decide +kernel) (by decide +kernel) (by decide +kernel) (by decide +kernel) (by decide +kernel) (by decide +kernel) rfl rfl rfl)) (fun _ _ _ _ => pf_nil) (fun _ _ _ _ => pe_ix (r := rIxT K) ix_tup (pv 0) pe_int (fun _ _ => rfl))) rfl)) (fun _ _ _ _ => pv 0) scWood.nd rfl rfl)
    (pss_cons (ps_set (i := 10) scWood.nd rfl (Or.inl rfl) (pe_callTy call_tuple_of rfl G.tup PyProof.Rows.boot_tuple (pa_cons (pe_lcompG (CompG.many (xs := ["_law_j"]) (caps := ["_law_kinds_here", "_law_lots", "_law_number"]) (cap := [2, 1, 7]) (cs := [_, _, _]) rfl rfl (by decide +kernel) (by decide +kernel) (by decide +kernel) (by decide +kernel) (by decide +kernel) (by decide +kernel) rfl rfl rfl) rfl (pi_range1 rfl G.rng (pa_cons (pe_op op_mod (pe_op op_fdiv (pv 7) pe_int) pe_int) pa_nil)) (pg_c1 (CompG.many (xs := ["_law_j"]) (caps := ["_law_kinds_here", "_law_lots", "_law_number"]) (cap := [2, 1, 7]) (cs := [_, _, _]) rfl rfl (by decide +kernel) (by decide +kernel) (by decide +kernel) (by decide +kernel) (by decide +kernel) (by decide +kernel) rfl rfl rfl)) (fun _ _ _ _ => pf_nil) (fun _ _ _ _ => pe_ix (r := rIxL K) ix_list (pv 1) (pe_op op_mod (pe_op op_fdiv (pv 3) (pe_op op_add pe_int (pe_op op_mul pe_int (pv 0)))) (pv 2)) (fun _ _ => rfl))) pa_nil)))
    (pss_one (ps_expr (pe_bm PySem.F.plainAttrs_list PySem.F.slot_list_insert PySem.F.type_list_insert mt_insertG (pv 8) (pa_cons (pe_op op_mod (pe_op op_fdiv (pv 7) pe_int) (pe_op op_add (pe_callB call_len_seq rfl G.len PySem.boot_len (pa_cons (pv 8) pa_nil)) pe_int)) (pa_cons ((pe_tup (pa_cons (pe_ix ix_list (pv 9) (pe_op op_mod (pe_op op_fdiv (pv 7) pe_int) (pe_callB call_len_seq rfl G.len PySem.boot_len (pa_cons (pv 9) pa_nil))) (fun _ _ => rfl)) (pa_cons (pv 10) pa_nil)))) pa_nil))))))))))
    (pss_one (ps_ret (pv 6))))))))), ?_⟩
  refine ⟨_, rfl, a, ns, 0, rfl, hs, fun c0 => ⟨_, _, rfl, rfl, (by show (0 : Int) < 6; decide), _, _, rfl, rfl, ?_⟩⟩
  dsimp only
  obtain ⟨L, hL, hL1, hL6⟩ : ∃ L : Nat, 1 + c0 % 6 = (L : Int) ∧ 1 ≤ L ∧ L ≤ 6 := by
    have x0 : 0 ≤ c0 % 6 := Int.emod_nonneg _ (by decide)
    have x1 : c0 % 6 < 6 := Int.emod_lt_of_pos _ (by decide)
    exact ⟨(1 + c0 % 6).toNat, by omega, by omega, by omega⟩
  rw [hL]
  refine ⟨_, rfl, a, ns, 1, rfl, hs, fun c1 => ⟨_, rfl, a, ns, 2, rfl, hs, fun c2 => ⟨c1, c2, 6, rfl, by decide, fun l1 H1 k6 g1 hl1 hl10 hk6 ndk nmk => ?_⟩⟩⟩
  refine ⟨_, rfl, _, rfl, l1, _, rfl, SqL.of hl1, fun lk hlk => ?_⟩
  rw [L2.cutTo, ← List.map_take]
  have s2 := same_new hlk (.lst ((k6.take L).map fun x => V.str (S x)))
  have hk2 : upd H1 lk (.lst ((k6.take L).map fun x => V.str (S x))) lk = some (.lst ((k6.take L).map fun x => V.str (S x))) := upd_same
  generalize upd H1 lk (.lst ((k6.take L).map fun x => V.str (S x))) = H2 at s2 hk2
  have hkl : (k6.take L).length = L := by rw [List.length_take]; omega
  have hknd : (k6.take L).Nodup := ndk.sublist (List.take_sublist _ _)
  have hknm : ∀ x ∈ k6.take L, Nm x := fun x hx => nmk x (List.mem_of_mem_take hx)
  generalize k6.take L = kn at hk2 hkl hknd hknm
  have g2 := g1.trans s2
  refine ⟨_, rfl, a, ns, 3, rfl, g2.seq hs, fun c3 => ⟨_, rfl, a, ns, 4, rfl, g2.seq hs, fun c4 => ⟨c3, c4, 16, rfl, by decide, fun ln H3 nn g3 hln hln0 hnl hnnd hnnm => ?_⟩⟩⟩
  have hk3 := g3 _ _ hk2
  have g23 := g2.trans g3
  refine ⟨_, rfl, a, ns, 5, rfl, g23.seq hs, fun c5 => ⟨_, _, rfl, rfl, ⟨by decide, by decide, by decide⟩, _, _, rfl, rfl, (by show (0 : Int) < 10 ^ 9; decide), ?_⟩⟩
  dsimp only
  generalize c5 % 10 ^ Int.toNat 9 = st
  refine ⟨_, rfl, _, rfl, (by omega), (by omega), fun lw hlw => ?_⟩
  refine c1_range (lo := 0) (n := L) (cs := [some (.ref lk), some (.ref ln), some (.int st)]) (tt := fun _ H Q => Q true H) (fun i ys H' => ∃ ks : List KdT, ys = ks.map (fun k => V.ref k.1) ∧ ks.length = i ∧ Same H3 H' ∧ WdL K H3 H' lw kn nn i ks ∧ (ks.map datK').map (fun k => k.1) = kn.take i)
    ⟨[], rfl, rfl, same_new hlw _, ⟨⟨hlw, upd_same, fun k hk => (nomatch hk)⟩, List.nodup_nil, fun k hk => (nomatch hk), rfl⟩, rfl⟩ ?_ ?_
  · rintro i ys H' hi ⟨ks, rfl, hkl', g, hW, hkn⟩
    have e0 : (0 : Int) + (i : Int) = (i : Int) := by omega
    rw [e0]
    have hik : i < kn.length := by omega
    have hat : atI (kn.map fun x => V.str (S x)) (i : Int) = some (.str (S kn[i])) := atI_nat (by rw [List.getElem?_map, List.getElem?_eq_getElem hik]; rfl)
    obtain ⟨j, hj, hat2⟩ := at_modI (xs := nn) (g := fun x => V.str (S x)) (k := 16) (by omega) (by omega) (st / ((i : Int) + 1))
    refine iteT ⟨_, rfl, _, rfl, lk, _, _, _, rfl, rfl, g.seq (SqL.of hk3), hat, _, rfl, _, rfl, _, rfl, _, _, rfl, rfl, _, _, rfl, rfl, ⟨(by show (0 : Int) < (i : Int) + 1; omega), (by show (i : Int) + 1 < 1073741824; omega)⟩, _, _, rfl, rfl, (by show (0 : Int) < 16; decide), ln, _, _, _, rfl, rfl, g.seq (SqL.of hln), hat2, (by show 0 ≤ sizeLine; decide), fun t0 ht0 => ⟨(by show 2 ≤ sizeLine; decide), fun t1 ht1 => ⟨(by show 1 ≤ sizeLine; decide), fun lr hlr => ⟨(by show 2 ≤ sizeLine; decide), fun t2 ht2 => ?_⟩⟩⟩⟩
    have a0 := same_new ht0 (.tup [])
    have b0 : upd H' t0 (.tup []) t0 = some (.tup []) := upd_same
    generalize upd H' t0 (.tup []) = X0 at a0 b0 ht1 hlr ht2 ⊢
    have a1 := same_new ht1 (.tup [.str (S nn[j]), .ref t0])
    have b1 : upd X0 t1 (.tup [.str (S nn[j]), .ref t0]) t1 = some (.tup [.str (S nn[j]), .ref t0]) := upd_same
    generalize upd X0 t1 (.tup [.str (S nn[j]), .ref t0]) = X1 at a1 b1 hlr ht2 ⊢
    have a2 := same_new hlr (.lst [.ref t1])
    have b2 : upd X1 lr (.lst [.ref t1]) lr = some (.lst [.ref t1]) := upd_same
    generalize upd X1 lr (.lst [.ref t1]) = X2 at a2 b2 ht2 ⊢
    have a3 := same_new ht2 (.tup [.str (S kn[i]), .ref lr])
    have b3 : upd X2 t2 (.tup [.str (S kn[i]), .ref lr]) t2 = some (.tup [.str (S kn[i]), .ref lr]) := upd_same
    generalize upd X2 t2 (.tup [.str (S kn[i]), .ref lr]) = X3 at a3 b3 ⊢
    have a01 := (a0.trans a1)
    have hf1 : ∀ b, X1 b = none → H' b = none := fun b e => by
      cases q : H' b with
      | none => rfl
      | some u => rw [a01 _ _ q] at e; cases e
    have hf2 : ∀ b, H' b = none → H3 b = none := fun b e => by
      cases q : H3 b with
      | none => rfl
      | some u => rw [g _ _ q] at e; cases e
    have g4 := a01.trans (a2.trans a3)
    have hrow : RowAt K X3 (t1, S nn[j], t0, []) := ⟨(SqT.of (a3 _ _ (a2 _ _ b1))), SqT.of (a3 _ _ (a2 _ _ (a1 _ _ b0)))⟩
    refine comp_next hi (g4 _ _ hW.nw.at0) (by rw [List.length_map]; omega) ⟨ks ++ [(t2, S kn[i], lr, [(t1, S nn[j], t0, [])])], by simp, by simp [hkl'], fun c u e => ?_, ⟨hW.nw.add g4 b3 (a3 _ _ b2) (hf1 _ hlr) (hf2 _ (hf1 _ hlr)) (fun t ht => by obtain rfl := List.mem_singleton.mp ht; exact hrow), ?_, fun k hk => ?_, ?_⟩, ?_⟩
    · rw [upd_ne (ne_of_none e hlw)]; exact g4 _ _ (g _ _ e)
    · rw [List.map_append, List.nodup_append]
      refine ⟨hW.nd, by simp, fun x hx y hy z => ?_⟩
      obtain ⟨k, hk, rfl⟩ := List.mem_map.mp hx
      have ey : y = lr := by simpa using hy
      have := (hW.nw.kd k hk).2.1
      rw [z, ey, hf1 _ hlr] at this; cases this
    · rw [List.map_append] at hk
      rcases List.mem_append.mp hk with hk | hk
      · exact hW.gk k hk
      · obtain rfl := List.mem_singleton.mp hk
        have er : (datK' (t2, S kn[i], lr, [(t1, S nn[j], t0, [])])).2 = [(nn[j], [])] := by simp [datK', datR', codes, S_list]
        refine ⟨by rw [er]; simp, fun r hr => ?_, fun r hr => ?_, fun r hr => ?_, ⟨(nn[j], []), by rw [er]; simp, rfl⟩⟩
        all_goals (rw [er] at hr; obtain rfl := List.mem_singleton.mp hr)
        · exact List.getElem_mem hj
        · exact Nat.zero_le _
        · intro x hx; cases hx
    · rw [List.map_append, List.map_append, List.sum_append, hW.sum]
      simp [datK']
    · rw [List.map_append, List.map_append, hkn, List.take_add_one, List.getElem?_eq_getElem hik]
      simp [datK', codes, S_list]
  rintro ys H4 ⟨ks, rfl, hkl', g4, hW, hkn⟩
  rw [List.take_of_length_le (by omega)] at hkn
  have hkl4 : ks.length = L := hkl'
  have g34 := g23.trans g4
  refine ⟨_, rfl, a, _, rfl, .inl (g34.seq hs), _, rfl, _, _, rfl, rfl, _, _, rfl, _, _, rfl, (by rw [List.length_map]; split <;> refine ⟨by decide, by decide, by omega, by omega⟩), ?_⟩
  rw [List.length_map]
  generalize hm : ((if (22 : Int) - (L : Int) < (ns.length : Int) then 22 - (L : Int) else (ns.length : Int)) - 6).toNat = mm
  have hmm : mm ≤ ns.length - 6 ∧ L + mm ≤ 16 := by
    split at hm <;> omega
  refine for_range (lo := 6) (n := mm) (fun i σ H' => ∃ (ks : List KdT) (c5 c7 c8 c9 c10 : Option V), σ = [some (.ref a), some (.int (L : Int)), some (.ref lk), some (.ref ln), some (.int st), c5, some (.ref lw), c7, c8, c9, c10] ∧ Same H3 H' ∧ WdL K H3 H' lw kn nn (L + i) ks ∧ (ks.map datK').map (fun k => k.1) = kn ∧ ks.length = L)
    ⟨ks, none, none, none, none, none, rfl, g4, hW, hkn, hkl4⟩ ?_ ?_
  · rintro i σ H' hi ⟨ks, c5, c7, c8, c9, c10, rfl, g, hW, hkn, hkl4⟩
    have e6 : (6 : Int) + (i : Int) = ((6 + i : Nat) : Int) := by omega
    rw [e6]
    have h6 : 6 + i < ns.length := by omega
    have g' := g23.trans g
    refine ⟨_, rfl, _, rfl, a, _, _, _, rfl, rfl, g'.seq hs, atI_nat (by rw [List.getElem?_map, List.getElem?_eq_getElem h6]; rfl), _, _, rfl, rfl, ⟨by decide, by decide, by decide⟩, _, _, rfl, rfl, (by show (0 : Int) < 10 ^ 20; decide), ?_⟩
    dsimp only
    have hn0 : 0 ≤ ns[6 + i] % 10 ^ Int.toNat 20 := Int.emod_nonneg _ (by decide)
    generalize ns[6 + i] % 10 ^ Int.toNat 20 = n at hn0
    obtain ⟨p, hp, hat⟩ := at_modI (xs := ks) (g := fun k => V.ref k.1) (k := (L : Int)) (by omega) (by omega) n
    obtain ⟨k1, k2, k3, k4, k5⟩ := hW.nw.kd ks[p] (List.getElem_mem hp)
    refine ⟨_, rfl, _, rfl, _, rfl, _, _, rfl, rfl, (by show (0 : Int) < (L : Int); omega), lw, _, _, _, rfl, rfl, SqL.of hW.nw.at0, hat, ks[p].1, _, 1, _, rfl, rfl, k1, rfl, ?_⟩
    have dkp : datK' ks[p] ∈ ks.map datK' := List.mem_map_of_mem (List.getElem_mem hp)
    have hDr : DrW kn nn (L + i) (ks.map datK') := ⟨hkn, hW.sum, hW.gk⟩
    have hlow := hDr.low dkp
    have hrl : (datK' ks[p]).2.length = ks[p].2.2.2.length := by simp [datK']
    have hfree := hDr.free dkp hnnd (by omega)
    refine ⟨_, rfl, ln, rfl, ⟨_, g.seq (SqL.of hln)⟩, fun lf hlf => ?_⟩
    refine c1_list (K := K) (xs := nn.map fun x => V.str (S x)) (cs := [some (.ref ks[p].2.2.1)]) (te := tVar 0) (fun j ys H2 => ys = ((nn.take j).filter fun n => decide (n ∉ (datK' ks[p]).2.map fun r => r.1)).map (fun x => V.str (S x)) ∧ H2 lf = some (.lst ys) ∧ Same H' H2)
      ⟨rfl, upd_same, same_new hlf _⟩ ?_ ?_ ?_
    · rintro j ys H2 _ ⟨_, _, g2⟩
      exact (g.trans g2).seq (SqL.of hln)
    · rintro j x ys H2 hj hx ⟨rfl, hyf, g2⟩
      rw [List.length_map] at hj
      obtain rfl : x = .str (S nn[j]) := by
        rw [List.getElem?_map, List.getElem?_eq_getElem hj] at hx
        exact (Option.some.inj hx).symm
      refine ⟨_, rfl, _, rfl, ks[p].2.2.1, rfl, ⟨_, SqL.of (g2 _ _ k2)⟩, fun la hla => ?_⟩
      refine c1_list (K := K) (xs := ks[p].2.2.2.map fun t => V.ref t.1) (cs := []) (tt := fun _ H Q => Q true H) (te := tOp (rIxT K) (tVar 0) (tC (.int 0))) (fun j ys H3 => ys = ((ks[p].2.2.2.take j).map fun t => codes t.2.1).map (fun x => V.str (S x)) ∧ H3 la = some (.lst ys) ∧ Same H2 H3)
        ⟨rfl, upd_same, same_new hla _⟩ ?_ ?_ ?_
      · rintro m ys H5 _ ⟨_, _, g3⟩
        exact SqL.of (g3 _ _ (g2 _ _ k2))
      · rintro m x ys H5 hm hx ⟨rfl, hya, g3⟩
        rw [List.length_map] at hm
        obtain rfl : x = .ref ks[p].2.2.2[m].1 := by
          rw [List.getElem?_map, List.getElem?_eq_getElem hm] at hx
          exact (Option.some.inj hx).symm
        have hrw := k5 _ (List.getElem_mem hm)
        refine iteT ⟨_, rfl, _, _, 0, _, rfl, rfl, (g2.trans g3).seqT hrw.1, rfl, ?_⟩
        rw [List.length_map]
        refine comp_next hm hya (by rw [List.length_map, List.length_map, List.length_take]; omega) ⟨?_, upd_same, fun c u e => ?_⟩
        · rw [List.take_add_one, List.getElem?_eq_getElem hm, Option.toList_some, List.map_append, List.map_append]
          simp only [List.map_cons, List.map_nil, codes, S_self]
        · rw [upd_ne (ne_of_none e hla)]; exact g3 _ _ e
      · rintro ys H5 ⟨rfl, hya, g3⟩
        rw [List.length_map, List.take_length] at hya
        have ec : ks[p].2.2.2.map (fun t => codes t.2.1) = (datK' ks[p]).2.map fun r => r.1 := by simp [datK', datR']
        rw [ec] at hya
        refine ⟨la, _, rfl, .inl (SqL.of hya), rfl, (by rw [List.all_eq_true]; intro v hv; obtain ⟨y, _, rfl⟩ := List.mem_map.mp hv; rfl), _, rfl, ?_⟩
        rw [if_pos rfl, in_strsC]
        by_cases hm : nn[j] ∈ (datK' ks[p]).2.map fun r => r.1
        · rw [decide_eq_true hm]
          refine iteF ?_
          rw [List.length_map]
          refine comp_skip (ys := ((nn.take j).filter fun n => decide (n ∉ (datK' ks[p]).2.map fun r => r.1)).map (fun x => V.str (S x))) hj ⟨?_, g3 _ _ hyf, g2.trans g3⟩
          rw [List.take_add_one, List.getElem?_eq_getElem hj, Option.toList_some, List.filter_append]
          simp [hm]
        · rw [decide_eq_false hm]
          refine iteT ⟨_, rfl, ?_⟩
          rw [List.length_map]
          refine comp_next hj (g3 _ _ hyf) (by rw [List.length_map]; have := List.length_filter_le (fun n => decide (n ∉ (datK' ks[p]).2.map fun r => r.1)) (nn.take j); rw [List.length_take] at this; omega) ⟨?_, upd_same, fun c u e => ?_⟩
          · rw [List.take_add_one, List.getElem?_eq_getElem hj, Option.toList_some, List.filter_append]
            simp [hm]
          · rw [upd_ne (ne_of_none e hlf)]; exact g3 _ _ (g2 _ _ e)
    rintro ys H5 ⟨rfl, hyf, g5⟩
    rw [List.length_map, List.take_length] at hyf
    have hfm : ∀ x ∈ nn.filter (fun n => decide (n ∉ (datK' ks[p]).2.map fun r => r.1)), x ∈ nn ∧ x ∉ (datK' ks[p]).2.map fun r => r.1 := fun x hx => by
      obtain ⟨h1, h2⟩ := List.mem_filter.mp hx
      exact ⟨h1, of_decide_eq_true h2⟩
    generalize nn.filter (fun n => decide (n ∉ (datK' ks[p]).2.map fun r => r.1)) = fr at hyf hfm hfree
    have x0 : 0 ≤ n / 6 % 5 := Int.emod_nonneg _ (by decide)
    have x1 : n / 6 % 5 < 5 := Int.emod_lt_of_pos _ (by decide)
    refine ⟨_, rfl, _, _, rfl, rfl, ⟨(by show (0 : Int) < 6; decide), (by show (6 : Int) < 1073741824; decide)⟩, _, _, rfl, rfl, (by show (0 : Int) < 5; decide), _, rfl, (by show -(2 ^ 62 : Int) ≤ n / 6 % 5; omega), (by show (n / 6 % 5 : Int) < 2 ^ 62; omega), fun lb hlb => ?_⟩
    refine c1_range (lo := 0) (n := (n / 6 % 5).toNat) (cs := [some (.ref lk), some (.int (L : Int)), some (.int n)]) (tt := fun _ H Q => Q true H) (fun j ys H6 => ∃ bs : List (List Nat), bs.length = j ∧ (∀ x ∈ bs, x ∈ kn) ∧ ys = bs.map (fun x => V.str (S x)) ∧ H6 lb = some (.lst ys) ∧ Same H5 H6)
      ⟨[], rfl, fun x hx => (nomatch hx), rfl, upd_same, same_new hlb _⟩ ?_ ?_
    · rintro j ys H6 hj ⟨bs, hbl, hbk, rfl, hyb, g6⟩
      have ej : (0 : Int) + (j : Int) = (j : Int) := by omega
      rw [ej]
      obtain ⟨y, hy, hat3⟩ := at_modI (xs := kn) (g := fun x => V.str (S x)) (k := (L : Int)) (by omega) (by omega) (n / (7 + 3 * (j : Int)))
      refine iteT ⟨_, rfl, _, rfl, _, rfl, _, _, rfl, rfl, .inl ⟨by decide, by decide⟩, _, _, rfl, rfl, _, _, rfl, rfl, ⟨(by show (0 : Int) < 7 + 3 * (j : Int); omega), (by show 7 + 3 * (j : Int) < 1073741824; omega)⟩, _, rfl, _, _, rfl, rfl, (by show (0 : Int) < (L : Int); omega), lk, _, _, _, rfl, rfl, (g.trans (g5.trans g6)).seq (SqL.of hk3), hat3, ?_⟩
      refine comp_next hj hyb (by rw [List.length_map]; omega) ⟨bs ++ [kn[y]], by simp [hbl], fun x hx => ?_, by simp, upd_same, fun c u e => ?_⟩
      · rcases List.mem_append.mp hx with hx | hx
        · exact hbk x hx
        · obtain rfl := List.mem_singleton.mp hx
          exact List.getElem_mem hy
      · rw [upd_ne (ne_of_none e hlb)]; exact g6 _ _ e
    rintro ys H6 ⟨bs, hbl, hbk, rfl, hyb, g6⟩
    refine ⟨lb, _, rfl, .inl ⟨SqL.of hyb, fun tb htb => ?_⟩⟩
    have s7 := same_new htb (.tup (bs.map fun x => V.str (S x)))
    have b7 : upd H6 tb (.tup (bs.map fun x => V.str (S x))) tb = some (.tup (bs.map fun x => V.str (S x))) := upd_same
    generalize upd H6 tb (.tup (bs.map fun x => V.str (S x))) = H7 at s7 b7
    have g7 := g5.trans (g6.trans s7)
    have hfl : 0 < fr.length := hfree
    obtain ⟨y, hy, hat4⟩ := at_modI (xs := fr) (g := fun x => V.str (S x)) (k := (fr.length : Int)) rfl hfl (n / 90)
    have hrl2 : ks[p].2.2.2.length ≤ 16 := by omega
    obtain ⟨ix, hix, hix1⟩ : ∃ ix : Nat, n / 30 % ((ks[p].2.2.2.length : Int) + 1) = (ix : Int) ∧ ix < 1000 := by
      have z0 : 0 ≤ n / 30 % ((ks[p].2.2.2.length : Int) + 1) := Int.emod_nonneg _ (by omega)
      have z1 : n / 30 % ((ks[p].2.2.2.length : Int) + 1) < (ks[p].2.2.2.length : Int) + 1 := Int.emod_lt_of_pos _ (by omega)
      exact ⟨_, (Int.toNat_of_nonneg z0).symm, by omega⟩
    refine ⟨_, rfl, .inl ⟨rfl, _, SqL.of (g7 _ _ k2)⟩, _, rfl, _, _, rfl, rfl, ⟨(by show (0 : Int) < 30; decide), (by show (30 : Int) < 1073741824; decide)⟩, _, rfl, _, _, rfl, .inl (SqL.of (g7 _ _ k2)), _, _, rfl, rfl, _, _, rfl, rfl, (by rw [List.length_map]; show (0 : Int) < (ks[p].2.2.2.length : Int) + 1; omega), _, rfl, _, rfl, _, _, rfl, rfl, ⟨(by show (0 : Int) < 90; decide), (by show (90 : Int) < 1073741824; decide)⟩, _, rfl, _, _, rfl, .inl (SqL.of ((g6.trans s7) _ _ hyf)), _, _, rfl, rfl, (by rw [List.length_map]; show (0 : Int) < (fr.length : Int); omega), lf, _, _, _, rfl, rfl, SqL.of ((g6.trans s7) _ _ hyf), (by rw [List.length_map]; exact hat4), _, rfl, (by show 2 ≤ sizeLine; decide), fun tr htr => ?_⟩
    have s8 := same_new htr (.tup [.str (S fr[y]), .ref tb])
    have b8 : upd H7 tr (.tup [.str (S fr[y]), .ref tb]) tr = some (.tup [.str (S fr[y]), .ref tb]) := upd_same
    generalize upd H7 tr (.tup [.str (S fr[y]), .ref tb]) = H8 at s8 b8
    have g8 := g7.trans s8
    obtain ⟨hy1, hy2⟩ := hfm _ (List.getElem_mem hy)
    have hrow : RowAt K H8 (tr, S fr[y], tb, bs.map S) := ⟨SqT.of b8, by rw [show (bs.map S).map V.str = bs.map fun y => V.str (S y) by rw [List.map_map]; rfl]; exact SqT.of (s8 _ _ b7)⟩
    have hW8 : WdL K H3 H8 lw kn nn (L + i) ks := ⟨hW.nw.keep g8, hW.nd, hW.gk, hW.sum⟩
    have hput := hW8.put (j := ix) hp hrow (by show codes (S fr[y]) ∈ nn; rw [codes, S_list]; exact hy1) (by show codes (S fr[y]) ∉ _; rw [codes, S_list]; exact hy2) (by rw [List.length_map]; omega) (fun x hx => by
      obtain ⟨z, hz, rfl⟩ := List.mem_map.mp hx
      rw [codes, S_list]; exact hbk z hz)
    refine ⟨_, _, .ref tr, ix, rfl, (by show [V.int (n / 30 % (((ks[p].2.2.2.map fun t => V.ref t.1).length : Int) + 1)), V.ref tr] = _; rw [List.length_map, hix]), hix1, g8 _ _ k2, (by rw [List.length_map]; exact Nat.lt_of_le_of_lt hrl2 (by decide)), ?_⟩
    refine ⟨_, _, _, _, _, _, rfl, fun c u e => ?_, hput, ?_, by rw [List.length_set]; exact hkl4⟩
    · rw [upd_ne (ne_of_none e k3)]; exact g8 _ _ (g _ _ e)
    · rw [List.map_set, List.map_set]
      show (((ks.map datK').map fun k => k.1).set p (codes ks[p].2.1)) = kn
      have : codes ks[p].2.1 = ((ks.map datK').map fun k => k.1)[p]'(by simpa using hp) := by rw [List.getElem_map, List.getElem_map]; rfl
      rw [this, List.set_getElem_self]; exact hkn
  · rintro σ H' ⟨ks, c5, c7, c8, c9, c10, rfl, g, hW, hkn, hkl4⟩
    exact ⟨_, rfl, q lw H' ks (g23.trans g) hW.nw.wood ((⟨hkn, hW.sum, hW.gk⟩ : DrW kn nn (L + mm) (ks.map datK')).good hmm.2 (by omega) (by omega) hknd hknm hnnm)⟩
end
end K7
namespace K7
open PySem L2 K3 TM K9
def rowW (r : RowD) : List (List Nat) := r.1 :: brG r.2 r.2
def rowsW : List RowD → List (List Nat)
  | [] => []
  | r :: rs => rowW r ++ rs.flatMap fun r => [124] :: rowW r
def kindW (k : KindD) : List (List Nat) := k.1 :: [61] :: rowsW k.2
def woodP (D : List KindD) : List (List Nat) := D.flatMap fun k => [59] :: kindW k
theorem rowsW_snoc (rs : List RowD) (r : RowD) : rowsW (rs ++ [r]) = rowsW rs ++ (if rs.length = 0 then [] else [[124]]) ++ rowW r := by
  cases rs with
  | nil => simp [rowsW]
  | cons a b => simp [rowsW]
theorem woodP_snoc (D : List KindD) (k : KindD) : woodP (D ++ [k]) = woodP D ++ [59] :: kindW k := by
  simp [woodP]
theorem ptl_rows : ∀ (r : RowD) (rs : List RowD), (∀ x ∈ r :: rs, TkR x (rowW x)) → PtL TkR [124] (r :: rs) (rowsW (r :: rs))
  | r, [], h => by
    simp only [rowsW, List.flatMap_nil, List.append_nil]
    exact .one (h r List.mem_cons_self)
  | r, s :: rs, h => by
    have := ptl_rows s rs fun x hx => h x (List.mem_cons_of_mem _ hx)
    have e : rowsW (r :: s :: rs) = rowW r ++ ([124] :: rowsW (s :: rs)) := by simp [rowsW]
    rw [e]
    exact .more (h r List.mem_cons_self) this
theorem ptl_wood : ∀ (k : KindD) (ks : List KindD), (∀ x ∈ k :: ks, TkK x (kindW x)) → PtL TkK [59] (k :: ks) ((woodP (k :: ks)).drop 1)
  | k, [], h => by
    simp only [woodP, List.flatMap_cons, List.flatMap_nil, List.append_nil, List.cons_append, List.drop_succ_cons, List.drop_zero]
    exact .one (h k List.mem_cons_self)
  | k, s :: ks, h => by
    have := ptl_wood s ks fun x hx => h x (List.mem_cons_of_mem _ hx)
    have e : (woodP (k :: s :: ks)).drop 1 = kindW k ++ ([59] :: (woodP (s :: ks)).drop 1) := by simp [woodP]
    rw [e]
    exact .more (h k List.mem_cons_self) this
theorem GoodW.tkR {D : List KindD} (h : GoodW D) {k : KindD} (hk : k ∈ D) : ∀ r ∈ k.2, TkR r (rowW r) := fun r hr =>
  ⟨h.nmR k hk r hr, fun b hb => by obtain ⟨k2, hk2, e⟩ := List.mem_map.mp (h.ins k hk r hr b hb); rw [← e]; exact h.nmK k2 hk2, by have := h.few k hk r hr; omega, rfl⟩
theorem mem_sum {l : List Nat} {a : Nat} (h : a ∈ l) : a ≤ l.sum := by
  induction l with
  | nil => cases h
  | cons b r ih =>
    rw [List.sum_cons]
    rcases List.mem_cons.mp h with rfl | h
    · omega
    · have := ih h; omega
theorem GoodW.rows16 {D : List KindD} (h : GoodW D) {k : KindD} (hk : k ∈ D) : k.2.length ≤ 16 := Nat.le_trans (mem_sum (List.mem_map_of_mem (f := fun k : KindD => k.2.length) hk)) h.sum
theorem GoodW.tkK {D : List KindD} (h : GoodW D) : ∀ k ∈ D, TkK k (kindW k) := fun k hk => by
  refine ⟨h.nmK k hk, by have := h.rows16 hk; omega, rowsW k.2, ?_, rfl⟩
  obtain ⟨r, hr, _⟩ := h.leaf k hk
  cases e : k.2 with
  | nil => rw [e] at hr; cases hr
  | cons a b => exact ptl_rows a b fun x hx => h.tkR hk x (by rw [e]; exact hx)
theorem GoodW.ptl {D : List KindD} (h : GoodW D) : PtL TkK [59] D ((woodP D).drop 1) := by
  cases e : D with
  | nil => have := h.pos; rw [e] at this; cases this
  | cons k ks => exact ptl_wood k ks fun x hx => h.tkK x (by rw [e]; exact hx)
theorem brG_len {xs : List (List Nat)} : (brG xs xs).length ≤ xs.length + 2 := by
  cases xs with
  | nil => simp [brG]
  | cons a b => simp [brG]
theorem rowW_len {r : RowD} (h : r.2.length ≤ 4) : (rowW r).length ≤ 7 := by
  have := brG_len (xs := r.2)
  simp only [rowW, List.length_cons]; omega
theorem rowsW_len : ∀ rs : List RowD, (∀ r ∈ rs, r.2.length ≤ 4) → (rowsW rs).length ≤ 8 * rs.length
  | [], _ => Nat.le_refl _
  | r :: rs, h => by
    have h1 := rowW_len (h r List.mem_cons_self)
    have h2 : ∀ l : List RowD, (∀ r ∈ l, r.2.length ≤ 4) → (l.flatMap fun r => [124] :: rowW r).length ≤ 8 * l.length := fun l hl => by
      induction l with
      | nil => exact Nat.le_refl _
      | cons a b ih =>
        have z1 := rowW_len (hl a List.mem_cons_self)
        have z2 := ih fun r hr => hl r (List.mem_cons_of_mem _ hr)
        simp only [List.flatMap_cons, List.length_append, List.length_cons]; omega
    have := h2 rs fun x hx => h x (List.mem_cons_of_mem _ hx)
    simp only [rowsW, List.length_append, List.length_cons]; omega
theorem woodP_len : ∀ D : List KindD, (∀ k ∈ D, ∀ r ∈ k.2, r.2.length ≤ 4) → (woodP D).length ≤ 3 * D.length + 8 * (D.map fun k => k.2.length).sum
  | [], _ => Nat.le_refl _
  | k :: D, h => by
    have h1 := rowsW_len k.2 (h k List.mem_cons_self)
    have h2 := woodP_len D fun x hx => h x (List.mem_cons_of_mem _ hx)
    simp only [woodP, List.flatMap_cons, kindW, List.length_append, List.length_cons, List.map_cons, List.sum_cons] at h2 ⊢
    omega
def sg5 : List Nat := [40, 41, 59, 61, 124]
def WJ (w : List Nat) : Prop := Nm w ∨ ∃ c ∈ sg5, w = [c]
theorem GoodW.words {D : List KindD} (h : GoodW D) : ∀ w ∈ woodP D, WJ w := fun w hw => by
  obtain ⟨k, hk, hw⟩ := List.mem_flatMap.mp hw
  have row : ∀ r ∈ k.2, ∀ w ∈ rowW r, WJ w := fun r hr w hw => by
    obtain ⟨t1, t2, _⟩ := h.tkR hk r hr
    rcases List.mem_cons.mp hw with rfl | hw
    · exact .inl t1
    · cases e : r.2 with
      | nil => rw [e] at hw; cases hw
      | cons a b =>
        rw [e] at hw
        rcases List.mem_cons.mp hw with rfl | hw
        · exact .inr ⟨40, by decide, rfl⟩
        · rcases List.mem_append.mp hw with hw | hw
          · exact .inl (t2 w (by rw [e]; exact hw))
          · obtain rfl := List.mem_singleton.mp hw
            exact .inr ⟨41, by decide, rfl⟩
  rcases List.mem_cons.mp hw with rfl | hw
  · exact .inr ⟨59, by decide, rfl⟩
  rcases List.mem_cons.mp hw with rfl | hw
  · exact .inl (h.nmK k hk)
  rcases List.mem_cons.mp hw with rfl | hw
  · exact .inr ⟨61, by decide, rfl⟩
  cases e : k.2 with
  | nil => rw [e] at hw; cases hw
  | cons a b =>
    rw [e] at hw
    rcases List.mem_append.mp hw with hw | hw
    · exact row a (by rw [e]; exact List.mem_cons_self) w hw
    · obtain ⟨r, hr, hw⟩ := List.mem_flatMap.mp hw
      rcases List.mem_cons.mp hw with rfl | hw
      · exact .inr ⟨124, by decide, rfl⟩
      · exact row r (by rw [e]; exact List.mem_cons_of_mem _ hr) w hw
def spParts (K : PySem.W.Frag) : Sp := fun vs H Q _ => ∃ (lw : Addr) (ks : List KdT), vs = [.ref lw] ∧ WoodAt K H lw ks ∧ GoodW (ks.map datK') ∧ ∀ (l : Addr) (H' : Hp), Same H H' → H' l = some (.lst (W ((woodP (ks.map datK')).drop 1))) → Q (.ref l) H'
theorem sum_take (l : List Nat) (i : Nat) : (l.take i).sum ≤ l.sum := by
  have := congrArg List.sum (List.take_append_drop i l)
  rw [List.sum_append] at this; omega
theorem GoodW.lenT {D : List KindD} (h : GoodW D) (i : Nat) : (woodP (D.take i)).length ≤ 146 := by
  have h1 := woodP_len (D.take i) fun k hk => h.few k (List.mem_of_mem_take hk)
  have h2 := sum_take (D.map fun k => k.2.length) i
  rw [← List.map_take] at h2
  have h3 := h.sum
  have h4 := h.len
  have h5 : (D.take i).length ≤ 6 := by rw [List.length_take]; omega
  omega
theorem rep_bar (m : Nat) : (List.replicate (if decide ((0 : Int) < (m : Int)) = true then (1 : Int) else 0).toNat [V.str (S [124])]).flatten = W (if m = 0 then [] else [[124]]) := by
  cases m with
  | zero => rfl
  | succ m => rw [if_pos (decide_eq_true (by omega)), if_neg (by omega)]; rfl
section
variable {P : Program} {w : World} {K : PySem.W.Frag} {mg : Str → Option Value} {base : Heap} {f : Addr} {fd : FuncData}
theorem scParts : FnScope ["_law_wood_here", "_law_row", "_law_kind", "_law_rows", "_law_k"] ["_law_wood_here"] (defScope sParts) := ⟨rfl, rfl, rfl, by decide +kernel, rfl, by decide +kernel, by decide +kernel⟩
theorem ok_parts (F : Fun K "_law_parts" "_law_parts" sParts f fd) (G : Gm mg) : FnOk P w K mg base CX0 1 f fd ["_law_wood_here"] (spParts K) := by
  refine F.ok scParts (fun vs H Q E h => ?_) (fun cdv A outer s H vs Q E hr h => ?_)
  · obtain ⟨lw, ks, rfl, _⟩ := h
    rfl
  obtain ⟨lw, ks, rfl, hW, hG, q⟩ := h
  refine ⟨_, (pss_cons (ps_set (i := 1) scParts.nd rfl (Or.inl rfl) (pe_lst pa_nil))
    (pss_cons (ps_for PassesOwn.never rfl (pi_list (pv 0)) (pg_tup rfl (pgs_cons (pg_name (i := 2) scParts.nd rfl (Or.inl rfl)) (pgs_cons (pg_name (i := 3) scParts.nd rfl (Or.inl rfl)) pgs_nil))) (pss_cons (ps_set (i := 1) scParts.nd rfl (Or.inl rfl) (pe_op op_catL (pv 1) (pe_lst (pa_cons (pe_str) (pa_cons (pv 2) (pa_cons (pe_str) pa_nil))))))
    (pss_one (ps_for PassesOwn.never rfl (pi_range1 rfl G.rng (pa_cons (pe_callB call_len_seq rfl G.len PySem.boot_len (pa_cons (pv 3) pa_nil)) pa_nil)) (pg_name (i := 4) scParts.nd rfl (Or.inl rfl)) (pss_cons (ps_set (i := 1) scParts.nd rfl (Or.inl rfl) (pe_op op_catL (pe_op op_catL (pv 1) (pe_op op_rep (pe_lst (pa_cons (pe_str) pa_nil)) (pe_callTy call_int1 rfl G.int PyProof.Rows.boot_int (pa_cons (pe_cmpR op_gt (pv 4) pe_int (nomark _)) pa_nil)))) (pe_lst (pa_cons (pe_ix ix_tup (pe_ix ix_list (pv 3) (pv 4) (fun _ _ => rfl)) pe_int (fun _ _ => rfl)) pa_nil))))
    (pss_one (ps_if (pt_cmpR op_neD (pe_ix ix_tup (pe_ix ix_list (pv 3) (pv 4) (fun _ _ => rfl)) pe_int (fun _ _ => rfl)) (pe_tup pa_nil) (nomark _)) (pss_one (ps_set (i := 1) scParts.nd rfl (Or.inl rfl) (pe_op op_catL (pe_op op_catL (pe_op op_catL (pv 1) (pe_lst (pa_cons (pe_str) pa_nil))) (pe_callTy call_list_of rfl G.lst PyProof.Rows.boot_list (pa_cons (pe_ix ix_tup (pe_ix ix_list (pv 3) (pv 4) (fun _ _ => rfl)) pe_int (fun _ _ => rfl)) pa_nil))) (pe_lst (pa_cons (pe_str) pa_nil))))) pss_nil)))))))
    (pss_one (ps_ret (pe_slice sl_list (pv 1) (po_some pe_int) po_none))))), ?_⟩
  have room : ∀ n : Nat, n ≤ 8 → (A.deeper (PyProof.Rows.envOfC "_law_parts" (defScope sParts) s.heap.objs.size f cdv)).units + n < cLine := fun n hn => by have := hr.units; omega
  have hkl : ks.length ≤ 6 := by have := hG.len; simpa using this
  have e59 : Str.ofString ";" = S [59] := by decide +kernel
  have e61 : Str.ofString "=" = S [61] := by decide +kernel
  have e124 : Str.ofString "|" = S [124] := by decide +kernel
  have e40 : Str.ofString "(" = S [40] := by decide +kernel
  have e41 : Str.ofString ")" = S [41] := by decide +kernel
  have Wl : ∀ ws : List (List Nat), (W ws).length = ws.length := fun ws => List.length_map ..
  refine ⟨(by show 0 ≤ sizeLine; decide), fun l0 hl0 => ?_⟩
  refine ⟨_, rfl, lw, rfl, ⟨_, (same_new hl0 _).seq hW.1⟩, ?_⟩
  refine for_list (K := K) (xs := ks.map fun k => V.ref k.1) (fun i σ H' => ∃ (l : Addr) (c2 c3 c4 : Option V), σ = [some (.ref lw), some (.ref l), c2, c3, c4] ∧ Same H H' ∧ H' l = some (.lst (W (woodP ((ks.map datK').take i)))))
    ⟨l0, none, none, none, rfl, same_new hl0 _, upd_same⟩ ?_ ?_ ?_
  · rintro i σ H' _ ⟨_, _, _, _, _, g, _⟩
    exact g.seq hW.1
  · rintro i x σ H' hx ⟨l, c2, c3, c4, rfl, g, hl⟩
    have hi : i < ks.length := by have := (List.getElem?_eq_some_iff.mp hx).1; rw [List.length_map] at this; exact this
    obtain rfl : x = .ref ks[i].1 := by
      rw [List.getElem?_map, List.getElem?_eq_getElem hi] at hx
      exact (Option.some.inj hx).symm
    obtain ⟨k1, k2⟩ := hW.2 ks[i] (List.getElem_mem hi)
    have hkm : datK' ks[i] ∈ ks.map datK' := List.mem_map_of_mem (List.getElem_mem hi)
    have hlen := hG.lenT i
    have hr16 : ks[i].2.2.2.length ≤ 16 := by have := hG.rows16 hkm; simpa [datK'] using this
    have hfew := GoodW.fewT hG ks[i] (List.getElem_mem hi)
    have hstr := GoodW.strT hG ks[i] (List.getElem_mem hi)
    have tk : (ks.map datK').take (i + 1) = (ks.map datK').take i ++ [datK' ks[i]] := by rw [List.take_add_one, List.getElem?_map, List.getElem?_eq_getElem hi]; rfl
    have hpre : woodP ((ks.map datK').take (i + 1)) = woodP ((ks.map datK').take i) ++ [59] :: kindW (datK' ks[i]) := by rw [tk, woodP_snoc]
    generalize woodP ((ks.map datK').take i) = pre at hl hlen hpre
    clear hW hG hkm
    generalize ks[i] = kd at *
    refine ⟨_, _, rfl, g.seqT k1, rfl, _, _, rfl, _, _, rfl, rfl, _, rfl, _, rfl, (by show 3 ≤ sizeLine; decide), fun l2 hl2 => ?_⟩
    have s2 := same_new hl2 (.lst [.str (Str.ofString ";"), .str kd.2.1, .str (Str.ofString "=")])
    refine ⟨l, l2, _, _, rfl, rfl, SqL.of (s2 _ _ hl), SqL.of upd_same, (by rw [Wl]; exact line_of (by show pre.length + 3 ≤ 5000; omega)), fun l3 hl3 => ?_⟩
    have s3 := same_new hl3 (.lst (W pre ++ [.str (Str.ofString ";"), .str kd.2.1, .str (Str.ofString "=")]))
    have h3 : upd _ l3 (.lst (W pre ++ [.str (Str.ofString ";"), .str kd.2.1, .str (Str.ofString "=")])) l3 = _ := upd_same (H := upd H' l2 (.lst [.str (Str.ofString ";"), .str kd.2.1, .str (Str.ofString "=")]))
    have eW : W pre ++ [.str (Str.ofString ";"), .str kd.2.1, .str (Str.ofString "=")] = W (pre ++ [59] :: codes kd.2.1 :: [61] :: rowsW []) := by
      rw [W_app, e59, e61]
      show _ = W pre ++ [V.str (S [59]), V.str (S (codes kd.2.1)), V.str (S [61])]
      rw [codes, S_self]
    rw [eW] at s3 h3 ⊢
    have g3 := g.trans (s2.trans s3)
    generalize upd (upd H' l2 (.lst [.str (Str.ofString ";"), .str kd.2.1, .str (Str.ofString "=")])) l3 (.lst (W (pre ++ [59] :: codes kd.2.1 :: [61] :: rowsW []))) = H3 at g3 h3 ⊢
    refine ⟨_, rfl, kd.2.2.1, _, rfl, .inl (g3.seq k2.1), _, rfl, (by rw [List.length_map]; omega), (by rw [List.length_map]; omega), ?_⟩
    rw [List.length_map]
    refine for_range (lo := 0) (n := kd.2.2.2.length) (fun m σ H2 => ∃ (l : Addr) (c4 : Option V), σ = [some (.ref lw), some (.ref l), some (.str kd.2.1), some (.ref kd.2.2.1), c4] ∧ Same H H2 ∧ H2 l = some (.lst (W (pre ++ [59] :: codes kd.2.1 :: [61] :: rowsW ((kd.2.2.2.map datR').take m)))))
      ⟨l3, _, rfl, g3, h3⟩ ?_ ?_
    · rintro m σ H2 hm ⟨l, c4, rfl, g2, hl⟩
      have e0 : (0 : Int) + (m : Int) = (m : Int) := by omega
      rw [e0]
      obtain ⟨r1, r2⟩ := k2.2 kd.2.2.2[m] (List.getElem_mem hm)
      have h4 := hfew _ (List.getElem_mem hm)
      have hs4 := hstr _ (List.getElem_mem hm)
      have hat : atI (kd.2.2.2.map fun t => V.ref t.1) (m : Int) = some (.ref kd.2.2.2[m].1) := atI_nat (by rw [List.getElem?_map, List.getElem?_eq_getElem hm]; rfl)
      have tk : (kd.2.2.2.map datR').take (m + 1) = (kd.2.2.2.map datR').take m ++ [datR' kd.2.2.2[m]] := by rw [List.take_add_one, List.getElem?_map, List.getElem?_eq_getElem hm]; rfl
      have hml : ((kd.2.2.2.map datR').take m).length = m := by rw [List.length_take, List.length_map]; omega
      have hrl : (rowsW ((kd.2.2.2.map datR').take m)).length ≤ 8 * m := by
        have := rowsW_len ((kd.2.2.2.map datR').take m) fun r hr => by
          obtain ⟨t, ht, rfl⟩ := List.mem_map.mp (List.mem_of_mem_take hr)
          simpa [datR'] using hfew t ht
        rw [hml] at this; exact this
      have hsn := rowsW_snoc ((kd.2.2.2.map datR').take m) (datR' kd.2.2.2[m])
      rw [hml, ← tk] at hsn
      generalize rowsW ((kd.2.2.2.map datR').take m) = rw at hl hrl hsn
      generalize kd.2.2.2[m] = t at *
      have hpl : (pre ++ [59] :: codes kd.2.1 :: [61] :: rw).length ≤ 400 := by simp only [List.length_append, List.length_cons]; omega
      rw [hsn]
      generalize hpp : pre ++ [59] :: codes kd.2.1 :: [61] :: rw = pp at hl hpl
      have heq : ∀ u : List (List Nat), pre ++ [59] :: codes kd.2.1 :: [61] :: (rw ++ (if m = 0 then [] else [[124]]) ++ u) = (pp ++ (if m = 0 then [] else [[124]])) ++ u := fun u => by rw [← hpp]; simp
      rw [heq]
      refine ⟨_, rfl, (by show 1 ≤ sizeLine; decide), fun l2 hl2 => ?_⟩
      rw [e124]
      have s2 := same_new hl2 (.lst [.str (S [124])])
      have b2 : upd H2 l2 (.lst [.str (S [124])]) l2 = some (.lst [.str (S [124])]) := upd_same
      generalize upd H2 l2 (.lst [.str (S [124])]) = X2 at s2 b2 ⊢
      refine ⟨_, rfl, _, _, rfl, rfl, .inr ⟨_, rfl, l2, _, _, rfl, rfl, b2, (by split <;> decide), (by split <;> decide), (by split <;> decide), fun l3 hl3 => ?_⟩⟩
      rw [rep_bar]
      have s3 := same_new hl3 (.lst (W (if m = 0 then [] else [[124]])))
      have b3 : upd X2 l3 (.lst (W (if m = 0 then [] else [[124]]))) l3 = some (.lst (W (if m = 0 then [] else [[124]]))) := upd_same
      generalize upd X2 l3 (.lst (W (if m = 0 then [] else [[124]]))) = X3 at s3 b3 ⊢
      have hb1 : (W (if m = 0 then [] else [[124]])).length ≤ 1 := by rw [Wl]; split <;> simp
      refine ⟨l, l3, _, _, rfl, rfl, SqL.of (s3 _ _ (s2 _ _ hl)), SqL.of b3, (by rw [Wl]; exact line_of (by omega)), fun l4 hl4 => ?_⟩
      rw [← W_app]
      have hpl4 : (pp ++ (if m = 0 then [] else [[124]])).length ≤ 401 := by rw [List.length_append]; rw [Wl] at hb1; omega
      generalize pp ++ (if m = 0 then [] else [[124]]) = p4 at hpl4 ⊢
      have s4 := same_new hl4 (.lst (W p4))
      have b4 : upd X3 l4 (.lst (W p4)) l4 = some (.lst (W p4)) := upd_same
      generalize upd X3 l4 (.lst (W p4)) = X4 at s4 b4 ⊢
      have g4 := g2.trans (s2.trans (s3.trans s4))
      refine ⟨_, rfl, _, rfl, kd.2.2.1, _, _, _, rfl, rfl, g4.seq k2.1, hat, t.1, _, 0, _, rfl, rfl, g4.seqT r1, rfl, (by show 1 ≤ sizeLine; decide), fun l5 hl5 => ?_⟩
      have s5 := same_new hl5 (.lst [.str t.2.1])
      have b5 : upd X4 l5 (.lst [.str t.2.1]) l5 = some (.lst [.str t.2.1]) := upd_same
      generalize upd X4 l5 (.lst [.str t.2.1]) = X5 at s5 b5 ⊢
      refine ⟨l4, l5, _, _, rfl, rfl, SqL.of (s5 _ _ b4), SqL.of b5, (by rw [Wl]; exact line_of (by show p4.length + 1 ≤ 5000; omega)), fun l6 hl6 => ?_⟩
      have e5 : W p4 ++ [.str t.2.1] = W (p4 ++ [codes t.2.1]) := by rw [W_app]; show _ = W p4 ++ [V.str (S (codes t.2.1))]; rw [codes, S_self]
      rw [e5]
      have s6 := same_new hl6 (.lst (W (p4 ++ [codes t.2.1])))
      have b6 : upd X5 l6 (.lst (W (p4 ++ [codes t.2.1]))) l6 = some (.lst (W (p4 ++ [codes t.2.1]))) := upd_same
      generalize upd X5 l6 (.lst (W (p4 ++ [codes t.2.1]))) = X6 at s6 b6 ⊢
      have g6 := g4.trans (s5.trans s6)
      refine ⟨_, rfl, _, rfl, kd.2.2.1, _, _, _, rfl, rfl, g6.seq k2.1, hat, t.1, _, 1, _, rfl, rfl, g6.seqT r1, rfl, (by show 0 ≤ sizeLine; decide), fun tn htn => ?_⟩
      have s7 := same_new htn (.tup [])
      have b7 : upd X6 tn (.tup []) tn = some (.tup []) := upd_same
      generalize upd X6 tn (.tup []) = X7 at s7 b7 ⊢
      have g7 := g6.trans s7
      have lay1 : (PyData.tuple (t.2.2.2.map PyData.str)).canLay0 = true := by simp only [PyData.canLay0]; exact lay_strs _ hs4
      refine ⟨_, .tuple [], .tup (g7.seqT r2) (rd_strs _), .tup (SqT.of b7) .nil, lay1, by simp [PyData.canLay0, PyData.canLayAll0], room _ (Nat.le_trans (Nat.min_le_right _ _) (by simp [PyData.depth, PyData.depthAll])), _, rfl, ?_⟩
      show if _ = true then _ else _
      rw [if_pos rfl, eqv_tnil]
      rcases he : t.2.2.2 with _ | ⟨b, bs⟩
      · refine iteF ⟨l6, _, rfl, g7, ?_⟩
        have er : rowW (datR' t) = [codes t.2.1] := by simp [rowW, datR', he, brG]
        rw [er]; exact s7 _ _ b6
      · have er : rowW (datR' t) = [codes t.2.1] ++ ([[40]] ++ (t.2.2.2.map codes) ++ [[41]]) := by simp [rowW, datR', he, brG]
        rw [er, ← List.append_assoc p4]
        refine iteT ⟨_, rfl, (by show 1 ≤ sizeLine; decide), fun l8 hl8 => ?_⟩
        rw [e40]
        have s8 := same_new hl8 (.lst [.str (S [40])])
        have b8 : upd X7 l8 (.lst [.str (S [40])]) l8 = some (.lst [.str (S [40])]) := upd_same
        generalize upd X7 l8 (.lst [.str (S [40])]) = X8 at s8 b8 ⊢
        have b68 := s8 _ _ (s7 _ _ b6)
        have hp6 : (p4 ++ [codes t.2.1]).length ≤ 402 := by simp only [List.length_append, List.length_cons, List.length_nil]; omega
        generalize p4 ++ [codes t.2.1] = p6 at b68 hp6 ⊢
        refine ⟨l6, l8, _, _, rfl, rfl, SqL.of b68, SqL.of b8, (by rw [Wl]; exact line_of (by show p6.length + 1 ≤ 5000; omega)), fun l9 hl9 => ?_⟩
        have e9 : W p6 ++ [.str (S [40])] = W (p6 ++ [[40]]) := by rw [W_app]; rfl
        rw [e9]
        have s9 := same_new hl9 (.lst (W (p6 ++ [[40]])))
        have b9 : upd X8 l9 (.lst (W (p6 ++ [[40]]))) l9 = some (.lst (W (p6 ++ [[40]]))) := upd_same
        generalize upd X8 l9 (.lst (W (p6 ++ [[40]]))) = X9 at s9 b9 ⊢
        have g9 := g7.trans (s8.trans s9)
        refine ⟨_, rfl, _, rfl, kd.2.2.1, _, _, _, rfl, rfl, g9.seq k2.1, hat, t.1, _, 1, _, rfl, rfl, g9.seqT r1, rfl, t.2.2.1, _, rfl, .inr (g9.seqT r2), fun la hla => ?_⟩
        have ea : t.2.2.2.map V.str = W (t.2.2.2.map codes) := (cod_strs t.2.2.2).symm
        rw [ea]
        have hbl : (t.2.2.2.map codes).length ≤ 4 := by rw [List.length_map]; exact h4
        generalize t.2.2.2.map codes = bw at hbl ⊢
        have sa := same_new hla (.lst (W bw))
        have ba : upd X9 la (.lst (W bw)) la = some (.lst (W bw)) := upd_same
        generalize upd X9 la (.lst (W bw)) = Xa at sa ba ⊢
        refine ⟨l9, la, _, _, rfl, rfl, SqL.of (sa _ _ b9), SqL.of ba, (by rw [Wl, Wl]; exact line_of (by simp only [List.length_append, List.length_cons, List.length_nil]; omega)), fun lb hlb => ?_⟩
        rw [← W_app]
        have sb := same_new hlb (.lst (W (p6 ++ [[40]] ++ bw)))
        have bb : upd Xa lb (.lst (W (p6 ++ [[40]] ++ bw))) lb = some (.lst (W (p6 ++ [[40]] ++ bw))) := upd_same
        generalize upd Xa lb (.lst (W (p6 ++ [[40]] ++ bw))) = Xb at sb bb ⊢
        refine ⟨(by show 1 ≤ sizeLine; decide), fun lc hlc => ?_⟩
        rw [e41]
        have sc := same_new hlc (.lst [.str (S [41])])
        have bc : upd Xb lc (.lst [.str (S [41])]) lc = some (.lst [.str (S [41])]) := upd_same
        generalize upd Xb lc (.lst [.str (S [41])]) = Xc at sc bc ⊢
        refine ⟨lb, lc, _, _, rfl, rfl, SqL.of (sc _ _ bb), SqL.of bc, (by rw [Wl]; exact line_of (by simp only [List.length_append, List.length_cons, List.length_nil]; omega)), fun ld hld => ?_⟩
        have sd := same_new hld (.lst (W (p6 ++ [[40]] ++ bw) ++ [.str (S [41])]))
        refine ⟨ld, _, rfl, g9.trans (sa.trans (sb.trans (sc.trans sd))), ?_⟩
        rw [upd_same]
        congr 2
        rw [show [V.str (S [41])] = W [[41]] from rfl, ← W_app]
        congr 1
        simp
    · rintro σ H2 ⟨l, c4, rfl, g2, hl⟩
      refine ⟨l, _, _, _, rfl, g2, ?_⟩
      rw [List.take_of_length_le (by rw [List.length_map]; exact Nat.le_refl _)] at hl
      rw [hpre]; exact hl
  · rintro σ H' ⟨l, c2, c3, c4, rfl, g, hl⟩
    rw [List.length_map] at hl
    rw [List.take_of_length_le (by rw [List.length_map]; exact Nat.le_refl _)] at hl
    refine ⟨_, rfl, _, rfl, l, _, rfl, SqL.of hl, fun p hp => ?_⟩
    have ec := L2.cutFrom (W (woodP (ks.map datK'))) 1
    have ec' : cutV (W (woodP (ks.map datK'))) (some 1) none = W ((woodP (ks.map datK')).drop 1) := by
      rw [show (some (1 : Int)) = some ((1 : Nat) : Int) from rfl, ec]
      exact List.map_drop.symm
    rw [ec']
    exact q p _ (g.trans (same_new hp _)) upd_same
end
end K7
namespace K7
open PySem L2 K3 TM K9
def P5 : Str := Str.ofString "();=|"
theorem p5_list : P5.cps.toList = [40, 41, 59, 61, 124] := by decide +kernel
theorem p5_no : ∀ c ∈ [40, 41, 59, 61, 124], c ∉ letL ∧ c ∉ figL ∧ c ∈ sgnL := by decide
theorem occ_sg {c : Nat} (h : c ∈ sg5) : (!(Builtin.Str.occurrences P5 (S [c]) 0 P5.length 1).isEmpty) = true := by
  rw [show S [c] = ⟨#[c]⟩ from rfl, in_one, p5_list]
  exact decide_eq_true h
theorem occ_nm {w : List Nat} (h : Nm w) : (!(Builtin.Str.occurrences P5 (S w) 0 P5.length 1).isEmpty) = false := by
  cases e : (!(Builtin.Str.occurrences P5 (S w) 0 P5.length 1).isEmpty) with
  | false => rfl
  | true =>
    exfalso
    obtain ⟨i, hi, hs⟩ := (PySem.StrLaws.found_iff P5 (S w)).mp e
    unfold Builtin.Str.subAt at hs
    have h1 : P5.cps.extract i (i + (S w).length) = (S w).cps := by simpa using hs
    have h2 := congrArg Array.toList h1
    rw [Array.toList_extract, p5_list, S_list] at h2
    cases w with
    | nil => exact h.ne rfl
    | cons c r =>
      have hc : c ∈ [40, 41, 59, 61, 124] := by
        have : c ∈ List.extract [40, 41, 59, 61, 124] i (i + (S (c :: r)).length) := by rw [h2]; exact List.mem_cons_self
        rw [List.extract_eq_take_drop] at this
        exact List.mem_of_mem_drop (List.mem_of_mem_take this)
      exact (p5_no c hc).1 (h.all c List.mem_cons_self)
theorem WJ.word {w : List Nat} (h : WJ w) : Word w := by
  rcases h with h | ⟨c, hc, rfl⟩
  · exact .name h.ne h.len h.all
  · exact .sign (p5_no c hc).2.2
theorem WJ.ne {w : List Nat} (h : WJ w) : w ≠ [] := h.word.ne
theorem WJ.len {w : List Nat} (h : WJ w) : w.length ≤ 8 := by
  rcases h with h | ⟨c, hc, rfl⟩
  · exact h.len
  · simp
theorem nofig : ∀ c ∈ letL, c ∉ figL := by decide
theorem sep_sgl {c : Nat} {w : List Nat} (hc : c ∈ sg5) : Sep [c] w := fun a b ha hb => by
  have : c = a := by simpa using ha
  subst this
  exact ⟨fun z => (p5_no c hc).1 z.1, fun z => (p5_no c hc).2.1 z.1⟩
theorem sep_sgr {c : Nat} {w : List Nat} (hc : c ∈ sg5) : Sep w [c] := fun a b ha hb => by
  have : c = b := by simpa using hb
  subst this
  exact ⟨fun z => (p5_no c hc).1 z.2, fun z => (p5_no c hc).2.1 z.2⟩
theorem three_cut {b : Nat} (h : b ≤ 3) : ([32, 32, 32] : List Nat).take b = List.replicate b 32 := by
  match b, h with
  | 0, _ => rfl
  | 1, _ => rfl
  | 2, _ => rfl
  | 3, _ => rfl
def spJoined (K : PySem.W.Frag) : Sp := fun vs H Q _ => ∃ (l : Addr) (ws : List (List Nat)) (b : Nat), vs = [.ref l, .int (b : Int)] ∧ SqL K H l (W ws) ∧ (∀ w ∈ ws, WJ w) ∧ ws.length ≤ 200 ∧ b ≤ 3 ∧ ∀ z, Writ z ws → z.length ≤ 5000 → Q (.str (S z)) H
section
variable {P : Program} {w : World} {K : PySem.W.Frag} {mg : Str → Option Value} {base : Heap} {f : Addr} {fd : FuncData}
theorem scJoined : FnScope ["_law_row", "_law_blanks", "_law_text", "_law_k", "_law_gap"] ["_law_row", "_law_blanks"] (defScope sJoined) := ⟨rfl, rfl, rfl, by decide +kernel, rfl, by decide +kernel, by decide +kernel⟩
theorem ok_joined (F : Fun K "_law_joined" "_law_joined" sJoined f fd) (G : Gm mg) : FnOk P w K mg base CX0 1 f fd ["_law_row", "_law_blanks"] (spJoined K) := by
  refine F.ok scJoined (fun vs H Q E h => ?_) (fun cdv A outer s H vs Q E hr h => ?_)
  · obtain ⟨l, ws, b, rfl, _⟩ := h
    rfl
  obtain ⟨l, ws, b, rfl, hl, hw, h200, hb, q⟩ := h
  refine ⟨_, (pss_cons (ps_set (i := 2) scJoined.nd rfl (Or.inl rfl) pe_str)
    (pss_cons (ps_for PassesOwn.never rfl (pi_range1 rfl G.rng (pa_cons (pe_callB call_len_seq rfl G.len PySem.boot_len (pa_cons (pv 0) pa_nil)) pa_nil)) (pg_name (i := 3) scJoined.nd rfl (Or.inl rfl)) (pss_cons (ps_set (i := 4) scJoined.nd rfl (Or.inl rfl) (pe_slice sl_str pe_str po_none (po_some (pv 1))))
    (pss_cons (ps_cut (ps_if (PW.pt (pw_and (pt_cmpR op_gt (pv 3) pe_int (nomark _)) (pw_and (pt_cmpR op_eq (pv 1) pe_int (nomark _)) (pw_and1 (pt_cmpR op_gt (pe_callB call_len_str rfl G.len PySem.boot_len (pa_cons (pe_op op_add_str (pe_ix ix_list (pv 0) (pv 3) (fun _ _ => rfl)) (pe_ix ix_list (pv 0) (pe_op op_sub (pv 3) pe_int) (fun _ _ => rfl))) pa_nil)) pe_int (nomark _))))))
        (pss_one (ps_if (PW.pt (pw_and (pt_cmpR op_notIn_str (pe_ix ix_list (pv 0) (pv 3) (fun _ _ => rfl)) pe_str rfl) (pw_and1 (pt_cmpR op_notIn_str (pe_ix ix_list (pv 0) (pe_op op_sub (pv 3) pe_int) (fun _ _ => rfl)) pe_str rfl)))) (pss_one (ps_set (i := 4) scJoined.nd rfl (Or.inl rfl) pe_str)) pss_nil)) pss_nil))
    (pss_one (ps_set (i := 2) scJoined.nd rfl (Or.inl rfl) (pe_op op_add_str (pe_op op_add_str (pv 2) (pv 4)) (pe_ix ix_list (pv 0) (pv 3) (fun _ _ => rfl))))))))
    (pss_one (ps_ret (pv 2))))), ?_⟩
  have Wl : (W ws).length = ws.length := List.length_map ..
  have e0 : Str.ofString "" = S [] := by decide +kernel
  have e3 : Str.ofString "   " = S [32, 32, 32] := by decide +kernel
  have e1 : Str.ofString " " = S [32] := by decide +kernel
  have at_ : ∀ (i : Nat) (h : i < ws.length), atI (W ws) (i : Int) = some (.str (S ws[i])) := fun i h => atI_nat (by unfold W; rw [List.getElem?_map, List.getElem?_eq_getElem h]; rfl)
  refine ⟨_, rfl, l, _, rfl, .inl hl, _, rfl, (by rw [Wl]; omega), (by rw [Wl]; omega), ?_⟩
  rw [Wl]
  refine for_range (lo := 0) (n := ws.length) (fun i σ H' => ∃ (z : List Nat) (c3 c4 : Option V), σ = [some (.ref l), some (.int (b : Int)), some (.str (S z)), c3, c4] ∧ H = H' ∧ Built z (ws.take i) ∧ z.length ≤ 12 * i)
    ⟨[], none, none, by rw [← e0]; rfl, rfl, Built.start, Nat.le_refl _⟩ ?_ ?_
  · rintro i σ H' hi ⟨z, c3, c4, rfl, rfl, hB, hz⟩
    have ez : (0 : Int) + (i : Int) = (i : Int) := by omega
    rw [ez]
    have hwi := hw ws[i] (List.getElem_mem hi)
    refine ⟨_, rfl, _, rfl, Str.ofString "   ", rfl, (by decide), ?_⟩
    rw [e3, cutTo, three_cut hb]
    refine ⟨fun σ' H' => ∃ k : Nat, σ' = [some (.ref l), some (.int (b : Int)), some (.str (S z)), some (.int (i : Int)), some (.str (S (List.replicate k 32)))] ∧ H = H' ∧ k ≤ 3 ∧ (k = 0 → ∀ u, (ws.take i).getLast? = some u → Sep u ws[i]), ?_, ?_⟩
    · have els : (b = 0 → i = 0) → ∃ k : Nat, [some (V.ref l), some (.int (b : Int)), some (.str (S z)), some (.int (i : Int)), some (.str (S (List.replicate b 32)))] = [some (V.ref l), some (.int (b : Int)), some (.str (S z)), some (.int (i : Int)), some (.str (S (List.replicate k 32)))] ∧ H = H ∧ k ≤ 3 ∧ (k = 0 → ∀ u, (ws.take i).getLast? = some u → Sep u ws[i]) := fun h0 => ⟨b, rfl, rfl, hb, fun z0 u hu => by
        rw [h0 z0] at hu; simp at hu⟩
      refine ⟨_, rfl, _, _, rfl, rfl, _, rfl, ite2 (fun g1 => ?_) (fun g1 => ?_)⟩
      · have hi0 : (0 : Int) < (i : Int) := of_decide_eq_true g1
        refine ⟨_, rfl, rfl, _, rfl, ite2 (fun g2 => ?_) (fun g2 => ?_)⟩
        · have hb0 : b = 0 := by
            have := of_decide_eq_true g2
            injection this with this
            omega
          obtain ⟨j, rfl⟩ : ∃ j, i = j + 1 := ⟨i - 1, by omega⟩
          have hj : j < ws.length := by omega
          have ej : ((j + 1 : Nat) : Int) - 1 = (j : Int) := by omega
          have hwj := hw ws[j] (List.getElem_mem hj)
          have hlst : ∀ u, (ws.take (j + 1)).getLast? = some u → u = ws[j] := fun u hu => by
            rw [List.take_add_one, List.getElem?_eq_getElem hj, Option.toList_some, List.getLast?_concat] at hu
            exact (Option.some.inj hu).symm
          have n1 := List.length_pos_iff.mpr hwi.ne
          have n2 := List.length_pos_iff.mpr hwj.ne
          have m1 := hwi.len
          have m2 := hwj.len
          have atj : atI (W ws) (((j + 1 : Nat) : Int) - 1) = some (.str (S ws[j])) := by rw [ej]; exact at_ j hj
          refine ⟨_, rfl, _, rfl, l, _, _, _, rfl, rfl, hl, at_ _ hi, _, rfl, _, rfl, _, _, rfl, rfl, l, _, _, _, rfl, rfl, hl, atj, _, _, rfl, rfl, (by rw [S_len, S_len]; exact line_of (by omega)), _, rfl, (by rw [S_app, S_len]; exact line_of (by rw [List.length_append]; omega)), _, _, rfl, rfl, _, rfl, iteP (by rw [S_app, S_len, List.length_append]; omega) ?_⟩
          have skip : (∃ c ∈ sg5, ws[j + 1] = [c]) ∨ (∃ c ∈ sg5, ws[j] = [c]) → ∃ k : Nat, [some (V.ref l), some (.int (b : Int)), some (.str (S z)), some (.int ((j + 1 : Nat) : Int)), some (.str (S (List.replicate b 32)))] = [some (V.ref l), some (.int (b : Int)), some (.str (S z)), some (.int ((j + 1 : Nat) : Int)), some (.str (S (List.replicate k 32)))] ∧ H = H ∧ k ≤ 3 ∧ (k = 0 → ∀ u, (ws.take (j + 1)).getLast? = some u → Sep u ws[j + 1]) := fun hc => ⟨b, rfl, rfl, hb, fun _ u hu => by
            rw [hlst u hu]
            rcases hc with ⟨c, hc, e⟩ | ⟨c, hc, e⟩
            · rw [e]; exact sep_sgr hc
            · rw [e]; exact sep_sgl hc⟩
          refine ⟨_, rfl, _, rfl, l, _, _, _, rfl, rfl, hl, at_ _ hi, _, _, rfl, rfl, _, rfl, ?_⟩
          rcases hwi with hn1 | hs1
          · have := occ_nm hn1
            rw [P5] at this
            rw [this]
            refine iteT ⟨_, rfl, _, rfl, _, _, rfl, rfl, l, _, _, _, rfl, rfl, hl, atj, _, _, rfl, rfl, _, rfl, ?_⟩
            rcases hwj with hn2 | hs2
            · have := occ_nm hn2
              rw [P5] at this
              rw [this]
              exact iteT ⟨1, by rw [e1]; rfl, rfl, by decide, fun h => absurd h (by decide)⟩
            · obtain ⟨c, hc, e⟩ := hs2
              have := occ_sg hc
              rw [P5] at this
              rw [e, this]
              exact iteF (skip (.inr ⟨c, hc, e⟩))
          · obtain ⟨c, hc, e⟩ := hs1
            have := occ_sg hc
            rw [P5] at this
            rw [e, this]
            have sk := skip (.inl ⟨c, hc, e⟩)
            rw [e] at sk
            exact iteF sk
        · exact els fun h => absurd (decide_eq_true (by rw [h]; rfl)) g2
      · exact els fun _ => by
          have : ¬ (0 : Int) < (i : Int) := fun z => g1 (decide_eq_true z)
          omega
    · rintro σ' H' ⟨k, rfl, rfl, hk, hs⟩
      have hwl := hwi.len
      refine ⟨_, rfl, _, rfl, _, _, rfl, rfl, (by rw [S_len, S_len]; exact line_of (by rw [List.length_replicate]; omega)), _, rfl, _, rfl, l, _, _, _, rfl, rfl, hl, at_ i hi, _, _, rfl, rfl, (by rw [S_app, S_len, S_len]; exact line_of (by rw [List.length_append, List.length_replicate]; omega)), ?_⟩
      rw [S_app, S_app]
      refine ⟨_, _, _, rfl, rfl, ?_, ?_⟩
      · rw [List.take_add_one, List.getElem?_eq_getElem hi]
        exact hB.turn hwi.word k hs
      · simp only [List.length_append, List.length_replicate]; omega
  · rintro σ H' ⟨z, c3, c4, rfl, rfl, hB, hz⟩
    rw [List.take_length] at hB
    have := hB.all 0
    rw [List.replicate_zero, List.append_nil] at this
    exact ⟨_, rfl, q z this (by omega)⟩
end
end K7
namespace L2
open PySem PySem.Spec PyProof.Rows
section
variable {X : Cx}
theorem call_isSq : CallR X (.builtin "isinstance") (fun xs H Q => ∃ (a : Addr) (ys : List V), (xs = [.ref a, .ty "list"] ∧ SqL X.K H a ys ∨ xs = [.ref a, .ty "tuple"] ∧ SqT X.K H a ys) ∧ Q (.bl true) H) := by
  intro pins s σ H xs us Q I r h
  obtain ⟨a, ys, h, q⟩ := h
  rcases h with ⟨rfl, hq⟩ | ⟨rfl, hq⟩
  · obtain ⟨u, c, rfl, rx, rc⟩ := vals2 r
    cases (show u = Value.ref a from rx)
    cases (show c = Value.type "list" from rc)
    obtain ⟨its, _, pl, _⟩ := I.list hq
    obtain ⟨o, h1, h2, _⟩ := pl.isList
    exact PySem.W.kia_one (b := true) PySem.W.kitx_list I.kIn ⟨o, h1, h2⟩ rfl (fun z => nomatch z) fun tk => ⟨.bl true, H, I.tok tk, rfl, q⟩
  · obtain ⟨u, c, rfl, rx, rc⟩ := vals2 r
    cases (show u = Value.ref a from rx)
    cases (show c = Value.type "tuple" from rc)
    obtain ⟨its, _, pl, _⟩ := I.tuple hq
    obtain ⟨o, h1, h2, _⟩ := pl
    exact PySem.W.kia_one (b := true) PySem.W.kitx_tuple I.kIn ⟨o, h1, h2⟩ rfl (fun z => nomatch z) fun tk => ⟨.bl true, H, I.tok tk, rfl, q⟩
end
end L2
namespace K7
open PySem L2 K3 TM K9
def pyR (r : RowD) : PyData := .tuple [.str (S r.1), .tuple ((r.2.map S).map .str)]
def pyK (k : KindD) : PyData := .tuple [.str (S k.1), .list (k.2.map pyR)]
def pyW (D : List KindD) : PyData := .list (D.map pyK)
theorem cod_S (xs : List Str) : (xs.map codes).map S = xs := by
  rw [List.map_map]
  have : (S ∘ codes) = id := funext fun x => S_self x
  rw [this, List.map_id]
theorem rd_rows {K : PySem.W.Frag} {H : Hp} : ∀ {rs : List PNx}, (∀ t ∈ rs, RowAt K H t) → RdAll K H (rs.map fun t => V.ref t.1) ((rs.map datR').map pyR)
  | [], _ => .nil
  | t :: r, h => by
    refine .cons ?_ (rd_rows fun u hu => h u (List.mem_cons_of_mem _ hu))
    obtain ⟨h1, h2⟩ := h t List.mem_cons_self
    show RdV K H (.ref t.1) (.tuple [.str (S (codes t.2.1)), .tuple (((t.2.2.2.map codes).map S).map .str)])
    rw [cod_S, codes, S_self]
    exact .tup h1 (.cons (.str _) (.cons (.tup h2 (rd_strs _)) .nil))
theorem rd_kinds {K : PySem.W.Frag} {H : Hp} : ∀ {ks : List KdT}, (∀ k ∈ ks, SqT K H k.1 [.str k.2.1, .ref k.2.2.1] ∧ RowsL K H k.2.2.1 k.2.2.2) → RdAll K H (ks.map fun k => V.ref k.1) ((ks.map datK').map pyK)
  | [], _ => .nil
  | k :: r, h => by
    refine .cons ?_ (rd_kinds fun u hu => h u (List.mem_cons_of_mem _ hu))
    obtain ⟨h1, h2⟩ := h k List.mem_cons_self
    show RdV K H (.ref k.1) (.tuple [.str (S (codes k.2.1)), .list ((k.2.2.2.map datR').map pyR)])
    rw [codes, S_self]
    exact .tup h1 (.cons (.str _) (.cons (.lst h2.1 (rd_rows h2.2)) .nil))
structure NmW (D : List KindD) : Prop where
  k : ∀ k ∈ D, Nm k.1
  r : ∀ k ∈ D, ∀ r ∈ k.2, Nm r.1
  b : ∀ k ∈ D, ∀ r ∈ k.2, ∀ x ∈ r.2, Nm x
theorem nm_ok {w : List Nat} (h : Nm w) : PyData.strOk (S w) = true := ok_low fun c hc => let_low c (h.all c hc)
theorem lay_rowsW : ∀ {rs : List RowD}, (∀ r ∈ rs, Nm r.1 ∧ ∀ x ∈ r.2, Nm x) → PyData.canLayAll0 (rs.map pyR) = true
  | [], _ => by simp [PyData.canLayAll0]
  | r :: rs, h => by
    have h1 := nm_ok (h r List.mem_cons_self).1
    have h2 : PyData.canLayAll0 ((r.2.map S).map PyData.str) = true := lay_strs _ fun x hx => by obtain ⟨y, hy, rfl⟩ := List.mem_map.mp hx; exact nm_ok ((h r List.mem_cons_self).2 y hy)
    simp only [List.map_cons, PyData.canLayAll0, pyR, PyData.canLay0, h1, h2, Bool.and_self, Bool.true_and]
    exact lay_rowsW fun u hu => h u (List.mem_cons_of_mem _ hu)
theorem lay_kindsW : ∀ {D : List KindD}, (∀ k ∈ D, Nm k.1 ∧ ∀ r ∈ k.2, Nm r.1 ∧ ∀ x ∈ r.2, Nm x) → PyData.canLayAll0 (D.map pyK) = true
  | [], _ => by simp [PyData.canLayAll0]
  | k :: D, h => by
    have h1 := nm_ok (h k List.mem_cons_self).1
    have h2 := lay_rowsW (h k List.mem_cons_self).2
    simp only [List.map_cons, PyData.canLayAll0, pyK, PyData.canLay0, h1, h2, Bool.and_self, Bool.true_and]
    exact lay_kindsW fun u hu => h u (List.mem_cons_of_mem _ hu)
theorem NmW.lay {D : List KindD} (h : NmW D) : (pyW D).canLay0 = true := by
  show PyData.canLayAll0 _ = true
  exact lay_kindsW fun k hk => ⟨h.k k hk, fun r hr => ⟨h.r k hk r hr, h.b k hk r hr⟩⟩
theorem depth_rowsW : ∀ rs : List RowD, PyData.depthAll (rs.map pyR) ≤ 2
  | [] => by simp [PyData.depthAll]
  | r :: rs => by
    have := depth_rowsW rs
    simp only [List.map_cons, PyData.depthAll, pyR, PyData.depth, depth_strs]
    omega
theorem depth_kindsW : ∀ D : List KindD, PyData.depthAll (D.map pyK) ≤ 4
  | [] => by simp [PyData.depthAll]
  | k :: D => by
    have h1 := depth_kindsW D
    have h2 := depth_rowsW k.2
    simp only [List.map_cons, PyData.depthAll, pyK, PyData.depth]
    omega
theorem depth_wood (D : List KindD) : (pyW D).depth ≤ 5 := by
  have := depth_kindsW D
  show PyData.depthAll _ + 1 ≤ 5
  omega
def spKinds (K : PySem.W.Frag) : Sp := fun vs H Q _ => ∃ (la lb : Addr) (hs ks : List KdT), vs = [.ref la, .ref lb] ∧ WoodAt K H la hs ∧ WoodAt K H lb ks ∧ hs.map datK' = ks.map datK' ∧ NmW (ks.map datK') ∧ Q (.bl true) H
section
variable {P : Program} {w : World} {K : PySem.W.Frag} {mg : Str → Option Value} {base : Heap} {f : Addr} {fd : FuncData}
theorem scKinds : FnScope ["_law_found", "_law_due", "_law_kind", "_law_rows", "_law_row"] ["_law_found", "_law_due"] (defScope sKinds) := ⟨rfl, rfl, rfl, by decide +kernel, rfl, by decide +kernel, by decide +kernel⟩
theorem ok_kinds (F : Fun K "_law_kinds" "_law_kinds" sKinds f fd) (G : Gm mg) : FnOk P w K mg base CX0 1 f fd ["_law_found", "_law_due"] (spKinds K) := by
  refine F.ok scKinds (fun vs H Q E h => ?_) (fun cdv A outer s H vs Q E hr h => ?_)
  · obtain ⟨la, lb, hs, ks, rfl, _⟩ := h
    rfl
  obtain ⟨la, lb, hs, ks, rfl, hA, hB, he, hN, q⟩ := h
  refine ⟨_, (pss_cons (ps_if (PW.pt (pw_or (pt_not (pt_val (pe_callB call_isSq rfl G.isi PyProof.Rows.boot_isinstance (pa_cons (pv 0) (pa_cons (pe_bltn (v := .ty "list") rfl G.lst PyProof.Rows.boot_list rfl) pa_nil))))) (pw_or1 (pt_cmpR op_neD (pv 0) (pv 1) (nomark _))))) (pss_one (ps_ret pe_bl)) pss_nil)
    (pss_cons (ps_for PassesOwn.never rfl (pi_list (pv 0)) (pg_tup rfl (pgs_cons (pg_name (i := 2) scKinds.nd rfl (Or.inl rfl)) (pgs_cons (pg_name (i := 3) scKinds.nd rfl (Or.inl rfl)) pgs_nil))) (pss_cons (ps_if (pt_not (pt_val (pe_callB call_isSq rfl G.isi PyProof.Rows.boot_isinstance (pa_cons (pv 3) (pa_cons (pe_bltn (v := .ty "list") rfl G.lst PyProof.Rows.boot_list rfl) pa_nil))))) (pss_one (ps_ret pe_bl)) pss_nil)
    (pss_one (ps_for PassesOwn.never rfl (pi_list (pv 3)) (pg_name (i := 4) scKinds.nd rfl (Or.inl rfl)) (pss_one (ps_if (PW.pt (pw_or (pt_not (pt_val (pe_callB call_isSq rfl G.isi PyProof.Rows.boot_isinstance (pa_cons (pv 4) (pa_cons (pe_bltn (v := .ty "tuple") rfl G.tup PyProof.Rows.boot_tuple rfl) pa_nil))))) (pw_or1 (pt_not (pt_val (pe_callB call_isSq rfl G.isi PyProof.Rows.boot_isinstance (pa_cons (pe_ix ix_tup (pv 4) pe_int (fun _ _ => rfl)) (pa_cons (pe_bltn (v := .ty "tuple") rfl G.tup PyProof.Rows.boot_tuple rfl) pa_nil)))))))) (pss_one (ps_ret pe_bl)) pss_nil))))))
    (pss_one (ps_ret pe_bl)))), ?_⟩
  have room : ∀ n : Nat, n ≤ 8 → (A.deeper (PyProof.Rows.envOfC "_law_kinds" (defScope sKinds) s.heap.objs.size f cdv)).units + n < cLine := fun n hn => by have := hr.units; omega
  have hlay := hN.lay
  have hdep := depth_wood (ks.map datK')
  refine ⟨_, rfl, la, _, .inl ⟨rfl, hA.1⟩, _, rfl, iteF ?_⟩
  refine ⟨_, rfl, _, rfl, pyW (hs.map datK'), pyW (ks.map datK'), .lst hA.1 (rd_kinds hA.2), .lst hB.1 (rd_kinds hB.2), (by rw [he]; exact hlay), hlay, room _ (Nat.le_trans (Nat.min_le_right _ _) (by omega)), _, rfl, ?_⟩
  rw [if_pos rfl, he, eqv_self _ hlay]
  refine iteF ?_
  refine ⟨_, rfl, la, rfl, ⟨_, hA.1⟩, ?_⟩
  refine for_list (K := K) (xs := hs.map fun k => V.ref k.1) (fun i σ H' => ∃ c2 c3 c4 : Option V, σ = [some (.ref la), some (.ref lb), c2, c3, c4] ∧ H = H') ⟨none, none, none, rfl, rfl⟩ ?_ ?_ ?_
  · rintro i σ H' _ ⟨_, _, _, _, rfl⟩
    exact hA.1
  · rintro i x σ H' hx ⟨c2, c3, c4, rfl, rfl⟩
    have hi : i < hs.length := by have := (List.getElem?_eq_some_iff.mp hx).1; rw [List.length_map] at this; exact this
    obtain rfl : x = .ref hs[i].1 := by
      rw [List.getElem?_map, List.getElem?_eq_getElem hi] at hx
      exact (Option.some.inj hx).symm
    obtain ⟨k1, k2⟩ := hA.2 hs[i] (List.getElem_mem hi)
    refine ⟨_, _, rfl, k1, rfl, _, _, rfl, _, _, rfl, rfl, _, rfl, _, _, .inl ⟨rfl, k2.1⟩, _, rfl, iteF ?_⟩
    refine ⟨_, rfl, _, rfl, ⟨_, k2.1⟩, ?_⟩
    refine for_list (K := K) (xs := hs[i].2.2.2.map fun t => V.ref t.1) (fun j σ H' => ∃ c4 : Option V, σ = [some (.ref la), some (.ref lb), some (.str hs[i].2.1), some (.ref hs[i].2.2.1), c4] ∧ H = H') ⟨c4, rfl, rfl⟩ ?_ ?_ ?_
    · rintro j σ H' _ ⟨_, _, rfl⟩
      exact k2.1
    · rintro j x σ H' hx ⟨c4, rfl, rfl⟩
      have hj : j < hs[i].2.2.2.length := by have := (List.getElem?_eq_some_iff.mp hx).1; rw [List.length_map] at this; exact this
      obtain rfl : x = .ref hs[i].2.2.2[j].1 := by
        rw [List.getElem?_map, List.getElem?_eq_getElem hj] at hx
        exact (Option.some.inj hx).symm
      obtain ⟨r1, r2⟩ := k2.2 hs[i].2.2.2[j] (List.getElem_mem hj)
      refine ⟨_, rfl, _, _, .inr ⟨rfl, r1⟩, _, rfl, iteF ⟨_, rfl, _, _, 1, _, rfl, rfl, r1, rfl, _, _, .inr ⟨rfl, r2⟩, _, rfl, iteF ?_⟩⟩
      exact ⟨_, rfl, rfl⟩
    · rintro σ H' ⟨c4, rfl, rfl⟩
      exact ⟨_, _, _, rfl, rfl⟩
  · rintro σ H' ⟨_, _, _, rfl, rfl⟩
    exact q
end
end K7
namespace K7
open PySem L2 K3 TM K9
theorem SrtR.det {rs a b : List RowD} (hn : (rs.map fun r => r.1).Nodup) (ha : SrtR rs a) (hb : SrtR rs b) : a = b := by
  refine List.Perm.eq_of_pairwise (le := fun x y => ¬ y.1 < x.1) (fun x y hx hy h1 h2 => ?_) ha.2 hb.2 (ha.1.trans hb.1.symm)
  have e : x.1 = y.1 := by
    have l1 : x.1 ≤ y.1 := List.not_lt.mp h1
    have l2 : y.1 ≤ x.1 := List.not_lt.mp h2
    exact List.le_antisymm l1 l2
  have mx := ha.1.mem_iff.mp hx
  have my := hb.1.mem_iff.mp hy
  obtain ⟨i, hi, rfl⟩ := List.mem_iff_getElem.mp mx
  obtain ⟨j, hj, rfl⟩ := List.mem_iff_getElem.mp my
  have : i = j := (List.getElem_inj (xs := rs.map fun r => r.1) (h₀ := by simpa using hi) (h₁ := by simpa using hj) hn).mp (by rw [List.getElem_map, List.getElem_map]; exact e)
  subst this; rfl
theorem SrtW.det {D A B : List KindD} (hn : ∀ k ∈ D, (k.2.map fun r => r.1).Nodup) (ha : SrtW D A) (hb : SrtW D B) : A = B := by
  induction ha generalizing B with
  | nil => cases hb; rfl
  | @cons k o D' O h1 h2 ih =>
    cases hb with
    | @cons _ o' _ O' g1 g2 =>
      have e1 : o = o' := by
        have := SrtR.det (hn k List.mem_cons_self) h1.2 g1.2
        exact Prod.ext (h1.1.symm.trans g1.1) this
      rw [e1, ih (fun k hk => hn k (List.mem_cons_of_mem _ hk)) g2]
theorem SrtW.again {D A : List KindD} (h : SrtW D A) : SrtW A A := by
  induction h with
  | nil => exact .nil
  | cons h1 h2 ih => exact .cons ⟨rfl, List.Perm.refl _, h1.2.2⟩ ih
theorem SrtW.names {D A : List KindD} (h : SrtW D A) : A.map (fun k => k.1) = D.map fun k => k.1 := by
  induction h with
  | nil => rfl
  | cons h1 h2 ih => rw [List.map_cons, List.map_cons, ih, h1.1]
theorem SrtW.sum {D A : List KindD} (h : SrtW D A) : A.map (fun k => k.2.length) = D.map fun k => k.2.length := by
  induction h with
  | nil => rfl
  | cons h1 h2 ih => rw [List.map_cons, List.map_cons, ih, h1.2.1.length_eq]
theorem SrtW.mem {D A : List KindD} (h : SrtW D A) : ∀ k ∈ A, ∃ d ∈ D, SrtK d k := by
  induction h with
  | nil => intro k hk; cases hk
  | @cons d o D' O h1 h2 ih =>
    intro k hk
    rcases List.mem_cons.mp hk with rfl | hk
    · exact ⟨d, List.mem_cons_self, h1⟩
    · obtain ⟨e, he, h⟩ := ih k hk
      exact ⟨e, List.mem_cons_of_mem _ he, h⟩
theorem GoodW.srt {D A : List KindD} (h : GoodW D) (s : SrtW D A) : GoodW A := by
  have hl : A.length = D.length := by have := congrArg List.length s.names; simpa using this
  refine ⟨by rw [hl]; exact h.len, by rw [hl]; exact h.pos, by rw [s.sum]; exact h.sum, fun k hk r hr => ?_, by rw [s.names]; exact h.nd, fun k hk => ?_, fun k hk r hr x hx => ?_, fun k hk => ?_, fun k hk => ?_, fun k hk r hr => ?_⟩
  all_goals obtain ⟨d, hd, s1, s2⟩ := s.mem k hk
  · exact h.few d hd r (s2.1.mem_iff.mp hr)
  · exact (s2.1.map _).nodup_iff.mpr (h.rnd d hd)
  · rw [s.names]; exact h.ins d hd r (s2.1.mem_iff.mp hr) x hx
  · obtain ⟨r, hr, e⟩ := h.leaf d hd
    exact ⟨r, s2.1.mem_iff.mpr hr, e⟩
  · rw [← s1]; exact h.nmK d hd
  · exact h.nmR d hd r (s2.1.mem_iff.mp hr)
theorem GoodW.nmW {D : List KindD} (h : GoodW D) : NmW D := ⟨h.nmK, h.nmR, fun k hk r hr x hx => by
  obtain ⟨k2, hk2, e⟩ := List.mem_map.mp (h.ins k hk r hr x hx)
  rw [← e]; exact h.nmK k2 hk2⟩
def En (rest : List Nat) : Prop := ∀ c, rest[0]? = some c → c ∉ letL
theorem En.nil : En [] := fun c h => by simp at h
theorem En.cons {c : Nat} {r : List Nat} (h : c ∉ letL) : En (c :: r) := fun d e => by
  have : c = d := by simpa using e
  rw [← this]; exact h
def WrT (x : List Nat) (a : List (List Nat)) : Prop := ∀ rest ws, Writ rest ws → En rest → Writ (x ++ rest) (a ++ ws)
theorem wr_nm {w : List Nat} (h : Nm w) : WrT w [w] := fun rest ws hw he => .word (.name h.ne h.len h.all) (fun a b ha hb => by
  have hla : a ∈ letL := h.all a (List.mem_of_getLast? ha)
  exact ⟨fun z => he b hb z.2, fun z => nofig a hla z.1⟩) hw
theorem wr_sg {c : Nat} (hc : c ∈ sg5) {rest : List Nat} {ws : List (List Nat)} (h : Writ rest ws) : Writ (c :: rest) ([c] :: ws) := .word (w := [c]) (.sign (p5_no c hc).2.2) (sep_sgl hc) h
theorem gl_two (sep x y : List Nat) (r : List (List Nat)) : gl sep (x :: y :: r) = x ++ (sep ++ gl sep (y :: r)) := by
  simp [gl, List.flatMap_cons, List.append_assoc]
theorem wr_gl : ∀ (b : List Nat) (bs : List (List Nat)), (∀ x ∈ b :: bs, Nm x) → WrT (gl [32] (b :: bs)) (b :: bs)
  | b, [], h => by
    have : gl [32] [b] = b := by simp [gl]
    rw [this]; exact wr_nm (h b List.mem_cons_self)
  | b, c :: bs, h => fun rest ws hw he => by
    rw [gl_two, List.append_assoc]
    have ih := wr_gl c bs (fun x hx => h x (List.mem_cons_of_mem _ hx)) rest ws hw he
    exact wr_nm (h b List.mem_cons_self) _ _ (.blank ih) (En.cons (by decide))
def shRD (r : RowD) : List Nat := r.1 ++ shB r.2
def shRsD (rs : List RowD) : List Nat := gl [32, 124, 32] (rs.map shRD)
def shKD (k : KindD) : List Nat := k.1 ++ [32, 61, 32] ++ shRsD k.2
def shWD (D : List KindD) : List Nat := gl [59, 32] (D.map shKD)
theorem sh_rows (rs : List PNx) : shRs rs = shRsD (rs.map datR') := by
  unfold shRs shRsD
  rw [List.map_map]; rfl
theorem sh_wood (ks : List KdT) : shW ks = shWD (ks.map datK') := by
  unfold shW shWD
  rw [List.map_map]
  congr 1
  refine List.map_congr_left fun k _ => ?_
  show codes k.2.1 ++ [32, 61, 32] ++ shRs k.2.2.2 = codes k.2.1 ++ [32, 61, 32] ++ shRsD (k.2.2.2.map datR')
  rw [sh_rows]
theorem wr_row {r : RowD} (h : Nm r.1) (hb : ∀ x ∈ r.2, Nm x) : WrT (shRD r) (rowW r) := fun rest ws hw he => by
  unfold shRD rowW
  cases e : r.2 with
  | nil => simp only [shB, brG, List.append_nil]; exact wr_nm h _ _ hw he
  | cons b bs =>
    have hg := wr_gl b bs (by rw [← e]; exact hb)
    have h1 := hg (41 :: rest) ([41] :: ws) (wr_sg (by decide) hw) (En.cons (by decide))
    have h2 := wr_sg (c := 40) (by decide) h1
    have h3 := wr_nm h _ _ h2 (En.cons (by decide))
    have e1 : r.1 ++ shB (b :: bs) ++ rest = r.1 ++ 40 :: (gl [32] (b :: bs) ++ 41 :: rest) := by simp [shB]
    have e2 : (r.1 :: brG (b :: bs) (b :: bs)) ++ ws = [r.1] ++ [40] :: ((b :: bs) ++ [41] :: ws) := by simp [brG]
    rw [e1, e2]; exact h3
theorem wr_rows : ∀ (r : RowD) (rs : List RowD), (∀ x ∈ r :: rs, Nm x.1 ∧ ∀ b ∈ x.2, Nm b) → WrT (shRsD (r :: rs)) (rowsW (r :: rs))
  | r, [], h => by
    have e1 : shRsD [r] = shRD r := by simp [shRsD, gl]
    have e2 : rowsW [r] = rowW r := by simp [rowsW]
    rw [e1, e2]; exact wr_row (h r List.mem_cons_self).1 (h r List.mem_cons_self).2
  | r, s :: rs, h => fun rest ws hw he => by
    have ih := wr_rows s rs (fun x hx => h x (List.mem_cons_of_mem _ hx)) rest ws hw he
    have e1 : shRsD (r :: s :: rs) ++ rest = shRD r ++ (32 :: 124 :: 32 :: (shRsD (s :: rs) ++ rest)) := by
      unfold shRsD; rw [List.map_cons, List.map_cons, gl_two]; simp
    have e2 : rowsW (r :: s :: rs) ++ ws = rowW r ++ ([124] :: (rowsW (s :: rs) ++ ws)) := by simp [rowsW]
    rw [e1, e2]
    exact wr_row (h r List.mem_cons_self).1 (h r List.mem_cons_self).2 _ _ (.blank (wr_sg (by decide) (.blank ih))) (En.cons (by decide))
theorem wr_kind {k : KindD} (h : Nm k.1) (hr : ∀ x ∈ k.2, Nm x.1 ∧ ∀ b ∈ x.2, Nm b) (hne : k.2 ≠ []) : WrT (shKD k) (kindW k) := fun rest ws hw he => by
  unfold shKD kindW
  cases e : k.2 with
  | nil => exact absurd e hne
  | cons r rs =>
    have h1 := wr_rows r rs (by rw [← e]; exact hr) rest ws hw he
    have e1 : k.1 ++ [32, 61, 32] ++ shRsD (r :: rs) ++ rest = k.1 ++ (32 :: 61 :: 32 :: (shRsD (r :: rs) ++ rest)) := by simp
    have e2 : (k.1 :: [61] :: rowsW (r :: rs)) ++ ws = [k.1] ++ ([61] :: (rowsW (r :: rs) ++ ws)) := by simp
    rw [e1, e2]
    exact wr_nm h _ _ (.blank (wr_sg (by decide) (.blank h1))) (En.cons (by decide))
theorem wr_wood : ∀ (k : KindD) (D : List KindD), (∀ x ∈ k :: D, WrT (shKD x) (kindW x)) → WrT (shWD (k :: D)) ((woodP (k :: D)).drop 1)
  | k, [], h => by
    have e1 : shWD [k] = shKD k := by simp [shWD, gl]
    have e2 : (woodP [k]).drop 1 = kindW k := by simp [woodP]
    rw [e1, e2]; exact h k List.mem_cons_self
  | k, s :: D, h => fun rest ws hw he => by
    have ih := wr_wood s D (fun x hx => h x (List.mem_cons_of_mem _ hx)) rest ws hw he
    have e1 : shWD (k :: s :: D) ++ rest = shKD k ++ (59 :: 32 :: (shWD (s :: D) ++ rest)) := by
      unfold shWD; rw [List.map_cons, List.map_cons, gl_two]; simp
    have e2 : (woodP (k :: s :: D)).drop 1 ++ ws = kindW k ++ ([59] :: ((woodP (s :: D)).drop 1 ++ ws)) := by simp [woodP]
    rw [e1, e2]
    exact h k List.mem_cons_self _ _ (wr_sg (by decide) (.blank ih)) (En.cons (by decide))
theorem GoodW.writ {D : List KindD} (h : GoodW D) : Writ (shWD D) ((woodP D).drop 1) := by
  have hk : ∀ x ∈ D, WrT (shKD x) (kindW x) := fun k hk => wr_kind (h.nmK k hk) (fun r hr => ⟨h.nmR k hk r hr, h.nmW.b k hk r hr⟩) (by
    obtain ⟨r, hr, _⟩ := h.leaf k hk
    intro e; rw [e] at hr; cases hr)
  cases e : D with
  | nil => have := h.pos; rw [e] at this; cases this
  | cons k ks =>
    have := wr_wood k ks (by rw [← e]; exact hk) [] [] .nil En.nil
    simpa using this
theorem gl_bound (sep : List Nat) (m : Nat) : ∀ xs : List (List Nat), (∀ x ∈ xs, x.length ≤ m) → (gl sep xs).length ≤ xs.length * (m + sep.length)
  | [], _ => by simp [gl]
  | [x], h => by
    have := h x List.mem_cons_self
    simp [gl]; omega
  | x :: y :: r, h => by
    have h1 := h x List.mem_cons_self
    have h2 := gl_bound sep m (y :: r) fun z hz => h z (List.mem_cons_of_mem _ hz)
    rw [gl_two, List.length_append, List.length_append]
    simp only [List.length_cons] at h2 ⊢
    rw [Nat.succ_mul (r.length + 1)]
    omega
theorem shRD_len {r : RowD} (h : Nm r.1) (hb : ∀ x ∈ r.2, Nm x) (h4 : r.2.length ≤ 4) : (shRD r).length ≤ 46 := by
  have h1 := h.len
  have h2 : (shB r.2).length ≤ 38 := by
    cases e : r.2 with
    | nil => simp [shB]
    | cons b bs =>
      have := gl_bound [32] 8 (b :: bs) fun x hx => (hb x (by rw [e]; exact hx)).len
      rw [e] at h4
      have h5 : (b :: bs).length * (8 + [32].length) ≤ 4 * 9 := Nat.mul_le_mul_right _ h4
      simp only [shB, List.length_append, List.length_cons, List.length_nil] at this h5 ⊢
      omega
  unfold shRD
  rw [List.length_append]; omega
theorem shKD_len {D : List KindD} (h : GoodW D) {k : KindD} (hk : k ∈ D) : (shKD k).length ≤ 800 := by
  have h1 := (h.nmK k hk).len
  have h2 := gl_bound [32, 124, 32] 46 (k.2.map shRD) fun x hx => by
    obtain ⟨r, hr, rfl⟩ := List.mem_map.mp hx
    exact shRD_len (h.nmR k hk r hr) (h.nmW.b k hk r hr) (h.few k hk r hr)
  have h3 := h.rows16 hk
  rw [List.length_map] at h2
  have h5 : k.2.length * (46 + [32, 124, 32].length) ≤ 16 * 49 := Nat.mul_le_mul_right _ h3
  unfold shKD shRsD
  simp only [List.length_append, List.length_cons, List.length_nil] at h2 h5 ⊢
  omega
theorem shWD_len {D : List KindD} (h : GoodW D) : (shWD D).length ≤ 5000 := by
  have h2 := gl_bound [59, 32] 800 (D.map shKD) fun x hx => by
    obtain ⟨k, hk, rfl⟩ := List.mem_map.mp hx
    exact shKD_len h hk
  have h3 := h.len
  rw [List.length_map] at h2
  have h5 : D.length * (800 + [59, 32].length) ≤ 6 * 802 := Nat.mul_le_mul_right _ h3
  unfold shWD
  simp only [List.length_cons, List.length_nil] at h5 h2
  omega
end K7
namespace K7
open PySem L2 K3 TM K9
def spLaw (K : PySem.W.Frag) (T1 T2 T3 : Addr) : Sp := fun vs H Q _ => ∃ (a : Addr) (ns : List Int), vs = [.ref a] ∧ SqL K H a (ns.map V.int) ∧ ns.length ≤ 63 ∧ T1 ≠ T2 ∧ T1 ≠ T3 ∧ T2 ≠ T3 ∧ H T1 = some (.tbl #[]) ∧ H T2 = some (.tbl #[]) ∧ H T3 = some (.tbl #[]) ∧ ∀ H', Q (.bl true) H'
section
variable {K : PySem.W.Frag} {T1 T2 T3 : Addr} {H H' : Hp}
theorem Z3.no (z : Z3 T1 T2 T3 H) {b : Addr} {u : HO} (e : H b = some u) (n : ∀ ps, u ≠ .tbl ps) : b ∉ [T1, T2, T3] := fun hm => by
  obtain ⟨ps, h⟩ := (z3_ok T1 T2 T3).tb H z b hm
  rw [h] at e; exact n ps (Option.some.inj e).symm
theorem Z3.seqT (z : Z3 T1 T2 T3 H) (x : SXT [T1, T2, T3] H H') {a : Addr} {xs : List V} (h : SqT K H a xs) : SqT K H' a xs := by
  rcases h with (h | ⟨o, h⟩) | h
  · exact .inl (.inl (x _ _ (z.no h fun _ z => nomatch z) h))
  · exact .inl (.inr ⟨o, x _ _ (z.no h fun _ z => nomatch z) h⟩)
  · exact .inr h
theorem Z3.seq (z : Z3 T1 T2 T3 H) (x : SXT [T1, T2, T3] H H') {a : Addr} {xs : List V} (h : SqL K H a xs) : SqL K H' a xs := by
  rcases h with (h | ⟨o, h⟩) | h
  · exact .inl (.inl (x _ _ (z.no h fun _ z => nomatch z) h))
  · exact .inl (.inr ⟨o, x _ _ (z.no h fun _ z => nomatch z) h⟩)
  · exact .inr h
theorem Z3.wood (z : Z3 T1 T2 T3 H) (x : SXT [T1, T2, T3] H H') {lw : Addr} {ks : List KdT} (h : WoodAt K H lw ks) : WoodAt K H' lw ks :=
  ⟨z.seq x h.1, fun k hk => ⟨z.seqT x (h.2 k hk).1, z.seq x (h.2 k hk).2.1, fun t ht => ⟨z.seqT x ((h.2 k hk).2.2 t ht).1, z.seqT x ((h.2 k hk).2.2 t ht).2⟩⟩⟩
theorem shW_ok {ks : List KdT} (hG : GoodW (ks.map datK')) : (shW ks).length ≤ 5000 ∧ ∀ k ∈ ks, (shK k).length ≤ 5000 ∧ k.2.2.2.length ≤ 30 ∧ ∀ t ∈ k.2.2.2, (shR t).length ≤ 5000 ∧ ∀ x ∈ t.2.2.2, PyData.strOk x = true := by
  refine ⟨by rw [sh_wood]; exact shWD_len hG, fun k hk => ⟨?_, ?_, fun t ht => ⟨?_, GoodW.strT hG k hk t ht⟩⟩⟩
  · have hm : datK' k ∈ ks.map datK' := List.mem_map_of_mem hk
    have := shKD_len hG hm
    have e : shK k = shKD (datK' k) := by
      show codes k.2.1 ++ [32, 61, 32] ++ shRs k.2.2.2 = codes k.2.1 ++ [32, 61, 32] ++ shRsD (k.2.2.2.map datR')
      rw [sh_rows]
    rw [e]; omega
  · have := (GoodW.goodT hG k hk).len; omega
  · have hm := GoodW.row hG hk ht
    have := shRD_len (hG.nmR _ hm.1 _ hm.2) (hG.nmW.b _ hm.1 _ hm.2) (hG.few _ hm.1 _ hm.2)
    have e : shR t = shRD (datR' t) := rfl
    rw [e]; omega
end
section
variable {P : Program} {w : World} {K : PySem.W.Frag} {mg : Str → Option Value} {base : Heap} {f : Addr} {fd : FuncData} {T1 T2 T3 : Addr}
theorem scLaw : FnScope ["_law_script", "_law_wood_here", "_law_due", "_law_row", "_law_found", "_law_again"] ["_law_script"] (defScope sLaw) := ⟨rfl, rfl, rfl, by decide +kernel, rfl, by decide +kernel, by decide +kernel⟩
theorem ok_law (F : Fun K "law" "law" sLaw f fd) (G : Gm mg) (G2 : Gm2 mg) (RC : Fn P w K mg base 1 "_law_cell_at" ["_law_script", "_law_k"] (spCell K)) (RW : Fn P w K mg base 2 "_law_wood" ["_law_script"] (spWood K)) (RP : Fn P w K mg base 1 "_law_parts" ["_law_wood_here"] (spParts K)) (RJ : Fn P w K mg base 1 "_law_joined" ["_law_row", "_law_blanks"] (spJoined K)) (RK : Fn P w K mg base 1 "_law_kinds" ["_law_found", "_law_due"] (spKinds K))
    (RSW : Fn P w K mg base 3 "show_wood" ["wood"] (spSW K)) (RLS : Fn P w K mg base 1 "_law_shown" ["_law_wood_here"] (spLS K)) (RR : Fn P w K mg base 12 "read_wood" ["text"] (spReadW K T1 T2 T3)) : FnOk P w K mg base CX0 13 f fd ["_law_script"] (spLaw K T1 T2 T3) := by
  refine F.ok scLaw (fun vs H Q E h => ?_) (fun cdv A outer s H vs Q E hr h => ?_)
  · obtain ⟨a, ns, rfl, _⟩ := h
    rfl
  obtain ⟨a, ns, rfl, hS, h63, _, _, _, hT1, hT2, hT3, q⟩ := h
  have hfit := room_fit hr
  refine ⟨_, (pss_cons (ps_set (i := 1) scLaw.nd rfl (Or.inl rfl) (pe_fn RW hr (pa_cons (pv 0) pa_nil)))
    (pss_cons (ps_setG (i := 2) (CompG.many (xs := ["_law_kind", "_law_rows"]) (caps := []) (cap := []) (cs := []) rfl rfl (by decide +kernel) (by decide +kernel) (by decide +kernel) (by decide +kernel) (by decide +kernel) (by decide +kernel) rfl rfl rfl) rfl (pi_list (pv 1)) (pg_c2 (CompG.many (xs := ["_law_kind", "_law_rows"]) (caps := []) (cap := []) (cs := []) rfl rfl (by decide +kernel) (by decide +kernel) (by decide +kernel) (by decide +kernel) (by decide +kernel) (by decide +kernel) rfl rfl rfl) rfl) (fun _ _ _ _ => pf_nil) (fun _ _ _ _ => (pe_tup (pa_cons (pv 0) (pa_cons (pe_callB (r := rSrtN K) (call_sortedN hfit) rfl G2.srt PyProof.Rows.boot_sorted (pa_cons (pv 1) pa_nil)) pa_nil)))) scLaw.nd rfl rfl)
    (pss_cons (ps_set (i := 3) scLaw.nd rfl (Or.inl rfl) (pe_fn RP hr (pa_cons (pv 1) pa_nil)))
    (pss_cons (ps_set (i := 4) scLaw.nd rfl (Or.inl rfl) (pe_fn RR hr (pa_cons (pe_fn RJ hr (pa_cons (pv 3) (pa_cons (pe_op op_add pe_int (pe_op op_mod (pe_op op_fdiv (pe_fn RC hr (pa_cons (pv 0) (pa_cons (pe_int) pa_nil))) pe_int) pe_int)) pa_nil))) pa_nil)))
    (pss_cons (ps_if (PW.pt (pw_or (pt_not (pt_val (pe_fn RK hr (pa_cons (pv 4) (pa_cons (pv 2) pa_nil))))) (pw_or1 (pt_cmpR op_ne (pe_fn RSW hr (pa_cons (pv 4) pa_nil)) (pe_fn RLS hr (pa_cons (pv 2) pa_nil)) (nomark _))))) (pss_one (ps_ret pe_bl)) pss_nil)
    (pss_cons (ps_expr (pe_bm PySem.F.plainAttrs_list PySem.F.slot_list_append PySem.F.type_list_append mt_append (pe_ix ix_tup (pe_ix ix_list (pv 4) pe_int (fun _ _ => rfl)) pe_int (fun _ _ => rfl)) (pa_cons ((pe_tup (pa_cons (pe_str) (pa_cons (pe_tup pa_nil) pa_nil)))) pa_nil)))
    (pss_cons (ps_expr (pe_bm PySem.F.plainAttrs_list PySem.F.slot_list_append PySem.F.type_list_append mt_append (pv 4) (pa_cons ((pe_tup (pa_cons (pe_str) (pa_cons (pe_lst pa_nil) pa_nil)))) pa_nil)))
    (pss_cons (ps_if (pt_not (pt_val (pe_fn RK hr (pa_cons (pe_fn RR hr (pa_cons (pe_fn RJ hr (pa_cons (pv 3) (pa_cons (pe_int) pa_nil))) pa_nil)) (pa_cons (pv 2) pa_nil))))) (pss_one (ps_ret pe_bl)) pss_nil)
    (pss_cons (ps_set (i := 5) scLaw.nd rfl (Or.inl rfl) (pe_fn RR hr (pa_cons (pe_fn RLS hr (pa_cons (pv 2) pa_nil)) pa_nil)))
    (pss_one (ps_ret (pe_and (pe_fn RK hr (pa_cons (pv 5) (pa_cons (pv 2) pa_nil))) (pe_one (pe_callB call_isinst rfl G.isi PyProof.Rows.boot_isinstance (pa_cons (pe_fn RSW hr (pa_cons (pv 5) pa_nil)) (pa_cons (pe_bltn (v := .ty "str") rfl G.str PyProof.Rows.boot_str rfl) pa_nil)))))))))))))))), ?_⟩
  refine ⟨_, rfl, a, ns, rfl, hS, h63, fun lw H1 ks g1 hW hG => ?_⟩
  refine ⟨_, rfl, lw, rfl, ⟨_, hW.1⟩, fun ld hld => ?_⟩
  refine srt_loop hW hG hld fun ds H2 g2 hD sD => ?_
  have hDg := hG.srt sD
  have hW2 := hW.same g2
  refine ⟨_, rfl, lw, ks, rfl, hW2, hG, fun lp H3 g3 hlp => ?_⟩
  have hDw3 := hD.wood.same g3
  have zo := z3_ok T1 T2 T3
  have hZ3 : Z3 T1 T2 T3 H3 := zo.sm _ _ (g1.trans (g2.trans g3)) ⟨.inl hT1, .inl hT2, .inl hT3⟩
  have hwj : ∀ u ∈ (woodP (ks.map datK')).drop 1, WJ u := fun u hu => hG.words u (List.mem_of_mem_drop hu)
  have hwl : ((woodP (ks.map datK')).drop 1).length ≤ 200 := by
    have := hG.lenT (ks.map datK').length
    rw [List.take_length] at this
    rw [List.length_drop]; omega
  have hpt := hG.ptl
  have hS3 := (g1.trans (g2.trans g3)).seq hS
  generalize hws : (woodP (ks.map datK')).drop 1 = ws at hlp hwj hwl hpt
  refine ⟨_, rfl, _, rfl, a, ns, 0, rfl, hS3, fun c0 => ⟨_, _, rfl, rfl, ⟨(by show (0 : Int) < 6; decide), (by show (6 : Int) < 1073741824; decide)⟩, _, _, rfl, rfl, (by show (0 : Int) < 3; decide), _, _, rfl, rfl, ?_⟩⟩
  obtain ⟨B, hB, hB3⟩ : ∃ B : Nat, 1 + c0 / 6 % 3 = (B : Int) ∧ B ≤ 3 := by
    have x0 : 0 ≤ c0 / 6 % 3 := Int.emod_nonneg _ (by decide)
    have x1 : c0 / 6 % 3 < 3 := Int.emod_lt_of_pos _ (by decide)
    exact ⟨(1 + c0 / 6 % 3).toNat, by omega, by omega⟩
  refine ⟨lp, ws, B, (by show [V.ref lp, V.int (1 + c0 / 6 % 3)] = _; rw [hB]), SqL.of hlp, hwj, hwl, hB3, fun z hz hzl => ⟨z, ws, _, rfl, hzl, hz, hpt, hG, hZ3, fun lf H4 fs x4 hN4 s4 hZ4 => ?_⟩⟩
  have ef : fs.map datK' = ds.map datK' := SrtW.det hG.rnd s4 sD
  have hDw4 := hZ3.wood x4 hDw3
  have hFg : GoodW (fs.map datK') := by rw [ef]; exact hDg
  obtain ⟨d1, d2⟩ := shW_ok hDg
  obtain ⟨f1, f2⟩ := shW_ok hFg
  have hd30 : ds.length ≤ 30 := by have := hDg.len; simp at this; omega
  have hf30 : fs.length ≤ 30 := by have := hFg.len; simp at this; omega
  refine ⟨_, rfl, _, rfl, lf, ld, fs, ds, rfl, hN4.wood, hDw4, ef, hDg.nmW, _, rfl, iteF ?_⟩
  refine ⟨_, rfl, lf, fs, rfl, hN4.wood, hf30, f1, fun k hk => ⟨(f2 k hk).1, (f2 k hk).2.1, fun t ht => ((f2 k hk).2.2 t ht).1⟩, fun H5 g5 => ⟨_, rfl, ld, ds, rfl, hDw4.same g5, hd30, d1, d2, fun H6 g6 => ?_⟩⟩
  refine ⟨rfl, _, rfl, ?_⟩
  rw [sh_wood fs, sh_wood ds, ef]
  rw [show decide (V.str (S (shWD (ds.map datK'))) = V.str (S (shWD (ds.map datK')))) = true from decide_eq_true rfl]
  refine iteF ?_
  have g56 := g5.trans g6
  have hN6 := hN4.keep g56
  have hf0 : 0 < fs.length := by have := hFg.pos; simpa using this
  obtain ⟨k1, k2, k3, k4, k5⟩ := hN6.kd fs[0] (List.getElem_mem hf0)
  have hat0 : atI (fs.map fun k => V.ref k.1) (0 : Int) = some (.ref fs[0].1) := atI_nat (j := 0) (by rw [List.getElem?_map, List.getElem?_eq_getElem hf0]; rfl)
  refine ⟨_, rfl, lf, _, 0, _, rfl, rfl, SqL.of hN6.at0, hat0, fs[0].1, _, 1, _, rfl, rfl, k1, rfl, .inl ⟨rfl, _, SqL.of k2⟩, (by show 0 ≤ sizeLine; decide), fun t0 ht0 => ⟨(by show 2 ≤ sizeLine; decide), fun t1 ht1 => ?_⟩⟩
  have a0 := same_new ht0 (.tup [])
  generalize upd H6 t0 (.tup []) = X0 at a0 ht1 ⊢
  have a1 := same_new ht1 (.tup [.str (Str.ofString "z"), .ref t0])
  generalize upd X0 t1 (.tup [.str (Str.ofString "z"), .ref t0]) = X1 at a1 ⊢
  have hr30 := (GoodW.goodT hFg fs[0] (List.getElem_mem hf0)).len
  have k2' := a1 _ _ (a0 _ _ k2)
  refine ⟨_, _, _, rfl, rfl, k2', (by rw [List.length_map]; exact Nat.lt_of_le_of_lt hr30 (by decide)), ?_⟩
  have hl1 := a1 _ _ (a0 _ _ hN6.at0)
  have hl2 : upd X1 fs[0].2.2.1 (.lst (fs[0].2.2.2.map (fun t => V.ref t.1) ++ [.ref t1])) lf = some (.lst (fs.map fun k => V.ref k.1)) := by rw [upd_ne k4.symm]; exact hl1
  have x6 : SXT [T1, T2, T3] H3 (upd X1 fs[0].2.2.1 (.lst (fs[0].2.2.2.map (fun t => V.ref t.1) ++ [.ref t1]))) := fun b u n e => by
    rw [upd_ne (ne_of_none e k3)]; exact a1 _ _ (a0 _ _ (g56 _ _ (x4 _ _ n e)))
  have hZ6 : Z3 T1 T2 T3 (upd X1 fs[0].2.2.1 (.lst (fs[0].2.2.2.map (fun t => V.ref t.1) ++ [.ref t1]))) := zo.lst _ _ _ _ k2' (zo.sm _ _ (g56.trans (a0.trans a1)) hZ4)
  generalize upd X1 fs[0].2.2.1 (.lst (fs[0].2.2.2.map (fun t => V.ref t.1) ++ [.ref t1])) = X2 at hl2 x6 hZ6 ⊢
  refine ⟨_, rfl, .inl ⟨rfl, _, SqL.of hl2⟩, (by show 0 ≤ sizeLine; decide), fun t2 ht2 => ⟨(by show 2 ≤ sizeLine; decide), fun t3 ht3 => ?_⟩⟩
  have a2 := same_new ht2 (.lst [])
  generalize upd X2 t2 (.lst []) = X3 at a2 ht3 ⊢
  have a3 := same_new ht3 (.tup [.str (Str.ofString "z"), .ref t2])
  generalize upd X3 t3 (.tup [.str (Str.ofString "z"), .ref t2]) = X4 at a3 ⊢
  have hl4 := a3 _ _ (a2 _ _ hl2)
  refine ⟨_, _, _, rfl, rfl, hl4, (by rw [List.length_map]; exact Nat.lt_of_le_of_lt hf30 (by decide)), ?_⟩
  have x7 : SXT [T1, T2, T3] H3 (upd X4 lf (.lst (fs.map (fun k => V.ref k.1) ++ [.ref t3]))) := fun b u n e => by
    rw [upd_ne (ne_of_none e hN4.n0)]; exact a3 _ _ (a2 _ _ (x6 _ _ n e))
  have hZ7 : Z3 T1 T2 T3 (upd X4 lf (.lst (fs.map (fun k => V.ref k.1) ++ [.ref t3]))) := zo.lst _ _ _ _ hl4 (zo.sm _ _ (a2.trans a3) hZ6)
  generalize upd X4 lf (.lst (fs.map (fun k => V.ref k.1) ++ [.ref t3])) = H7 at x7 hZ7 ⊢
  clear hl4 a3 ht3 a2 ht2 hl2 x6 hZ6 hl1 k2' a1 ht1 a0 ht0 hN6 k1 k2 k3 k4 k5 g5 g6 g56
  refine ⟨_, rfl, lp, ws, 0, rfl, hZ3.seq x7 (SqL.of hlp), hwj, hwl, by decide, fun z hz hzl => ⟨z, ws, _, rfl, hzl, hz, hpt, hG, hZ7, fun lt H8 ts x8 hN8 s8 hZ8 => ?_⟩⟩
  have et : ts.map datK' = ds.map datK' := SrtW.det hG.rnd s8 sD
  have hDw7 := hZ3.wood x7 hDw3
  have hDw8 := hZ7.wood x8 hDw7
  refine ⟨_, rfl, lt, ld, ts, ds, rfl, hN8.wood, hDw8, et, hDg.nmW, _, rfl, iteF ?_⟩
  refine ⟨_, rfl, ld, ds, rfl, hDw8, hd30, d1, d2, fun H9 g9 => ?_⟩
  rw [sh_wood ds]
  refine ⟨_, _, _, rfl, shWD_len hDg, hDg.writ, hDg.ptl, hDg, zo.sm _ _ g9 hZ8, fun lu H10 us x10 hN10 s10 hZ10 => ?_⟩
  have eu : us.map datK' = ds.map datK' := SrtW.det hDg.rnd s10 sD.again
  have hDw10 := (zo.sm _ _ g9 hZ8).wood x10 (hDw8.same g9)
  have hUg : GoodW (us.map datK') := by rw [eu]; exact hDg
  obtain ⟨u1, u2⟩ := shW_ok hUg
  refine ⟨_, rfl, _, rfl, lu, ld, us, ds, rfl, hN10.wood, hDw10, eu, hDg.nmW, _, rfl, iteT ?_⟩
  have hu30 : us.length ≤ 30 := by have := hUg.len; simp at this; omega
  exact ⟨_, rfl, lu, us, rfl, hN10.wood, hu30, u1, fun k hk => ⟨(u2 k hk).1, (u2 k hk).2.1, fun t ht => ((u2 k hk).2.2 t ht).1⟩, fun H11 g11 => ⟨_, _, _, _, rfl, .str _, rfl, q _⟩⟩
end
end K7
namespace L2
open PySem PySem.Spec PyProof.Rows
theorem law_callT {P : Program} {w : World} {K : PySem.W.Frag} {mg mb : Str → Option Value} {k : Nat} {fa a : Addr} {fd : FuncData} {x : Str} {sp : Sp} {s₁ : Shared} {vs : List Value} {ns : List Int} {Ts : List Addr}
    (KX : K.In s₁.heap) (hns : s₁.heap.Ns mainGlobals mg) (hb : s₁.heap.Ns builtinsNs mb) (hbb : ∀ x : Str, x ≠ "__name__" → mb x = bootBuiltins x) (hlim : s₁.heap.NoLimit) (hg : s₁.gens = #[]) (hbt : BtAt mg s₁.heap)
    (hTs : ∀ T ∈ Ts, s₁.heap.get? T = some { cls := .none, data := .fields #[] } ∧ isCodeTable s₁.heap T ∧ K.lookup T = none)
    (ha : s₁.heap.get? a = some { cls := .type "list", data := .seq vs.toArray }) (hi : IntsAre vs ns) (hl : ns.length ≤ sizeLine) (hr : Room k callerA)
    (F : ∀ base : Heap, K.In base → base.Ns mainGlobals mg → BtAt mg base → FnOk P w K mg base CX0 k fa fd [x] sp) (hbind : ∀ (s : Shared) (u : Value), BindsTo s fd ⟨[u], []⟩ [(x, u)])
    (hsp : ∀ H : Hp, SqL K H a (ns.map V.int) → (∀ T ∈ Ts, H T = some (.tbl #[])) → sp [.ref a] H (fun v _ => v = .bl true) fun _ _ _ => False) :
    codeAny (model P w) callerA (.call (.ref fa) ⟨[.ref a], []⟩) (fun r s' => r = .ok (.ret (.bool true)) ∧ OldK s₁.heap s'.heap ∧ s'.os = s₁.os ∧ AllBare s'.gens) s₁ := by
  have rv := vals_ints hi
  have lenV := hi.length
  have core : ∀ H : Hp, (∀ b, H b = none ∨ (b = a ∧ K.lookup a = none ∧ ∃ o xs, H b = some (.frz o (.lst xs))) ∨ (b ∈ Ts ∧ H b = some (.tbl #[]))) → SqL K H a (ns.map V.int) → (∀ T ∈ Ts, H T = some (.tbl #[])) → HOk P w H s₁.heap →
      codeAny (model P w) callerA (.call (.ref fa) ⟨[.ref a], []⟩) (fun r s' => r = .ok (.ret (.bool true)) ∧ OldK s₁.heap s'.heap ∧ s'.os = s₁.os ∧ AllBare s'.gens) s₁ := by
    intro H hO hS hT hok
    have base_of : ∀ {b : Addr} {o : Obj}, s₁.heap.get? b = some o → H b = none → (hidT s₁.heap H).get? b = some o := fun e n => hidT_get e n
    have noA : ∀ {b : Addr} {o : Obj}, s₁.heap.get? b = some o → (∀ xs n, o.data ≠ .seq xs n) → (∀ xs, o.data ≠ .fields xs) → H b = none := fun {b o} e d1 d2 => by
      rcases hO b with z | ⟨rfl, _⟩ | ⟨z, _⟩
      · exact z
      · rw [ha] at e; cases e
        exact absurd rfl (d1 _ _)
      · rw [(hTs b z).1] at e; cases e
        exact absurd rfl (d2 _)
    have nsK : ∀ {b : Addr} {m : Str → Option Value}, s₁.heap.Ns b m → (hidT s₁.heap H).Ns b m := fun {b m} ⟨o, es, ep, e, d, r⟩ => ⟨o, es, ep, base_of e (noA e (fun _ _ z => by rw [d] at z; cases z) (fun _ z => by rw [d] at z; cases z)), d, r⟩
    have hKb : K.In (hidT s₁.heap H) := fun b o e => base_of (KX b o e) (by
      rcases hO b with z | ⟨rfl, hk, _⟩ | ⟨z, _⟩
      · exact z
      · rw [hk] at e; cases e
      · rw [(hTs b z).2.2] at e; cases e)
    have hBt : BtAt mg (hidT s₁.heap H) := by
      obtain ⟨bm, o, b1, b2, b3, b4, b5, b6, b7⟩ := hbt
      exact ⟨bm, o, b1, b2, b3, base_of b4 (noA b4 (fun _ _ z => by rw [b7] at z; cases z) (fun _ z => by rw [b7] at z; cases z)), b5, b6, b7⟩
    have hM : Mod K mg (hidT s₁.heap H) := ⟨hKb, nsK hns, ⟨mb, nsK hb, hbb⟩, let ⟨mc, h1, h2⟩ := hlim; ⟨mc, nsK h1, h2⟩⟩
    have e0 : Env0 P w K mg (hidT s₁.heap H) callerA [] s₁ H := ⟨rfl, hM, fun b o e => of_hidT e, Nat.le_of_eq (hidT_size _ _), trivial, fun b hb => absurd (show b ∈ ([] : List Addr) from hb) (by simp), hok, .of_eq hg⟩
    refine codeAny_mono ((F _ hKb (nsK hns) hBt).run callerA [] s₁ H ⟨[.ref a], []⟩ [.ref a] [.ref a] _ _ hr e0 (hbind s₁ (.ref a)) (.cons rfl .nil) (hsp H hS hT)) fun r s' h => ?_
    cases r with
    | error e => exact h.elim
    | ok fl =>
      cases fl with
      | next => exact False.elim h
      | brk => exact False.elim h
      | cont => exact False.elim h
      | ret u =>
        obtain ⟨v, H', os, bare, un, hok', r', q⟩ := h
        have q' : v = .bl true := q
        subst q'
        obtain rfl : u = Value.bool true := r'
        refine ⟨rfl, ⟨fun b o e => ?_, fun b o e => un.there b o e (by simp)⟩, os, bare⟩
        rcases hO b with z | ⟨rfl, _, ob, xs, z⟩ | ⟨zT, z⟩
        · exact .inl (un.keep b o e z (by intro z; exact absurd (show b ∈ ([] : List Addr) from z) (by simp)) (by simp))
        · have z2 := un.frzs b ob _ z
          obtain ⟨e1, _⟩ := hok b _ z
          obtain ⟨e2, _⟩ := hok' b _ z2
          rw [e] at e1; cases e1
          exact .inl e2
        · obtain ⟨more, z2⟩ := un.tbls b _ z
          have e2 : s'.heap.get? b = some { cls := .none, data := .fields (#[] ++ more) } := hok' b _ z2
          obtain ⟨t1, t2, _⟩ := hTs b zT
          rw [t1] at e; cases e
          exact .inr (.inl ⟨t2, rfl, #[], more, rfl, e2⟩)
  have haT : ∀ T ∈ Ts, T ≠ a := fun T hT z => by
    have := (hTs T hT).1
    rw [z, ha] at this; cases this
  cases hk : K.lookup a with
  | some o =>
    have e := KX a o hk
    rw [ha] at e
    cases e
    refine core (fun b => if b ∈ Ts then some (.tbl #[]) else none) (fun b => ?_) (.inr ⟨_, vs.toArray, _, hk, rfl, rfl, rfl, by rw [List.size_toArray, lenV]; exact hl, by simpa using rv⟩) (fun T hT => if_pos hT) (fun b u z => ?_)
    · by_cases hb : b ∈ Ts
      · exact .inr (.inr ⟨hb, if_pos hb⟩)
      · exact .inl (if_neg hb)
    · by_cases hb : b ∈ Ts
      · have z' := (if_pos hb).symm.trans z
        cases z'
        exact (hTs b hb).1
      · have z' := (if_neg hb).symm.trans z
        cases z'
  | none =>
    refine core (fun b => if b = a then some (.frz { cls := .type "list", data := .seq vs.toArray } (.lst (ns.map V.int))) else if b ∈ Ts then some (.tbl #[]) else none) (fun b => ?_) (.inl (.inr ⟨{ cls := .type "list", data := .seq vs.toArray }, if_pos rfl⟩)) (fun T hT => (if_neg (haT T hT)).trans (if_pos hT)) (fun b u z => ?_)
    · by_cases hb : b = a
      · exact .inr (.inl ⟨hb, hk, _, _, if_pos hb⟩)
      · by_cases hbT : b ∈ Ts
        · exact .inr (.inr ⟨hbT, (if_neg hb).trans (if_pos hbT)⟩)
        · exact .inl ((if_neg hb).trans (if_neg hbT))
    · by_cases hb : b = a
      · have z' := (if_pos hb).symm.trans z
        cases z'
        subst hb
        exact ⟨ha, by rw [List.length_map]; exact hl, vs, _, rv, ha⟩
      · have z1 := (if_neg hb).symm.trans z
        by_cases hbT : b ∈ Ts
        · have z' := (if_pos hbT).symm.trans z1
          cases z'
          exact (hTs b hbT).1
        · have z' := (if_neg hbT).symm.trans z1
          cases z'
structure TabAt (q : Program) (K : PySem.W.Frag) (x : Str) (c T : Addr) : Prop where
  fnd : ∃ d, (recsOf q).find? (fun e => e.name == x) = some d
  tab : PySem.W.tabIn K x = some (c, T)
  hd : PySem.W.codeHdIn K c T = true
  no : K.lookup T = none
theorem walk_ofT {l : PySem.W.OpenLaw} {n k : Nat} {q : Program} {loose : List Str} {XP : (Str → Option Value) → Heap → Prop} {YP : World → Heap → Prop} {d : DefRec} {K : Params → PySem.W.Frag} {sp : World → Sp} {x : Str} {tabs : List (Str × Addr × Addr)}
    (hn : l.most = some n) (hn2 : n ≤ sizeLine) (hdf : d.params.defaults = []) (hr : Room k callerA)
    (hY : ∀ (w : World) (h : Heap), YP w h → (K w.params).In h)
    (htab : ∀ (w : World), ∀ p ∈ tabs, TabAt q (K w.params) p.1 p.2.1 p.2.2)
    (F : ∀ (w : World) (mg : Str → Option Value) (fa : Addr) (h : Heap), (K w.params).In h → h.Ns mainGlobals mg → mg d.name = some (.ref fa) →
      ∃ fd : FuncData, (∀ (s : Shared) (u : Value), BindsTo s fd ⟨[u], []⟩ [(x, u)]) ∧
        ∀ base : Heap, (K w.params).In base → base.Ns mainGlobals mg → BtAt mg base → FnOk l.prog w (K w.params) mg base CX0 k fa fd [x] (sp w))
    (hsp : ∀ (w : World) (H : Hp) (a : Addr) (ns : List Int), ns.length ≤ n → SqL (K w.params) H a (ns.map V.int) → (∀ p ∈ tabs, H p.2.2 = some (.tbl #[])) → sp w [.ref a] H (fun v _ => v = .bl true) fun _ _ _ => False) :
    PySem.W.WalkO q loose XP YP l.row.toRowW d [] (fun f vs => PySem.call f vs) := by
  refine Att.attach_call hn hdf fun w s₀ s₁ mg mb fa o pm cd doc a vs ns G Y ho hd hcd hmg hobj hints hlen hg => ?_
  have KX := hY w _ Y
  obtain ⟨fd, hb, hF⟩ := F w mg fa _ KX G.T.g hmg
  have hbt : BtAt mg s₁.heap := by
    obtain ⟨bm, ob, b1, b2, b3, b4, b5, b6⟩ := G.T.bmain
    have hbG : bm ≠ mainGlobals := fun q => by
      obtain ⟨o, es, ep, e, hd, _⟩ := G.T.g
      rw [q, e] at b3; cases b3; rw [hd] at b6; cases b6
    exact ⟨bm, ob, b1, b2, hbG, b3, b4, b5, b6⟩
  refine law_callT (Ts := tabs.map fun p => p.2.2) KX G.T.g G.T.b G.T.builtins G.T.nolimit hg hbt (fun T hT => ?_) hobj hints (Nat.le_trans hlen hn2) hr hF hb (fun H hS hT => hsp w H a ns hlen hS fun p hp => hT _ (List.mem_map.mpr ⟨p, hp, rfl⟩))
  obtain ⟨p, hp, rfl⟩ := List.mem_map.mp hT
  obtain ⟨⟨dd, hrec⟩, ht, _, hno⟩ := htab w p hp
  obtain ⟨hc, h0⟩ := PySem.W.tab_of G.T KX hrec ht
  exact ⟨h0, (hc.tab h0).isCodeTable, hno⟩
end L2
namespace L2
theorem ln1 {α : Type} {us : List α} (h : us.length = 1) : ∃ a, us = [a] := List.length_eq_one_iff.mp h
theorem ln2 {α : Type} {us : List α} (h : us.length = 2) : ∃ a b, us = [a, b] := by
  match us, h with
  | [a, b], _ => exact ⟨a, b, rfl⟩
theorem ln3 {α : Type} {us : List α} (h : us.length = 3) : ∃ a b c, us = [a, b, c] := by
  match us, h with
  | [a, b, c], _ => exact ⟨a, b, c, rfl⟩
end L2
namespace L2
open PySem
structure MethAt (K : PySem.W.Frag) (C : Addr) (m qual : Str) (st : Stmt) : Prop where
  ex : ∃ (f : Addr) (oc : Value) (od : Option Addr) (kV doc pm : Value) (an : Option Addr) (cdv ct : Value) (osl : Array (Option Value)),
    PySem.W.findIn K (.ref C) m = some (some (.ref f)) ∧ PySem.W.isFn K (.ref f) = true ∧ K.lookup f = some ⟨oc, od, .func (PySem.W.fnOf m qual (defArgs st) (defBody st) (defScope st) .none kV doc pm an cdv ct), osl⟩ ∧ PySem.W.codeIn K cdv qual = true ∧ PySem.W.keepIn K (.ref f) = true
theorem MethAt.mk' {K : PySem.W.Frag} {C : Addr} {m qual : Str} {st : Stmt} {f : Addr} {oc : Value} {od : Option Addr} {kV doc pm : Value} {an : Option Addr} {cdv ct : Value} {osl : Array (Option Value)}
    (a : PySem.W.findIn K (.ref C) m = some (some (.ref f))) (i : PySem.W.isFn K (.ref f) = true) (l : K.lookup f = some ⟨oc, od, .func (PySem.W.fnOf m qual (defArgs st) (defBody st) (defScope st) .none kV doc pm an cdv ct), osl⟩) (c : PySem.W.codeIn K cdv qual = true) (k : PySem.W.keepIn K (.ref f) = true) : MethAt K C m qual st :=
  ⟨f, oc, od, kV, doc, pm, an, cdv, ct, osl, a, i, l, c, k⟩
theorem MethAt.mt {P : Program} {w : World} {K : PySem.W.Frag} {mg : Str → Option Value} {C : Addr} {m qual : Str} {st : Stmt} {k : Nat} {ps : List Str} {sp : Sp} (M : MethAt K C m qual st) (ok : ∀ (g : Heap) (f : Addr) (fd : FuncData), Fun K m qual st f fd → FnOk P w K mg g CX0 k f fd ps sp) (bi : ∀ (f : Addr) (fd : FuncData), Fun K m qual st f fd → Binds K fd ps []) : ∀ g : Heap, Mt P w K mg g C k m ps sp := fun g => by
  obtain ⟨f, oc, od, kV, doc, pm, an, cdv, ct, osl, a, i, l, c, kp⟩ := M.ex
  have F := fun_mk (st := st) l c kp
  exact ⟨f, _, ⟨a, i, kp⟩, ok g _ _ F, bi _ _ F⟩
end L2
namespace K7
open PySem L2 K3
structure RdK (K : PySem.W.Frag) : Prop where
  ex : ∃ C : Addr, PySem.W.nsIn K mainGlobals "Reader" = some (some (.ref C)) ∧ Cls K C ∧ NoAttr K C "found" ∧ NoAttr K C "spot" ∧ PySem.W.makesIn K C = true ∧ PySem.W.keepIn K (.ref C) = true ∧
    MethAt K C "__init__" "Reader.__init__" sInit ∧ MethAt K C "ahead" "Reader.ahead" sAhead ∧ MethAt K C "at_name" "Reader.at_name" sAtName ∧ MethAt K C "passed" "Reader.passed" sPassed ∧ MethAt K C "need" "Reader.need" sNeed ∧ MethAt K C "need_end" "Reader.need_end" sNeedEnd ∧ MethAt K C "take_name" "Reader.take_name" sTakeName ∧ MethAt K C "take_word" "Reader.take_word" sTakeWord ∧ MethAt K C "in_brackets" "Reader.in_brackets" sInB ∧ MethAt K C "parted_by" "Reader.parted_by" sPart
theorem RdK.mk' {K : PySem.W.Frag} {C : Addr} (aC : PySem.W.nsIn K mainGlobals "Reader" = some (some (.ref C))) (pg : PySem.W.plainGet K C Str.empty = true) (hd : PySem.W.hasDictIn K C = true) (po : PySem.W.plainOver K C = true)
    (sa : PySem.W.findIn K (.ref C) "__setattr__" = some (some (.builtin "object.__setattr__"))) (n1 : PySem.W.findIn K (.ref C) "found" = some none) (n2 : PySem.W.findIn K (.ref C) "spot" = some none)
    (mk : PySem.W.makesIn K C = true) (kc : PySem.W.keepIn K (.ref C) = true) (m1 : MethAt K C "__init__" "Reader.__init__" sInit) (m2 : MethAt K C "ahead" "Reader.ahead" sAhead) (m3 : MethAt K C "at_name" "Reader.at_name" sAtName) (m4 : MethAt K C "passed" "Reader.passed" sPassed) (m5 : MethAt K C "need" "Reader.need" sNeed) (m6 : MethAt K C "need_end" "Reader.need_end" sNeedEnd) (m7 : MethAt K C "take_name" "Reader.take_name" sTakeName) (m8 : MethAt K C "take_word" "Reader.take_word" sTakeWord) (m9 : MethAt K C "in_brackets" "Reader.in_brackets" sInB) (m10 : MethAt K C "parted_by" "Reader.parted_by" sPart) : RdK K :=
  ⟨C, aC, ⟨pg, hd, po, sa⟩, n1, n2, mk, kc, m1, m2, m3, m4, m5, m6, m7, m8, m9, m10⟩
structure RdM (P : Program) (w : World) (K : PySem.W.Frag) (mg : Str → Option Value) (C : Addr) : Prop where
  tn : ∀ g : Heap, Mt P w K mg g C 3 "take_name" ["self"] (spTakeN C)
  nd : ∀ g : Heap, Mt P w K mg g C 3 "need" ["self", "sign"] (spNeed C)
  en : ∀ g : Heap, Mt P w K mg g C 2 "need_end" ["self"] (spEnd C)
  ib : ∃ (fI : Addr) (fdI : FuncData), Meth K C "in_brackets" fI ∧ Binds K fdI ["self", "take_one"] [] ∧ ∀ (T1 T2 T3 : Addr) (g : Heap), FnOk P w K mg g CX0 (2 + 3) fI fdI ["self", "take_one"] (spInG P w K mg C [T1, T2, T3] (Z3 T1 T2 T3) RvN TkN (fun _ => True) (fun _ => True) (2 + 2) g)
  pb : ∃ (fP : Addr) (fdP : FuncData), Meth K C "parted_by" fP ∧ Binds K fdP ["self", "sign", "take_one"] [] ∧ ∀ (T1 T2 T3 : Addr) (g : Heap), FnOk P w K mg g CX0 (5 + 3) fP fdP ["self", "sign", "take_one"] (spPart P w K mg C [T1, T2, T3] (Z3 T1 T2 T3) (RvR K) TkR FoR (fun _ => True) (5 + 2) g) ∧ FnOk P w K mg g CX0 (8 + 3) fP fdP ["self", "sign", "take_one"] (spPart P w K mg C [T1, T2, T3] (Z3 T1 T2 T3) (RvK K) TkK FoK (fun _ => True) (8 + 2) g)
theorem RdK.m {P : Program} {w : World} {K : PySem.W.Frag} {mg : Str → Option Value} {h : Heap} (S : RdK K) (X : K.In h) (N : h.Ns mainGlobals mg) (G : Gm mg) (RB : ∀ g : Heap, Fn P w K mg g 1 "begins_in" ["word", "signs"] spBeg) :
    ∃ C, RdT K mg C ∧ RdM P w K mg C ∧ ∀ g : Heap, Fn P w K mg g 5 "words" ["text"] spWords → ∃ (fI : Addr) (fdI : FuncData), Mk K C fI ∧ FnOk P w K mg g CX0 6 fI fdI ["self", "text"] (spInit C) ∧ Binds K fdI ["self", "text"] [] := by
  obtain ⟨C, aC, cl, n1, n2, mk, kc, m1, m2, m3, m4, m5, m6, m7, m8, m9, m10⟩ := S.ex
  have T : RdT K mg C := ⟨cl, n1, n2, PySem.W.mg_of X N aC⟩
  have MA := m2.mt (P := P) (w := w) (mg := mg) (fun g f fd F => ok_ahead F G T) fun f fd F => F.binds fun _ _ _ _ _ _ us hl => by obtain ⟨a1, rfl⟩ := ln1 hl; rfl
  have MN := m3.mt (P := P) (w := w) (mg := mg) (fun g f fd F => ok_atName F G T (RB g) (MA g)) fun f fd F => F.binds fun _ _ _ _ _ _ us hl => by obtain ⟨a1, rfl⟩ := ln1 hl; rfl
  have MP := m4.mt (P := P) (w := w) (mg := mg) (fun g f fd F => ok_passed F T (MA g)) fun f fd F => F.binds fun _ _ _ _ _ _ us hl => by obtain ⟨a1, a2, rfl⟩ := ln2 hl; rfl
  have MD := m5.mt (P := P) (w := w) (mg := mg) (fun g f fd F => ok_need F T (MP g)) fun f fd F => F.binds fun _ _ _ _ _ _ us hl => by obtain ⟨a1, a2, rfl⟩ := ln2 hl; rfl
  have ME := m6.mt (P := P) (w := w) (mg := mg) (fun g f fd F => ok_needEnd F T (MA g)) fun f fd F => F.binds fun _ _ _ _ _ _ us hl => by obtain ⟨a1, rfl⟩ := ln1 hl; rfl
  have MW := m8.mt (P := P) (w := w) (mg := mg) (fun g f fd F => ok_takeWord F T (MA g)) fun f fd F => F.binds fun _ _ _ _ _ _ us hl => by obtain ⟨a1, rfl⟩ := ln1 hl; rfl
  have MT := m7.mt (P := P) (w := w) (mg := mg) (fun g f fd F => ok_takeName F T (MN g) (MW g)) fun f fd F => F.binds fun _ _ _ _ _ _ us hl => by obtain ⟨a1, rfl⟩ := ln1 hl; rfl
  refine ⟨C, T, ⟨MT, MD, ME, ?_, ?_⟩, fun g RW => ?_⟩
  · obtain ⟨f, oc, od, kV, doc, pm, an, cdv, ct, osl, a, i, l, c, kp⟩ := m9.ex
    have F := fun_mk (st := sInB) l c kp
    exact ⟨f, _, ⟨a, i, kp⟩, F.binds fun _ _ _ _ _ _ us hl => by obtain ⟨a1, a2, rfl⟩ := ln2 hl; rfl, fun T1 T2 T3 g => ok_inG (z3_ok T1 T2 T3) (rpN C _) F G T (MP g)⟩
  · obtain ⟨f, oc, od, kV, doc, pm, an, cdv, ct, osl, a, i, l, c, kp⟩ := m10.ex
    have F := fun_mk (st := sPart) l c kp
    exact ⟨f, _, ⟨a, i, kp⟩, F.binds fun _ _ _ _ _ _ us hl => by obtain ⟨a1, a2, a3, rfl⟩ := ln3 hl; rfl, fun T1 T2 T3 g => ⟨ok_part (z3_ok T1 T2 T3) (rpR K C _) F T (MP g), ok_part (z3_ok T1 T2 T3) (rpK K C _) F T (MP g)⟩⟩
  · obtain ⟨f, oc, od, kV, doc, pm, an, cdv, ct, osl, a, i, l, c, kp⟩ := m1.ex
    have F := fun_mk (st := sInit) l c kp
    exact ⟨f, _, ⟨mk, a, i, kc⟩, ok_init F T RW, F.binds fun _ _ _ _ _ _ us hl => by obtain ⟨a1, a2, rfl⟩ := ln2 hl; rfl⟩
end K7
namespace K7
open PySem L2
theorem all_mk {c1 T1 : Addr} {c2 T2 : Addr} {c3 T3 : Addr} {l : PySem.W.OpenLaw} {w : World} {K : PySem.W.Frag} {h : Heap} {mg : Str → Option Value} {fa : Addr} (X : K.In h) (N : h.Ns mainGlobals mg) (hfa : mg "law" = some (.ref fa))
    (d1 : DefAt K "words" sWords) (d2 : DefAt K "word_at" sWordAt) (d3 : DefAt K "name_at" sNameAt) (d4 : DefAt K "below_zero_at" sBelow) (d5 : DefAt K "figures_at" sFigures) (d6 : DefAt K "run_at" sRun) (d7 : DefAt K "begins_in" sBegins) (d8 : DefAt K "show_in_brackets" sShowB) (d9 : DefAt K "read_wood" sRead) (d10 : DefAt K "kind_from" sKindF) (d11 : DefAt K "row_from" sRowF) (d12 : DefAt K "check_numbers" sChkN) (d13 : DefAt K "check_kinds" sChkK) (d14 : DefAt K "check_rows" sChkR) (d15 : DefAt K "has_one_twice" sTwice) (d16 : DefAt K "show_wood" sShow) (d17 : DefAt K "show_rows" sShowR) (d18 : DefAt K "_law_cell_at" sCell) (d19 : DefAt K "_law_names" sNames) (d20 : DefAt K "_law_wood" sWood) (d21 : DefAt K "_law_parts" sParts) (d22 : DefAt K "_law_shown" sShown) (d23 : DefAt K "_law_joined" sJoined) (d24 : DefAt K "_law_kinds" sKinds) (d25 : DefAt K "law" sLaw)
    (z1 : PySem.W.nsIn K mainGlobals "len" = some none) (z2 : PySem.W.nsIn K mainGlobals "isinstance" = some none) (z3 : PySem.W.nsIn K mainGlobals "str" = some none) (z4 : PySem.W.nsIn K mainGlobals "list" = some none) (z5 : PySem.W.nsIn K mainGlobals "range" = some none) (z6 : PySem.W.nsIn K mainGlobals "tuple" = some none) (z7 : PySem.W.nsIn K mainGlobals "int" = some none) (z8 : PySem.W.nsIn K mainGlobals "sum" = some none)   (ht1 : PySem.W.tabIn K "read_wood" = some (c1, T1)) (hh1 : PySem.W.codeHdIn K c1 T1 = true) (ht2 : PySem.W.tabIn K "kind_from" = some (c2, T2)) (hh2 : PySem.W.codeHdIn K c2 T2 = true) (ht3 : PySem.W.tabIn K "row_from" = some (c3, T3)) (hh3 : PySem.W.codeHdIn K c3 T3 = true) (ne12 : T1 ≠ T2) (ne13 : T1 ≠ T3) (ne23 : T2 ≠ T3) {tA tB tC tD tE tF tG tH : Tok} (gA : PySem.W.nsIn K mainGlobals "LETTERS" = some (some (.str LETS tA))) (gB : PySem.W.nsIn K mainGlobals "FIGURES" = some (some (.str FIGS tB))) (gC : PySem.W.nsIn K mainGlobals "SIGNS" = some (some (.str SGNS tC))) (gD : PySem.W.nsIn K mainGlobals "MOST_LETTERS" = some (some (.int 8 tD))) (gE : PySem.W.nsIn K mainGlobals "MOST_FIGURES" = some (some (.int 60 tE))) (gF : PySem.W.nsIn K mainGlobals "MOST_KINDS" = some (some (.int 6 tF))) (gG : PySem.W.nsIn K mainGlobals "MOST_ROWS" = some (some (.int 16 tG))) (gH : PySem.W.nsIn K mainGlobals "MOST_BRANCHES" = some (some (.int 4 tH))) (gI : PySem.W.nsIn K mainGlobals "all" = some none) (gJ : PySem.W.nsIn K mainGlobals "sorted" = some none) (gK : PySem.W.nsIn K mainGlobals "set" = some none) (gL : PySem.W.nsIn K mainGlobals "min" = some none) (s1 : RdK K) :
    ∃ fd : FuncData, (∀ (s : Shared) (v : Value), BindsTo s fd ⟨[v], []⟩ [("_law_script", v)]) ∧ ∀ base : Heap, K.In base → base.Ns mainGlobals mg → BtAt mg base → FnOk l.prog w K mg base CX0 13 fa fd ["_law_script"] (spLaw K T1 T2 T3) := by
  have G : Gm mg := ⟨PySem.W.mg_none_of X N z1, PySem.W.mg_none_of X N z2, PySem.W.mg_none_of X N z3, PySem.W.mg_none_of X N z4, PySem.W.mg_none_of X N z5, PySem.W.mg_none_of X N z6, PySem.W.mg_none_of X N z7, PySem.W.mg_none_of X N z8, ⟨_, PySem.W.mg_of X N gA⟩, ⟨_, PySem.W.mg_of X N gB⟩, ⟨_, PySem.W.mg_of X N gC⟩, ⟨_, PySem.W.mg_of X N gD⟩, ⟨_, PySem.W.mg_of X N gE⟩⟩
  obtain ⟨f, oc, od, kV, doc, pm, an, cdv, ct, osl, a, lk, c, kp⟩ := d25.ex
  have e := hfa.symm.trans (PySem.W.mg_of X N a)
  cases e
  have F := fun_mk (st := sLaw) lk c kp
  refine ⟨PySem.W.fnOf "law" "law" (defArgs sLaw) (defBody sLaw) (defScope sLaw) .none kV doc pm an cdv ct, fun s v => .of_eq rfl, fun base _ _ hB => ?_⟩
  have G2 : Gm2 mg := ⟨⟨_, PySem.W.mg_of X N gF⟩, ⟨_, PySem.W.mg_of X N gG⟩, ⟨_, PySem.W.mg_of X N gH⟩, PySem.W.mg_none_of X N gI, PySem.W.mg_none_of X N gJ, PySem.W.mg_none_of X N gK, PySem.W.mg_none_of X N gL⟩
  have aB : ∀ g : Heap, Fn l.prog w K mg g 1 "begins_in" ["word", "signs"] spBeg := fun g => d7.fn X N (fun f fd F => ok_begins F) (fun _ _ _ _ _ _ us hl => by obtain ⟨a1, a2, rfl⟩ := ln2 hl; rfl)
  obtain ⟨C, TT, MM, II⟩ := s1.m (P := l.prog) (w := w) X N G aB
  have ne3 : Ne3 T1 T2 T3 := ⟨ne12, ne13, ne23⟩
  obtain ⟨fB, fdB, mB, bB, FB⟩ := MM.ib
  obtain ⟨fP, fdP, mP, bP, FP⟩ := MM.pb
  have rR : ∀ g : Heap, BtAt mg g → Fn l.prog w K mg g 6 "row_from" ["reader"] (spFrom C [T1, T2, T3] (Z3 T1 T2 T3) (RvR K) TkR FoR) := fun g hBg => by
    obtain ⟨f, oc, od, kV, doc, pm, an, cdv, ct, osl, a, lk, c, kp⟩ := d11.ex
    have F := fun_mk (st := sRowF) lk c kp
    have hb : Binds K _ ["reader"] [] := F.binds fun _ _ _ _ _ _ us hl => by obtain ⟨a1, rfl⟩ := ln1 hl; rfl
    exact ⟨f, _, ok_rowF ne3 F a ht3 hh3 hBg TT MM.tn mB bB (fun g => FB T1 T2 T3 g), hb, kp, PySem.W.mg_of X N a⟩
  have rK : ∀ g : Heap, BtAt mg g → Fn l.prog w K mg g 9 "kind_from" ["reader"] (spFrom C [T1, T2, T3] (Z3 T1 T2 T3) (RvK K) TkK FoK) := fun g hBg => by
    obtain ⟨f, oc, od, kV, doc, pm, an, cdv, ct, osl, a, lk, c, kp⟩ := d10.ex
    have F := fun_mk (st := sKindF) lk c kp
    have hb : Binds K _ ["reader"] [] := F.binds fun _ _ _ _ _ _ us hl => by obtain ⟨a1, rfl⟩ := ln1 hl; rfl
    exact ⟨f, _, ok_kindF ne3 F a ht2 hh2 hBg TT (MM.tn g) (MM.nd g) mP bP (fun g => (FP T1 T2 T3 g).1) rR, hb, kp, PySem.W.mg_of X N a⟩
  have w1 : Fn l.prog w K mg base 1 "run_at" ["text", "start", "signs"] spRun := d6.fn X N (fun f fd F => ok_run F G) fun _ _ _ _ _ _ us hl => by obtain ⟨a1, a2, a3, rfl⟩ := ln3 hl; rfl
  have w2 : Fn l.prog w K mg base 2 "figures_at" ["text", "start"] spFig := d5.fn X N (fun f fd F => ok_fig F G w1) fun _ _ _ _ _ _ us hl => by obtain ⟨a1, a2, rfl⟩ := ln2 hl; rfl
  have w3 : Fn l.prog w K mg base 3 "below_zero_at" ["text", "start"] spBelow := d4.fn X N (fun f fd F => ok_below F w2) fun _ _ _ _ _ _ us hl => by obtain ⟨a1, a2, rfl⟩ := ln2 hl; rfl
  have w4 : Fn l.prog w K mg base 2 "name_at" ["text", "start"] spNameAt := d3.fn X N (fun f fd F => ok_nameAt F G w1) fun _ _ _ _ _ _ us hl => by obtain ⟨a1, a2, rfl⟩ := ln2 hl; rfl
  have w5 : Fn l.prog w K mg base 4 "word_at" ["text", "start"] spWordAt := d2.fn X N (fun f fd F => ok_wordAt F G w4 w2 w3) fun _ _ _ _ _ _ us hl => by obtain ⟨a1, a2, rfl⟩ := ln2 hl; rfl
  have w6 : Fn l.prog w K mg base 5 "words" ["text"] spWords := d1.fn X N (fun f fd F => ok_words F G w5) fun _ _ _ _ _ _ us hl => by obtain ⟨a1, rfl⟩ := ln1 hl; rfl
  have c1 : Fn l.prog w K mg base 1 "check_numbers" ["wood"] (spChkN K) := d12.fn X N (fun f fd F => ok_chkN F G G2) fun _ _ _ _ _ _ us hl => by obtain ⟨a1, rfl⟩ := ln1 hl; rfl
  have c2 : Fn l.prog w K mg base 1 "has_one_twice" ["names"] (spTw K) := d15.fn X N (fun f fd F => ok_tw F G G2) fun _ _ _ _ _ _ us hl => by obtain ⟨a1, rfl⟩ := ln1 hl; rfl
  have c3 : Fn l.prog w K mg base 2 "check_rows" ["kinds", "kind", "rows"] (spChkR K) := d14.fn X N (fun f fd F => ok_chkR F G G2 c2) fun _ _ _ _ _ _ us hl => by obtain ⟨a1, a2, a3, rfl⟩ := ln3 hl; rfl
  have c4 : Fn l.prog w K mg base 3 "check_kinds" ["wood"] (spChkK K) := d13.fn X N (fun f fd F => ok_chkK F c2 c3) fun _ _ _ _ _ _ us hl => by obtain ⟨a1, rfl⟩ := ln1 hl; rfl
  obtain ⟨fI, fdI, mkI, FI, bI⟩ := II base w6
  have r6 : Fn l.prog w K mg base 12 "read_wood" ["text"] (spReadW K T1 T2 T3) := by
    obtain ⟨f, oc, od, kV, doc, pm, an, cdv, ct, osl, a, lk, c, kp⟩ := d9.ex
    have F := fun_mk (st := sRead) lk c kp
    have hb : Binds K _ ["text"] [] := F.binds fun _ _ _ _ _ _ us hl => by obtain ⟨a1, rfl⟩ := ln1 hl; rfl
    exact ⟨f, _, ok_readW ne3 F a ht1 hh1 hB G G2 TT mkI FI bI (MM.en base) mP bP (fun g => (FP T1 T2 T3 g).2) rK c1 c4, hb, kp, PySem.W.mg_of X N a⟩
  have s1 : Fn l.prog w K mg base 1 "show_in_brackets" ["texts"] (spSB K) := d8.fn X N (fun f fd F => ok_sb F G) fun _ _ _ _ _ _ us hl => by obtain ⟨a1, rfl⟩ := ln1 hl; rfl
  have s2 : Fn l.prog w K mg base 2 "show_rows" ["rows"] (spSR K) := d17.fn X N (fun f fd F => ok_showR F s1) fun _ _ _ _ _ _ us hl => by obtain ⟨a1, rfl⟩ := ln1 hl; rfl
  have s3 : Fn l.prog w K mg base 3 "show_wood" ["wood"] (spSW K) := d16.fn X N (fun f fd F => ok_showW F s2) fun _ _ _ _ _ _ us hl => by obtain ⟨a1, rfl⟩ := ln1 hl; rfl
  have l1 : Fn l.prog w K mg base 1 "_law_cell_at" ["_law_script", "_law_k"] (spCell K) := d18.fn X N (fun f fd F => ok_cell F G) fun _ _ _ _ _ _ us hl => by obtain ⟨a1, a2, rfl⟩ := ln2 hl; rfl
  have l2 : Fn l.prog w K mg base 1 "_law_names" ["_law_cell", "_law_where", "_law_lots"] (spNames K) := d19.fn X N (fun f fd F => ok_names F G) fun _ _ _ _ _ _ us hl => by obtain ⟨a1, a2, a3, rfl⟩ := ln3 hl; rfl
  have l3 : Fn l.prog w K mg base 2 "_law_wood" ["_law_script"] (spWood K) := d20.fn X N (fun f fd F => ok_wood F G G2 l1 l2) fun _ _ _ _ _ _ us hl => by obtain ⟨a1, rfl⟩ := ln1 hl; rfl
  have l4 : Fn l.prog w K mg base 1 "_law_parts" ["_law_wood_here"] (spParts K) := d21.fn X N (fun f fd F => ok_parts F G) fun _ _ _ _ _ _ us hl => by obtain ⟨a1, rfl⟩ := ln1 hl; rfl
  have l5 : Fn l.prog w K mg base 1 "_law_shown" ["_law_wood_here"] (spLS K) := d22.fn X N (fun f fd F => ok_shown F) fun _ _ _ _ _ _ us hl => by obtain ⟨a1, rfl⟩ := ln1 hl; rfl
  have l6 : Fn l.prog w K mg base 1 "_law_joined" ["_law_row", "_law_blanks"] (spJoined K) := d23.fn X N (fun f fd F => ok_joined F G) fun _ _ _ _ _ _ us hl => by obtain ⟨a1, a2, rfl⟩ := ln2 hl; rfl
  have l7 : Fn l.prog w K mg base 1 "_law_kinds" ["_law_found", "_law_due"] (spKinds K) := d24.fn X N (fun f fd F => ok_kinds F G) fun _ _ _ _ _ _ us hl => by obtain ⟨a1, a2, rfl⟩ := ln2 hl; rfl
  exact ok_law F G G2 l1 l3 l4 l6 l7 s3 l5 r6
theorem walk {c1 T1 : Addr} {c2 T2 : Addr} {c3 T3 : Addr} {l : PySem.W.OpenLaw} {q : Program} {loose : List Str} {XP : (Str → Option Value) → Heap → Prop} {YP : World → Heap → Prop} {d : DefRec} {K : Params → PySem.W.Frag} (hn : l.most = some 63) (hdf : d.params.defaults = [])
    (hY : ∀ (w : World) (h : Heap), YP w h → (K w.params).In h) (tb1 : ∀ w : World, TabAt q (K w.params) "read_wood" c1 T1) (tb2 : ∀ w : World, TabAt q (K w.params) "kind_from" c2 T2) (tb3 : ∀ w : World, TabAt q (K w.params) "row_from" c3 T3) (ne12 : T1 ≠ T2) (ne13 : T1 ≠ T3) (ne23 : T2 ≠ T3)
    (F : ∀ (w : World) (mg : Str → Option Value) (fa : Addr) (h : Heap), (K w.params).In h → h.Ns mainGlobals mg → mg d.name = some (.ref fa) →
      ∃ fd : FuncData, (∀ (s : Shared) (u : Value), BindsTo s fd ⟨[u], []⟩ [("_law_script", u)]) ∧ ∀ base : Heap, (K w.params).In base → base.Ns mainGlobals mg → BtAt mg base → FnOk l.prog w (K w.params) mg base CX0 13 fa fd ["_law_script"] (spLaw (K w.params) T1 T2 T3)) :
    PySem.W.WalkO q loose XP YP l.row.toRowW d [] (fun f vs => PySem.call f vs) :=
  L2.walk_ofT (n := 63) (k := 13) (x := "_law_script") (tabs := [("read_wood", c1, T1), ("kind_from", c2, T2), ("row_from", c3, T3)]) (sp := fun w => spLaw (K w.params) T1 T2 T3) hn (by decide) hdf ⟨rfl, by decide, by decide⟩ hY (fun w p hp => by
    simp only [List.mem_cons, List.not_mem_nil, or_false] at hp
    rcases hp with rfl | rfl | rfl
    · exact tb1 w
    · exact tb2 w
    · exact tb3 w) F (fun _ _ a ns hl hS hT => ⟨a, ns, rfl, hS, hl, ne12, ne13, ne23, hT ("read_wood", c1, T1) (by simp), hT ("kind_from", c2, T2) (by simp), hT ("row_from", c3, T3) (by simp), fun _ => rfl⟩)
end K7
section
open PySem
noncomputable def K7.vS (x : String) (n : Nat) : Value := .str (Str.ofString x) n
noncomputable def K7.vR (a : Nat) : Value := .ref a
noncomputable def K7.vI (i : Int) (n : Nat) : Value := .int i n
noncomputable def K7.hE (P : Params) (x : String) (n : Nat) (v : Value) : DictEntry := ⟨PyData.keyHash P (Str.ofString x), .str (Str.ofString x) n, v⟩
noncomputable def K7.vN : Value := .none
noncomputable def K7.vF : Value := .type "function"
noncomputable def K7.vT : Value := .bool true
noncomputable def K7.i0 : Value := .int 0 0
noncomputable def K7.i3 : Value := .int 3 0
noncomputable def K7.i1 : Value := .int 181 0
noncomputable def K7.cP (k : Nat) : Value := .str (Str.ofString "/claim/cut.py") k
noncomputable def K7.oT (x : Array Value) : Obj := Obj.mk (Value.type "tuple") none (Data.seq x) #[]
noncomputable def K7.oC (x : Array Value) : Obj := Obj.mk (Value.type "code") none (Data.fields x) #[]
noncomputable def K7.oF (c : Value) (x y : String) (s : Stmt) (k : Nat) (pm cd : Value) : Obj := Obj.mk c none (Data.func (FuncData.mk (Str.ofString x) (Str.ofString y) (L2.defArgs s) (.stmts (L2.defBody s)) (L2.defScope s) k [] Value.none Value.none Value.none pm none cd Value.none 0)) #[]
open K7 in
noncomputable def K7.hp : Params → PySem.W.Frag := fun P => [ (2, Obj.mk vN none (Data.dict #[]) #[])
, (3, Obj.mk (Value.type "dict") none (Data.dict #[hE P "__name__" 165 (vS "law_turnery_k07_woods_shown_and_read" 518), hE P "__doc__" 166 vN, hE P "__package__" 167 vN, hE P "__loader__" 168 (Value.builtin "__main__.__loader__#opaque"), hE P "__spec__" 169 vN, hE P "__annotations__" 170 (vR 6), hE P "__builtins__" 171 (vR 4), hE P "__file__" 173 (cP 172), hE P "__cached__" 174 vN, hE P "_wall" 193 (vR 21), hE P "TurnError" 213 (vR 31), hE P "NoText" 229 (vR 44), hE P "NoWood" 245 (vR 56), hE P "LETTERS" 249 (vS "abcdefghijklmnopqrstuvwxyz" 248), hE P "FIGURES" 251 (vS "0123456789" 250), hE P "SIGNS" 253 (vS "();:=|*" 252), hE P "MOST_LETTERS" 255 (vI 8 254), hE P "MOST_FIGURES" 257 (vI 60 256), hE P "words" 267 (vR 65), hE P "word_at" 276 (vR 72), hE P "name_at" 285 (vR 79), hE P "below_zero_at" 294 (vR 86), hE P "figures_at" 303 (vR 93), hE P "run_at" 313 (vR 100), hE P "Reader" 431 (vR 194), hE P "begins_in" 439 (vR 205), hE P "show_in_brackets" 448 (vR 212), hE P "MOST_KINDS" 452 (vI 6 451), hE P "MOST_ROWS" 454 (vI 16 453), hE P "MOST_BRANCHES" 456 (vI 4 455), hE P "read_wood" 462 (vR 217), hE P "kind_from" 471 (vR 224), hE P "row_from" 480 (vR 231), hE P "check_numbers" 486 (vR 236), hE P "check_kinds" 492 (vR 241), hE P "check_rows" 498 (vR 246), hE P "has_one_twice" 505 (vR 253), hE P "show_wood" 511 (vR 258), hE P "show_rows" 517 (vR 263), hE P "_law_cell_at" 527 (vR 270), hE P "_law_names" 544 (vR 277), hE P "_law_wood" 550 (vR 282), hE P "_law_parts" 561 (vR 289), hE P "_law_shown" 574 (vR 296), hE P "_law_joined" 585 (vR 303), hE P "_law_kinds" 596 (vR 310), hE P "law" 602 (vR 315)] 47) #[])
, (15, oT #[])
, (17, oT #[vS "k" 190])
, (18, oT #[])
, (20, oC #[vS "_wall" 187, vS "_wall" 188, cP 189, vI 1 0, vI 1 0, i0, i0, i3, vR 15, vT, i1, vR 16, vN, vR 17, vR 18, vR 19, vI 191 0, vI 1 0, cP 192])
, (21, oF vF "_wall" "_wall" (top 0) 3 (vS "__main__" 164) (vR 20))
, (22, oT #[Value.type "ValueError"])
, (29, oT #[])
, (30, Obj.mk (Value.type "dict") none (Data.dict #[hE P "__module__" 203 (vS "turnery.errors" 194), hE P "__firstlineno__" 207 (vI 5 206), hE P "__static_attributes__" 208 (vR 29), hE P "__weakref__" 210 (vR 32), hE P "__doc__" 211 vN] 3) #[])
, (31, Obj.mk (Value.type "type") none (Data.cls (ClassData.mk (Str.ofString "TurnError") [Value.type "ValueError"] [vR 31, Value.type "ValueError", Value.type "Exception", Value.type "BaseException", Value.type "object"] 30 (Str.ofString "TurnError") true [] [vR 44, vR 56] false none false)) #[some (vR 22), none, some (vS "TurnError" 196), some (vS "TurnError" 204), some (Value.builtin "ValueError.__new__"), some (Value.bool true)])
, (32, Obj.mk (Value.type "getset_descriptor") none (Data.fields #[vS "__weakref__" 209, vR 31, Value.builtin "ExceptionGroup.__weakref__", vN]) #[])
, (35, oT #[vR 31])
, (42, oT #[])
, (43, Obj.mk (Value.type "dict") none (Data.dict #[hE P "__module__" 221 (vS "turnery.errors" 194), hE P "__firstlineno__" 225 (vI 7 224), hE P "__static_attributes__" 226 (vR 42), hE P "__doc__" 227 vN] 2) #[])
, (44, Obj.mk (Value.type "type") none (Data.cls (ClassData.mk (Str.ofString "NoText") [vR 31] [vR 44, vR 31, Value.type "ValueError", Value.type "Exception", Value.type "BaseException", Value.type "object"] 43 (Str.ofString "NoText") true [] [] false none false)) #[some (vR 35), none, some (vS "NoText" 214), some (vS "NoText" 222), some (Value.builtin "ValueError.__new__"), some (Value.bool true)])
, (47, oT #[vR 31])
, (54, oT #[])
, (55, Obj.mk (Value.type "dict") none (Data.dict #[hE P "__module__" 237 (vS "turnery.errors" 194), hE P "__firstlineno__" 241 (vI 9 240), hE P "__static_attributes__" 242 (vR 54), hE P "__doc__" 243 vN] 2) #[])
, (56, Obj.mk (Value.type "type") none (Data.cls (ClassData.mk (Str.ofString "NoWood") [vR 31] [vR 56, vR 31, Value.type "ValueError", Value.type "Exception", Value.type "BaseException", Value.type "object"] 55 (Str.ofString "NoWood") true [] [] false none false)) #[some (vR 47), none, some (vS "NoWood" 230), some (vS "NoWood" 238), some (Value.builtin "ValueError.__new__"), some (Value.bool true)])
, (59, oT #[])
, (61, oT #[vS "text" 261, vS "told" 262, vS "start" 263, vS "word" 264])
, (62, oT #[])
, (64, oC #[vS "words" 258, vS "words" 259, cP 260, vI 17 0, vI 1 0, i0, i0, i3, vR 59, vT, i1, vR 60, vN, vR 61, vR 62, vR 63, vI 265 0, vI 17 0, cP 266])
, (65, oF vF "words" "words" (top 11) 3 (vS "turnery.words" 246) (vR 64))
, (66, oT #[])
, (68, oT #[vS "text" 271, vS "start" 272, vS "first" 273])
, (69, oT #[])
, (71, oC #[vS "word_at" 268, vS "word_at" 269, cP 270, vI 30 0, vI 2 0, i0, i0, i3, vR 66, vT, i1, vR 67, vN, vR 68, vR 69, vR 70, vI 274 0, vI 30 0, cP 275])
, (72, oF vF "word_at" "word_at" (top 12) 3 (vS "turnery.words" 246) (vR 71))
, (73, oT #[])
, (75, oT #[vS "text" 280, vS "start" 281, vS "name" 282])
, (76, oT #[])
, (78, oC #[vS "name_at" 277, vS "name_at" 278, cP 279, vI 41 0, vI 2 0, i0, i0, i3, vR 73, vT, i1, vR 74, vN, vR 75, vR 76, vR 77, vI 283 0, vI 41 0, cP 284])
, (79, oF vF "name_at" "name_at" (top 13) 3 (vS "turnery.words" 246) (vR 78))
, (80, oT #[])
, (82, oT #[vS "text" 289, vS "start" 290, vS "figures" 291])
, (83, oT #[])
, (85, oC #[vS "below_zero_at" 286, vS "below_zero_at" 287, cP 288, vI 46 0, vI 2 0, i0, i0, i3, vR 80, vT, i1, vR 81, vN, vR 82, vR 83, vR 84, vI 292 0, vI 46 0, cP 293])
, (86, oF vF "below_zero_at" "below_zero_at" (top 14) 3 (vS "turnery.words" 246) (vR 85))
, (87, oT #[])
, (89, oT #[vS "text" 298, vS "start" 299, vS "figures" 300])
, (90, oT #[])
, (92, oC #[vS "figures_at" 295, vS "figures_at" 296, cP 297, vI 51 0, vI 2 0, i0, i0, i3, vR 87, vT, i1, vR 88, vN, vR 89, vR 90, vR 91, vI 301 0, vI 51 0, cP 302])
, (93, oF vF "figures_at" "figures_at" (top 15) 3 (vS "turnery.words" 246) (vR 92))
, (94, oT #[])
, (96, oT #[vS "text" 307, vS "start" 308, vS "signs" 309, vS "end" 310])
, (97, oT #[])
, (99, oC #[vS "run_at" 304, vS "run_at" 305, cP 306, vI 60 0, vI 3 0, i0, i0, i3, vR 94, vT, i1, vR 95, vN, vR 96, vR 97, vR 98, vI 311 0, vI 60 0, cP 312])
, (100, oF vF "run_at" "run_at" (top 16) 3 (vS "turnery.words" 246) (vR 99))
, (108, oT #[])
, (110, oT #[vS "self" 331, vS "text" 332])
, (111, oT #[])
, (113, oC #[vS "__init__" 328, vS "Reader.__init__" 329, cP 330, vI 68 0, vI 2 0, i0, i0, i3, vR 108, vT, i1, vR 109, vN, vR 110, vR 111, vR 112, vI 333 0, vI 68 0, cP 334])
, (114, oF vF "__init__" "Reader.__init__" (L2.inClass (top 18) 0) 3 (vS "turnery.readers" 314) (vR 113))
, (115, oT #[])
, (117, oT #[vS "self" 339])
, (118, oT #[])
, (120, oC #[vS "ahead" 336, vS "Reader.ahead" 337, cP 338, vI 72 0, vI 1 0, i0, i0, i3, vR 115, vT, i1, vR 116, vN, vR 117, vR 118, vR 119, vI 340 0, vI 72 0, cP 341])
, (121, oF vF "ahead" "Reader.ahead" (L2.inClass (top 18) 1) 3 (vS "turnery.readers" 314) (vR 120))
, (122, oT #[])
, (124, oT #[vS "self" 346])
, (125, oT #[])
, (127, oC #[vS "at_name" 343, vS "Reader.at_name" 344, cP 345, vI 77 0, vI 1 0, i0, i0, i3, vR 122, vT, i1, vR 123, vN, vR 124, vR 125, vR 126, vI 347 0, vI 77 0, cP 348])
, (128, oF vF "at_name" "Reader.at_name" (L2.inClass (top 18) 2) 3 (vS "turnery.readers" 314) (vR 127))
, (129, oT #[])
, (131, oT #[vS "self" 353])
, (132, oT #[])
, (134, oC #[vS "at_number" 350, vS "Reader.at_number" 351, cP 352, vI 80 0, vI 1 0, i0, i0, i3, vR 129, vT, i1, vR 130, vN, vR 131, vR 132, vR 133, vI 354 0, vI 80 0, cP 355])
, (135, oF vF "at_number" "Reader.at_number" (L2.inClass (top 18) 3) 3 (vS "turnery.readers" 314) (vR 134))
, (136, oT #[])
, (138, oT #[vS "self" 360, vS "sign" 361])
, (139, oT #[])
, (141, oC #[vS "passed" 357, vS "Reader.passed" 358, cP 359, vI 83 0, vI 2 0, i0, i0, i3, vR 136, vT, i1, vR 137, vN, vR 138, vR 139, vR 140, vI 362 0, vI 83 0, cP 363])
, (142, oF vF "passed" "Reader.passed" (L2.inClass (top 18) 4) 3 (vS "turnery.readers" 314) (vR 141))
, (143, oT #[])
, (145, oT #[vS "self" 368, vS "sign" 369])
, (146, oT #[])
, (148, oC #[vS "need" 365, vS "Reader.need" 366, cP 367, vI 89 0, vI 2 0, i0, i0, i3, vR 143, vT, i1, vR 144, vN, vR 145, vR 146, vR 147, vI 370 0, vI 89 0, cP 371])
, (149, oF vF "need" "Reader.need" (L2.inClass (top 18) 5) 3 (vS "turnery.readers" 314) (vR 148))
, (150, oT #[])
, (152, oT #[vS "self" 376, vS "word" 377])
, (153, oT #[])
, (155, oC #[vS "need_end" 373, vS "Reader.need_end" 374, cP 375, vI 93 0, vI 1 0, i0, i0, i3, vR 150, vT, i1, vR 151, vN, vR 152, vR 153, vR 154, vI 378 0, vI 93 0, cP 379])
, (156, oF vF "need_end" "Reader.need_end" (L2.inClass (top 18) 6) 3 (vS "turnery.readers" 314) (vR 155))
, (157, oT #[])
, (159, oT #[vS "self" 384])
, (160, oT #[])
, (162, oC #[vS "take_name" 381, vS "Reader.take_name" 382, cP 383, vI 98 0, vI 1 0, i0, i0, i3, vR 157, vT, i1, vR 158, vN, vR 159, vR 160, vR 161, vI 385 0, vI 98 0, cP 386])
, (163, oF vF "take_name" "Reader.take_name" (L2.inClass (top 18) 7) 3 (vS "turnery.readers" 314) (vR 162))
, (164, oT #[])
, (166, oT #[vS "self" 391])
, (167, oT #[])
, (169, oC #[vS "take_number" 388, vS "Reader.take_number" 389, cP 390, vI 103 0, vI 1 0, i0, i0, i3, vR 164, vT, i1, vR 165, vN, vR 166, vR 167, vR 168, vI 392 0, vI 103 0, cP 393])
, (170, oF vF "take_number" "Reader.take_number" (L2.inClass (top 18) 8) 3 (vS "turnery.readers" 314) (vR 169))
, (171, oT #[])
, (173, oT #[vS "self" 398, vS "word" 399])
, (174, oT #[])
, (176, oC #[vS "take_word" 395, vS "Reader.take_word" 396, cP 397, vI 106 0, vI 1 0, i0, i0, i3, vR 171, vT, i1, vR 172, vN, vR 173, vR 174, vR 175, vI 400 0, vI 106 0, cP 401])
, (177, oF vF "take_word" "Reader.take_word" (L2.inClass (top 18) 9) 3 (vS "turnery.readers" 314) (vR 176))
, (178, oT #[])
, (180, oT #[vS "self" 406, vS "take_one" 407, vS "taken" 408])
, (181, oT #[])
, (183, oC #[vS "in_brackets" 403, vS "Reader.in_brackets" 404, cP 405, vI 111 0, vI 2 0, i0, i0, i3, vR 178, vT, i1, vR 179, vN, vR 180, vR 181, vR 182, vI 409 0, vI 111 0, cP 410])
, (184, oF vF "in_brackets" "Reader.in_brackets" (L2.inClass (top 18) 10) 3 (vS "turnery.readers" 314) (vR 183))
, (185, oT #[])
, (187, oT #[vS "self" 415, vS "sign" 416, vS "take_one" 417, vS "taken" 418])
, (188, oT #[])
, (190, oC #[vS "parted_by" 412, vS "Reader.parted_by" 413, cP 414, vI 119 0, vI 3 0, i0, i0, i3, vR 185, vT, i1, vR 186, vN, vR 187, vR 188, vR 189, vI 419 0, vI 119 0, cP 420])
, (191, oF vF "parted_by" "Reader.parted_by" (L2.inClass (top 18) 11) 3 (vS "turnery.readers" 314) (vR 190))
, (192, oT #[vS "found" 422, vS "spot" 423])
, (193, Obj.mk (Value.type "dict") none (Data.dict #[hE P "__module__" 323 (vS "turnery.readers" 314), hE P "__firstlineno__" 327 (vI 66 326), hE P "__init__" 335 (vR 114), hE P "ahead" 342 (vR 121), hE P "at_name" 349 (vR 128), hE P "at_number" 356 (vR 135), hE P "passed" 364 (vR 142), hE P "need" 372 (vR 149), hE P "need_end" 380 (vR 156), hE P "take_name" 387 (vR 163), hE P "take_number" 394 (vR 170), hE P "take_word" 402 (vR 177), hE P "in_brackets" 411 (vR 184), hE P "parted_by" 421 (vR 191), hE P "__static_attributes__" 424 (vR 192), hE P "__dict__" 426 (vR 195), hE P "__weakref__" 428 (vR 196), hE P "__doc__" 429 vN] 4) #[])
, (194, Obj.mk (Value.type "type") none (Data.cls (ClassData.mk (Str.ofString "Reader") [Value.type "object"] [vR 194, Value.type "object"] 193 (Str.ofString "Reader") true [] [] false none false)) #[none, none, some (vS "Reader" 316), some (vS "Reader" 324), some (Value.builtin "object.__new__"), some (Value.bool true)])
, (195, Obj.mk (Value.type "getset_descriptor") none (Data.fields #[vS "__dict__" 425, vR 194, Value.builtin "function.__dict__", Value.builtin "function.__dict__#set"]) #[])
, (196, Obj.mk (Value.type "getset_descriptor") none (Data.fields #[vS "__weakref__" 427, vR 194, Value.builtin "ExceptionGroup.__weakref__", vN]) #[])
, (199, oT #[])
, (201, oT #[vS "word" 435, vS "signs" 436])
, (202, oT #[])
, (204, oC #[vS "begins_in" 432, vS "begins_in" 433, cP 434, vI 124 0, vI 2 0, i0, i0, i3, vR 199, vT, i1, vR 200, vN, vR 201, vR 202, vR 203, vI 437 0, vI 124 0, cP 438])
, (205, oF vF "begins_in" "begins_in" (top 19) 3 (vS "turnery.readers" 314) (vR 204))
, (206, oT #[])
, (208, oT #[vS "texts" 445])
, (209, oT #[])
, (211, oC #[vS "show_in_brackets" 442, vS "show_in_brackets" 443, cP 444, vI 127 0, vI 1 0, i0, i0, i3, vR 206, vT, i1, vR 207, vN, vR 208, vR 209, vR 210, vI 446 0, vI 127 0, cP 447])
, (212, oF vF "show_in_brackets" "show_in_brackets" (top 21) 3 (vS "turnery.treetexts" 440) (vR 211))
, (213, oT #[])
, (216, oC #[vS "read_wood" 457, vS "read_wood" 458, cP 459, vI 135 0, vI 1 0, i0, i0, i3, vR 213, vT, i1, vR 214, vN, vN, vN, vR 215, vI 460 0, vI 135 0, cP 461])
, (217, oF vF "read_wood" "read_wood" (top 26) 3 (vS "turnery.woods" 449) (vR 216))
, (218, oT #[])
, (220, oT #[vS "reader" 466, vS "kind" 467])
, (221, oT #[vS "reader" 468])
, (223, oC #[vS "kind_from" 463, vS "kind_from" 464, cP 465, vI 142 0, vI 1 0, i0, i0, i3, vR 218, vT, i1, vR 219, vN, vR 220, vR 221, vR 222, vI 469 0, vI 142 0, cP 470])
, (224, oF vF "kind_from" "kind_from" (top 27) 3 (vS "turnery.woods" 449) (vR 223))
, (225, oT #[])
, (227, oT #[vS "reader" 475, vS "name" 476])
, (228, oT #[vS "reader" 477])
, (230, oC #[vS "row_from" 472, vS "row_from" 473, cP 474, vI 146 0, vI 1 0, i0, i0, i3, vR 225, vT, i1, vR 226, vN, vR 227, vR 228, vR 229, vI 478 0, vI 146 0, cP 479])
, (231, oF vF "row_from" "row_from" (top 28) 3 (vS "turnery.woods" 449) (vR 230))
, (232, oT #[])
, (235, oC #[vS "check_numbers" 481, vS "check_numbers" 482, cP 483, vI 149 0, vI 1 0, i0, i0, i3, vR 232, vT, i1, vR 233, vN, vN, vN, vR 234, vI 484 0, vI 149 0, cP 485])
, (236, oF vF "check_numbers" "check_numbers" (top 29) 3 (vS "turnery.woods" 449) (vR 235))
, (237, oT #[])
, (240, oC #[vS "check_kinds" 487, vS "check_kinds" 488, cP 489, vI 158 0, vI 1 0, i0, i0, i3, vR 237, vT, i1, vR 238, vN, vN, vN, vR 239, vI 490 0, vI 158 0, cP 491])
, (241, oF vF "check_kinds" "check_kinds" (top 30) 3 (vS "turnery.woods" 449) (vR 240))
, (242, oT #[])
, (245, oC #[vS "check_rows" 493, vS "check_rows" 494, cP 495, vI 164 0, vI 3 0, i0, i0, i3, vR 242, vT, i1, vR 243, vN, vN, vN, vR 244, vI 496 0, vI 164 0, cP 497])
, (246, oF vF "check_rows" "check_rows" (top 31) 3 (vS "turnery.woods" 449) (vR 245))
, (247, oT #[])
, (249, oT #[vS "names" 502])
, (250, oT #[])
, (252, oC #[vS "has_one_twice" 499, vS "has_one_twice" 500, cP 501, vI 173 0, vI 1 0, i0, i0, i3, vR 247, vT, i1, vR 248, vN, vR 249, vR 250, vR 251, vI 503 0, vI 173 0, cP 504])
, (253, oF vF "has_one_twice" "has_one_twice" (top 32) 3 (vS "turnery.woods" 449) (vR 252))
, (254, oT #[])
, (257, oC #[vS "show_wood" 506, vS "show_wood" 507, cP 508, vI 175 0, vI 1 0, i0, i0, i3, vR 254, vT, i1, vR 255, vN, vN, vN, vR 256, vI 509 0, vI 175 0, cP 510])
, (258, oF vF "show_wood" "show_wood" (top 33) 3 (vS "turnery.woods" 449) (vR 257))
, (259, oT #[])
, (262, oC #[vS "show_rows" 512, vS "show_rows" 513, cP 514, vI 177 0, vI 1 0, i0, i0, i3, vR 259, vT, i1, vR 260, vN, vN, vN, vR 261, vI 515 0, vI 177 0, cP 516])
, (263, oF vF "show_rows" "show_rows" (top 34) 3 (vS "turnery.woods" 449) (vR 262))
, (264, oT #[])
, (266, oT #[vS "_law_script" 523, vS "_law_k" 524])
, (267, oT #[])
, (269, oC #[vS "_law_cell_at" 520, vS "_law_cell_at" 521, cP 522, vI 180 0, vI 2 0, i0, i0, i3, vR 264, vT, i1, vR 265, vN, vR 266, vR 267, vR 268, vI 525 0, vI 180 0, cP 526])
, (270, oF vF "_law_cell_at" "_law_cell_at" (top 36) 3 (vS "law_turnery_k07_woods_shown_and_read" 518) (vR 269))
, (271, oT #[])
, (273, oT #[vS "_law_cell" 531, vS "_law_where" 532, vS "_law_lots" 533, vS "_law_letters" 534, vS "_law_number" 535, vS "_law_base" 536, vS "_law_k" 537, vS "_law_there" 538, vS "_law_first" 539, vS "_law_names_here" 540, vS "_law_name" 541])
, (274, oT #[])
, (276, oC #[vS "_law_names" 528, vS "_law_names" 529, cP 530, vI 184 0, vI 3 0, i0, i0, i3, vR 271, vT, i1, vR 272, vN, vR 273, vR 274, vR 275, vI 542 0, vI 184 0, cP 543])
, (277, oF vF "_law_names" "_law_names" (top 37) 3 (vS "law_turnery_k07_woods_shown_and_read" 518) (vR 276))
, (278, oT #[])
, (281, oC #[vS "_law_wood" 545, vS "_law_wood" 546, cP 547, vI 199 0, vI 1 0, i0, i0, i3, vR 278, vT, i1, vR 279, vN, vN, vN, vR 280, vI 548 0, vI 199 0, cP 549])
, (282, oF vF "_law_wood" "_law_wood" (top 38) 3 (vS "law_turnery_k07_woods_shown_and_read" 518) (vR 281))
, (283, oT #[])
, (285, oT #[vS "_law_wood_here" 554, vS "_law_row" 555, vS "_law_kind" 556, vS "_law_rows" 557, vS "_law_k" 558])
, (286, oT #[])
, (288, oC #[vS "_law_parts" 551, vS "_law_parts" 552, cP 553, vI 212 0, vI 1 0, i0, i0, i3, vR 283, vT, i1, vR 284, vN, vR 285, vR 286, vR 287, vI 559 0, vI 212 0, cP 560])
, (289, oF vF "_law_parts" "_law_parts" (top 39) 3 (vS "law_turnery_k07_woods_shown_and_read" 518) (vR 288))
, (290, oT #[])
, (292, oT #[vS "_law_wood_here" 565, vS "_law_parts_here" 566, vS "_law_kind" 567, vS "_law_rows" 568, vS "_law_texts" 569, vS "_law_name" 570, vS "_law_branches" 571])
, (293, oT #[])
, (295, oC #[vS "_law_shown" 562, vS "_law_shown" 563, cP 564, vI 221 0, vI 1 0, i0, i0, i3, vR 290, vT, i1, vR 291, vN, vR 292, vR 293, vR 294, vI 572 0, vI 221 0, cP 573])
, (296, oF vF "_law_shown" "_law_shown" (top 40) 3 (vS "law_turnery_k07_woods_shown_and_read" 518) (vR 295))
, (297, oT #[])
, (299, oT #[vS "_law_row" 578, vS "_law_blanks" 579, vS "_law_text" 580, vS "_law_k" 581, vS "_law_gap" 582])
, (300, oT #[])
, (302, oC #[vS "_law_joined" 575, vS "_law_joined" 576, cP 577, vI 232 0, vI 2 0, i0, i0, i3, vR 297, vT, i1, vR 298, vN, vR 299, vR 300, vR 301, vI 583 0, vI 232 0, cP 584])
, (303, oF vF "_law_joined" "_law_joined" (top 41) 3 (vS "law_turnery_k07_woods_shown_and_read" 518) (vR 302))
, (304, oT #[])
, (306, oT #[vS "_law_found" 589, vS "_law_due" 590, vS "_law_kind" 591, vS "_law_rows" 592, vS "_law_row" 593])
, (307, oT #[])
, (309, oC #[vS "_law_kinds" 586, vS "_law_kinds" 587, cP 588, vI 241 0, vI 2 0, i0, i0, i3, vR 304, vT, i1, vR 305, vN, vR 306, vR 307, vR 308, vI 594 0, vI 241 0, cP 595])
, (310, oF vF "_law_kinds" "_law_kinds" (top 42) 3 (vS "law_turnery_k07_woods_shown_and_read" 518) (vR 309))
, (311, oT #[])
, (314, oC #[vS "law" 597, vS "law" 598, cP 599, vI 251 0, vI 1 0, i0, i0, i3, vR 311, vT, i1, vR 312, vN, vN, vN, vR 313, vI 600 0, vI 251 0, cP 601])
, (315, oF vF "law" "law" (top 43) 3 (vS "law_turnery_k07_woods_shown_and_read" 518) (vR 314)) ]
end
noncomputable def PySem.W.Fast.tw12651818780246268786 : PySem.Params → PySem.W.Frag := K7.hp
theorem PySem.W.Fast.te12651818780246268786 : K7.hp = PySem.W.Fast.tw12651818780246268786 := rfl
namespace PySem.W.Fast
open PySem K7
noncomputable def tw3965888867904549244 : Params → Obj := fun P => oF vN "take_name" "Reader.take_name" (L2.inClass (top 18) 7) 0 vN vN
theorem te3965888867904549244 : tw3965888867904549244 = tw3965888867904549244 := rfl
noncomputable def tw4487400754171345601 : Params → Obj := fun P => oF vN "below_zero_at" "below_zero_at" (top 14) 0 vN vN
theorem te4487400754171345601 : tw4487400754171345601 = tw4487400754171345601 := rfl
noncomputable def tw864999006800116982 : Params → Obj := fun P => oF vN "has_one_twice" "has_one_twice" (top 32) 0 vN vN
theorem te864999006800116982 : tw864999006800116982 = tw864999006800116982 := rfl
noncomputable def tw40021625807717403 : Params → Obj := fun P => oF vN "check_numbers" "check_numbers" (top 29) 0 vN vN
theorem te40021625807717403 : tw40021625807717403 = tw40021625807717403 := rfl
noncomputable def tw288295777817295480 : Params → Obj := fun P => oF vN "take_word" "Reader.take_word" (L2.inClass (top 18) 9) 0 vN vN
theorem te288295777817295480 : tw288295777817295480 = tw288295777817295480 := rfl
noncomputable def tw2665966782122445734 : Params → Obj := fun P => oF vN "kind_from" "kind_from" (top 27) 0 vN vN
theorem te2665966782122445734 : tw2665966782122445734 = tw2665966782122445734 := rfl
noncomputable def tw16398446069212771585 : Params → Obj := fun P => oF vN "words" "words" (top 11) 0 vN vN
theorem te16398446069212771585 : tw16398446069212771585 = tw16398446069212771585 := rfl
noncomputable def tw14430300622753729102 : Params → Obj := fun P => oF vN "begins_in" "begins_in" (top 19) 0 vN vN
theorem te14430300622753729102 : tw14430300622753729102 = tw14430300622753729102 := rfl
noncomputable def tw17660746154085395175 : Params → Obj := fun P => oF vN "_law_kinds" "_law_kinds" (top 42) 0 vN vN
theorem te17660746154085395175 : tw17660746154085395175 = tw17660746154085395175 := rfl
noncomputable def tw14777217771727268404 : Params → Obj := fun P => oF vF "at_number" "Reader.at_number" (L2.inClass (top 18) 3) 3 (vS "turnery.readers" 314) (vR 134)
theorem te14777217771727268404 : tw14777217771727268404 = tw14777217771727268404 := rfl
noncomputable def tw13886281397920626741 : Params → Obj := fun P => oF vF "_law_wood" "_law_wood" (top 38) 3 (vS "law_turnery_k07_woods_shown_and_read" 518) (vR 281)
theorem te13886281397920626741 : tw13886281397920626741 = tw13886281397920626741 := rfl
noncomputable def tw14364838870506304598 : Params → Obj := fun P => oF vF "_law_shown" "_law_shown" (top 40) 3 (vS "law_turnery_k07_woods_shown_and_read" 518) (vR 295)
theorem te14364838870506304598 : tw14364838870506304598 = tw14364838870506304598 := rfl
noncomputable def tw5422469284311289703 : Params → Obj := fun P => oF vN "row_from" "row_from" (top 28) 0 vN vN
theorem te5422469284311289703 : tw5422469284311289703 = tw5422469284311289703 := rfl
noncomputable def tw12100362398006969096 : Params → Obj := fun P => oF vN "passed" "Reader.passed" (L2.inClass (top 18) 4) 0 vN vN
theorem te12100362398006969096 : tw12100362398006969096 = tw12100362398006969096 := rfl
noncomputable def tw6877886048634661350 : Params → Obj := fun P => oF vN "law" "law" (top 43) 0 vN vN
theorem te6877886048634661350 : tw6877886048634661350 = tw6877886048634661350 := rfl
noncomputable def tw18248141899532739904 : Params → Obj := fun P => oF vF "below_zero_at" "below_zero_at" (top 14) 3 (vS "turnery.words" 246) (vR 85)
theorem te18248141899532739904 : tw18248141899532739904 = tw18248141899532739904 := rfl
noncomputable def tw874001505684796200 : Params → Obj := fun P => oF vN "read_wood" "read_wood" (top 26) 0 vN vN
theorem te874001505684796200 : tw874001505684796200 = tw874001505684796200 := rfl
noncomputable def tw17493074281748250876 : Params → Obj := fun P => oF vF "_law_cell_at" "_law_cell_at" (top 36) 3 (vS "law_turnery_k07_woods_shown_and_read" 518) (vR 269)
theorem te17493074281748250876 : tw17493074281748250876 = tw17493074281748250876 := rfl
noncomputable def tw2604029253580775318 : Params → Obj := fun P => oF vF "take_name" "Reader.take_name" (L2.inClass (top 18) 7) 3 (vS "turnery.readers" 314) (vR 162)
theorem te2604029253580775318 : tw2604029253580775318 = tw2604029253580775318 := rfl
noncomputable def tw10156910553826979341 : Params → Obj := fun P => oF vF "need" "Reader.need" (L2.inClass (top 18) 5) 3 (vS "turnery.readers" 314) (vR 148)
theorem te10156910553826979341 : tw10156910553826979341 = tw10156910553826979341 := rfl
noncomputable def tw2306362626024897639 : Params → Obj := fun P => oF vF "name_at" "name_at" (top 13) 3 (vS "turnery.words" 246) (vR 78)
theorem te2306362626024897639 : tw2306362626024897639 = tw2306362626024897639 := rfl
noncomputable def tw18144167304218372805 : Params → Obj := fun P => oF vN "in_brackets" "Reader.in_brackets" (L2.inClass (top 18) 10) 0 vN vN
theorem te18144167304218372805 : tw18144167304218372805 = tw18144167304218372805 := rfl
noncomputable def tw12291106012199079201 : Params → Obj := fun P => oF vF "row_from" "row_from" (top 28) 3 (vS "turnery.woods" 449) (vR 230)
theorem te12291106012199079201 : tw12291106012199079201 = tw12291106012199079201 := rfl
noncomputable def tw3953612361091620942 : Params → Obj := fun P => oF vF "words" "words" (top 11) 3 (vS "turnery.words" 246) (vR 64)
theorem te3953612361091620942 : tw3953612361091620942 = tw3953612361091620942 := rfl
noncomputable def tw16263938099624055589 : Params → Obj := fun P => oF vF "run_at" "run_at" (top 16) 3 (vS "turnery.words" 246) (vR 99)
theorem te16263938099624055589 : tw16263938099624055589 = tw16263938099624055589 := rfl
noncomputable def tw2590798722599735126 : Params → Obj := fun P => oF vF "check_numbers" "check_numbers" (top 29) 3 (vS "turnery.woods" 449) (vR 235)
theorem te2590798722599735126 : tw2590798722599735126 = tw2590798722599735126 := rfl
noncomputable def tw14744933732644184730 : Params → Obj := fun P => oF vF "show_wood" "show_wood" (top 33) 3 (vS "turnery.woods" 449) (vR 257)
theorem te14744933732644184730 : tw14744933732644184730 = tw14744933732644184730 := rfl
noncomputable def tw10718419355966093668 : Params → Obj := fun P => oF vF "law" "law" (top 43) 3 (vS "law_turnery_k07_woods_shown_and_read" 518) (vR 314)
theorem te10718419355966093668 : tw10718419355966093668 = tw10718419355966093668 := rfl
noncomputable def tw1841505382351564624 : Params → Obj := fun P => oF vF "_law_names" "_law_names" (top 37) 3 (vS "law_turnery_k07_woods_shown_and_read" 518) (vR 276)
theorem te1841505382351564624 : tw1841505382351564624 = tw1841505382351564624 := rfl
noncomputable def tw363212489889570649 : Params → Obj := fun P => oF vN "check_rows" "check_rows" (top 31) 0 vN vN
theorem te363212489889570649 : tw363212489889570649 = tw363212489889570649 := rfl
noncomputable def tw10810574443825227465 : Params → Obj := fun P => oF vN "need" "Reader.need" (L2.inClass (top 18) 5) 0 vN vN
theorem te10810574443825227465 : tw10810574443825227465 = tw10810574443825227465 := rfl
noncomputable def tw16255337875569923905 : Params → Obj := fun P => oF vN "_law_joined" "_law_joined" (top 41) 0 vN vN
theorem te16255337875569923905 : tw16255337875569923905 = tw16255337875569923905 := rfl
noncomputable def tw3195547080458046634 : Params → Obj := fun P => oF vF "__init__" "Reader.__init__" (L2.inClass (top 18) 0) 3 (vS "turnery.readers" 314) (vR 113)
theorem te3195547080458046634 : tw3195547080458046634 = tw3195547080458046634 := rfl
noncomputable def tw17555270089681752765 : Params → Obj := fun P => oF vN "_law_names" "_law_names" (top 37) 0 vN vN
theorem te17555270089681752765 : tw17555270089681752765 = tw17555270089681752765 := rfl
noncomputable def tw6572033862832609244 : Params → Obj := fun P => oF vF "figures_at" "figures_at" (top 15) 3 (vS "turnery.words" 246) (vR 92)
theorem te6572033862832609244 : tw6572033862832609244 = tw6572033862832609244 := rfl
noncomputable def tw10591649576854879378 : Params → Obj := fun P => oF vF "check_kinds" "check_kinds" (top 30) 3 (vS "turnery.woods" 449) (vR 240)
theorem te10591649576854879378 : tw10591649576854879378 = tw10591649576854879378 := rfl
noncomputable def tw13612271599736996084 : Params → Obj := fun P => oF vN "at_name" "Reader.at_name" (L2.inClass (top 18) 2) 0 vN vN
theorem te13612271599736996084 : tw13612271599736996084 = tw13612271599736996084 := rfl
noncomputable def tw7497687635797473647 : Params → Obj := fun P => oF vF "_wall" "_wall" (top 0) 3 (vS "__main__" 164) (vR 20)
theorem te7497687635797473647 : tw7497687635797473647 = tw7497687635797473647 := rfl
noncomputable def tw13853788882958296010 : Params → Obj := fun P => oF vN "run_at" "run_at" (top 16) 0 vN vN
theorem te13853788882958296010 : tw13853788882958296010 = tw13853788882958296010 := rfl
noncomputable def tw2964524300763786262 : Params → Obj := fun P => oF vF "_law_kinds" "_law_kinds" (top 42) 3 (vS "law_turnery_k07_woods_shown_and_read" 518) (vR 309)
theorem te2964524300763786262 : tw2964524300763786262 = tw2964524300763786262 := rfl
noncomputable def tw13494277617733496284 : Params → Obj := fun P => oF vF "show_in_brackets" "show_in_brackets" (top 21) 3 (vS "turnery.treetexts" 440) (vR 211)
theorem te13494277617733496284 : tw13494277617733496284 = tw13494277617733496284 := rfl
noncomputable def tw12027326536713680295 : Params → Obj := fun P => oF vF "check_rows" "check_rows" (top 31) 3 (vS "turnery.woods" 449) (vR 245)
theorem te12027326536713680295 : tw12027326536713680295 = tw12027326536713680295 := rfl
noncomputable def tw7612295366588792056 : Params → Obj := fun P => oF vN "ahead" "Reader.ahead" (L2.inClass (top 18) 1) 0 vN vN
theorem te7612295366588792056 : tw7612295366588792056 = tw7612295366588792056 := rfl
noncomputable def tw8856618019668540749 : Params → Obj := fun P => oF vN "parted_by" "Reader.parted_by" (L2.inClass (top 18) 11) 0 vN vN
theorem te8856618019668540749 : tw8856618019668540749 = tw8856618019668540749 := rfl
noncomputable def tw7499167298304142804 : Params → Obj := fun P => oF vN "show_wood" "show_wood" (top 33) 0 vN vN
theorem te7499167298304142804 : tw7499167298304142804 = tw7499167298304142804 := rfl
noncomputable def tw16724195251565881196 : Params → Obj := fun P => oF vN "__init__" "Reader.__init__" (L2.inClass (top 18) 0) 0 vN vN
theorem te16724195251565881196 : tw16724195251565881196 = tw16724195251565881196 := rfl
noncomputable def tw9515851958355075198 : Params → Obj := fun P => oF vF "passed" "Reader.passed" (L2.inClass (top 18) 4) 3 (vS "turnery.readers" 314) (vR 141)
theorem te9515851958355075198 : tw9515851958355075198 = tw9515851958355075198 := rfl
noncomputable def tw14135619156442857571 : Params → Obj := fun P => oF vN "_law_parts" "_law_parts" (top 39) 0 vN vN
theorem te14135619156442857571 : tw14135619156442857571 = tw14135619156442857571 := rfl
noncomputable def tw15383233845910972295 : Params → Obj := fun P => oF vF "read_wood" "read_wood" (top 26) 3 (vS "turnery.woods" 449) (vR 216)
theorem te15383233845910972295 : tw15383233845910972295 = tw15383233845910972295 := rfl
noncomputable def tw12382004229148009663 : Params → Obj := fun P => oF vN "name_at" "name_at" (top 13) 0 vN vN
theorem te12382004229148009663 : tw12382004229148009663 = tw12382004229148009663 := rfl
noncomputable def tw12290222215629711725 : Params → Obj := fun P => oF vF "show_rows" "show_rows" (top 34) 3 (vS "turnery.woods" 449) (vR 262)
theorem te12290222215629711725 : tw12290222215629711725 = tw12290222215629711725 := rfl
noncomputable def tw13934884995566659480 : Params → Obj := fun P => oF vF "take_word" "Reader.take_word" (L2.inClass (top 18) 9) 3 (vS "turnery.readers" 314) (vR 176)
theorem te13934884995566659480 : tw13934884995566659480 = tw13934884995566659480 := rfl
noncomputable def tw10050363269223623547 : Params → Obj := fun P => oF vN "need_end" "Reader.need_end" (L2.inClass (top 18) 6) 0 vN vN
theorem te10050363269223623547 : tw10050363269223623547 = tw10050363269223623547 := rfl
noncomputable def tw11901232165429125723 : Params → Obj := fun P => oF vN "check_kinds" "check_kinds" (top 30) 0 vN vN
theorem te11901232165429125723 : tw11901232165429125723 = tw11901232165429125723 := rfl
noncomputable def tw13828838632641073650 : Params → Obj := fun P => oF vF "_law_parts" "_law_parts" (top 39) 3 (vS "law_turnery_k07_woods_shown_and_read" 518) (vR 288)
theorem te13828838632641073650 : tw13828838632641073650 = tw13828838632641073650 := rfl
noncomputable def tw3145881122120230146 : Params → Obj := fun P => oF vN "_law_wood" "_law_wood" (top 38) 0 vN vN
theorem te3145881122120230146 : tw3145881122120230146 = tw3145881122120230146 := rfl
noncomputable def tw4785233712938112775 : Params → Obj := fun P => oF vN "show_in_brackets" "show_in_brackets" (top 21) 0 vN vN
theorem te4785233712938112775 : tw4785233712938112775 = tw4785233712938112775 := rfl
noncomputable def tw16230064177893409921 : Params → Obj := fun P => oF vN "_law_shown" "_law_shown" (top 40) 0 vN vN
theorem te16230064177893409921 : tw16230064177893409921 = tw16230064177893409921 := rfl
noncomputable def tw3284304924932172557 : Params → Obj := fun P => oF vF "_law_joined" "_law_joined" (top 41) 3 (vS "law_turnery_k07_woods_shown_and_read" 518) (vR 302)
theorem te3284304924932172557 : tw3284304924932172557 = tw3284304924932172557 := rfl
noncomputable def tw6536840793747491499 : Params → Obj := fun P => oF vF "parted_by" "Reader.parted_by" (L2.inClass (top 18) 11) 3 (vS "turnery.readers" 314) (vR 190)
theorem te6536840793747491499 : tw6536840793747491499 = tw6536840793747491499 := rfl
noncomputable def tw9246401454119301581 : Params → Obj := fun P => oF vF "has_one_twice" "has_one_twice" (top 32) 3 (vS "turnery.woods" 449) (vR 252)
theorem te9246401454119301581 : tw9246401454119301581 = tw9246401454119301581 := rfl
noncomputable def tw15509084333412492450 : Params → Obj := fun P => oF vF "in_brackets" "Reader.in_brackets" (L2.inClass (top 18) 10) 3 (vS "turnery.readers" 314) (vR 183)
theorem te15509084333412492450 : tw15509084333412492450 = tw15509084333412492450 := rfl
noncomputable def tw4039775303578486217 : Params → Obj := fun P => oF vF "ahead" "Reader.ahead" (L2.inClass (top 18) 1) 3 (vS "turnery.readers" 314) (vR 120)
theorem te4039775303578486217 : tw4039775303578486217 = tw4039775303578486217 := rfl
noncomputable def tw8388015365665157329 : Params → Obj := fun P => oF vN "take_number" "Reader.take_number" (L2.inClass (top 18) 8) 0 vN vN
theorem te8388015365665157329 : tw8388015365665157329 = tw8388015365665157329 := rfl
noncomputable def tw14589588121674618953 : Params → Obj := fun P => oF vN "word_at" "word_at" (top 12) 0 vN vN
theorem te14589588121674618953 : tw14589588121674618953 = tw14589588121674618953 := rfl
noncomputable def tw10183267700969170875 : Params → Obj := fun P => oF vN "at_number" "Reader.at_number" (L2.inClass (top 18) 3) 0 vN vN
theorem te10183267700969170875 : tw10183267700969170875 = tw10183267700969170875 := rfl
noncomputable def tw14546676264796907274 : Params → Obj := fun P => oF vN "_wall" "_wall" (top 0) 0 vN vN
theorem te14546676264796907274 : tw14546676264796907274 = tw14546676264796907274 := rfl
noncomputable def tw11177658658045702280 : Params → Obj := fun P => oF vF "kind_from" "kind_from" (top 27) 3 (vS "turnery.woods" 449) (vR 223)
theorem te11177658658045702280 : tw11177658658045702280 = tw11177658658045702280 := rfl
noncomputable def tw15503035815547946503 : Params → Obj := fun P => oF vN "show_rows" "show_rows" (top 34) 0 vN vN
theorem te15503035815547946503 : tw15503035815547946503 = tw15503035815547946503 := rfl
noncomputable def tw7161073946102594029 : Params → Obj := fun P => oF vF "at_name" "Reader.at_name" (L2.inClass (top 18) 2) 3 (vS "turnery.readers" 314) (vR 127)
theorem te7161073946102594029 : tw7161073946102594029 = tw7161073946102594029 := rfl
noncomputable def tw11585632897840405794 : Params → Obj := fun P => oF vN "figures_at" "figures_at" (top 15) 0 vN vN
theorem te11585632897840405794 : tw11585632897840405794 = tw11585632897840405794 := rfl
noncomputable def tw2106828205048765737 : Params → Obj := fun P => oF vN "_law_cell_at" "_law_cell_at" (top 36) 0 vN vN
theorem te2106828205048765737 : tw2106828205048765737 = tw2106828205048765737 := rfl
noncomputable def tw5739585137399428616 : Params → Obj := fun P => oF vF "take_number" "Reader.take_number" (L2.inClass (top 18) 8) 3 (vS "turnery.readers" 314) (vR 169)
theorem te5739585137399428616 : tw5739585137399428616 = tw5739585137399428616 := rfl
noncomputable def tw1774342048269334134 : Params → Obj := fun P => oF vF "word_at" "word_at" (top 12) 3 (vS "turnery.words" 246) (vR 71)
theorem te1774342048269334134 : tw1774342048269334134 = tw1774342048269334134 := rfl
noncomputable def tw9426600319971159675 : Params → Obj := fun P => oF vF "need_end" "Reader.need_end" (L2.inClass (top 18) 6) 3 (vS "turnery.readers" 314) (vR 155)
theorem te9426600319971159675 : tw9426600319971159675 = tw9426600319971159675 := rfl
noncomputable def tw2737850772176020572 : Params → Obj := fun P => oF vF "begins_in" "begins_in" (top 19) 3 (vS "turnery.readers" 314) (vR 204)
theorem te2737850772176020572 : tw2737850772176020572 = tw2737850772176020572 := rfl
end PySem.W.Fast
noncomputable def PySem.W.Fast.tw18147411714915042569 : PySem.Program := PySem.Challenge.pw_turnery_k07_woods_shown_and_read
theorem PySem.W.Fast.te18147411714915042569 : (PySem.Challenge.pw_turnery_k07_woods_shown_and_read : PySem.Program) = PySem.W.Fast.tw18147411714915042569 := rfl
noncomputable def PySem.W.Fast.tw5141410605841927351 : PySem.Program := { PySem.Challenge.pw_turnery_k07_woods_shown_and_read with main := { PySem.Challenge.pw_turnery_k07_woods_shown_and_read.main with body := [K7.top 0, K7.top 2, K7.top 3, K7.top 4, K7.top 6, K7.top 7, K7.top 8, K7.top 9, K7.top 10, K7.top 11, K7.top 12, K7.top 13, K7.top 14, K7.top 15, K7.top 16, K7.top 18, K7.top 19, K7.top 21, K7.top 23, K7.top 24, K7.top 25, K7.top 26, K7.top 27, K7.top 28, K7.top 29, K7.top 30, K7.top 31, K7.top 32, K7.top 33, K7.top 34, K7.top 36, K7.top 37, K7.top 38, K7.top 39, K7.top 40, K7.top 41, K7.top 42, K7.top 43] } }
theorem PySem.W.Fast.te5141410605841927351 : ({ PySem.Challenge.pw_turnery_k07_woods_shown_and_read with main := { PySem.Challenge.pw_turnery_k07_woods_shown_and_read.main with body := [K7.top 0, K7.top 2, K7.top 3, K7.top 4, K7.top 6, K7.top 7, K7.top 8, K7.top 9, K7.top 10, K7.top 11, K7.top 12, K7.top 13, K7.top 14, K7.top 15, K7.top 16, K7.top 18, K7.top 19, K7.top 21, K7.top 23, K7.top 24, K7.top 25, K7.top 26, K7.top 27, K7.top 28, K7.top 29, K7.top 30, K7.top 31, K7.top 32, K7.top 33, K7.top 34, K7.top 36, K7.top 37, K7.top 38, K7.top 39, K7.top 40, K7.top 41, K7.top 42, K7.top 43] } } : PySem.Program) = PySem.W.Fast.tw5141410605841927351 := rfl
noncomputable def PySem.W.Fast.tw11070351305855953499 : List PySem.Stmt := (PySem.Challenge.pw_turnery_k07_woods_shown_and_read.main.body.drop 0).take 3
theorem PySem.W.Fast.te11070351305855953499 : ((PySem.Challenge.pw_turnery_k07_woods_shown_and_read.main.body.drop 0).take 3 : List PySem.Stmt) = PySem.W.Fast.tw11070351305855953499 := rfl
noncomputable def PySem.W.Fast.tw980540852733573123 : List PySem.Stmt := (PySem.Challenge.pw_turnery_k07_woods_shown_and_read.main.body.drop 3).take 1
theorem PySem.W.Fast.te980540852733573123 : ((PySem.Challenge.pw_turnery_k07_woods_shown_and_read.main.body.drop 3).take 1 : List PySem.Stmt) = PySem.W.Fast.tw980540852733573123 := rfl
noncomputable def PySem.W.Fast.tw4944449457227074358 : List PySem.Stmt := (PySem.Challenge.pw_turnery_k07_woods_shown_and_read.main.body.drop 4).take 11
theorem PySem.W.Fast.te4944449457227074358 : ((PySem.Challenge.pw_turnery_k07_woods_shown_and_read.main.body.drop 4).take 11 : List PySem.Stmt) = PySem.W.Fast.tw4944449457227074358 := rfl
noncomputable def PySem.W.Fast.tw3634714326557032460 : List PySem.Stmt := (PySem.Challenge.pw_turnery_k07_woods_shown_and_read.main.body.drop 15).take 3
theorem PySem.W.Fast.te3634714326557032460 : ((PySem.Challenge.pw_turnery_k07_woods_shown_and_read.main.body.drop 15).take 3 : List PySem.Stmt) = PySem.W.Fast.tw3634714326557032460 := rfl
noncomputable def PySem.W.Fast.tw1573319664216658264 : List PySem.Stmt := (PySem.Challenge.pw_turnery_k07_woods_shown_and_read.main.body.drop 18).take 1
theorem PySem.W.Fast.te1573319664216658264 : ((PySem.Challenge.pw_turnery_k07_woods_shown_and_read.main.body.drop 18).take 1 : List PySem.Stmt) = PySem.W.Fast.tw1573319664216658264 := rfl
noncomputable def PySem.W.Fast.tw2934502798039521751 : List PySem.Stmt := (PySem.Challenge.pw_turnery_k07_woods_shown_and_read.main.body.drop 19).take 18
theorem PySem.W.Fast.te2934502798039521751 : ((PySem.Challenge.pw_turnery_k07_woods_shown_and_read.main.body.drop 19).take 18 : List PySem.Stmt) = PySem.W.Fast.tw2934502798039521751 := rfl
noncomputable def PySem.W.Fast.tw16815136376250635131 : List PySem.Stmt := (PySem.Challenge.pw_turnery_k07_woods_shown_and_read.main.body.drop 37).take 7
theorem PySem.W.Fast.te16815136376250635131 : ((PySem.Challenge.pw_turnery_k07_woods_shown_and_read.main.body.drop 37).take 7 : List PySem.Stmt) = PySem.W.Fast.tw16815136376250635131 := rfl
open PySem PySem.W PyProof.Rows
set_option maxRecDepth 100000 in
set_option maxHeartbeats 0 in
theorem PySem.Challenge.cw_turnery_k07_woods_shown_and_read_holds : PySem.Challenge.rw_turnery_k07_woods_shown_and_read.Holds := by
  w_on; o_law; k_head; (case hw => w_witness2)
  k_fill
  refine K7.walk (c1 := 216) (T1 := 214) (c2 := 223) (T2 := 219) (c3 := 230) (T3 := 226) (l := PySem.Challenge.rw_turnery_k07_woods_shown_and_read) rfl rfl (fun w h Y => PySem.W.km_in_of Y) ?tb1 ?tb2 ?tb3 (by decide) (by decide) (by decide) ?F
  case tb1 =>
    intro w
    refine' L2.TabAt.mk ⟨_, ?a⟩ ?b ?c ?d; (case a => exact rfl); (case b => kernel_rfl); (case c => kernel_rfl); (case d => kernel_rfl)
  case tb2 =>
    intro w
    refine' L2.TabAt.mk ⟨_, ?a⟩ ?b ?c ?d; (case a => exact rfl); (case b => kernel_rfl); (case c => kernel_rfl); (case d => kernel_rfl)
  case tb3 =>
    intro w
    refine' L2.TabAt.mk ⟨_, ?a⟩ ?b ?c ?d; (case a => exact rfl); (case b => kernel_rfl); (case c => kernel_rfl); (case d => kernel_rfl)
  case F =>
    intro w mg fa h KX G hmg
    refine' K7.all_mk (c1 := 216) (T1 := 214) (c2 := 223) (T2 := 219) (c3 := 230) (T3 := 226) KX G hmg ?d1 ?d2 ?d3 ?d4 ?d5 ?d6 ?d7 ?d8 ?d9 ?d10 ?d11 ?d12 ?d13 ?d14 ?d15 ?d16 ?d17 ?d18 ?d19 ?d20 ?d21 ?d22 ?d23 ?d24 ?d25 ?z1 ?z2 ?z3 ?z4 ?z5 ?z6 ?z7 ?z8 ?ht1 ?hh1 ?ht2 ?hh2 ?ht3 ?hh3 (by decide) (by decide) (by decide) ?gA ?gB ?gC ?gD ?gE ?gF ?gG ?gH ?gI ?gJ ?gK ?gL ?s1
    (case ht1 => kernel_rfl); (case hh1 => kernel_rfl)
    (case ht2 => kernel_rfl); (case hh2 => kernel_rfl)
    (case ht3 => kernel_rfl); (case hh3 => kernel_rfl)
    (case d1 => refine' L2.DefAt.mk' ?a ?l ?c ?k; (case a => k_is); (case l => k_is); (case c => k_is); (case k => k_is))
    (case d2 => refine' L2.DefAt.mk' ?a ?l ?c ?k; (case a => k_is); (case l => k_is); (case c => k_is); (case k => k_is))
    (case d3 => refine' L2.DefAt.mk' ?a ?l ?c ?k; (case a => k_is); (case l => k_is); (case c => k_is); (case k => k_is))
    (case d4 => refine' L2.DefAt.mk' ?a ?l ?c ?k; (case a => k_is); (case l => k_is); (case c => k_is); (case k => k_is))
    (case d5 => refine' L2.DefAt.mk' ?a ?l ?c ?k; (case a => k_is); (case l => k_is); (case c => k_is); (case k => k_is))
    (case d6 => refine' L2.DefAt.mk' ?a ?l ?c ?k; (case a => k_is); (case l => k_is); (case c => k_is); (case k => k_is))
    (case d7 => refine' L2.DefAt.mk' ?a ?l ?c ?k; (case a => k_is); (case l => k_is); (case c => k_is); (case k => k_is))
    (case d8 => refine' L2.DefAt.mk' ?a ?l ?c ?k; (case a => k_is); (case l => k_is); (case c => k_is); (case k => k_is))
    (case d9 => refine' L2.DefAt.mk' ?a ?l ?c ?k; (case a => k_is); (case l => k_is); (case c => k_is); (case k => k_is))
    (case d10 => refine' L2.DefAt.mk' ?a ?l ?c ?k; (case a => k_is); (case l => k_is); (case c => k_is); (case k => k_is))
    (case d11 => refine' L2.DefAt.mk' ?a ?l ?c ?k; (case a => k_is); (case l => k_is); (case c => k_is); (case k => k_is))
    (case d12 => refine' L2.DefAt.mk' ?a ?l ?c ?k; (case a => k_is); (case l => k_is); (case c => k_is); (case k => k_is))
    (case d13 => refine' L2.DefAt.mk' ?a ?l ?c ?k; (case a => k_is); (case l => k_is); (case c => k_is); (case k => k_is))
    (case d14 => refine' L2.DefAt.mk' ?a ?l ?c ?k; (case a => k_is); (case l => k_is); (case c => k_is); (case k => k_is))
    (case d15 => refine' L2.DefAt.mk' ?a ?l ?c ?k; (case a => k_is); (case l => k_is); (case c => k_is); (case k => k_is))
    (case d16 => refine' L2.DefAt.mk' ?a ?l ?c ?k; (case a => k_is); (case l => k_is); (case c => k_is); (case k => k_is))
    (case d17 => refine' L2.DefAt.mk' ?a ?l ?c ?k; (case a => k_is); (case l => k_is); (case c => k_is); (case k => k_is))
    (case d18 => refine' L2.DefAt.mk' ?a ?l ?c ?k; (case a => k_is); (case l => k_is); (case c => k_is); (case k => k_is))
    (case d19 => refine' L2.DefAt.mk' ?a ?l ?c ?k; (case a => k_is); (case l => k_is); (case c => k_is); (case k => k_is))
    (case d20 => refine' L2.DefAt.mk' ?a ?l ?c ?k; (case a => k_is); (case l => k_is); (case c => k_is); (case k => k_is))
    (case d21 => refine' L2.DefAt.mk' ?a ?l ?c ?k; (case a => k_is); (case l => k_is); (case c => k_is); (case k => k_is))
    (case d22 => refine' L2.DefAt.mk' ?a ?l ?c ?k; (case a => k_is); (case l => k_is); (case c => k_is); (case k => k_is))
    (case d23 => refine' L2.DefAt.mk' ?a ?l ?c ?k; (case a => k_is); (case l => k_is); (case c => k_is); (case k => k_is))
    (case d24 => refine' L2.DefAt.mk' ?a ?l ?c ?k; (case a => k_is); (case l => k_is); (case c => k_is); (case k => k_is))
    (case d25 => refine' L2.DefAt.mk' ?a ?l ?c ?k; (case a => k_is); (case l => k_is); (case c => k_is); (case k => k_is))
    (case z1 => k_is); (case z2 => k_is); (case z3 => k_is); (case z4 => k_is); (case z5 => k_is); (case z6 => k_is); (case z7 => k_is); (case z8 => k_is)
    (case gA => k_is)
    (case gB => k_is)
    (case gC => k_is)
    (case gD => k_is)
    (case gE => k_is)
    (case gF => k_is)
    (case gG => k_is)
    (case gH => k_is)
    (case gI => k_is)
    (case gJ => k_is)
    (case gK => k_is)
    (case gL => k_is)
    case s1 =>
      refine' K7.RdK.mk' ?aC ?pg ?hd ?po ?sa ?n1 ?n2 ?mk ?kc ?m1 ?m2 ?m3 ?m4 ?m5 ?m6 ?m7 ?m8 ?m9 ?m10
      (case aC => k_is); (case pg => k_is); (case hd => k_is); (case po => k_is); (case sa => k_is); (case n1 => k_is); (case n2 => k_is); (case mk => k_is); (case kc => k_is)
      (case m1 => refine' L2.MethAt.mk' ?a ?i ?l ?c ?k; (case a => k_is); (case i => k_is); (case l => k_is); (case c => k_is); (case k => k_is))
      (case m2 => refine' L2.MethAt.mk' ?a ?i ?l ?c ?k; (case a => k_is); (case i => k_is); (case l => k_is); (case c => k_is); (case k => k_is))
      (case m3 => refine' L2.MethAt.mk' ?a ?i ?l ?c ?k; (case a => k_is); (case i => k_is); (case l => k_is); (case c => k_is); (case k => k_is))
      (case m4 => refine' L2.MethAt.mk' ?a ?i ?l ?c ?k; (case a => k_is); (case i => k_is); (case l => k_is); (case c => k_is); (case k => k_is))
      (case m5 => refine' L2.MethAt.mk' ?a ?i ?l ?c ?k; (case a => k_is); (case i => k_is); (case l => k_is); (case c => k_is); (case k => k_is))
      (case m6 => refine' L2.MethAt.mk' ?a ?i ?l ?c ?k; (case a => k_is); (case i => k_is); (case l => k_is); (case c => k_is); (case k => k_is))
      (case m7 => refine' L2.MethAt.mk' ?a ?i ?l ?c ?k; (case a => k_is); (case i => k_is); (case l => k_is); (case c => k_is); (case k => k_is))
      (case m8 => refine' L2.MethAt.mk' ?a ?i ?l ?c ?k; (case a => k_is); (case i => k_is); (case l => k_is); (case c => k_is); (case k => k_is))
      (case m9 => refine' L2.MethAt.mk' ?a ?i ?l ?c ?k; (case a => k_is); (case i => k_is); (case l => k_is); (case c => k_is); (case k => k_is))
      (case m10 => refine' L2.MethAt.mk' ?a ?i ?l ?c ?k; (case a => k_is); (case i => k_is); (case l => k_is); (case c => k_is); (case k => k_is))
