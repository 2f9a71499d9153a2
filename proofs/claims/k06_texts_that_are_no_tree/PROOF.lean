import PyProof.Rows.All
import Wide.All
import OpenK.AllK
import Wide.FinOn
import Lean
import PyProof.EqAt
import PyProof.EqKinds
import PyProof.TupleCall
import KE.KLam
import KE.KNestM
import KE.KTryDeep
import KE.KTryOn
import OpenK.KOwn
import PyProof.FString
import PyProof.PureStr
import PyProof.RulesAs
import PyProof.NsDelKeeps
import KE.KSortTup
import KE.KRevIter
import KE.KIsAll
import PySem.Challenge.RW_turnery_k06_texts_that_are_no_tree
noncomputable section
set_option Elab.async false
set_option linter.all false
set_option maxRecDepth 100000
namespace L2
open PySem PySem.Spec PyProof.Rows
abbrev Key := Sum Int Str
def keyIs : Key → Value → Bool
  | .inl k, v => Value.isInt k v
  | .inr x, v => Value.isStrOf x v
def keyH (w : World) : Key → Int
  | .inl k => hashInt k
  | .inr x => hashStr w x
theorem keyIs_shape : ∀ {k : Key} {v : Value}, keyIs k v = true → (∃ i t, k = Sum.inl i ∧ v = Value.int i t) ∨ (∃ x t, k = Sum.inr x ∧ v = Value.str x t)
  | .inl i, v, h => by
    obtain ⟨t, e⟩ := Value.isInt_shape (k := i) (v := v) h
    exact .inl ⟨i, t, rfl, e⟩
  | .inr x, v, h => by
    obtain ⟨t, e⟩ := Value.isStrOf_shape (x := x) (v := v) h
    exact .inr ⟨x, t, rfl, e⟩
theorem key_ll (a b : Int) : decide ((Sum.inl a : Key) = Sum.inl b) = (a == b) := by
  by_cases e : a = b
  · subst e; simp
  · have h : ¬ (Sum.inl a : Key) = Sum.inl b := fun q => e (Sum.inl.inj q)
    rw [decide_eq_false h]
    exact (beq_eq_false_iff_ne.mpr e).symm
theorem key_rr (a b : Str) : decide ((Sum.inr a : Key) = Sum.inr b) = decide (a = b) := by
  by_cases e : a = b
  · subst e; simp
  · have h : ¬ (Sum.inr a : Key) = Sum.inr b := fun q => e (Sum.inr.inj q)
    rw [decide_eq_false h, decide_eq_false e]
theorem key_lr (a : Int) (b : Str) : decide ((Sum.inl a : Key) = Sum.inr b) = false := decide_eq_false (fun q => nomatch q)
theorem key_rl (a : Str) (b : Int) : decide ((Sum.inr a : Key) = Sum.inl b) = false := decide_eq_false (fun q => nomatch q)
def mixKind (prog : Program) (w : World) : PySem.KeyKind prog w Key where
  is := keyIs
  hash := keyH w
  inj := fun v a b ha hb => by
    rcases keyIs_shape ha with ⟨i, t, rfl, rfl⟩ | ⟨x, t, rfl, rfl⟩
    · rcases keyIs_shape hb with ⟨j, u, rfl, e⟩ | ⟨y, u, rfl, e⟩
      · injection e with e1 _; rw [e1]
      · exact nomatch e
    · rcases keyIs_shape hb with ⟨j, u, rfl, e⟩ | ⟨y, u, rfl, e⟩
      · exact nomatch e
      · injection e with e1 _; rw [e1]
  byValue := fun k v h => by
    rcases keyIs_shape h with ⟨i, t, rfl, rfl⟩ | ⟨x, t, rfl, rfl⟩ <;> rfl
  pyHash := fun hv h => by
    rcases keyIs_shape hv with ⟨i, t, rfl, rfl⟩ | ⟨x, t, rfl, rfl⟩
    · exact wpAny_pyHash_int h
    · exact wpAny_pyHash_str h
  eqBool := fun hu hv h => by
    rcases keyIs_shape hu with ⟨i, t, rfl, rfl⟩ | ⟨x, t, rfl, rfl⟩
    · rcases keyIs_shape hv with ⟨j, u, rfl, rfl⟩ | ⟨y, u, rfl, rfl⟩
      · rw [key_ll] at h; exact wpAny_eqBool_int h
      · rw [key_lr] at h; exact SeqAt.EqAt.int_str i t y u _ _ _ _ h
    · rcases keyIs_shape hv with ⟨j, u, rfl, rfl⟩ | ⟨y, u, rfl, rfl⟩
      · rw [key_rl] at h; exact SeqAt.EqAt.str_int x t j u _ _ _ _ h
      · rw [key_rr] at h; exact wpAny_eqBool_str h
  «strs» := fun k x t v h => by
    rcases keyIs_shape h with ⟨i, u, rfl, e⟩ | ⟨y, u, rfl, e⟩
    · exact nomatch e
    · injection e with e1 _
      subst e1
      cases v <;> rfl
end L2
namespace L2
open PySem PySem.Spec PyProof.Rows
inductive V where
  | non | bl (b : Bool) | int (i : Int) | str (x : Str) | byt (b : Array UInt8) | flt (b : UInt64) | ref (a : Addr) | ty (n : String)
  deriving DecidableEq
def RelV : V → Value → Prop
  | .non, u => u = Value.none
  | .bl b, u => u = Value.bool b
  | .int i, u => ∃ t, u = Value.int i t
  | .str x, u => ∃ t, u = Value.str x t
  | .byt b, u => ∃ t, u = Value.bytes b t
  | .flt b, u => ∃ t, u = Value.float b t
  | .ref a, u => u = Value.ref a
  | .ty n, u => u = Value.type n
abbrev Vals : List V → List Value → Prop := Paired RelV
theorem Vals.length {xs : List V} {us : List Value} (r : Vals xs us) : xs.length = us.length := Paired.length r
theorem Vals.get : ∀ {xs : List V} {us : List Value} {i : Nat} {x : V}, Vals xs us → xs[i]? = some x → ∃ u, us[i]? = some u ∧ RelV x u
  | _, _, _, _, .nil, e => by simp at e
  | _, _, 0, _, .cons r _, e => by simp at e; subst e; exact ⟨_, rfl, r⟩
  | _, _, i + 1, x, .cons _ t, e => by
    obtain ⟨u, h1, h2⟩ := Vals.get (i := i) (x := x) t (by simpa using e)
    exact ⟨u, by simpa using h1, h2⟩
theorem Vals.set {x : V} {u : Value} (r : RelV x u) : ∀ {xs : List V} {us : List Value} (i : Nat), Vals xs us → Vals (xs.set i x) (us.set i u)
  | _, _, _, .nil => .nil
  | _, _, 0, .cons _ t => .cons r t
  | _, _, i + 1, .cons q t => .cons q (Vals.set r i t)
theorem Vals.append : ∀ {xs ys : List V} {us ws : List Value}, Vals xs us → Vals ys ws → Vals (xs ++ ys) (us ++ ws)
  | _, _, _, _, .nil, s => s
  | _, _, _, _, .cons r t, s => .cons r (Vals.append t s)
theorem Vals.take : ∀ {xs : List V} {us : List Value} (n : Nat), Vals xs us → Vals (xs.take n) (us.take n)
  | _, _, 0, _ => .nil
  | _, _, _ + 1, .nil => .nil
  | _, _, n + 1, .cons r t => .cons r (Vals.take n t)
theorem Vals.drop : ∀ {xs : List V} {us : List Value} (n : Nat), Vals xs us → Vals (xs.drop n) (us.drop n)
  | _, _, 0, r => r
  | _, _, _ + 1, .nil => .nil
  | _, _, n + 1, .cons _ t => Vals.drop n t
def RelO : Option V → Option Value → Prop
  | some v, some u => RelV v u
  | none, none => True
  | _, _ => False
def KV {κ : Type} : List (κ × V) → List (κ × Value) → Prop := Paired fun (p : κ × V) (q : κ × Value) => p.1 = q.1 ∧ RelV p.2 q.2
def kV : Key → V
  | .inl i => .int i
  | .inr x => .str x
inductive HO where
  /-- a list -/
  | lst (xs : List V)
  /-- a tuple (never changes) -/
  | tup (xs : List V)
  /-- a dict whose keys are ints and texts; one whose keys are tuples of ints and texts (the empty one is both) -/
  | dK (kvs : List (Key × V)) | dT (kvs : List (List Key × V))
  /-- a set of ints: its members, its size -/
  | set (S : Int → Bool) (n : Nat)
  /-- an instance of the class at C, its dict at dx, its attributes -/
  | ins (C dx : Addr) (fs : List (Str × V))
  /-- the dict of the instance at x -/
  | own (x : Addr)
  /-- the dict of an exception -/
  | xd (fs : List (Str × V))
  /-- a bound method, f of x -/
  | met (f x : Addr)
  /-- a range object lo, lo + 1, .. below hi -/
  | rng (lo hi : Int)
  /-- a thing that is known to the object (the script; a dict while a loop walks it): read, never written while it is so -/
  | frz (o : Obj) (u : HO)
  /-- a code object's table -/
  | tbl (ps : Array Value)
  /-- any other thing, by what is true of its one object (a def of one's own: SetO a S n := HO.ext fun h => ..) -/
  | ext (φ : Heap → Prop)
abbrev Hp := Addr → Option HO
def upd (H : Hp) (a : Addr) (o : HO) : Hp := fun b => if b = a then some o else H b
theorem upd_same {H : Hp} {a : Addr} {o : HO} : upd H a o a = some o := by unfold upd; rw [if_pos rfl]
theorem upd_ne {H : Hp} {a b : Addr} {o : HO} (h : b ≠ a) : upd H a o b = H b := by unfold upd; rw [if_neg h]
theorem ne_of {H : Hp} {a b : Addr} {o u : HO} (h : H a = some o) (h' : H b = some u) (d : o ≠ u) : a ≠ b := by
  intro e; subst e; rw [h] at h'; exact d (Option.some.inj h')
theorem ne_of_none {H : Hp} {a b : Addr} {o : HO} (h : H a = some o) (h' : H b = none) : a ≠ b := by
  intro e; subst e; rw [h] at h'; cases h'
section
variable (P : Program) (w : World)
def ObjOk (H : Hp) (h : Heap) (a : Addr) : HO → Prop
  | .lst xs => xs.length ≤ sizeLine ∧ ∃ (its : List Value) (n : Nat), Vals xs its ∧ h.get? a = some { cls := .type "list", data := .seq its.toArray n }
  | .tup xs => xs.length ≤ sizeLine ∧ ∃ its : List Value, Vals xs its ∧ IsTup h a its.toArray
  | .dK kvs => kvs.length ≤ sizeLine ∧ (a == sysModules) = false ∧ ∃ vs, KV kvs vs ∧ h.DictOf (mixKind P w) a vs
  | .dT kvs => kvs.length ≤ sizeLine ∧ (a == sysModules) = false ∧ ∃ xs : List (List Key × Addr × Value),
      Paired (fun (p : List Key × V) (q : List Key × Addr × Value) => p.1 = q.1 ∧ H q.2.1 = some (.tup (p.1.map kV)) ∧ RelV p.2 q.2.2) kvs xs ∧
      ∃ o es ep, h.get? a = some o ∧ o.ExactDict ∧ o.data = .dict es ep ∧ es.toList = xs.map (entryOfKey (tupleKind (mixKind P w))) ∧ (xs.map (·.1)).Nodup
  | .set S n => h.SetOf (intKind P w) a S n
  | .ins C dx fs => H dx = some (.own a) ∧ fs.length ≤ 1000 ∧ dx ≠ a ∧ h.get? a = some (PySem.W.instObj C dx) ∧
      ∃ mA, h.Ns1 dx mA ∧ (∀ f, RelO (fs.lookup f) (mA f)) ∧ PySem.Within mA (fs.map (·.1))
  | .own _ => ∃ o, h.get? a = some o
  | .xd fs => ∃ mA, h.Ns1 a mA ∧ ∀ f, RelO (fs.lookup f) (mA f)
  | .rng lo hi => ∃ t u v, h.get? a = some { cls := .type "range", data := .fields #[.int lo t, .int hi u, .int 1 v] }
  | .frz o u => h.get? a = some o ∧ ObjOk H h a u
  | .tbl ps => h.get? a = some { cls := .none, data := .fields ps }
  | .met f x => h.get? a = some (PySem.W.methodObj (.ref f) (.ref x))
  | .ext φ => φ h ∧ (∃ o, h.get? a = some o) ∧ ∀ h1 h2 : Heap, φ h1 → (∀ o, h1.get? a = some o → h2.get? a = some o) → φ h2
def HOk (H : Hp) (h : Heap) : Prop := ∀ a o, H a = some o → ObjOk P w H h a o
end
section
variable {P : Program} {w : World} {H H' : Hp} {h h' : Heap} {a : Addr} {o : HO}
theorem ObjOk.lt (x : ObjOk P w H h a o) : a < h.objs.size := by
  cases o with
  | lst xs => obtain ⟨_, _, _, _, e⟩ := x; exact Heap.lt_size e
  | tup xs => obtain ⟨_, _, _, p⟩ := x; exact p.lt
  | dK kvs => obtain ⟨_, _, _, _, o, _, _, e, _⟩ := x; exact Heap.lt_size e
  | dT kvs => obtain ⟨_, _, _, _, o, _, _, e, _⟩ := x; exact Heap.lt_size e
  | set S n => obtain ⟨o, _, _, _, e, _⟩ := x; exact Heap.lt_size e
  | ins C dx fs => obtain ⟨_, _, _, e, _⟩ := x; exact Heap.lt_size e
  | own y => obtain ⟨_, e⟩ := x; exact Heap.lt_size e
  | xd fs => obtain ⟨_, ⟨_, _, _, e, _⟩, _⟩ := x; exact Heap.lt_size e
  | rng lo hi => obtain ⟨_, _, _, e⟩ := x; exact Heap.lt_size e
  | frz ob u => obtain ⟨e, _⟩ := x; exact Heap.lt_size e
  | tbl ps => exact Heap.lt_size (show h.get? a = some _ from x)
  | met f y => exact Heap.lt_size (show h.get? a = some _ from x)
  | ext φ => obtain ⟨_, ⟨_, e⟩, _⟩ := x; exact Heap.lt_size e
theorem Paired.mapP {α β : Type} {F G : α → β → Prop} : ∀ {l₁ : List α} {l₂ : List β}, Paired F l₁ l₂ → (∀ a b, F a b → G a b) → Paired G l₁ l₂
  | _, _, .nil, _ => .nil
  | _, _, .cons r t, f => .cons (f _ _ r) (Paired.mapP t f)
theorem ObjOk.stay (x : ObjOk P w H h a o) (k : ∀ b u, (b = a ∨ H b = some (.own a)) → h.get? b = some u → h'.get? b = some u)
    (ho : ∀ b, H b = some (.own a) → H' b = some (.own a)) (ht : ∀ b xs, H b = some (.tup xs) → H' b = some (.tup xs)) : ObjOk P w H' h' a o := by
  induction o with
  | lst xs => obtain ⟨z, its, n, r, e⟩ := x; exact ⟨z, its, n, r, k _ _ (.inl rfl) e⟩
  | tup xs => obtain ⟨z, its, r, ob, e, c⟩ := x; exact ⟨z, its, r, ob, k _ _ (.inl rfl) e, c⟩
  | dK kvs => obtain ⟨z, y, vs, r, ob, es, ep, e, c⟩ := x; exact ⟨z, y, vs, r, ob, es, ep, k _ _ (.inl rfl) e, c⟩
  | dT kvs =>
    obtain ⟨z, y, xs, r, ob, es, ep, e, c⟩ := x
    exact ⟨z, y, xs, Paired.mapP r fun p q z => ⟨z.1, ht _ _ z.2.1, z.2.2⟩, ob, es, ep, k _ _ (.inl rfl) e, c⟩
  | set S n => obtain ⟨ob, es, ep, t, e, c⟩ := x; exact ⟨ob, es, ep, t, k _ _ (.inl rfl) e, c⟩
  | ins C dx fs =>
    obtain ⟨d, z, ne, e, mA, ⟨od, es, ep, e2, c⟩, r⟩ := x
    exact ⟨ho _ d, z, ne, k _ _ (.inl rfl) e, mA, ⟨od, es, ep, k _ _ (.inr d) e2, c⟩, r⟩
  | own y => obtain ⟨ob, e⟩ := x; exact ⟨ob, k _ _ (.inl rfl) e⟩
  | xd fs => obtain ⟨mA, ⟨od, es, ep, e, c⟩, r⟩ := x; exact ⟨mA, ⟨od, es, ep, k _ _ (.inl rfl) e, c⟩, r⟩
  | rng lo hi => obtain ⟨t, u, v, e⟩ := x; exact ⟨t, u, v, k _ _ (.inl rfl) e⟩
  | frz ob u ih => obtain ⟨e, q⟩ := x; exact ⟨k _ _ (.inl rfl) e, ih q⟩
  | tbl ps =>
    have e : h.get? a = some { cls := .none, data := .fields ps } := x
    show h'.get? a = some { cls := .none, data := .fields ps }
    exact k a _ (.inl rfl) e
  | met f y =>
    have e : h.get? a = some (PySem.W.methodObj (.ref f) (.ref y)) := x
    show h'.get? a = some (PySem.W.methodObj (.ref f) (.ref y))
    exact k a _ (.inl rfl) e
  | ext φ => obtain ⟨p, ⟨o, e⟩, st⟩ := x; exact ⟨st _ _ p fun o q => k _ _ (.inl rfl) q, ⟨o, k _ _ (.inl rfl) e⟩, st⟩
theorem HOk.lt (x : HOk P w H h) (e : H a = some o) : a < h.objs.size := (x a o e).lt
theorem HOk.fresh (x : HOk P w H h) (e : h.objs.size ≤ a) : H a = none := by
  cases q : H a with
  | none => rfl
  | some u => exact absurd (Nat.lt_of_lt_of_le (x.lt q) e) (Nat.lt_irrefl _)
theorem HOk.kept (x : HOk P w H h) (k : ∀ b u, h.get? b = some u → h'.get? b = some u) : HOk P w H h' := fun a o e =>
  (x a o e).stay (fun b u _ q => k b u q) (fun _ q => q) fun _ _ q => q
theorem HOk.laid (x : HOk P w H h) (k : ∀ b u, h.get? b = some u → h'.get? b = some u) (hp : h.objs.size ≤ a) (new : ObjOk P w (upd H a o) h' a o) : HOk P w (upd H a o) h' := fun b u e => by
  have hn := x.fresh hp
  by_cases hb : b = a
  · subst hb; rw [upd_same] at e; cases e; exact new
  · rw [upd_ne hb] at e
    exact (x b u e).stay (fun c v _ q => k c v q) (fun c q => by rw [upd_ne (ne_of_none q hn)]; exact q) fun c xs q => by rw [upd_ne (ne_of_none q hn)]; exact q
end
def Rd (H : Hp) (a : Addr) (u : HO) : Prop := H a = some u ∨ ∃ o, H a = some (.frz o u)
theorem Rd.ok {P : Program} {w : World} {H : Hp} {h : Heap} {a : Addr} {u : HO} (r : Rd H a u) (x : HOk P w H h) : ObjOk P w H h a u := by
  rcases r with r | ⟨o, r⟩
  · exact x a u r
  · obtain ⟨_, q⟩ := x a _ r
    exact q
def Mut : Option HO → Prop
  | some (.lst _) => True
  | some (.dK _) => True
  | some (.dT _) => True
  | some (.set _ _) => True
  | some (.ins _ _ _) => True
  | some (.ext _) => True
  | _ => False
section
variable {P : Program} {w : World} {H : Hp} {h h' : Heap} {x e : Addr} {o' : HO}
theorem HOk.write (ok : HOk P w H h) (mu : Mut (H x)) (he : e = x ∨ H e = some (.own x)) (k : ∀ b u, b ≠ e → h.get? b = some u → h'.get? b = some u) (heo : ∃ u, h'.get? e = some u)
    (new : ObjOk P w (upd H x o') h' x o') : HOk P w (upd H x o') h' := fun b u q => by
  have nown : ∀ c y, H c = some (.own y) → c ≠ x := fun c y r z => by subst z; rw [r] at mu; exact mu
  have ntup : ∀ c xs, H c = some (.tup xs) → c ≠ x := fun c xs r z => by subst z; rw [r] at mu; exact mu
  by_cases hb : b = x
  · subst hb; rw [upd_same] at q; cases q; exact new
  · rw [upd_ne hb] at q
    by_cases hbe : b = e
    · have q' : H b = some (.own x) := by
        rcases he with z | z
        · exact absurd (hbe.trans z) hb
        · rw [hbe]; exact z
      rw [q] at q'; cases q'
      obtain ⟨v, hv⟩ := heo
      exact ⟨v, by rw [hbe]; exact hv⟩
    · refine (ok b u q).stay (fun c v hc r => k c v ?_ r) (fun c r => by rw [upd_ne (nown c b r)]; exact r) fun c xs r => by rw [upd_ne (ntup c xs r)]; exact r
      rcases hc with rfl | hc
      · exact hbe
      · rintro rfl
        rcases he with z | z
        · exact nown c b hc z
        · rw [hc] at z; cases z; exact hb rfl
end
structure Un (fs ex : List Addr) (H H' : Hp) (h h' : Heap) : Prop where
  keep : ∀ b o, h.get? b = some o → H b = none → b ∉ fs → b ∉ ex → h'.get? b = some o
  slot : ∀ b o, h.get? b = some o → H b = none → b ∈ fs → b ∉ ex → ∃ sl, h'.get? b = some { o with slots := sl }
  free : ∀ b o, h.get? b = some o → H b = none → b ∉ ex → H' b = none
  there : ∀ b o, h.get? b = some o → b ∉ ex → ∃ o', h'.get? b = some o'
  tups : ∀ b xs, H b = some (.tup xs) → H' b = some (.tup xs)
  frzs : ∀ b o u, H b = some (.frz o u) → H' b = some (.frz o u)
  tbls : ∀ b ps, H b = some (.tbl ps) → ∃ more, H' b = some (.tbl (ps ++ more))
section
variable {fs fs' ex ex' : List Addr} {H H1 H2 : Hp} {h h1 h2 h' : Heap} {a x e : Addr} {o : HO}
theorem Un.any (u : Un fs ex H H1 h h1) {b : Addr} {ob : Obj} (q : h.get? b = some ob) (n : H b = none) (hx : b ∉ ex) : ∃ sl, h1.get? b = some { ob with slots := sl } := by
  by_cases hb : b ∈ fs
  · exact u.slot b ob q n hb hx
  · exact ⟨ob.slots, u.keep b ob q n hb hx⟩
theorem Un.kept (k : ∀ b u, h.get? b = some u → h'.get? b = some u) : Un fs ex H H h h' :=
  ⟨fun b ob q _ _ _ => k b ob q, fun b ob q _ _ _ => ⟨ob.slots, k b ob q⟩, fun _ _ _ n _ => n, fun b ob q _ => ⟨ob, k b ob q⟩, fun _ _ q => q, fun _ _ _ q => q, fun _ ps q => ⟨#[], by rw [q]; simp⟩⟩
theorem Un.refl : Un fs ex H H h h := Un.kept fun _ _ q => q
theorem Un.laid (k : ∀ b u, h.get? b = some u → h'.get? b = some u) (hp : h.objs.size ≤ a) (hn : H a = none) : Un fs ex H (upd H a o) h h' where
  keep := fun b u q _ _ _ => k b u q
  slot := fun b u q _ _ _ => ⟨u.slots, k b u q⟩
  free := fun b u q n _ => by rw [upd_ne (Nat.ne_of_lt (Nat.lt_of_lt_of_le (Heap.lt_size q) hp))]; exact n
  there := fun b u q _ => ⟨u, k b u q⟩
  tups := fun b xs q => by rw [upd_ne (ne_of_none q hn)]; exact q
  frzs := fun b u xs q => by rw [upd_ne (ne_of_none q hn)]; exact q
  tbls := fun b ps q => ⟨#[], by rw [upd_ne (ne_of_none q hn), q]; simp⟩
theorem Un.write (mu : Mut (H x)) (he : e = x ∨ H e = some (.own x)) (k : ∀ b u, b ≠ e → h.get? b = some u → h'.get? b = some u) (heo : ∃ u, h'.get? e = some u) : Un fs ex H (upd H x o) h h' := by
  have hx : ∀ b, H b = none → b ≠ x := fun b n z => by subst z; rw [n] at mu; exact mu
  have hb : ∀ b, H b = none → b ≠ e := fun b n z => by
    subst z
    rcases he with r | r
    · exact hx b n r
    · rw [n] at r; cases r
  have hm : ∀ b u, H b = some u → ¬ Mut (some u) → b ≠ x := fun b u q nm z => by subst z; rw [q] at mu; exact nm mu
  refine ⟨fun b u q n _ _ => k b u (hb b n) q, fun b u q n _ _ => ⟨u.slots, k b u (hb b n) q⟩, fun b u q n _ => by rw [upd_ne (hx b n)]; exact n, fun b u q _ => ?_,
    fun b xs q => by rw [upd_ne (hm b _ q fun z => z)]; exact q, fun b u xs q => by rw [upd_ne (hm b _ q fun z => z)]; exact q, fun b ps q => ⟨#[], by rw [upd_ne (hm b _ q fun z => z), q]; simp⟩⟩
  by_cases hbe : b = e
  · subst hbe; exact heo
  · exact ⟨u, k b u hbe q⟩
end
def trk (h : Heap) (H : Hp) : List Addr := (List.range h.objs.size).filter fun a => (H a).isSome
def hidT (h : Heap) (H : Hp) : Heap := PySem.W.hideAll h (trk h H)
theorem hidT_size (h : Heap) (H : Hp) : (hidT h H).objs.size = h.objs.size := PySem.W.hideAll_size _ _
theorem hidT_get {h : Heap} {H : Hp} {b : Addr} {o : Obj} (e : h.get? b = some o) (n : H b = none) : (hidT h H).get? b = some o :=
  PySem.W.hideAll_get _ e fun hm => by
    have q : (H b).isSome = true := (List.mem_filter.mp hm).2
    rw [n] at q; simp at q
theorem of_hidT {h : Heap} {H : Hp} {b : Addr} {o : Obj} (e : (hidT h H).get? b = some o) : h.get? b = some o ∧ H b = none := by
  have e' : h.get? b = some o := PySem.W.of_hideAll (trk h H) e
  refine ⟨e', ?_⟩
  cases q : H b with
  | none => rfl
  | some x =>
    have hm : b ∈ trk h H := List.mem_filter.mpr ⟨List.mem_range.mpr (Heap.lt_size e'), by simp [q]⟩
    have z : (hidT h H).get? b = none := PySem.W.hideAll_none (trk h H) hm
    rw [z] at e; cases e
def allNews (g h : Heap) (L : Addr) : List (Addr × Obj) := (List.range h.objs.size).filterMap fun a => if a = L ∨ (g.get? a).isSome = true then none else (h.get? a).map fun o => (a, o)
def rest (g h : Heap) (L d : Addr) : List (Addr × Obj) := (allNews g h L).filter fun p => decide (p.1 ≠ d)
end L2
namespace L2
open PySem PySem.Spec PyProof.Rows
structure Mod (K : PySem.W.Frag) (mg : Str → Option Value) (base : Heap) : Prop where
  kin : K.In base
  glob : base.Ns mainGlobals mg
  blt : ∃ mb, base.Ns builtinsNs mb ∧ ∀ x : Str, x ≠ "__name__" → mb x = bootBuiltins x
  nolimit : base.NoLimit
structure Cx where
  prog : Program
  w : World
  K : PySem.W.Frag
  mg : Str → Option Value
  base : Heap
  A : Around
  N : List Str
  s₀ : Shared
  H₀ : Hp
  env : Env
  outer : List Env
  stack : List Env
  ex : List Addr
  fn : Str → Bool
  calm : Bool
  pn : List (Addr × Obj)
  xe : Value → Shared → Prop
def frs (l : List Env) : List Addr := l.filterMap (·.frame)
abbrev Cx.fs (X : Cx) : List Addr := frs X.outer
def Vis (sc : Scope) (x : Str) : Prop := sc.names.lookup x = some .local ∨ sc.names.lookup x = some .cell ∨ sc.names.lookup x = some .free
def Loc (sc : Scope) (x : Str) : Prop := sc.names.lookup x = some .local ∨ sc.names.lookup x = some .cell
def Look (env : Env) (h : Heap) (m : Str → Option Value) (x : Str) (u : Value) : Prop :=
  (env.kindOf x = some .local ∧ m x = some u) ∨ ((env.kindOf x = some .cell ∨ env.kindOf x = some .free) ∧ ∃ c, env.cells.lookup x = some c ∧ h.IsCell c (some u))
structure Cx.Ok (X : Cx) : Prop where
  mod : Mod X.K X.mg X.base
  kind : X.env.scope.kind = .function
  glob : X.env.globals = mainGlobals
  blt : X.env.builtins = builtinsNs
  above : X.s₀.heap.objs.size ≤ X.env.locals
  inj : ∀ x y c, X.env.cells.lookup x = some c → X.env.cells.lookup y = some c → x = y
  has : ∀ x, (X.env.kindOf x = some .cell ∨ X.env.kindOf x = some .free) → ∃ c, X.env.cells.lookup x = some c
  cab : ∀ x c, X.fn x = true → X.env.cells.lookup x = some c → X.s₀.heap.objs.size ≤ c
  hd : X.calm = true → X.A.handled = none
  frames : X.A.frames = some X.stack
  stk : X.stack = X.outer ∨ (X.stack = X.env :: X.outer ∧ X.env.frame = some X.env.locals)
  exf : ∀ b ∈ X.ex, b ≠ X.env.locals ∧ ∀ x c, X.env.cells.lookup x = some c → c ≠ b
  bs : ∀ b o, X.base.get? b = some o → X.s₀.heap.get? b = some o ∧ X.H₀ b = none
  bsz : X.base.objs.size ≤ X.s₀.heap.objs.size
  noex : ∀ b o, X.base.get? b = some o → b ∉ X.ex
  exfs : ∀ b ∈ X.ex, b ∉ X.fs
  funs : X.s₀.heap.FunFrames X.base X.outer
  frf : ∀ b ∈ X.fs, X.H₀ b = none
structure Inv (X : Cx) (pins : List (Addr × Obj)) (σ : List (Option V)) (H : Hp) (s : Shared) : Prop where
  ok : X.Ok
  os : s.os = X.s₀.os
  bare : AllBare s.gens
  base : Un X.fs X.ex X.H₀ H X.s₀.heap s.heap
  loc : ∃ m, s.heap.Ns X.env.locals m ∧ ∀ (i : Nat) (x : Str) (v : V), X.N[i]? = some x → σ[i]? = some (some v) → Vis X.env.scope x → ∃ u, RelV v u ∧ Look X.env s.heap m x u
  cell : ∀ x c, X.env.cells.lookup x = some c → ∃ v, s.heap.IsCell c v
  free : H X.env.locals = none
  freeC : ∀ x c, X.env.cells.lookup x = some c → H c = none
  pin : ∀ p ∈ X.pn ++ pins, s.heap.get? p.1 = some p.2 ∧ H p.1 = none ∧ p.1 ≠ X.env.locals ∧ p.1 ∉ X.fs ∧ ∀ v, p.2.data ≠ .cell v
  hok : HOk X.prog X.w H s.heap
  len : σ.length = X.N.length
section
variable {X : Cx} {pins : List (Addr × Obj)} {σ : List (Option V)} {H H' : Hp} {s : Shared} {h' : Heap}
theorem Cx.Ok.nofr (ok : X.Ok) {b : Addr} {o : Obj} (e : X.base.get? b = some o) : b ∉ X.fs := fun hb => by
  have := (ok.funs.mem hb).1
  rw [e] at this; cases this
theorem Inv.bs (I : Inv X pins σ H s) : ∀ b o, X.base.get? b = some o → s.heap.get? b = some o ∧ H b = none := fun b o e =>
  ⟨I.base.keep b o (I.ok.bs b o e).1 (I.ok.bs b o e).2 (I.ok.nofr e) (I.ok.noex b o e), I.base.free b o (I.ok.bs b o e).1 (I.ok.bs b o e).2 (I.ok.noex b o e)⟩
theorem Inv.bk (I : Inv X pins σ H s) : ∀ b o, X.base.get? b = some o → s.heap.get? b = some o := fun b o e => (I.bs b o e).1
theorem Inv.mod (I : Inv X pins σ H s) : Mod X.K X.mg X.base := I.ok.mod
theorem Inv.kIn (I : Inv X pins σ H s) : X.K.In s.heap := I.ok.mod.kin.keeps I.bk
theorem Inv.lt (I : Inv X pins σ H s) : X.env.locals < s.heap.objs.size := let ⟨_, hn, _⟩ := I.loc; hn.lt
theorem Inv.sz (I : Inv X pins σ H s) : X.s₀.heap.objs.size ≤ s.heap.objs.size := Nat.le_trans I.ok.above (Nat.le_of_lt I.lt)
theorem Inv.nofs (I : Inv X pins σ H s) {a : Addr} (h : s.heap.objs.size ≤ a) : a ∉ X.fs := fun hb => by
  obtain ⟨_, o, ho, _⟩ := I.ok.funs.mem hb
  exact absurd (Nat.lt_of_lt_of_le (Heap.lt_size ho) (Nat.le_trans I.sz h)) (Nat.lt_irrefl _)
theorem Inv.cne (I : Inv X pins σ H s) : ∀ x c, X.env.cells.lookup x = some c → c ≠ X.env.locals := fun x c e z => by
  obtain ⟨v, o, ho, hd⟩ := I.cell x c e
  obtain ⟨m, ⟨o', es, ep, ho', hd', _⟩, _⟩ := I.loc
  rw [z, ho'] at ho; cases ho; rw [hd'] at hd; cases hd
theorem Inv.funs (I : Inv X pins σ H s) : s.heap.FunFrames X.base X.outer := by
  have all : ∀ (l : List Env), (∀ b ∈ frs l, b ∈ X.fs) → X.s₀.heap.FunFrames X.base l → s.heap.FunFrames X.base l := by
    intro l
    induction l with
    | nil => intro _ _; trivial
    | cons env r ih =>
      intro hs hl
      obtain ⟨hk, ⟨L, o, hf, hn, ho, hd⟩, hr⟩ := hl
      have hL : L ∈ X.fs := hs L (by unfold frs; rw [List.filterMap_cons, hf]; exact List.mem_cons_self)
      obtain ⟨sl, e⟩ := I.base.slot L o ho (I.ok.frf L hL) hL fun z => I.ok.exfs L z hL
      exact ⟨hk, ⟨L, _, hf, hn, e, hd⟩, ih (fun b hb => hs b (by unfold frs; rw [List.filterMap_cons, hf]; exact List.mem_cons_of_mem _ hb)) hr⟩
  exact all X.outer (fun _ hb => hb) I.ok.funs
theorem Inv.stack (I : Inv X pins σ H s) : s.heap.FunFrames X.base X.stack := by
  rcases I.ok.stk with e | ⟨e, hf⟩
  · rw [e]; exact I.funs
  · rw [e]
    obtain ⟨m, hn, _⟩ := I.loc
    refine .cons (by rw [I.ok.kind]; decide) hf hn ?_ I.funs
    exact Heap.get?_none_of_le (Nat.le_trans I.ok.bsz I.ok.above)
theorem Inv.stkSub (I : Inv X pins σ H s) : ∀ b ∈ frs X.stack, b ∈ X.env.locals :: X.fs := fun b hb => by
  rcases I.ok.stk with e | ⟨e, hf⟩
  · rw [e] at hb; exact List.mem_cons_of_mem _ hb
  · rw [e] at hb
    unfold frs at hb
    rw [List.filterMap_cons, hf] at hb
    exact hb
theorem Inv.stkFree (I : Inv X pins σ H s) : ∀ b ∈ frs X.stack, H b = none := fun b hb => by
  rcases List.mem_cons.mp (I.stkSub b hb) with e | hb
  · rw [e]; exact I.free
  · obtain ⟨_, o, ho, _⟩ := I.ok.funs.mem hb
    exact I.base.free b o ho (I.ok.frf b hb) fun z => I.ok.exfs b z hb
theorem Inv.step {g' : Array GenState} {t' : Nat} {d' : Drawn} {ch : List Addr} (I : Inv X pins σ H s)
    (hch : ∀ b ∈ ch, (b ∈ X.ex ∨ X.s₀.heap.objs.size ≤ b) ∧ b ≠ X.env.locals ∧ (∀ x c, X.env.cells.lookup x = some c → c ≠ b) ∧ ∀ p ∈ X.pn ++ pins, p.1 ≠ b)
    (keep : ∀ b o, b ≠ X.env.locals → b ∉ X.fs → b ∉ ch → s.heap.get? b = some o → H b = none → h'.get? b = some o)
    (slot : ∀ b o, b ≠ X.env.locals → b ∈ X.fs → b ∉ ch → s.heap.get? b = some o → H b = none → ∃ sl, h'.get? b = some { o with slots := sl }) (free : ∀ b o, b ∉ ch → s.heap.get? b = some o → H b = none → H' b = none)
    (there : ∀ b o, b ∉ ch → s.heap.get? b = some o → ∃ o', h'.get? b = some o')
    (tups : ∀ b xs, H b = some (.tup xs) → H' b = some (.tup xs)) (frzs : ∀ b o u, H b = some (.frz o u) → H' b = some (.frz o u)) (tbls : ∀ b ps, H b = some (.tbl ps) → ∃ more, H' b = some (.tbl (ps ++ more)))
    (ns : ∀ m, s.heap.Ns X.env.locals m → h'.Ns X.env.locals m) (hok : HOk X.prog X.w H' h') (hg : AllBare g') :
    Inv X pins σ H' { s with heap := h', gens := g', drawn := d', toks := t' } := by
  have neL : ∀ b o, X.s₀.heap.get? b = some o → b ≠ X.env.locals := fun b o e => Nat.ne_of_lt (Nat.lt_of_lt_of_le (Heap.lt_size e) I.ok.above)
  have neC : ∀ b o, X.s₀.heap.get? b = some o → b ∉ X.ex → b ∉ ch := fun b o e hx hb => by
    rcases (hch b hb).1 with z | z
    · exact hx z
    · exact absurd (Nat.lt_of_lt_of_le (Heap.lt_size e) z) (Nat.lt_irrefl _)
  have cellK : ∀ x c, X.env.cells.lookup x = some c → ∀ v, s.heap.IsCell c v → h'.IsCell c v := fun x c e v ⟨o, ho, hd⟩ => by
    have nch : c ∉ ch := fun z => (hch c z).2.2.1 x c e rfl
    by_cases hc : c ∈ X.fs
    · obtain ⟨sl, q⟩ := slot c o (I.cne x c e) hc nch ho (I.freeC x c e)
      exact ⟨_, q, hd⟩
    · exact ⟨o, keep c o (I.cne x c e) hc nch ho (I.freeC x c e), hd⟩
  refine ⟨I.ok, I.os, hg, ⟨fun b o e n hb hx => ?_, fun b o e n hb hx => ?_, fun b o e n hx => ?_, fun b o e hx => ?_, fun b xs e => tups b xs (I.base.tups b xs e), fun b o xs e => frzs b o xs (I.base.frzs b o xs e), fun b ps e => ?_⟩, ?_, fun x c e => ?_, ?_, fun x c e => ?_, fun p hp => ?_, hok, I.len⟩
  · exact keep b o (neL b o e) hb (neC b o e hx) (I.base.keep b o e n hb hx) (I.base.free b o e n hx)
  · obtain ⟨sl, e1⟩ := I.base.slot b o e n hb hx
    obtain ⟨sl', e2⟩ := slot b _ (neL b o e) hb (neC b o e hx) e1 (I.base.free b o e n hx)
    exact ⟨sl', e2⟩
  · obtain ⟨o', e1⟩ := I.base.there b o e hx
    exact free b o' (neC b o e hx) e1 (I.base.free b o e n hx)
  · obtain ⟨o', e1⟩ := I.base.there b o e hx
    exact there b o' (neC b o e hx) e1
  · obtain ⟨m1, e1⟩ := I.base.tbls b ps e
    obtain ⟨m2, e2⟩ := tbls b _ e1
    exact ⟨m1 ++ m2, by rw [e2, Array.append_assoc]⟩
  · obtain ⟨m, hn, hl⟩ := I.loc
    refine ⟨m, ns m hn, fun i x v e1 e2 e3 => ?_⟩
    obtain ⟨u, r, l⟩ := hl i x v e1 e2 e3
    refine ⟨u, r, ?_⟩
    rcases l with l | ⟨k, c, e, z⟩
    · exact .inl l
    · exact .inr ⟨k, c, e, cellK x c e _ z⟩
  · obtain ⟨v, z⟩ := I.cell x c e
    exact ⟨v, cellK x c e v z⟩
  · obtain ⟨m, ⟨o, _, _, ho, _⟩, _⟩ := I.loc
    exact free _ o (fun z => (hch _ z).2.1 rfl) ho I.free
  · obtain ⟨v, o, ho, hd⟩ := I.cell x c e
    exact free c o (fun z => (hch c z).2.2.1 x c e rfl) ho (I.freeC x c e)
  · obtain ⟨e, n, ne, nf, d⟩ := I.pin p hp
    have nch : p.1 ∉ ch := fun z => (hch p.1 z).2.2.2 p hp rfl
    exact ⟨keep p.1 p.2 ne nf nch e n, free p.1 p.2 nch e n, ne, nf, d⟩
theorem Inv.un {t' : Nat} (I : Inv X pins σ H s) (u : Un X.fs [] H H' s.heap h') (hok : HOk X.prog X.w H' h') : Inv X pins σ H' { s with heap := h', toks := t' } := by
  obtain ⟨m, ⟨o, es, ep, ho, r⟩, _⟩ := id I.loc
  obtain ⟨sl, hL⟩ := u.any ho I.free (by simp)
  exact I.step (g' := s.gens) (d' := s.drawn) (ch := []) (fun _ z => nomatch z) (fun b o _ hb _ e n => u.keep b o e n hb (by simp)) (fun b o _ hb _ e n => u.slot b o e n hb (by simp)) (fun b o _ e n => u.free b o e n (by simp)) (fun b o _ e => u.there b o e (by simp)) u.tups u.frzs u.tbls (fun m' hm => by
    obtain ⟨o', es', ep', ho', r'⟩ := hm
    rw [ho] at ho'; cases ho'
    exact ⟨_, es', ep', hL, r'⟩) hok I.bare
theorem Inv.call {g' : Array GenState} {t' : Nat} {d' : Drawn} {ch : List Addr} (I : Inv X pins σ H s) (u : Un (frs X.stack) ch H H' s.heap h') (hok : HOk X.prog X.w H' h') (hg : AllBare g')
    (hch : ∀ b ∈ ch, (b ∈ X.ex ∨ X.s₀.heap.objs.size ≤ b) ∧ b ≠ X.env.locals ∧ (∀ x c, X.env.cells.lookup x = some c → c ≠ b) ∧ ∀ p ∈ X.pn ++ pins, p.1 ≠ b) :
    Inv X pins σ H' { s with heap := h', gens := g', drawn := d', toks := t' } := by
  obtain ⟨m, ⟨o, es, ep, ho, r⟩, _⟩ := id I.loc
  obtain ⟨sl, hL⟩ := u.any ho I.free fun z => (hch _ z).2.1 rfl
  exact I.step (ch := ch) hch (fun b o hL hb hc e n => u.keep b o e n (fun z => (List.mem_cons.mp (I.stkSub b z)).elim hL hb) hc) (fun b o _ _ hc e n => u.any e n hc) (fun b o hc e n => u.free b o e n hc) (fun b o hc e => u.there b o e hc) u.tups u.frzs u.tbls (fun m' hm => by
    obtain ⟨o', es', ep', ho', r'⟩ := hm
    rw [ho] at ho'; cases ho'
    exact ⟨_, es', ep', hL, r'⟩) hok hg
theorem Inv.turned {t' : Nat} {it : Addr} (I : Inv X pins σ H s) (k : ∀ b o, b ≠ it → s.heap.get? b = some o → h'.get? b = some o) (hn : H it = none) (hL : it ≠ X.env.locals)
    (h1 : it ∈ X.ex ∨ X.s₀.heap.objs.size ≤ it) (h2 : ∀ x c, X.env.cells.lookup x = some c → c ≠ it) (h3 : ∀ p ∈ X.pn ++ pins, p.1 ≠ it) : Inv X pins σ H { s with heap := h', toks := t' } := by
  have nit : ∀ b u, H b = some u → b ≠ it := fun b u e z => by rw [z, hn] at e; cases e
  refine I.step (g' := s.gens) (d' := s.drawn) (ch := [it]) (fun b hb => ?_) (fun b o _ _ hc e _ => k b o (fun z => hc (by simp [z])) e) (fun b o _ _ hc e _ => ⟨o.slots, k b o (fun z => hc (by simp [z])) e⟩) (fun _ _ _ _ n => n)
    (fun b o hc e => ⟨o, k b o (fun z => hc (by simp [z])) e⟩) (fun _ _ e => e) (fun _ _ _ e => e) (fun b ps e => ⟨#[], by rw [e]; simp⟩) (fun m hm => ?_) (fun b u e => ?_) I.bare
  · have e : b = it := by simpa using hb
    subst e
    exact ⟨h1, hL, h2, h3⟩
  · obtain ⟨o, es, ep, ho, r⟩ := hm
    exact ⟨o, es, ep, k _ o (Ne.symm hL) ho, r⟩
  · refine (I.hok b u e).stay (fun c v hc q => k c v ?_ q) (fun _ q => q) fun _ _ q => q
    rcases hc with z | z
    · rw [z]; exact nit b u e
    · exact nit c _ z
theorem Inv.tok (I : Inv X pins σ H s) (t : Nat) : Inv X pins σ H { s with toks := t } := I.un (h' := s.heap) (t' := t) Un.refl I.hok
theorem Inv.kept {t' : Nat} (I : Inv X pins σ H s) (k : ∀ b u, s.heap.get? b = some u → h'.get? b = some u) : Inv X pins σ H { s with heap := h', toks := t' } := I.un (Un.kept k) (I.hok.kept k)
theorem Inv.laid {a : Addr} {o : HO} {t' : Nat} (I : Inv X pins σ H s) (k : ∀ b u, s.heap.get? b = some u → h'.get? b = some u) (hp : s.heap.objs.size ≤ a) (new : ObjOk X.prog X.w (upd H a o) h' a o) :
    Inv X pins σ (upd H a o) { s with heap := h', toks := t' } := I.un (Un.laid k hp (I.hok.fresh hp)) (I.hok.laid k hp new)
theorem Inv.write {x e : Addr} {o : HO} {t' : Nat} (I : Inv X pins σ H s) (mu : Mut (H x)) (he : e = x ∨ H e = some (.own x)) (k : ∀ b u, b ≠ e → s.heap.get? b = some u → h'.get? b = some u) (heo : ∃ u, h'.get? e = some u)
    (new : ObjOk X.prog X.w (upd H x o) h' x o) : Inv X pins σ (upd H x o) { s with heap := h', toks := t' } := I.un (Un.write mu he k heo) (I.hok.write mu he k heo new)
theorem Inv.pins_of {pins' : List (Addr × Obj)} (I : Inv X pins σ H s) (h : ∀ p ∈ pins', s.heap.get? p.1 = some p.2 ∧ H p.1 = none ∧ p.1 ≠ X.env.locals ∧ p.1 ∉ X.fs ∧ ∀ v, p.2.data ≠ .cell v) : Inv X pins' σ H s :=
  ⟨I.ok, I.os, I.bare, I.base, I.loc, I.cell, I.free, I.freeC, fun p hp => (List.mem_append.mp hp).elim (fun z => I.pin p (List.mem_append_left _ z)) (h p), I.hok, I.len⟩
theorem nodup_ix {N : List Str} (hN : N.Nodup) {i j : Nat} {x : Str} (a : N[i]? = some x) (b : N[j]? = some x) : i = j := by
  obtain ⟨h1, e1⟩ := List.getElem?_eq_some_iff.mp a
  obtain ⟨h2, e2⟩ := List.getElem?_eq_some_iff.mp b
  exact (List.getElem_inj hN).mp (e1.trans e2.symm)
theorem store_ok2 {M : Model} {A : Around} {E : Value → Shared → Prop} {i : Nat} {x : Str} {v : V} {u : Value} {Q : Unit → Shared → Prop} (I : Inv X pins σ H s) (hN : X.N.Nodup) (hi : X.N[i]? = some x) (hx : Loc X.env.scope x) (r : RelV v u)
    (h : ∀ s', Inv X pins (σ.set i (some v)) H s' → (∃ a, Heap.SameBut a s.heap s'.heap ∧ (a = X.env.locals ∨ X.env.cells.lookup x = some a)) → Q () s') (hf : X.fn x = true ∨ X.env.scope.names.lookup x = some .local := by first | exact .inl rfl | exact .inr rfl | assumption) : wpAny M A (storeName X.env x u) Q E s := by
  obtain ⟨m, hn, hl⟩ := id I.loc
  have hcls : (X.env.scope.kind == .class || (X.env.scope.kind == .module && X.env.locals != X.env.globals)) = false := by rw [I.ok.kind]; rfl
  have hiσ : i < σ.length := by rw [I.len]; exact (List.getElem?_eq_some_iff.mp hi).1
  have cne := I.cne
  have tracked : ∀ {a : Addr} {h' : Heap}, (∃ o, s.heap.get? a = some o ∧ H a = none) → Heap.SameBut a s.heap h' → HOk X.prog X.w H h' := fun {a h'} ha hs b ob e => by
    obtain ⟨_, _, hfree⟩ := ha
    refine (I.hok b ob e).stay (fun c w' hc q => (hs.2 c ?_).trans q) (fun _ q => q) fun _ _ q => q
    rintro rfl
    rcases hc with rfl | hc
    · rw [hfree] at e; cases e
    · rw [hfree] at hc; cases hc
  rcases hx with hk | hk
  · refine wpAny_storeName_local hk hn (fun h' hn' hs => ?_) hcls
    obtain ⟨oL, _, _, hoL, _⟩ := id hn
    refine h _ ⟨I.ok, I.os, I.bare, ⟨fun b o e n hb hx => ?_, fun b o e n hb hx => ?_, I.base.free, fun b o e hx => ?_, I.base.tups, I.base.frzs, I.base.tbls⟩, ⟨_, hn', fun j y v' e1 e2 e3 => ?_⟩, fun y c e => ?_, I.free, I.freeC, fun p hp => ?_, tracked ⟨oL, hoL, I.free⟩ hs, by simpa using I.len⟩ ⟨_, hs, .inl rfl⟩
    · exact (hs.2 b (Nat.ne_of_lt (Nat.lt_of_lt_of_le (Heap.lt_size e) I.ok.above))).trans (I.base.keep b o e n hb hx)
    · obtain ⟨sl, e1⟩ := I.base.slot b o e n hb hx
      exact ⟨sl, (hs.2 b (Nat.ne_of_lt (Nat.lt_of_lt_of_le (Heap.lt_size e) I.ok.above))).trans e1⟩
    · obtain ⟨o', e1⟩ := I.base.there b o e hx
      exact ⟨o', (hs.2 b (Nat.ne_of_lt (Nat.lt_of_lt_of_le (Heap.lt_size e) I.ok.above))).trans e1⟩
    · by_cases hj : j = i
      · subst hj
        rw [hi] at e1; cases e1
        rw [List.getElem?_set_self hiσ] at e2
        cases e2
        exact ⟨u, r, .inl ⟨hk, by simp⟩⟩
      · rw [List.getElem?_set_ne (Ne.symm hj)] at e2
        obtain ⟨u', r', q⟩ := hl j y v' e1 e2 e3
        refine ⟨u', r', ?_⟩
        rcases q with ⟨k, e⟩ | ⟨k, c, e, z⟩
        · refine .inl ⟨k, ?_⟩
          have : y ≠ x := fun e => hj (nodup_ix hN e1 (e ▸ hi))
          simp [this, e]
        · exact .inr ⟨k, c, e, z.sameBut hs (cne y c e)⟩
    · obtain ⟨w', z⟩ := I.cell y c e
      exact ⟨w', z.sameBut hs (cne y c e)⟩
    · obtain ⟨e, n, ne, nf, d⟩ := I.pin p hp
      exact ⟨(hs.2 p.1 ne).trans e, n, ne, nf, d⟩
  · have hfn : X.fn x = true := by
      rcases hf with z | z
      · exact z
      · rw [z] at hk; cases hk
    obtain ⟨c, hc⟩ := I.ok.has x (.inl hk)
    obtain ⟨w', z⟩ := I.cell x c hc
    refine wpAny_storeName_cell I.ok.kind hk hc z (fun h' hc' hs => ?_)
    obtain ⟨oc, hoc, hocd⟩ := id z
    refine h { s with heap := h' } ⟨I.ok, I.os, I.bare, ⟨fun b o e n hb hx => ?_, fun b o e n hb hx => ?_, I.base.free, fun b o e hx => ?_, I.base.tups, I.base.frzs, I.base.tbls⟩, ⟨m, hn.sameBut hs (Ne.symm (cne x c hc)), fun j y v' e1 e2 e3 => ?_⟩, fun y c' e => ?_, I.free, I.freeC, fun p hp => ?_, tracked ⟨oc, hoc, I.freeC x c hc⟩ hs, by simpa using I.len⟩ ⟨c, hs, .inr hc⟩
    · exact (hs.2 b (Nat.ne_of_lt (Nat.lt_of_lt_of_le (Heap.lt_size e) (I.ok.cab x c hfn hc)))).trans (I.base.keep b o e n hb hx)
    · obtain ⟨sl, e1⟩ := I.base.slot b o e n hb hx
      exact ⟨sl, (hs.2 b (Nat.ne_of_lt (Nat.lt_of_lt_of_le (Heap.lt_size e) (I.ok.cab x c hfn hc)))).trans e1⟩
    · obtain ⟨o', e1⟩ := I.base.there b o e hx
      exact ⟨o', (hs.2 b (Nat.ne_of_lt (Nat.lt_of_lt_of_le (Heap.lt_size e) (I.ok.cab x c hfn hc)))).trans e1⟩
    · by_cases hj : j = i
      · subst hj
        rw [hi] at e1; cases e1
        rw [List.getElem?_set_self hiσ] at e2
        cases e2
        exact ⟨u, r, .inr ⟨.inl hk, c, hc, hc'⟩⟩
      · rw [List.getElem?_set_ne (Ne.symm hj)] at e2
        obtain ⟨u', r', q⟩ := hl j y v' e1 e2 e3
        refine ⟨u', r', ?_⟩
        rcases q with q | ⟨k, c', e, z'⟩
        · exact .inl q
        · refine .inr ⟨k, c', e, z'.sameBut hs ?_⟩
          rintro rfl
          exact hj (nodup_ix hN e1 (I.ok.inj _ _ _ e hc ▸ hi))
    · by_cases hcc : c' = c
      · subst hcc; exact ⟨_, hc'⟩
      · obtain ⟨w2, z2⟩ := I.cell y c' e
        exact ⟨w2, z2.sameBut hs hcc⟩
    · obtain ⟨e, n, ne, nf, d⟩ := I.pin p hp
      refine ⟨(hs.2 p.1 ?_).trans e, n, ne, nf, d⟩
      intro q
      rw [q, hoc] at e
      have q' : oc = p.2 := Option.some.inj e
      exact d w' (by rw [← q']; exact hocd)
theorem store_ok {M : Model} {A : Around} {E : Value → Shared → Prop} {i : Nat} {x : Str} {v : V} {u : Value} {Q : Unit → Shared → Prop} (I : Inv X pins σ H s) (hN : X.N.Nodup) (hi : X.N[i]? = some x) (hx : Loc X.env.scope x) (r : RelV v u)
    (h : ∀ s', Inv X pins (σ.set i (some v)) H s' → Q () s') (hf : X.fn x = true ∨ X.env.scope.names.lookup x = some .local := by first | exact .inl rfl | exact .inr rfl | assumption) : wpAny M A (storeName X.env x u) Q E s :=
  store_ok2 I hN hi hx r (fun s' I' _ => h s' I') hf
theorem Inv.call' {s' : Shared} {ch : List Addr} (I : Inv X pins σ H s) (ho : s'.os = s.os) (u : Un (frs X.stack) ch H H' s.heap s'.heap) (hok : HOk X.prog X.w H' s'.heap) (hg : AllBare s'.gens)
    (hch : ∀ b ∈ ch, (b ∈ X.ex ∨ X.s₀.heap.objs.size ≤ b) ∧ b ≠ X.env.locals ∧ (∀ x c, X.env.cells.lookup x = some c → c ≠ b) ∧ ∀ p ∈ X.pn ++ pins, p.1 ≠ b) : Inv X pins σ H' s' := by
  obtain ⟨h', g', d', t', o'⟩ := s'
  have e : o' = s.os := ho
  subst e
  exact I.call (g' := g') (t' := t') (d' := d') u hok hg hch
end
abbrev XK := Value → Option Addr → Hp → Prop
abbrev St := List (Option V)
abbrev VK := V → Hp → Prop
abbrev TE := St → Hp → VK → Prop
abbrev TT := St → Hp → (Bool → Hp → Prop) → Prop
abbrev TA := St → Hp → (List V → Hp → Prop) → Prop
structure Ends where
  nx : St → Hp → Prop
  rt : VK
  bk : St → Hp → Prop := fun _ _ => False
  ct : St → Hp → Prop := fun _ _ => False
abbrev TS := Ends → St → Hp → Prop
def EP (X : Cx) (pins : List (Addr × Obj)) (σ : St) (Q : VK) (u : Value) (s' : Shared) : Prop := ∃ v H', Inv X pins σ H' s' ∧ RelV v u ∧ Q v H'
def TP (X : Cx) (pins : List (Addr × Obj)) (σ : St) (Q : Bool → Hp → Prop) (b : Bool) (s' : Shared) : Prop := ∃ H', Inv X pins σ H' s' ∧ Q b H'
def AP (X : Cx) (pins : List (Addr × Obj)) (σ : St) (Q : List V → Hp → Prop) (us : List Value) (s' : Shared) : Prop := ∃ vs H', Inv X pins σ H' s' ∧ Vals vs us ∧ Q vs H'
def SP (X : Cx) (pins : List (Addr × Obj)) (D : Ends) (f : Flow) (s' : Shared) : Prop :=
  match f with
  | .next => ∃ σ' H', Inv X pins σ' H' s' ∧ D.nx σ' H'
  | .brk => ∃ σ' H', Inv X pins σ' H' s' ∧ D.bk σ' H'
  | .cont => ∃ σ' H', Inv X pins σ' H' s' ∧ D.ct σ' H'
  | .ret u => ∃ v σ' H', Inv X pins σ' H' s' ∧ RelV v u ∧ D.rt v H'
def PE (X : Cx) (e : Expr) (t : TE) : Prop :=
  ∀ (pins : List (Addr × Obj)) (s : Shared) (σ : St) (H : Hp) (Q : VK), Inv X pins σ H s → t σ H Q → wpAny (model X.prog X.w) X.A (eval e X.env) (EP X pins σ Q) X.xe s
def PT (X : Cx) (e : Expr) (t : TT) : Prop :=
  ∀ (pins : List (Addr × Obj)) (s : Shared) (σ : St) (H : Hp) (Q : Bool → Hp → Prop), Inv X pins σ H s → t σ H Q → wpAny (model X.prog X.w) X.A (isTrue e X.env (eval e X.env)) (TP X pins σ Q) X.xe s
def PW (X : Cx) (e : Expr) (t : TT) : Prop :=
  ∀ (whole : Sem Value) (pins : List (Addr × Obj)) (s : Shared) (σ : St) (H : Hp) (Q : Bool → Hp → Prop), Inv X pins σ H s → t σ H Q → wpAny (model X.prog X.w) X.A (isTrue e X.env whole) (TP X pins σ Q) X.xe s
theorem PW.pt {X : Cx} {e : Expr} {t : TT} (h : PW X e t) : PT X e t := h _
def PA (X : Cx) (es : List Expr) (t : TA) : Prop :=
  ∀ (pos : Pos) (pins : List (Addr × Obj)) (s : Shared) (σ : St) (H : Hp) (Q : List V → Hp → Prop), Inv X pins σ H s → t σ H Q → wpAny (model X.prog X.w) X.A (spliced (backTo pos (starEach es X.env))) (AP X pins σ Q) X.xe s
def PS (X : Cx) (st : Stmt) (t : TS) : Prop :=
  ∀ (pins : List (Addr × Obj)) (s : Shared) (σ : St) (H : Hp) (D : Ends), Inv X pins σ H s → t D σ H → wpAny (model X.prog X.w) X.A (exec st X.env) (SP X pins D) X.xe s
def PSs (X : Cx) (st : List Stmt) (t : TS) : Prop :=
  ∀ (pins : List (Addr × Obj)) (s : Shared) (σ : St) (H : Hp) (D : Ends), Inv X pins σ H s → t D σ H → wpAny (model X.prog X.w) X.A (execs st X.env) (SP X pins D) X.xe s
theorem thn {α : Type} {t : Sem α} {Q Q' : α → Shared → Prop} {M : Model} {A : Around} {E : Value → Shared → Prop} {s : Shared} (h : wpAny M A t Q E s) (hQ : ∀ a s, Q a s → Q' a s) : wpAny M A t Q' E s := wpAny_mono h hQ fun _ _ x => x
end L2
namespace L2
open PySem PySem.Spec PyProof.Rows
section
variable {X : Cx}
def tVar (i : Nat) : TE := fun σ H Q => ∃ v, σ[i]? = some (some v) ∧ Q v H
def tC (v : V) : TE := fun _ H Q => Q v H
theorem pe_var {i : Nat} {x : Str} {pos : Pos} (hN : X.N[i]? = some x) (hv : Vis X.env.scope x) (hd : (x == ("__debug__" : Str)) = false := by decide) (hcd : (x == ("__classdict__" : Str)) = false := by decide) : PE X (.Name x pos) (tVar i) := by
  intro pins s σ H Q I h
  obtain ⟨v, e, h⟩ := h
  obtain ⟨m, hn, hl⟩ := I.loc
  obtain ⟨u, r, l⟩ := hl i x v hN e hv
  have fin : EP X pins σ Q u s := ⟨v, H, I, r, h⟩
  rcases l with ⟨hk, hm⟩ | ⟨hk, c, hc, hcell⟩
  · exact wpAny_Name (wpAny_loadName_local I.ok.kind hk hn hm fin) hd
  · rcases hk with hk | hk
    · exact wpAny_Name (wpAny_loadName_cell I.ok.kind hk hc hcell fin) hd
    · exact wpAny_Name (wpAny_loadName_free I.ok.kind hk hc hcell fin hcd) hd
theorem pe_int {i j pos} : PE X (.Constant (.int i) j pos) (tC (.int i)) := fun _ _ _ H _ I h => wpAny_Constant_int ⟨.int i, H, I.tok _, ⟨_, rfl⟩, h⟩
theorem pe_bl {b j pos} : PE X (.Constant (.bool b) j pos) (tC (.bl b)) := fun _ _ _ H _ I h => Constant_bool ⟨.bl b, H, I, rfl, h⟩
theorem pe_non {j pos} : PE X (.Constant .none j pos) (tC .non) := fun _ _ _ H _ I h => Constant_none ⟨.non, H, I, rfl, h⟩
theorem pe_str {x j pos} : PE X (.Constant (.str x) j pos) (tC (.str x)) := fun _ _ _ H _ I h => Calls.Constant_str ⟨.str x, H, I.tok _, ⟨_, rfl⟩, h⟩
def Gl (X : Cx) (x : Str) : Prop := X.env.kindOf x = some .globalImplicit
theorem ld_glob {E : Value → Shared → Prop} {pins : List (Addr × Obj)} {s : Shared} {σ : St} {H : Hp} {x : Str} {u : Value} {pos : Pos} {Q : Value → Shared → Prop} (I : Inv X pins σ H s) (hg : Gl X x) (hm : X.mg x = some u) (h : Q u s)
    (hd : (x == ("__debug__" : Str)) = false := by decide) : wpAny (model X.prog X.w) X.A (eval (.Name x pos) X.env) Q E s :=
  Calls.Name_function_global I.ok.kind hg (Calls.loadGlobal_global (by rw [I.ok.glob]; exact I.mod.glob.keeps I.bk) hm h) hd
theorem ld_blt {E : Value → Shared → Prop} {pins : List (Addr × Obj)} {s : Shared} {σ : St} {H : Hp} {x : Str} {u : Value} {pos : Pos} {Q : Value → Shared → Prop} (I : Inv X pins σ H s) (hg : Gl X x) (hm : X.mg x = none) (hv : bootBuiltins x = some u) (h : Q u s)
    (hn : x ≠ "__name__" := by decide) (hd : (x == ("__debug__" : Str)) = false := by decide) : wpAny (model X.prog X.w) X.A (eval (.Name x pos) X.env) Q E s := by
  obtain ⟨mb, h1, h2⟩ := I.mod.blt
  exact Calls.Name_function_global I.ok.kind hg (Calls.loadGlobal_builtin (by rw [I.ok.glob]; exact I.mod.glob.keeps I.bk) hm (by rw [I.ok.blt]; exact h1.keeps I.bk) ((h2 x hn).trans hv) h) hd
theorem pe_glob {x : Str} {v : V} {u : Value} {pos : Pos} (hg : Gl X x) (hm : X.mg x = some u) (r : RelV v u) (hd : (x == ("__debug__" : Str)) = false := by decide) : PE X (.Name x pos) (tC v) :=
  fun _ _ _ H _ I h => ld_glob I hg hm ⟨v, H, I, r, h⟩ hd
theorem pe_bltn {x : Str} {v : V} {u : Value} {pos : Pos} (hg : Gl X x) (hm : X.mg x = none) (hv : bootBuiltins x = some u) (r : RelV v u) (hn : x ≠ "__name__" := by decide) (hd : (x == ("__debug__" : Str)) = false := by decide) : PE X (.Name x pos) (tC v) :=
  fun _ _ _ H _ I h => ld_blt I hg hm hv ⟨v, H, I, r, h⟩ hn hd
variable {a b : Expr} {ta tb : TE} {pos : Pos}
def tB (t : TE) : TT := fun σ H Q => t σ H fun x H1 => ∃ c, x = .bl c ∧ Q c H1
theorem pt_val {e : Expr} {t : TE} (h : PE X e t) (he : ∀ whole, isTrue e X.env whole = (do let v ← whole; standAt e.pos; holding [v] (truthy v)) := by intro _; rfl) : PT X e (tB t) := by
  intro pins s σ H Q I hw
  refine isTrue_plain (thn (h pins s σ H _ I hw) fun v s1 ⟨x, H1, I1, r1, q1⟩ => ?_) (he _)
  obtain ⟨d, rfl, q⟩ := q1
  cases r1
  exact wpAny_truthy_bool ⟨H1, I1, q⟩
variable {tA tB' : TT} {rest : List Expr}
def tAnd (t u : TT) : TT := fun σ H Q => t σ H fun c H1 => if c = true then u σ H1 Q else Q false H1
def tOr (t u : TT) : TT := fun σ H Q => t σ H fun c H1 => if c = true then Q true H1 else u σ H1 Q
def tNot (t : TT) : TT := fun σ H Q => t σ H fun c H1 => Q (!c) H1
theorem pw_and1 (ha : PT X a tA) : PW X (.BoolOp .And [a] pos) tA := by
  intro wh pins s σ H Q I h
  refine isTrue_and (thn (ha pins s σ H Q I h) fun c s1 e => ?_)
  cases c with
  | true => exact isTrue_and_nil e
  | false => exact e
theorem pw_or1 (ha : PT X a tA) : PW X (.BoolOp .Or [a] pos) tA := by
  intro wh pins s σ H Q I h
  refine isTrue_or (thn (ha pins s σ H Q I h) fun c s1 e => ?_)
  cases c with
  | false => exact isTrue_or_nil e
  | true => exact e
theorem pw_and (ha : PT X a tA) (hb : PW X (.BoolOp .And (b :: rest) pos) tB') : PW X (.BoolOp .And (a :: b :: rest) pos) (tAnd tA tB') := by
  intro wh pins s σ H Q I h
  refine isTrue_and (thn (ha pins s σ H _ I h) fun c s1 ⟨H1, I1, q1⟩ => ?_)
  cases c with
  | true => exact hb wh pins s1 σ H1 Q I1 q1
  | false => exact ⟨H1, I1, q1⟩
theorem pw_or (ha : PT X a tA) (hb : PW X (.BoolOp .Or (b :: rest) pos) tB') : PW X (.BoolOp .Or (a :: b :: rest) pos) (tOr tA tB') := by
  intro wh pins s σ H Q I h
  refine isTrue_or (thn (ha pins s σ H _ I h) fun c s1 ⟨H1, I1, q1⟩ => ?_)
  cases c with
  | true => exact ⟨H1, I1, q1⟩
  | false => exact hb wh pins s1 σ H1 Q I1 q1
theorem pt_not (ha : PT X a tA) : PT X (.UnaryOp .Not a pos) (tNot tA) := by
  intro pins s σ H Q I h
  exact isTrue_not (ha pins s σ H (fun c H1 => Q (!c) H1) I h)
def tAndV (ta tb : TE) : TE := fun σ H Q => ta σ H fun x H1 => ∃ c, x = .bl c ∧ if c = true then tb σ H1 Q else Q (.bl false) H1
theorem pe_one {op} {t : TE} (h : PE X a t) : PE X (.BoolOp op [a] pos) t := fun pins s σ H Q I hw => BoolOp_one (h pins s σ H Q I hw)
theorem pe_and (ha : PE X a ta) (hb : PE X (.BoolOp .And (b :: rest) pos) tb) : PE X (.BoolOp .And (a :: b :: rest) pos) (tAndV ta tb) := by
  intro pins s σ H Q I h
  refine BoolOp_and (thn (ha pins s σ H _ I h) fun v s1 ⟨x, H1, I1, r1, q1⟩ => ?_)
  obtain ⟨c, rfl, q1⟩ := q1
  cases r1
  refine wpAny_truthy_bool ?_
  cases c with
  | true => exact hb pins s1 σ H1 Q I1 q1
  | false => exact ⟨.bl false, H1, I1, rfl, q1⟩
def tIf (t : TT) (ta tb : TE) : TE := fun σ H Q => t σ H fun c H1 => if c = true then ta σ H1 Q else tb σ H1 Q
theorem pe_ifExp {c : Expr} (hc : PT X c tA) (ha : PE X a ta) (hb : PE X b tb) : PE X (.IfExp c a b pos) (tIf tA ta tb) := by
  intro pins s σ H Q I h
  refine wpAny_IfExp (thn (hc pins s σ H _ I h) fun d s1 ⟨H1, I1, q1⟩ => ?_)
  cases d with
  | true => exact ha pins s1 σ H1 Q I1 q1
  | false => exact hb pins s1 σ H1 Q I1 q1
end
end L2
namespace L2
open PySem PySem.Spec PyProof.Rows
def SqL (K : PySem.W.Frag) (H : Hp) (a : Addr) (xs : List V) : Prop :=
  Rd H a (.lst xs) ∨
    ∃ (o : Obj) (its : Array Value) (n : Nat), K.lookup a = some o ∧ o.cls = .type "list" ∧ o.dict = none ∧ o.data = .seq its n ∧ its.size ≤ sizeLine ∧ Vals xs its.toList
def SqT (K : PySem.W.Frag) (H : Hp) (a : Addr) (xs : List V) : Prop :=
  Rd H a (.tup xs) ∨
    ∃ (o : Obj) (its : Array Value) (n : Nat), K.lookup a = some o ∧ o.cls = .type "tuple" ∧ o.data = .seq its n ∧ its.size ≤ sizeLine ∧ Vals xs its.toList
def absV : Value → Option V
  | .none => some .non
  | .bool b => some (.bl b)
  | .int i _ => some (.int i)
  | .str x _ => some (.str x)
  | .bytes b _ => some (.byt b)
  | .float b _ => some (.flt b)
  | .ref a => some (.ref a)
  | .type n => some (.ty n)
  | _ => none
theorem RelV.abs {x : V} {u : Value} (r : RelV x u) : absV u = some x := by
  cases x with
  | non => cases r; rfl
  | bl _ => cases r; rfl
  | int _ => obtain ⟨t, rfl⟩ := r; rfl
  | str _ => obtain ⟨t, rfl⟩ := r; rfl
  | byt _ => obtain ⟨t, rfl⟩ := r; rfl
  | flt _ => obtain ⟨t, rfl⟩ := r; rfl
  | ref _ => cases r; rfl
  | ty _ => cases r; rfl
theorem RelV.inj {x y : V} {u : Value} (r : RelV x u) (q : RelV y u) : x = y := Option.some.inj (r.abs.symm.trans q.abs)
theorem Vals.inj : ∀ {xs ys : List V} {us : List Value}, Vals xs us → Vals ys us → xs = ys
  | _, _, _, .nil, .nil => rfl
  | _, _, _, .cons r t, .cons r' t' => by rw [r.inj r', Vals.inj t t']
section
variable {X : Cx} {pins : List (Addr × Obj)} {σ : St} {H : Hp} {s : Shared} {a : Addr} {xs ys : List V}
theorem SqL.of {K : PySem.W.Frag} (h : H a = some (.lst xs)) : SqL K H a xs := .inl (.inl h)
theorem SqT.of {K : PySem.W.Frag} (h : H a = some (.tup xs)) : SqT K H a xs := .inl (.inl h)
theorem Inv.list (I : Inv X pins σ H s) (h : SqL X.K H a xs) : ∃ its : List Value, Vals xs its ∧ PlainL s.heap a its.toArray ∧ xs.length ≤ sizeLine := by
  rcases h with h | ⟨o, its, n, hk, hc, hd, hs, hz, r⟩
  · obtain ⟨z, its, n, r, e⟩ := h.ok I.hok
    exact ⟨its, r, ⟨_, n, e, rfl, rfl, rfl⟩, z⟩
  · refine ⟨its.toList, r, ⟨o, n, I.kIn a o hk, hc, hd, by simpa using hs⟩, ?_⟩
    have e := r.length
    simp only [Array.length_toList] at e
    omega
theorem Inv.tuple (I : Inv X pins σ H s) (h : SqT X.K H a xs) : ∃ its : List Value, Vals xs its ∧ IsTup s.heap a its.toArray ∧ xs.length ≤ sizeLine := by
  rcases h with h | ⟨o, its, n, hk, hc, hs, hz, r⟩
  · obtain ⟨z, its, r, p⟩ := h.ok I.hok
    exact ⟨its, r, p, z⟩
  · refine ⟨its.toList, r, ⟨o, I.kIn a o hk, hc, n, by simpa using hs⟩, ?_⟩
    have e := r.length
    simp only [Array.length_toList] at e
    omega
theorem Inv.list_inj (I : Inv X pins σ H s) (h : SqL X.K H a xs) (h' : SqL X.K H a ys) : xs = ys := by
  obtain ⟨its, r, ⟨o, n, e, _, _, d⟩, _⟩ := I.list h
  obtain ⟨its', r', ⟨o', n', e', _, _, d'⟩, _⟩ := I.list h'
  rw [e] at e'; cases e'
  rw [d] at d'
  injection d' with d1 _
  have : its = its' := by simpa using congrArg Array.toList d1
  subst this
  exact r.inj r'
theorem Inv.tuple_inj (I : Inv X pins σ H s) (h : SqT X.K H a xs) (h' : SqT X.K H a ys) : xs = ys := by
  obtain ⟨its, r, ⟨o, e, _, n, d⟩, _⟩ := I.tuple h
  obtain ⟨its', r', ⟨o', e', _, n', d'⟩, _⟩ := I.tuple h'
  rw [e] at e'; cases e'
  rw [d] at d'
  injection d' with d1 _
  have : its = its' := by simpa using congrArg Array.toList d1
  subst this
  exact r.inj r'
end
abbrev Cx.wish (X : Cx) (E : Value → Shared → Prop) : Cx := { X with xe := E }
abbrev Cx.nox (X : Cx) : Cx := X.wish fun _ _ => False
theorem Cx.Ok.wish {X : Cx} (ok : X.Ok) (E : Value → Shared → Prop) : (X.wish E).Ok :=
  ⟨ok.mod, ok.kind, ok.glob, ok.blt, ok.above, ok.inj, ok.has, ok.cab, ok.hd, ok.frames, ok.stk, ok.exf, ok.bs, ok.bsz, ok.noex, ok.exfs, ok.funs, ok.frf⟩
theorem Cx.Ok.unwish {X : Cx} {E : Value → Shared → Prop} (ok : (X.wish E).Ok) : X.Ok :=
  ⟨ok.mod, ok.kind, ok.glob, ok.blt, ok.above, ok.inj, ok.has, ok.cab, ok.hd, ok.frames, ok.stk, ok.exf, ok.bs, ok.bsz, ok.noex, ok.exfs, ok.funs, ok.frf⟩
section
variable {X : Cx} {pins : List (Addr × Obj)} {σ : St} {H : Hp} {s : Shared} {E : Value → Shared → Prop}
theorem Inv.wish (I : Inv X pins σ H s) (E : Value → Shared → Prop) : Inv (X.wish E) pins σ H s := ⟨I.ok.wish E, I.os, I.bare, I.base, I.loc, I.cell, I.free, I.freeC, I.pin, I.hok, I.len⟩
theorem Inv.unwish (I : Inv (X.wish E) pins σ H s) : Inv X pins σ H s := ⟨I.ok.unwish, I.os, I.bare, I.base, I.loc, I.cell, I.free, I.freeC, I.pin, I.hok, I.len⟩
theorem SP.unwish {D : Ends} {f : Flow} {s' : Shared} (h : SP (X.wish E) pins D f s') : SP X pins D f s' := by
  cases f with
  | next => obtain ⟨σ', H', I, q⟩ := h; exact ⟨σ', H', I.unwish, q⟩
  | brk => obtain ⟨σ', H', I, q⟩ := h; exact ⟨σ', H', I.unwish, q⟩
  | cont => obtain ⟨σ', H', I, q⟩ := h; exact ⟨σ', H', I.unwish, q⟩
  | ret u => obtain ⟨v, σ', H', I, r, q⟩ := h; exact ⟨v, σ', H', I.unwish, r, q⟩
theorem PSs.nox {st : List Stmt} {t : TS} (h : PSs X.nox st t) : PSs X st t := fun pins s σ H D I hw =>
  wpAny_mono (h pins s σ H D (I.wish _) hw) (fun _ _ q => q.unwish) fun _ _ z => False.elim z
end
section
variable {X : Cx} {st : Stmt} {rest : List Stmt} {t u : TS} {e : Expr} {te : TE} {pos : Pos}
def tNext : TS := fun D σ H => D.nx σ H
def tSeq (t u : TS) : TS := fun D σ H => t { D with nx := u D } σ H
theorem pss_nil : PSs X [] tNext := fun _ _ σ H _ I h => wpAny_execs_nil ⟨σ, H, I, h⟩
theorem pss_cons (h1 : PS X st t) (h2 : PSs X rest u) : PSs X (st :: rest) (tSeq t u) := by
  intro pins s σ H D I h
  refine wpAny_execs_cons (thn (h1 pins s σ H { D with nx := u D } I h) fun f s1 q => ?_)
  cases f with
  | next =>
    obtain ⟨σ', H', I', q⟩ := q
    exact h2 pins s1 σ' H' D I' q
  | ret v => exact q
  | brk => exact q
  | cont => exact q
theorem pss_one (h1 : PS X st t) : PSs X [st] t := by
  intro pins s σ H D I h
  refine wpAny_execs_cons (thn (h1 pins s σ H D I h) fun f s1 q => ?_)
  cases f with
  | next => exact wpAny_execs_nil q
  | ret v => exact q
  | brk => exact q
  | cont => exact q
theorem Inv.quiet {pins : List (Addr × Obj)} {σ : St} {H : Hp} {s : Shared} (I : Inv X pins σ H s) : interactive X.env = false := by simp [interactive, I.ok.kind]
def tDrop (te : TE) : TS := fun D σ H => te σ H fun _ H1 => D.nx σ H1
theorem ps_expr (he : PE X e te) (hs : swapsWith e none pos.line X.env = pure false := by rfl) : PS X (.Expr e pos) (tDrop te) := by
  intro pins s σ H D I h
  exact wpAny_Expr_any (thn (he pins s σ H _ I h) fun v s1 ⟨x, H1, I1, r1, q1⟩ => ⟨σ, H1, I1, q1⟩) I.quiet hs
def tRet (te : TE) : TS := fun D σ H => te σ H D.rt
theorem ps_ret (he : PE X e te) : PS X (.Return (some e) pos) (tRet te) := by
  intro pins s σ H D I h
  exact wpAny_Return_some (thn (he pins s σ H _ I h) fun v s1 ⟨x, H1, I1, r1, q1⟩ => ⟨x, σ, H1, I1, r1, q1⟩)
def tIfS (c : TT) (t u : TS) : TS := fun D σ H => c σ H fun b H1 => if b = true then t D σ H1 else u D σ H1
theorem ps_if {c : Expr} {a b : List Stmt} {tc : TT} (hc : PT X c tc) (ha : PSs X a t) (hb : PSs X b u) : PS X (.If c a b pos) (tIfS tc t u) := by
  intro pins s σ H D I h
  refine wpAny_If (thn (hc pins s σ H _ I h) fun d s1 ⟨H1, I1, q1⟩ => ?_)
  cases d with
  | true => exact ha pins s1 σ H1 D I1 q1
  | false => exact hb pins s1 σ H1 D I1 q1
def tNever : TS := fun _ _ _ => False
theorem pss_never {sts : List Stmt} : PSs X sts tNever := fun _ _ _ _ _ _ h => h.elim
end
abbrev TG := V → St → Hp → (St → Hp → Prop) → Prop
abbrev TGs := List V → St → Hp → (St → Hp → Prop) → Prop
def PG (X : Cx) (target : Expr) (t : TG) : Prop :=
  ∀ (pins : List (Addr × Obj)) (s : Shared) (σ : St) (H : Hp) (v : V) (u : Value) (Q : St → Hp → Prop), Inv X pins σ H s → RelV v u → t v σ H Q →
    wpAny (model X.prog X.w) X.A (assign target X.env u) (fun _ s' => ∃ σ' H', Inv X pins σ' H' s' ∧ Q σ' H') X.xe s
def PGs (X : Cx) (ts : List Expr) (t : TGs) : Prop :=
  ∀ (pins : List (Addr × Obj)) (s : Shared) (σ : St) (H : Hp) (vs : List V) (us : List Value) (Q : St → Hp → Prop), Inv X pins σ H s → Vals vs us → t vs σ H Q →
    wpAny (model X.prog X.w) X.A (assignInOrder ((assignEach ts X.env).map (·.2)) us) (fun _ s' => ∃ σ' H', Inv X pins σ' H' s' ∧ Q σ' H') X.xe s
abbrev TSet := V → V → V → Hp → (Hp → Prop) → Prop
def PSet (X : Cx) (t : TSet) : Prop :=
  ∀ (pins : List (Addr × Obj)) (s : Shared) (σ : St) (H : Hp) (o i v : V) (ov iv u : Value) (Q : Hp → Prop), Inv X pins σ H s → RelV o ov → RelV i iv → RelV v u → t o i v H Q →
    wpAny (model X.prog X.w) X.A (setItem ov iv u) (fun _ s' => ∃ H', Inv X pins σ H' s' ∧ Q H') X.xe s
abbrev TIp := V → V → Hp → VK → Prop
def PIp (X : Cx) (op : Operator) (t : TIp) : Prop :=
  ∀ (pins : List (Addr × Obj)) (s : Shared) (σ : St) (H : Hp) (x y : V) (v u : Value) (Q : VK), Inv X pins σ H s → RelV x v → RelV y u → t x y H Q →
    wpAny (model X.prog X.w) X.A (inplaceOp op v u) (EP X pins σ Q) X.xe s
section
variable {X : Cx} {pos : Pos}
def gName (i : Nat) : TG := fun v σ H Q => Q (σ.set i (some v)) H
theorem pg_name {i : Nat} {x : Str} (hN : X.N.Nodup) (hi : X.N[i]? = some x) (hx : Loc X.env.scope x) (hf : X.fn x = true ∨ X.env.scope.names.lookup x = some .local := by first | exact .inl rfl | exact .inr rfl | assumption) : PG X (.Name x pos) (gName i) := by
  intro pins s σ H v u Q I r h
  exact wpAny_assign_Name (store_ok I hN hi hx r (fun s' I' => ⟨_, H, I', h⟩) hf)
def gNil : TGs := fun vs σ H Q => vs = [] ∧ Q σ H
def gCons (t : TG) (u : TGs) : TGs := fun vs σ H Q => ∃ v r, vs = v :: r ∧ t v σ H fun σ' H' => u r σ' H' Q
theorem pgs_nil : PGs X [] gNil := by
  intro pins s σ H vs us Q I r h
  obtain ⟨e, h⟩ := h
  subst e
  cases r
  exact assignInOrder_nil ⟨σ, H, I, h⟩
theorem pgs_cons {e : Expr} {es : List Expr} {t : TG} {u : TGs} (h1 : PG X e t) (h2 : PGs X es u)
    (hs : (assignEach (e :: es) X.env).map (·.2) = assign e X.env :: (assignEach es X.env).map (·.2) := by rfl) : PGs X (e :: es) (gCons t u) := by
  intro pins s σ H vs us Q I r h
  obtain ⟨v, vr, e1, h⟩ := h
  subst e1
  cases r with
  | cons r rr =>
    rw [hs]
    refine assignInOrder_cons (thn (h1 pins s σ H _ _ _ I r h) fun _ s1 ⟨σ1, H1, I1, q1⟩ => ?_)
    exact h2 pins s1 σ1 H1 _ _ Q I1 rr q1
def gTup (K : PySem.W.Frag) (n : Nat) (t : TGs) : TG := fun v σ H Q => ∃ a xs, v = .ref a ∧ SqT K H a xs ∧ xs.length = n ∧ t xs σ H Q
theorem pg_tup {es : List Expr} {k : Nat} {t : TGs} {n : Nat} (hc : X.calm = true) (h : PGs X es t)
    (hn : (assignEach es X.env).length = n := by rfl) (hst : (assignEach es X.env).findIdx? (·.1) = none := by rfl) : PG X (.Tuple es k pos) (gTup X.K n t) := by
  intro pins s σ H v u Q I r hw
  obtain ⟨a, xs, e1, hq, hl, hw⟩ := hw
  subst e1
  cases r
  obtain ⟨its, rv, ht, hz⟩ := I.tuple hq
  refine assign_Tuple_tuple (I.ok.hd hc) ht (by simp [hn, ← hl, rv.length]) hst fun h' hx => ?_
  have I1 : Inv X pins σ H { s with heap := h' } := I.kept (t' := s.toks) fun b o e => hx b o (Nat.ne_of_lt (Heap.lt_size e)) e
  exact h pins _ σ H xs _ Q I1 (by simpa using rv) hw
def gSub (to ti : TE) (t : TSet) : TG := fun v σ H Q => to σ H fun o H1 => ti σ H1 fun i H2 => t o i v H2 fun H3 => Q σ H3
theorem pg_sub {o i : Expr} {to ti : TE} {t : TSet} (ho : PE X o to) (hi : PE X i ti) (hs : PSet X t)
    (ha : ∀ v, assign (.Subscript o i pos) X.env v = (do
      let ov ← holding [v] (eval o X.env)
      let iv ← holding [v, ov] (eval i X.env)
      standAt pos
      holding [v, ov, iv] (setItem ov iv v)
      release [v, ov, iv] []) := by intro _; rfl) : PG X (.Subscript o i pos) (gSub to ti t) := by
  intro pins s σ H v u Q I r h
  rw [ha]
  refine wpAny_bind (wpAny_holding (thn (ho pins s σ H _ I h) fun ov s1 ⟨x, H1, I1, r1, q1⟩ => ?_))
  refine wpAny_bind (wpAny_holding (thn (hi pins s1 σ H1 _ I1 q1) fun iv s2 ⟨y, H2, I2, r2, q2⟩ => ?_))
  refine wpAny_bind (wpAny_standAt (wpAny_bind (wpAny_holding (thn (hs pins s2 σ H2 x y v ov iv u _ I2 r1 r2 r q2) fun _ s3 ⟨H3, I3, q3⟩ => ?_))))
  exact wpAny_release ⟨σ, H3, I3, q3⟩
def tAsg (te : TE) (g : TG) : TS := fun D σ H => te σ H fun x H1 => g x σ H1 D.nx
theorem ps_asg {tg e : Expr} {te : TE} {g : TG} (he : PE X e te) (hg : PG X tg g) (hs : swapsWithSole [tg] e pos.line X.env = pure false := by rfl) (hw : swappedStores [tg] e X.env = pure none := by rfl)
    (h1 : (assignEach [tg] X.env).map (·.2) = [assign tg X.env] := by rfl) : PS X (.Assign [tg] e pos) (tAsg te g) := by
  intro pins s σ H D I h
  refine wpAny_Assign_stores (thn (he pins s σ H _ I h) fun v s1 ⟨x, H1, I1, r1, q1⟩ => ?_) hs hw
  rw [h1]
  exact thn (hg pins s1 σ H1 x v _ I1 r1 q1) fun _ s2 q => q
theorem ps_set {i : Nat} {x : Str} {e : Expr} {te : TE} {pos' : Pos} (hN : X.N.Nodup) (hi : X.N[i]? = some x) (hx : Loc X.env.scope x) (he : PE X e te) (hs : swapsWith e (some (.Name x pos')) pos.line X.env = pure false := by rfl) (hf : X.fn x = true ∨ X.env.scope.names.lookup x = some .local := by first | exact .inl rfl | exact .inr rfl | assumption) :
    PS X (.Assign [.Name x pos'] e pos) (tAsg te (gName i)) := by
  intro pins s σ H D I h
  refine wpAny_Assign_Name (thn (he pins s σ H _ I h) fun v s1 ⟨y, H1, I1, r1, q1⟩ => ?_) hs
  exact store_ok I1 hN hi hx r1 (fun s2 I2 => ⟨_, H1, I2, q1⟩) hf
def tAug (i : Nat) (te : TE) (ti : TIp) : TS := fun D σ H => ∃ x, σ[i]? = some (some x) ∧ te σ H fun y H1 => ti x y H1 fun z H2 => D.nx (σ.set i (some z)) H2
theorem ps_aug {i : Nat} {x : Str} {e : Expr} {te : TE} {op : Operator} {ti : TIp} {pos' : Pos} (hN : X.N.Nodup) (hi : X.N[i]? = some x) (hx : Loc X.env.scope x) (he : PE X e te) (ho : PIp X op ti) (hf : X.fn x = true ∨ X.env.scope.names.lookup x = some .local := by first | exact .inl rfl | exact .inr rfl | assumption) :
    PS X (.AugAssign (.Name x pos') op e pos) (tAug i te ti) := by
  intro pins s σ H D I h
  obtain ⟨v, e1, h⟩ := h
  obtain ⟨m, hn, hl⟩ := I.loc
  have vis : Vis X.env.scope x := by rcases hx with k | k; exact .inl k; exact .inr (.inl k)
  obtain ⟨u, r, l⟩ := hl i x v hi e1 vis
  refine wpAny_AugAssign_Name ?_
  have go : wpAny (model X.prog X.w) X.A (eval e X.env) (fun w s₂ => wpAny (model X.prog X.w) X.A (inplaceOp op u w) (fun r s₃ => wpAny (model X.prog X.w) X.A (storeName X.env x r) (fun _ => SP X pins D .next) X.xe s₃) X.xe s₂) X.xe s := by
    refine thn (he pins s σ H _ I h) fun w s1 ⟨y, H1, I1, r1, q1⟩ => ?_
    refine thn (ho pins s1 σ H1 v y u w _ I1 r r1 q1) fun z s2 ⟨zv, H2, I2, r2, q2⟩ => ?_
    exact store_ok I2 hN hi hx r2 (fun s3 I3 => ⟨_, H2, I3, q2⟩) hf
  rcases l with ⟨hk, hm⟩ | ⟨hk, c, hc, hcell⟩
  · exact wpAny_loadName_local I.ok.kind hk hn hm go
  · rcases hk with hk | hk
    · exact wpAny_loadName_cell I.ok.kind hk hc hcell go
    · rcases hx with k | k
      · have : X.env.scope.names.lookup x = some .free := hk
        rw [k] at this; cases this
      · have : X.env.scope.names.lookup x = some .free := hk
        rw [k] at this; cases this
def ipI (f : Int → Int → Int) : TIp := fun x y H Q => ∃ i j, x = .int i ∧ y = .int j ∧ Q (.int (f i j)) H
theorem ip_add : PIp X .Add (ipI fun i j => i + j) := by
  intro pins s σ H x y v u Q I r1 r2 h
  obtain ⟨i, j, e1, e2, q⟩ := h
  subst e1; subst e2
  obtain ⟨t, rfl⟩ := r1
  obtain ⟨t', rfl⟩ := r2
  exact iadd_int ⟨.int _, H, I.tok _, ⟨_, rfl⟩, q⟩
end
section
variable {X : Cx} {pos : Pos}
def tWhile (c : TT) (tb : TS) : TS := fun D σ H => ∃ W : Nat → St → Hp → Prop, (∃ m, W m σ H) ∧ ∀ m σ H, W m σ H →
  c σ H fun b H1 => if b = true then ∃ N : St → Hp → Prop, (∀ σ' H', N σ' H' → ∃ m', m' < m ∧ W m' σ' H') ∧ tb { D with nx := N, ct := N, bk := D.nx } σ H1 else D.nx σ H1
theorem ps_while {c : Expr} {body : List Stmt} {tc : TT} {tb : TS} (hp : PassesOwn (model X.prog X.w) X.A X.env X.xe) (hc : PT X c tc) (hb : PSs X body tb) : PS X (.While c body [] pos) (tWhile tc tb) := by
  intro pins s σ H D I h
  obtain ⟨W, ⟨m0, w0⟩, turn⟩ := h
  refine wpAny_While (codeAny_whileLoop (fun n s' => ∃ σ' H', Inv X pins σ' H' s' ∧ W n σ' H') ?_ m0 ⟨σ, H, I, w0⟩)
  rintro n s1 ⟨σ1, H1, I1, w1⟩
  refine wpAny_passesOwn hp (thn (hc pins s1 σ1 H1 _ I1 (turn n σ1 H1 w1)) fun b s2 ⟨H2, I2, q2⟩ => ?_)
  cases b with
  | true =>
    obtain ⟨N, hN, q2⟩ := q2
    rw [if_pos rfl]
    refine wpAny_passesOwn hp (thn (hb pins s2 σ1 H2 _ I2 q2) fun f s3 q3 => ?_)
    cases f with
    | next =>
      obtain ⟨σ3, H3, I3, n3⟩ := q3
      obtain ⟨m', hm, w3⟩ := hN σ3 H3 n3
      exact ⟨m', hm, σ3, H3, I3, w3⟩
    | cont =>
      obtain ⟨σ3, H3, I3, n3⟩ := q3
      obtain ⟨m', hm, w3⟩ := hN σ3 H3 n3
      exact ⟨m', hm, σ3, H3, I3, w3⟩
    | brk => exact q3
    | ret v => exact q3
  | false =>
    rw [if_neg Bool.false_ne_true]
    exact wpAny_execs_nil ⟨σ1, H2, I2, q2⟩
end
structure It where
  go : Nat → Hp → Prop
  yld : Nat → Hp → V → Hp → Prop
  stop : Nat → Hp → Prop
def FpOk (X : Cx) (pins : List (Addr × Obj)) (H : Hp) (b : Addr) : Prop :=
  H b = none ∧ b ≠ X.env.locals ∧ b ∉ X.fs ∧ (b ∈ X.ex ∨ X.s₀.heap.objs.size ≤ b) ∧ (∀ x c, X.env.cells.lookup x = some c → c ≠ b) ∧ ∀ p ∈ X.pn ++ pins, p.1 ≠ b
theorem Inv.fpOk {X : Cx} {pins : List (Addr × Obj)} {σ : St} {H H' : Hp} {s : Shared} {b : Addr} (I : Inv X pins σ H s) (hb : s.heap.objs.size ≤ b) (hn : H' b = none) : FpOk X pins H' b := by
  refine ⟨hn, Nat.ne_of_gt (Nat.lt_of_lt_of_le I.lt hb), I.nofs hb, .inr (Nat.le_trans I.sz hb), fun x c e z => ?_, fun p hp z => ?_⟩
  · obtain ⟨v, q⟩ := I.cell x c e
    exact absurd (Nat.lt_of_lt_of_le q.lt (by rw [z]; exact hb)) (Nat.lt_irrefl _)
  · exact absurd (Nat.lt_of_lt_of_le (Heap.lt_size (I.pin p hp).1) (by rw [z]; exact hb)) (Nat.lt_irrefl _)
structure Turn (P : Program) (w : World) (K : PySem.W.Frag) (tg : Expr) (J : It) (fp : List Addr) (it : Addr) (tn : Nat → Heap → Prop) : Prop where
  mem : it ∈ fp
  obj : ∀ i h, tn i h → ∀ b ∈ fp, ∃ o, h.get? b = some o ∧ ∀ v, o.data ≠ .cell v
  keep : ∀ i h h', tn i h → (∀ b ∈ fp, ∀ o, h.get? b = some o → h'.get? b = some o) → tn i h'
  item : ∀ (X : Cx), X.prog = P → X.w = w → X.K = K → X.calm = true → ∀ (i : Nat) (pins : List (Addr × Obj)) (s : Shared) (σ : St) (H : Hp) (E : Value → Shared → Prop), Inv X pins σ H s → (∀ b ∈ fp, FpOk X pins H b) → tn i s.heap → J.go i H →
    wpAny (model P w) X.A (pyNext (.ref it)) (fun r s1 => ∃ u, r = some u ∧
      wpAny (model P w) X.A (letOwnedTupleGo tg (.ref it) u) (fun _ s2 => ∃ x H', Inv X pins σ H' s2 ∧ RelV x u ∧ J.yld i H x H' ∧ tn (i + 1) s2.heap ∧ ∀ b ∈ fp, H' b = none) E s1) E s
  done : ∀ (X : Cx), X.prog = P → X.w = w → X.K = K → X.calm = true → ∀ (i : Nat) (pins : List (Addr × Obj)) (s : Shared) (σ : St) (H : Hp) (E : Value → Shared → Prop), Inv X pins σ H s → (∀ b ∈ fp, FpOk X pins H b) → tn i s.heap → J.stop i H →
    wpAny (model P w) X.A (pyNext (.ref it)) (fun r s1 => r = none ∧ Inv X pins σ H s1) E s
  self : ∀ (A : Around) (i : Nat) (s : Shared) (Q : Value → Shared → Prop) (E : Value → Shared → Prop), tn i s.heap → Q (.ref it) s → wpAny (model P w) A (pyIter (.ref it)) Q E s
abbrev TI := St → Hp → (It → Hp → Prop) → Prop
def PIE (X : Cx) (pins : List (Addr × Obj)) (σ : St) (tg : Expr) (R : It → Hp → Prop) (itv : Value) (s2 : Shared) : Prop :=
  ∃ (it : Addr) (fp : List Addr) (tn : Nat → Heap → Prop) (J : It) (H' : Hp), itv = .ref it ∧ Inv X pins σ H' s2 ∧ Turn X.prog X.w X.K tg J fp it tn ∧ tn 0 s2.heap ∧ (∀ b ∈ fp, FpOk X pins H' b) ∧ R J H'
def PI (X : Cx) (tg iter : Expr) (wi : TI) : Prop :=
  ∀ (pins : List (Addr × Obj)) (s : Shared) (σ : St) (H : Hp) (R : It → Hp → Prop), Inv X pins σ H s → wi σ H R →
    wpAny (model X.prog X.w) X.A (eval iter X.env) (fun v s1 => wpAny (model X.prog X.w) X.A (pyIter v) (PIE X pins σ tg R) X.xe s1) X.xe s
theorem go_of {M : Model} {A : Around} {E : Value → Shared → Prop} {s : Shared} {tg : Expr} {it : Addr} {u : Value} {o : Obj} {n : String} {vs : Array Value} {Q : Unit → Shared → Prop} (ho : s.heap.get? it = some o) (hc : o.cls = .type n) (hd : o.data = .fields vs)
    (hn : ["enumerate", "zip", "dict_itemiterator", "dict_reverseitemiterator", "odict_iterator", "itertools.zip_longest", "itertools.pairwise"].contains n = false) (hQ : Q () s) : wpAny M A (letOwnedTupleGo tg (.ref it) u) Q E s := by
  unfold letOwnedTupleGo
  cases tg <;> first
    | exact wpAny_pure hQ
    | (cases u <;> first
        | exact wpAny_pure hQ
        | (refine wpAny_bind (wpAny_load ho ?_)
           rw [hc, hd]
           show wpAny M A (if (["enumerate", "zip", "dict_itemiterator", "dict_reverseitemiterator", "odict_iterator", "itertools.zip_longest", "itertools.pairwise"].contains n && vs[0]? == some (rawInt _)) = true then _ else _) Q E s
           rw [if_neg (by intro h; rw [hn, Bool.false_and] at h; cases h)]
           exact wpAny_pure hQ))
def Itl (K : PySem.W.Frag) (a : Addr) : It :=
  ⟨fun i H => ∃ xs x, SqL K H a xs ∧ xs[i]? = some x, fun i H x H' => H' = H ∧ ∀ xs, SqL K H a xs → xs[i]? = some x, fun i H => ∃ xs, SqL K H a xs ∧ xs.length ≤ i⟩
def Itt (K : PySem.W.Frag) (a : Addr) : It :=
  ⟨fun i H => ∃ xs x, SqT K H a xs ∧ xs[i]? = some x, fun i H x H' => H' = H ∧ ∀ xs, SqT K H a xs → xs[i]? = some x, fun i H => ∃ xs, SqT K H a xs ∧ xs.length ≤ i⟩
def Itr (lo : Int) (n : Nat) : It := ⟨fun i _ => i < n, fun i H x H' => H' = H ∧ x = .int (lo + i), fun i _ => n ≤ i⟩
theorem turn_list {P : Program} {w : World} {K : PySem.W.Frag} {tg : Expr} (a it : Addr) : Turn P w K tg (Itl K a) [it] it (fun i h => h.IsListIter it a i) where
  mem := by simp
  obj := fun i h st b hb => by
    have e : b = it := by simpa using hb
    subst e
    obtain ⟨o, e, c, d⟩ := st
    exact ⟨o, e, fun v z => by rw [d] at z; cases z⟩
  keep := fun i h h' st k => st.at fun o e => k it (by simp) o e
  item := by
    intro X hP hw hK hc i pins s σ H E I hf st hg
    subst hP hw hK
    obtain ⟨xs, x, hq, hx⟩ := hg
    obtain ⟨its, rv, p, hz⟩ := I.list hq
    obtain ⟨u, hu, ru⟩ := rv.get hx
    obtain ⟨f0, f1, f2, f3, f4, f5⟩ := hf it (by simp)
    refine wpAny_pyNext_list_item st p.isList (x := u) (by simpa using hu) fun h' st' sb => ?_
    have I1 : Inv X pins σ H { s with heap := h' } := I.turned (t' := s.toks) (fun b o hb e => (sb.2 b hb).trans e) f0 f1 f3 f4 f5
    obtain ⟨o, e, c, d⟩ := id st'
    exact ⟨u, rfl, go_of (s := { s with heap := h' }) e c d (by decide) ⟨x, H, I1, ru, ⟨rfl, fun ys hy => by rw [I.list_inj hy hq]; exact hx⟩, st', fun b hb => (hf b hb).1⟩⟩
  done := by
    intro X hP hw hK hc i pins s σ H E I hf st hg
    subst hP hw hK
    obtain ⟨xs, hq, hx⟩ := hg
    obtain ⟨its, rv, p, hz⟩ := I.list hq
    obtain ⟨f0, f1, f2, f3, f4, f5⟩ := hf it (by simp)
    have hl := rv.length
    exact wpAny_pyNext_list_end (I.ok.hd hc) st p.isList (by simp; omega) fun h' eb => ⟨rfl, I.turned (t' := s.toks) (fun b o hb e => eb b o hb e) f0 f1 f3 f4 f5⟩
  self := fun _ _ _ _ _ st h => wpAny_pyIter_listiter st h
theorem turn_tuple {P : Program} {w : World} {K : PySem.W.Frag} {tg : Expr} (a it : Addr) : Turn P w K tg (Itt K a) [it] it (fun i h => h.IsTupleIter it a i) where
  mem := by simp
  obj := fun i h st b hb => by
    have e : b = it := by simpa using hb
    subst e
    obtain ⟨o, e, c, d⟩ := st
    exact ⟨o, e, fun v z => by rw [d] at z; cases z⟩
  keep := fun i h h' st k => st.at fun o e => k it (by simp) o e
  item := by
    intro X hP hw hK hc i pins s σ H E I hf st hg
    subst hP hw hK
    obtain ⟨xs, x, hq, hx⟩ := hg
    obtain ⟨its, rv, p, hz⟩ := I.tuple hq
    obtain ⟨u, hu, ru⟩ := rv.get hx
    obtain ⟨f0, f1, f2, f3, f4, f5⟩ := hf it (by simp)
    refine wpAny_pyNext_tuple_item st (show s.heap.IsTuple a its.toArray from p) (x := u) (by simpa using hu) fun h' st' sb => ?_
    have I1 : Inv X pins σ H { s with heap := h' } := I.turned (t' := s.toks) (fun b o hb e => (sb.2 b hb).trans e) f0 f1 f3 f4 f5
    obtain ⟨o, e, c, d⟩ := id st'
    exact ⟨u, rfl, go_of (s := { s with heap := h' }) e c d (by decide) ⟨x, H, I1, ru, ⟨rfl, fun ys hy => by rw [I.tuple_inj hy hq]; exact hx⟩, st', fun b hb => (hf b hb).1⟩⟩
  done := by
    intro X hP hw hK hc i pins s σ H E I hf st hg
    subst hP hw hK
    obtain ⟨xs, hq, hx⟩ := hg
    obtain ⟨its, rv, p, hz⟩ := I.tuple hq
    obtain ⟨f0, f1, f2, f3, f4, f5⟩ := hf it (by simp)
    have hl := rv.length
    exact wpAny_pyNext_tuple_end (I.ok.hd hc) st (show s.heap.IsTuple a its.toArray from p) (by simp; omega) fun h' eb => ⟨rfl, I.turned (t' := s.toks) (fun b o hb e => eb b o hb e) f0 f1 f3 f4 f5⟩
  self := fun _ _ _ _ _ st h => wpAny_pyIter_tupleiter st h
theorem turn_range {P : Program} {w : World} {K : PySem.W.Frag} {tg : Expr} (it : Addr) (lo : Int) (n : Nat) : Turn P w K tg (Itr lo n) [it] it (fun i h => IsRangeIter h it (lo + (i : Nat) * 1) ((n : Int) - (i : Nat)) 1) where
  mem := by simp
  obj := fun i h st b hb => by
    have e : b = it := by simpa using hb
    subst e
    exact ⟨_, st, fun v z => by
      have z' : Data.fields _ = Data.cell v := z
      cases z'⟩
  keep := fun i h h' st k => k it (by simp) _ st
  item := by
    intro X hP hw hK hc i pins s σ H E I hf st hg
    subst hP hw hK
    obtain ⟨f0, f1, f2, f3, f4, f5⟩ := hf it (by simp)
    have W := Walks.range (prog := X.prog) (w := X.w) (I.ok.hd hc) it lo 1 n
    refine W.item i s _ _ hg st fun v h' tk hv st' kk => ?_
    obtain ⟨t, rfl⟩ := hv
    have I1 : Inv X pins σ H { s with heap := h', toks := tk } := I.turned (fun b o hb e => kk b o (by simpa using hb) e) f0 f1 f3 f4 f5
    refine ⟨_, rfl, go_of (s := { s with heap := h', toks := tk }) (n := "range_iterator") st' rfl rfl (by decide) ⟨.int (lo + i), H, I1, ⟨t, ?_⟩, ⟨rfl, rfl⟩, st', fun b hb => (hf b hb).1⟩⟩
    rw [Int.mul_one]
  done := by
    intro X hP hw hK hc i pins s σ H E I hf st hg
    subst hP hw hK
    obtain ⟨f0, f1, f2, f3, f4, f5⟩ := hf it (by simp)
    exact wpAny_pyNext_range_end (I.ok.hd hc) st (by have : n ≤ i := hg; omega) fun h' eb => ⟨rfl, I.turned (t' := s.toks) (fun b o hb e => eb b o hb e) f0 f1 f3 f4 f5⟩
  self := fun _ _ _ _ _ st h => wpAny_pyIter_rangeiter st h
end L2
namespace L2
open PySem PySem.Spec PyProof.Rows
section
variable {X : Cx} {tg : Expr}
def iList (K : PySem.W.Frag) (tl : TE) : TI := fun σ H R => tl σ H fun x H1 => ∃ a, x = .ref a ∧ (∃ xs, SqL K H1 a xs) ∧ R (Itl K a) H1
def iTup (K : PySem.W.Frag) (tl : TE) : TI := fun σ H R => tl σ H fun x H1 => ∃ a, x = .ref a ∧ (∃ xs, SqT K H1 a xs) ∧ R (Itt K a) H1
theorem pi_list {l : Expr} {tl : TE} (hl : PE X l tl) : PI X tg l (iList X.K tl) := by
  intro pins s σ H R I h
  refine thn (hl pins s σ H _ I h) fun v s1 ⟨x, H1, I1, r1, q1⟩ => ?_
  obtain ⟨a, e, ⟨xs, hq⟩, q⟩ := q1
  subst e
  cases r1
  obtain ⟨its, rv, p, hz⟩ := I1.list hq
  refine wpAny_pyIter_list p.isList ?_
  refine ⟨s1.heap.objs.size, [s1.heap.objs.size], _, _, H1, rfl, I1.kept (t' := s1.toks) fun b o e => Heap.get?_push_of_some _ e, turn_list a _, ⟨_, Heap.get?_push_size _ rfl, rfl, rfl⟩, fun b hb => ?_, q⟩
  have e : b = s1.heap.objs.size := by simpa using hb
  subst e
  exact I1.fpOk (Nat.le_refl _) (I1.hok.fresh (Nat.le_refl _))
theorem pi_tup {l : Expr} {tl : TE} (hl : PE X l tl) : PI X tg l (iTup X.K tl) := by
  intro pins s σ H R I h
  refine thn (hl pins s σ H _ I h) fun v s1 ⟨x, H1, I1, r1, q1⟩ => ?_
  obtain ⟨a, e, ⟨xs, hq⟩, q⟩ := q1
  subst e
  cases r1
  obtain ⟨its, rv, p, hz⟩ := I1.tuple hq
  refine wpAny_pyIter_tuple (show s1.heap.IsTuple a its.toArray from p) ?_
  refine ⟨s1.heap.objs.size, [s1.heap.objs.size], _, _, H1, rfl, I1.kept (t' := s1.toks) fun b o e => Heap.get?_push_of_some _ e, turn_tuple a _, ⟨_, Heap.get?_push_size _ rfl, rfl, rfl⟩, fun b hb => ?_, q⟩
  have e : b = s1.heap.objs.size := by simpa using hb
  subst e
  exact I1.fpOk (Nat.le_refl _) (I1.hok.fresh (Nat.le_refl _))
theorem range_it {pins : List (Addr × Obj)} {σ : St} {H : Hp} {s : Shared} {R : It → Hp → Prop} {E : Value → Shared → Prop} {lo hi : Int} {t u v : Tok} {tk : Nat} (I : Inv X pins σ H s) (h1 : -(2 ^ 62) ≤ lo) (h2 : lo < 2 ^ 62) (h3 : -(2 ^ 62) ≤ hi) (h4 : hi < 2 ^ 62)
    (q : R (Itr lo (hi - lo).toNat) H) : wpAny (model X.prog X.w) X.A (pyIter (.ref s.heap.objs.size)) (PIE X pins σ tg R) E { s with heap := s.heap.push { cls := .type "range", data := .fields #[.int lo t, .int hi u, .int 1 v] }, toks := tk } := by
  refine wpAny_pyIter_range (IsRange.new ..) (small_one h1 h2 h3 h4) ?_
  have I1 : Inv X pins σ H { s with heap := s.heap.push { cls := .type "range", data := .fields #[.int lo t, .int hi u, .int 1 v] }, toks := tk } := I.kept fun b o e => Heap.get?_push_of_some _ e
  refine ⟨(s.heap.push { cls := .type "range", data := .fields #[.int lo t, .int hi u, .int 1 v] }).objs.size, [(s.heap.push { cls := .type "range", data := .fields #[.int lo t, .int hi u, .int 1 v] }).objs.size], _, _, H, rfl,
    I1.kept (t' := tk) fun b o e => Heap.get?_push_of_some _ e, turn_range _ lo (hi - lo).toNat, ?_, fun b hb => ?_, q⟩
  · have e1 : lo + ((0 : Nat) : Int) * 1 = lo := by simp
    have e2 : (((hi - lo).toNat : Nat) : Int) - ((0 : Nat) : Int) = Builtin.Range.rangeSize lo hi 1 := by rw [rangeSize_one]; split <;> omega
    show IsRangeIter _ _ (lo + ((0 : Nat) : Int) * 1) ((((hi - lo).toNat : Nat) : Int) - ((0 : Nat) : Int)) 1
    rw [e1, e2]
    exact Heap.get?_push_size _ rfl
  · have e : b = (s.heap.push { cls := .type "range", data := .fields #[.int lo t, .int hi u, .int 1 v] }).objs.size := by simpa using hb
    subst e
    exact I1.fpOk (Nat.le_refl _) (I1.hok.fresh (Nat.le_refl _))
def iRng1 (ta : TA) : TI := fun σ H R => ta σ H fun vs H1 => ∃ j : Int, vs = [.int j] ∧ -(2 ^ 62) ≤ j ∧ j < 2 ^ 62 ∧ R (Itr 0 j.toNat) H1
theorem pi_range1 {a : Expr} {ta : TA} {p pos : Pos} (hg : Gl X "range") (hm : X.mg "range" = none) (ha : PA X [a] ta) (hs : starEach [a] X.env = [(false, eval a X.env)] := by rfl) : PI X tg (.Call (.Name "range" p) [a] [] pos) (iRng1 ta) := by
  intro pins s σ H R I h
  refine Call_ (ld_blt I hg hm boot_range (PyProof.Rows.callWith_type1 (thn (ha pos pins s σ H _ I h) fun us s1 ⟨vs, H1, I1, r1, q1⟩ => ?_) hs rfl))
  obtain ⟨j, e, q1, q2, q⟩ := q1
  subst e
  cases r1 with
  | cons r rr =>
    cases rr
    obtain ⟨t, rfl⟩ := r
    exact call_range_1 (range_it I1 (by omega) (by omega) q1 q2 (by simpa using q))
def tFor (wi : TI) (g : TG) (tb : TS) : TS := fun D σ H => wi σ H fun J H1 => ∃ W : Nat → Nat → St → Hp → Prop, (∃ m, W 0 m σ H1) ∧ ∀ i m σ H, W i m σ H →
  (J.stop i H ∧ D.nx σ H) ∨ (J.go i H ∧ ∃ N : St → Hp → Prop, (∀ σ' H', N σ' H' → ∃ m', m' < m ∧ W (i + 1) m' σ' H') ∧ ∀ x H', J.yld i H x H' → g x σ H' fun σ2 H2 => tb { D with nx := N, ct := N, bk := D.nx } σ2 H2)
def pinsAt (fp : List Addr) (h : Heap) : List (Addr × Obj) := fp.filterMap fun b => (h.get? b).map fun o => (b, o)
theorem mem_pinsAt {fp : List Addr} {h : Heap} {b : Addr} {o : Obj} (hb : b ∈ fp) (e : h.get? b = some o) : (b, o) ∈ pinsAt fp h := List.mem_filterMap.mpr ⟨b, hb, by rw [e]; rfl⟩
theorem of_pinsAt {fp : List Addr} {h : Heap} {p : Addr × Obj} (hp : p ∈ pinsAt fp h) : p.1 ∈ fp ∧ h.get? p.1 = some p.2 := by
  obtain ⟨b, hb, e⟩ := List.mem_filterMap.mp hp
  cases q : h.get? b with
  | none => rw [q] at e; cases e
  | some o =>
    rw [q] at e
    have e' : (b, o) = p := Option.some.inj e
    subst e'
    exact ⟨hb, q⟩
theorem Inv.pinned {pins : List (Addr × Obj)} {σ : St} {H : Hp} {s : Shared} {fp : List Addr} (I : Inv X pins σ H s) (hf : ∀ b ∈ fp, FpOk X pins H b) (ho : ∀ b ∈ fp, ∃ o, s.heap.get? b = some o ∧ ∀ v, o.data ≠ .cell v) : Inv X (pins ++ pinsAt fp s.heap) σ H s :=
  I.pins_of fun p hp => (List.mem_append.mp hp).elim (fun z => I.pin p (List.mem_append_right _ z)) fun z => by
    obtain ⟨hb, e⟩ := of_pinsAt z
    obtain ⟨f0, f1, f2, _⟩ := hf p.1 hb
    obtain ⟨o, e', d⟩ := ho p.1 hb
    rw [e] at e'; cases e'
    exact ⟨e, f0, f1, f2, d⟩
theorem Inv.unpinned {pins pl : List (Addr × Obj)} {σ : St} {H : Hp} {s : Shared} (I : Inv X (pins ++ pl) σ H s) : Inv X pins σ H s := I.pins_of fun p hp => I.pin p (List.mem_append_right _ (List.mem_append_left _ hp))
theorem ps_for {iter : Expr} {body : List Stmt} {wi : TI} {g : TG} {tb : TS} {pos : Pos} (hp : PassesOwn (model X.prog X.w) X.A X.env X.xe) (hc : X.calm = true) (hi : PI X tg iter wi) (hg : PG X tg g) (hb : PSs X body tb)
    (hs : ∀ x, foldedSetIterable iter X.env x = pure x := by intro _; rfl) : PS X (.For tg iter body [] pos) (tFor wi g tb) := by
  intro pins s σ H D I h
  refine wpAny_For (thn (hi pins s σ H _ I h) fun v s1 h1 => thn h1 fun itv s2 h2 => ?_) hs
  obtain ⟨it, fp, tn, J, H2, e, I2, T, st2, f2, W, ⟨m0, w0⟩, turn⟩ := h2
  subst e
  have stat : ∀ {H' : Hp}, (∀ b ∈ fp, H' b = none) → ∀ b ∈ fp, FpOk X pins H' b := fun hn b hb => ⟨hn b hb, (f2 b hb).2⟩
  refine codeAny_forLoop_any (fun n s' => ∃ i σ' H', Inv X pins σ' H' s' ∧ tn i s'.heap ∧ (∀ b ∈ fp, H' b = none) ∧ W i n σ' H') ?_ m0 ⟨0, σ, H2, I2, st2, fun b hb => (f2 b hb).1, w0⟩
  rintro n s3 ⟨i, σ3, H3, I3, st3, fr3, w3⟩
  rcases turn i n σ3 H3 w3 with ⟨stop, qn⟩ | ⟨go, N, hN, step⟩
  · refine wpAny_passesOwn hp (thn (T.done X rfl rfl rfl hc i pins s3 σ3 H3 X.xe I3 (stat fr3) st3 stop) fun r s4 ⟨hr, I4⟩ => ?_)
    subst hr
    exact wpAny_execs_nil ⟨σ3, H3, I4, qn⟩
  · refine wpAny_passesOwn hp (thn (T.item X rfl rfl rfl hc i pins s3 σ3 H3 X.xe I3 (stat fr3) st3 go) fun r s4 ⟨u, hr, h4⟩ => ?_)
    subst hr
    refine wpAny_passesOwn hp (thn h4 fun _ s5 ⟨x, H5, I5, r5, y5, st5, fr5⟩ => ?_)
    have I5' := I5.pinned (stat fr5) (T.obj _ _ st5)
    refine wpAny_passesOwn hp (thn (hg _ s5 σ3 H5 x u _ I5' r5 (step x H5 y5)) fun _ s6 ⟨σ6, H6, I6, q6⟩ => ?_)
    refine wpAny_passesOwn hp (thn (hb _ s6 σ6 H6 _ I6 q6) fun f s7 q7 => ?_)
    have again : ∀ {σ7 : St} {H7 : Hp}, Inv X (pins ++ pinsAt fp s5.heap) σ7 H7 s7 → N σ7 H7 → ∃ m, m < n ∧ ∃ i σ' H', Inv X pins σ' H' s7 ∧ tn i s7.heap ∧ (∀ b ∈ fp, H' b = none) ∧ W i m σ' H' := fun {σ7 H7} I7 n7 => by
      obtain ⟨m', hm, w7⟩ := hN σ7 H7 n7
      refine ⟨m', hm, i + 1, σ7, H7, I7.unpinned, T.keep _ _ _ st5 fun b hb o e => (I7.pin (b, o) (List.mem_append_right _ (List.mem_append_right _ (mem_pinsAt hb e)))).1, fun b hb => ?_, w7⟩
      obtain ⟨o, e, d⟩ := T.obj _ _ st5 b hb
      exact (I7.pin (b, o) (List.mem_append_right _ (List.mem_append_right _ (mem_pinsAt hb e)))).2.1
    cases f with
    | next => obtain ⟨σ7, H7, I7, n7⟩ := q7; exact again I7 n7
    | cont => obtain ⟨σ7, H7, I7, n7⟩ := q7; exact again I7 n7
    | brk => obtain ⟨σ7, H7, I7, q7⟩ := q7; exact ⟨σ7, H7, I7.unpinned, q7⟩
    | ret v => obtain ⟨x7, σ7, H7, I7, r7, q7⟩ := q7; exact ⟨x7, σ7, H7, I7.unpinned, r7, q7⟩
end
theorem for_list {K : PySem.W.Frag} {a : Addr} {xs : List V} {g : TG} {tb : TS} {D : Ends} {σ : St} {H : Hp} (Pv : Nat → St → Hp → Prop) (h0 : Pv 0 σ H) (hl : ∀ i σ H, i ≤ xs.length → Pv i σ H → SqL K H a xs)
    (hs : ∀ i x σ H, xs[i]? = some x → Pv i σ H → g x σ H fun σ2 H2 => tb { D with nx := Pv (i + 1), ct := Pv (i + 1), bk := D.nx } σ2 H2) (hd : ∀ σ H, Pv xs.length σ H → D.nx σ H) :
    ∃ W : Nat → Nat → St → Hp → Prop, (∃ m, W 0 m σ H) ∧ ∀ i m σ H, W i m σ H →
      ((Itl K a).stop i H ∧ D.nx σ H) ∨ ((Itl K a).go i H ∧ ∃ N : St → Hp → Prop, (∀ σ' H', N σ' H' → ∃ m', m' < m ∧ W (i + 1) m' σ' H') ∧ ∀ x H', (Itl K a).yld i H x H' → g x σ H' fun σ2 H2 => tb { D with nx := N, ct := N, bk := D.nx } σ2 H2) := by
  refine ⟨fun i m σ H => m = xs.length - i ∧ i ≤ xs.length ∧ Pv i σ H, ⟨xs.length, by simp, Nat.zero_le _, h0⟩, ?_⟩
  rintro i m σ H ⟨rfl, hi, p⟩
  have q := hl i σ H hi p
  by_cases hlt : i < xs.length
  · refine .inr ⟨⟨xs, xs[i], q, by simp [hlt]⟩, Pv (i + 1), fun σ' H' p' => ⟨xs.length - (i + 1), by omega, rfl, hlt, p'⟩, fun x H' y => ?_⟩
    obtain ⟨e, y⟩ := y
    subst e
    exact hs i x σ _ (y xs q) p
  · have e : i = xs.length := by omega
    subst e
    exact .inl ⟨⟨xs, q, Nat.le_refl _⟩, hd σ H p⟩
theorem for_range {lo : Int} {n : Nat} {g : TG} {tb : TS} {D : Ends} {σ : St} {H : Hp} (Pv : Nat → St → Hp → Prop) (h0 : Pv 0 σ H)
    (hs : ∀ i σ H, i < n → Pv i σ H → g (.int (lo + i)) σ H fun σ2 H2 => tb { D with nx := Pv (i + 1), ct := Pv (i + 1), bk := D.nx } σ2 H2) (hd : ∀ σ H, Pv n σ H → D.nx σ H) :
    ∃ W : Nat → Nat → St → Hp → Prop, (∃ m, W 0 m σ H) ∧ ∀ i m σ H, W i m σ H →
      ((Itr lo n).stop i H ∧ D.nx σ H) ∨ ((Itr lo n).go i H ∧ ∃ N : St → Hp → Prop, (∀ σ' H', N σ' H' → ∃ m', m' < m ∧ W (i + 1) m' σ' H') ∧ ∀ x H', (Itr lo n).yld i H x H' → g x σ H' fun σ2 H2 => tb { D with nx := N, ct := N, bk := D.nx } σ2 H2) := by
  refine ⟨fun i m σ H => m = n - i ∧ i ≤ n ∧ Pv i σ H, ⟨n, by simp, Nat.zero_le _, h0⟩, ?_⟩
  rintro i m σ H ⟨rfl, hi, p⟩
  by_cases hlt : i < n
  · refine .inr ⟨hlt, Pv (i + 1), fun σ' H' p' => ⟨n - (i + 1), by omega, rfl, hlt, p'⟩, fun x H' y => ?_⟩
    obtain ⟨e, y⟩ := y
    subst e y
    exact hs i σ _ hlt p
  · have e : i = n := by omega
    subst e
    exact .inl ⟨Nat.le_refl _, hd σ H p⟩
end L2
namespace L2
open PySem PySem.Spec PyProof.Rows
abbrev R2 := V → V → Hp → VK → Prop
def OpR (X : Cx) (f : Value → Value → Sem Value) (r : R2) : Prop :=
  ∀ (pins : List (Addr × Obj)) (s : Shared) (σ : St) (H : Hp) (x y : V) (v u : Value) (Q : VK), Inv X pins σ H s → RelV x v → RelV y u → r x y H Q →
    wpAny (model X.prog X.w) X.A (f v u) (EP X pins σ Q) X.xe s
def UnR (X : Cx) (f : Value → Sem Value) (r : V → Hp → VK → Prop) : Prop :=
  ∀ (pins : List (Addr × Obj)) (s : Shared) (σ : St) (H : Hp) (x : V) (v : Value) (Q : VK), Inv X pins σ H s → RelV x v → r x H Q →
    wpAny (model X.prog X.w) X.A (f v) (EP X pins σ Q) X.xe s
def CallR (X : Cx) (f : Value) (r : List V → Hp → VK → Prop) : Prop :=
  ∀ (pins : List (Addr × Obj)) (s : Shared) (σ : St) (H : Hp) (xs : List V) (us : List Value) (Q : VK), Inv X pins σ H s → Vals xs us → r xs H Q →
    wpAny (model X.prog X.w) X.A (call f us) (EP X pins σ Q) X.xe s
def tOp (r : R2) (ta tb : TE) : TE := fun σ H Q => ta σ H fun x H1 => tb σ H1 fun y H2 => r x y H2 Q
def tUn (r : V → Hp → VK → Prop) (ta : TE) : TE := fun σ H Q => ta σ H fun x H1 => r x H1 Q
def rI (C : Int → Int → Prop) (g : Int → Int → V) : R2 := fun x y H Q => ∃ i j, x = .int i ∧ y = .int j ∧ C i j ∧ Q (g i j) H
def rI0 (g : Int → Int → V) : R2 := fun x y H Q => ∃ i j, x = .int i ∧ y = .int j ∧ Q (g i j) H
def rU (g : Int → V) : V → Hp → VK → Prop := fun x H Q => ∃ i, x = .int i ∧ Q (g i) H
section
variable {X : Cx} {a b c : Expr} {ta tb tc : TE} {pos : Pos}
theorem binT (ha : PE X a ta) (hb : PE X b tb) {pins : List (Addr × Obj)} {s : Shared} {σ : St} {H : Hp} {R : V → V → Hp → Prop} (I : Inv X pins σ H s)
    (h : ta σ H fun x H1 => tb σ H1 fun y H2 => R x y H2) {Q : Value → Shared → Prop} {f : Value → Value → Sem Value}
    (hf : ∀ v u s2 x y H2, Inv X pins σ H2 s2 → RelV x v → RelV y u → R x y H2 → wpAny (model X.prog X.w) X.A (f v u) Q X.xe s2) :
    wpAny (model X.prog X.w) X.A (eval a X.env) (fun v s₁ => wpAny (model X.prog X.w) X.A (eval b X.env) (fun u s₂ => wpAny (model X.prog X.w) X.A (f v u) Q X.xe s₂) X.xe s₁) X.xe s := by
  refine thn (ha pins s σ H _ I h) fun v s1 ⟨x, H1, I1, r1, q1⟩ => ?_
  refine thn (hb pins s1 σ H1 _ I1 q1) fun u s2 ⟨y, H2, I2, r2, q2⟩ => ?_
  exact hf v u s2 x y H2 I2 r1 r2 q2
theorem pe_op {op : Operator} {r : R2} (ho : OpR X (binaryOp op) r) (ha : PE X a ta) (hb : PE X b tb) : PE X (.BinOp a op b pos) (tOp r ta tb) := by
  intro pins s σ H Q I h
  exact wpAny_BinOp (binT ha hb I h fun v u s2 x y H2 I2 rx ry q => ho pins s2 σ H2 x y v u Q I2 rx ry q)
theorem pe_un {op : UnaryOp} {r : V → Hp → VK → Prop} (ho : UnR X (unaryOp op) r) (ha : PE X a ta) : PE X (.UnaryOp op a pos) (tUn r ta) := by
  intro pins s σ H Q I h
  exact UnaryOp_ (thn (ha pins s σ H _ I h) fun v s1 ⟨x, H1, I1, r1, q1⟩ => ho pins s1 σ H1 x v Q I1 r1 q1)
theorem opI {f : Value → Value → Sem Value} {C : Int → Int → Prop} {g : Int → Int → Int}
    (rule : ∀ (i j : Int) (t u : Tok) (s : Shared) (Q : Value → Shared → Prop) (E : Value → Shared → Prop), C i j → Q (.int (g i j) s.toks) { s with toks := s.toks + 1 } → wpAny (model X.prog X.w) X.A (f (.int i t) (.int j u)) Q E s) :
    OpR X f (rI C fun i j => .int (g i j)) := by
  intro pins s σ H x y v u Q I rx ry h
  obtain ⟨i, j, rfl, rfl, hc, q⟩ := h
  obtain ⟨t, rfl⟩ := rx
  obtain ⟨t', rfl⟩ := ry
  exact rule i j t t' s _ _ hc ⟨.int (g i j), H, I.tok _, ⟨_, rfl⟩, q⟩
theorem opI0 {f : Value → Value → Sem Value} {g : Int → Int → Int}
    (rule : ∀ (i j : Int) (t u : Tok) (s : Shared) (Q : Value → Shared → Prop) (E : Value → Shared → Prop), Q (.int (g i j) s.toks) { s with toks := s.toks + 1 } → wpAny (model X.prog X.w) X.A (f (.int i t) (.int j u)) Q E s) :
    OpR X f (rI0 fun i j => .int (g i j)) := by
  intro pins s σ H x y v u Q I rx ry h
  obtain ⟨i, j, rfl, rfl, q⟩ := h
  obtain ⟨t, rfl⟩ := rx
  obtain ⟨t', rfl⟩ := ry
  exact rule i j t t' s _ _ ⟨.int (g i j), H, I.tok _, ⟨_, rfl⟩, q⟩
theorem opB0 {f : Value → Value → Sem Value} {g : Int → Int → Bool}
    (rule : ∀ (i j : Int) (t u : Tok) (s : Shared) (Q : Value → Shared → Prop) (E : Value → Shared → Prop), Q (.bool (g i j)) s → wpAny (model X.prog X.w) X.A (f (.int i t) (.int j u)) Q E s) :
    OpR X f (rI0 fun i j => .bl (g i j)) := by
  intro pins s σ H x y v u Q I rx ry h
  obtain ⟨i, j, rfl, rfl, q⟩ := h
  obtain ⟨t, rfl⟩ := rx
  obtain ⟨t', rfl⟩ := ry
  exact rule i j t t' s _ _ ⟨.bl (g i j), H, I, rfl, q⟩
def CDiv (i j : Int) : Prop := 0 < j ∧ j < 1073741824
def CPow (i j : Int) : Prop := 0 ≤ j ∧ j ≤ 1000000 ∧ i.natAbs < 2 ^ 64
def CMul (i j : Int) : Prop := (-(2 ^ 64) < i ∧ i < 2 ^ 64) ∨ (-(2 ^ 64) < j ∧ j < 2 ^ 64)
theorem CMul.ok {i j : Int} (h : CMul i j) : IntMulOk i j := by
  rcases h with ⟨h1, h2⟩ | ⟨h1, h2⟩
  · exact .of_left (intBits_le_64 h1 h2)
  · exact .of_right (intBits_le_64 h1 h2)
theorem op_add : OpR X (binaryOp .Add) (rI0 fun i j => .int (i + j)) := opI0 fun _ _ _ _ _ _ _ q => add_int q
theorem op_sub : OpR X (binaryOp .Sub) (rI0 fun i j => .int (i - j)) := opI0 fun _ _ _ _ _ _ _ q => sub_int q
theorem op_mul : OpR X (binaryOp .Mult) (rI CMul fun i j => .int (i * j)) := opI fun _ _ _ _ _ _ _ hc q => mul_int q hc.ok
theorem op_fdiv : OpR X (binaryOp .FloorDiv) (rI CDiv fun i j => .int (i / j)) := opI fun i j _ _ _ _ _ hc q => by
  have h1 : (0 : Int) < j := hc.1
  have h2 : j < 1073741824 := hc.2
  exact floordiv_int (by omega) (by rw [Int.fdiv_eq_ediv_of_nonneg i (by omega)]; exact q) (.inl (PyProof.noPylong_small (by omega)))
theorem op_mod : OpR X (binaryOp .Mod) (rI (fun _ j => 0 < j) fun i j => .int (i % j)) := opI fun i j _ _ _ _ _ hc q => by
  have h1 : (0 : Int) < j := hc
  exact mod_int' (by omega) (by rw [Int.fmod_eq_emod_of_nonneg i (by omega)]; exact q)
theorem op_pow : OpR X (binaryOp .Pow) (rI CPow fun i j => .int (i ^ j.toNat)) := opI fun _ _ _ _ _ _ _ hc q => pow_int_small hc.1 hc.2.1 hc.2.2 q
theorem unI {f : Value → Sem Value} {g : Int → Int}
    (rule : ∀ (i : Int) (t : Tok) (s : Shared) (Q : Value → Shared → Prop) (E : Value → Shared → Prop), Q (.int (g i) s.toks) { s with toks := s.toks + 1 } → wpAny (model X.prog X.w) X.A (f (.int i t)) Q E s) :
    UnR X f (rU fun i => .int (g i)) := by
  intro pins s σ H x v Q I rx h
  obtain ⟨i, rfl, q⟩ := h
  obtain ⟨t, rfl⟩ := rx
  exact rule i t s _ _ ⟨.int (g i), H, I.tok _, ⟨_, rfl⟩, q⟩
theorem un_neg : UnR X (unaryOp .USub) (rU fun i => .int (-i)) := unI fun _ _ _ _ _ q => neg_int q
end
def scal : V → V → Bool
  | .non, .non => true | .non, .int _ => true | .int _, .non => true | .non, .bl _ => true | .bl _, .non => true | .non, .str _ => true | .str _, .non => true
  | .int _, .int _ => true | .bl _, .bl _ => true | .str _, .str _ => true | .byt _, .byt _ => true
  | .int _, .str _ => true | .str _, .int _ => true | .bl _, .str _ => true | .str _, .bl _ => true
  | _, _ => false
def rEq : R2 := fun x y H Q => scal x y = true ∧ Q (.bl (decide (x = y))) H
def rNe : R2 := fun x y H Q => scal x y = true ∧ Q (.bl (!decide (x = y))) H
theorem dec_int {i j : Int} : decide (V.int i = V.int j) = (i == j) := by
  rw [Bool.eq_iff_iff]
  simp
theorem dec_bl {i j : Bool} : decide (V.bl i = V.bl j) = (i == j) := by
  rw [Bool.eq_iff_iff]
  simp
theorem dec_str {i j : Str} : decide (V.str i = V.str j) = (i == j) := by
  rw [Bool.eq_iff_iff]
  simp
theorem dec_byt {i j : Array UInt8} : decide (V.byt i = V.byt j) = (i.toList == j.toList) := by
  rw [Bool.eq_iff_iff]
  cases i
  cases j
  simp
section
variable {X : Cx} {a b c : Expr} {ta tb tc : TE} {pos : Pos}
theorem fin_bl {pins : List (Addr × Obj)} {σ : St} {H : Hp} {s : Shared} {Q : VK} {k k' : Bool} (I : Inv X pins σ H s) (q : Q (.bl k) H) (e : k = k') : EP X pins σ Q (.bool k') s := by
  subst e
  exact ⟨.bl k, H, I, rfl, q⟩
theorem op_eq : OpR X (compareOp .Eq) rEq := by
  intro pins s σ H x y v u Q I rx ry h
  obtain ⟨hs, q⟩ := h
  cases x with
  | non =>
    cases rx
    cases y with
    | non => cases ry; exact PySem.EqNone.eq_none_none (fin_bl I q (by simp))
    | bl j => cases ry; exact PySem.EqNone.eq_none_bool (fin_bl I q (by simp))
    | int j => obtain ⟨t', rfl⟩ := ry; exact PySem.EqNone.eq_none_int (fin_bl I q (by simp))
    | str j => obtain ⟨t', rfl⟩ := ry; exact PySem.EqNone.eq_none_str (fin_bl I q (by simp))
    | _ => exact absurd (show false = true from hs) Bool.false_ne_true
  | bl i =>
    cases rx
    cases y with
    | non => cases ry; exact PySem.EqNone.eq_bool_none (fin_bl I q (by simp))
    | bl j => cases ry; exact eq_bool (fin_bl I q dec_bl)
    | str j => obtain ⟨t', rfl⟩ := ry; exact PySem.EqMixed.eq_bool_str (fin_bl I q (by simp))
    | _ => exact absurd (show false = true from hs) Bool.false_ne_true
  | int i =>
    obtain ⟨t, rfl⟩ := rx
    cases y with
    | non => cases ry; exact PySem.EqNone.eq_int_none (fin_bl I q (by simp))
    | int j => obtain ⟨t', rfl⟩ := ry; exact eq_int (fin_bl I q dec_int)
    | str j => obtain ⟨t', rfl⟩ := ry; exact PySem.EqMixed.eq_int_str (fin_bl I q (by simp))
    | _ => exact absurd (show false = true from hs) Bool.false_ne_true
  | str i =>
    obtain ⟨t, rfl⟩ := rx
    cases y with
    | non => cases ry; exact PySem.EqNone.eq_str_none (fin_bl I q (by simp))
    | bl j => cases ry; exact PySem.EqMixed.eq_str_bool (fin_bl I q (by simp))
    | int j => obtain ⟨t', rfl⟩ := ry; exact PySem.EqMixed.eq_str_int (fin_bl I q (by simp))
    | str j => obtain ⟨t', rfl⟩ := ry; exact eq_str (fin_bl I q dec_str)
    | _ => exact absurd (show false = true from hs) Bool.false_ne_true
  | byt i =>
    obtain ⟨t, rfl⟩ := rx
    cases y with
    | byt j => obtain ⟨t', rfl⟩ := ry; exact PySem.W.eq_bytes (fin_bl I q dec_byt)
    | _ => exact absurd (show false = true from hs) Bool.false_ne_true
  | _ => cases y <;> exact absurd (show false = true from hs) Bool.false_ne_true
theorem op_ne : OpR X (compareOp .NotEq) rNe := by
  intro pins s σ H x y v u Q I rx ry h
  obtain ⟨hs, q⟩ := h
  cases x with
  | non =>
    cases rx
    cases y with
    | non => cases ry; exact PySem.EqNone.ne_none_none (fin_bl I q (by simp))
    | bl j => cases ry; exact PySem.EqNone.ne_none_bool (fin_bl I q (by simp))
    | int j => obtain ⟨t', rfl⟩ := ry; exact PySem.EqNone.ne_none_int (fin_bl I q (by simp))
    | str j => obtain ⟨t', rfl⟩ := ry; exact PySem.EqNone.ne_none_str (fin_bl I q (by simp))
    | _ => exact absurd (show false = true from hs) Bool.false_ne_true
  | bl i =>
    cases rx
    cases y with
    | non => cases ry; exact PySem.EqNone.ne_bool_none (fin_bl I q (by simp))
    | bl j => cases ry; exact ne_bool (fin_bl I q (congrArg not dec_bl))
    | str j => obtain ⟨t', rfl⟩ := ry; exact PySem.EqMixed.ne_bool_str (fin_bl I q (by simp))
    | _ => exact absurd (show false = true from hs) Bool.false_ne_true
  | int i =>
    obtain ⟨t, rfl⟩ := rx
    cases y with
    | non => cases ry; exact PySem.EqNone.ne_int_none (fin_bl I q (by simp))
    | int j => obtain ⟨t', rfl⟩ := ry; exact ne_int (fin_bl I q (congrArg not dec_int))
    | str j => obtain ⟨t', rfl⟩ := ry; exact PySem.EqMixed.ne_int_str (fin_bl I q (by simp))
    | _ => exact absurd (show false = true from hs) Bool.false_ne_true
  | str i =>
    obtain ⟨t, rfl⟩ := rx
    cases y with
    | non => cases ry; exact PySem.EqNone.ne_str_none (fin_bl I q (by simp))
    | bl j => cases ry; exact PySem.EqMixed.ne_str_bool (fin_bl I q (by simp))
    | int j => obtain ⟨t', rfl⟩ := ry; exact PySem.EqMixed.ne_str_int (fin_bl I q (by simp))
    | str j => obtain ⟨t', rfl⟩ := ry; exact ne_str (fin_bl I q (congrArg not dec_str))
    | _ => exact absurd (show false = true from hs) Bool.false_ne_true
  | byt i =>
    obtain ⟨t, rfl⟩ := rx
    cases y with
    | byt j => obtain ⟨t', rfl⟩ := ry; exact PySem.W.ne_bytes (fin_bl I q (congrArg not dec_byt))
    | _ => exact absurd (show false = true from hs) Bool.false_ne_true
  | _ => cases y <;> exact absurd (show false = true from hs) Bool.false_ne_true
theorem op_lt : OpR X (compareOp .Lt) (rI0 fun i j => .bl (decide (i < j))) := opB0 fun _ _ _ _ _ _ _ q => lt_int q
theorem op_gt : OpR X (compareOp .Gt) (rI0 fun i j => .bl (decide (j < i))) := opB0 fun _ _ _ _ _ _ _ q => gt_int q
theorem op_in_str : OpR X (compareOp .In) (fun x y H Q => ∃ i j, x = .str i ∧ y = .str j ∧ Q (.bl (!(Builtin.Str.occurrences j i 0 j.length 1).isEmpty)) H) := by
  intro pins s σ H x y v u Q I rx ry h
  obtain ⟨i, j, rfl, rfl, q⟩ := h
  obtain ⟨t, rfl⟩ := rx
  obtain ⟨t', rfl⟩ := ry
  exact in_str (fin_bl I q rfl)
theorem op_isN : OpR X (compareOp .Is) (fun x y H Q => y = .non ∧ Q (.bl (decide (x = .non))) H) := by
  intro pins s σ H x y v u Q I rx ry h
  obtain ⟨rfl, q⟩ := h
  cases ry
  refine is_none_gen (fin_bl I q ?_)
  cases x <;> first
    | (cases rx; rfl)
    | (obtain ⟨t, rfl⟩ := rx; rfl)
theorem nomark (b : Expr) {op : CmpOp} (h : op ≠ .In := by decide) (h2 : op ≠ .NotIn := by decide) : behindInMarks op b = false := by
  have e1 : (op == CmpOp.In) = false := by cases op <;> first | rfl | exact absurd rfl h
  have e2 : (op == CmpOp.NotIn) = false := by cases op <;> first | rfl | exact absurd rfl h2
  cases b <;> simp [behindInMarks, e1, e2]
theorem pe_cmpR {op : CmpOp} {r : R2} (ho : OpR X (compareOp op) r) (ha : PE X a ta) (hb : PE X b tb) (hm : behindInMarks op b = false) : PE X (.Compare a [op] [b] pos) (tOp r ta tb) := by
  intro pins s σ H Q I h
  exact wpAny_Compare1 (binT ha hb I h fun v u s2 x y H2 I2 rx ry q => ho pins s2 σ H2 x y v u Q I2 rx ry q) hm
def tTest (t : TE) : TT := fun σ H Q => t σ H fun x H' => ∃ k, x = .bl k ∧ Q k H'
theorem pt_cmpR {op : CmpOp} {r : R2} (ho : OpR X (compareOp op) r) (ha : PE X a ta) (hb : PE X b tb) (hm : behindInMarks op b = false) : PT X (.Compare a [op] [b] pos) (tTest (tOp r ta tb)) := by
  intro pins s σ H Q I h
  refine wpAny_isTrue_Compare1 (thn (ha pins s σ H _ I h) fun v s1 ⟨x, H1, I1, r1, q1⟩ => thn (hb pins s1 σ H1 _ I1 q1) fun u s2 ⟨y, H2, I2, r2, q2⟩ =>
    thn (ho pins s2 σ H2 x y v u _ I2 r1 r2 q2) fun c s3 ⟨z, H3, I3, r3, k, e, q3⟩ => ?_) hm
  subst e
  cases r3
  exact wpAny_truthy_bool ⟨H3, I3, q3⟩
theorem line63 : (sizeLine : Nat) < 2 ^ 63 := by rw [sizeLine_eq]; decide
theorem op_add_str : OpR X (binaryOp .Add) (fun x y H Q => ∃ i j, x = .str i ∧ y = .str j ∧ i.length + j.length ≤ sizeLine ∧ Q (.str (i ++ j)) H) := by
  intro pins s σ H x y v u Q I rx ry h
  obtain ⟨i, j, rfl, rfl, hz, q⟩ := h
  obtain ⟨t, rfl⟩ := rx
  obtain ⟨t', rfl⟩ := ry
  exact add_str (fun t' tk => ⟨.str (i ++ j), H, I.tok _, ⟨_, rfl⟩, q⟩) hz
theorem vals1 {x : V} {us : List Value} (r : Vals [x] us) : ∃ u, us = [u] ∧ RelV x u := by
  cases r with
  | cons r1 r2 => cases r2; exact ⟨_, rfl, r1⟩
theorem vals2 {x y : V} {us : List Value} (r : Vals [x, y] us) : ∃ u w', us = [u, w'] ∧ RelV x u ∧ RelV y w' := by
  cases r with
  | cons r1 r2 =>
    cases r2 with
    | cons r3 r4 => cases r4; exact ⟨_, _, rfl, r1, r3⟩
theorem call_max2 (hc : X.calm = true) : CallR X (.builtin "max") (fun xs H Q => ∃ i j, xs = [.int i, .int j] ∧ Q (.int (if j > i then j else i)) H) := by
  intro pins s σ H xs us Q I r h
  obtain ⟨i, j, rfl, q⟩ := h
  obtain ⟨u, w', rfl, ⟨t, rfl⟩, ⟨t', rfl⟩⟩ := vals2 r
  refine max_two_ints (I.ok.hd hc) fun h' tk k => ⟨_, H, I.kept k, ?_, q⟩
  by_cases hj : j > i
  · rw [if_pos hj, if_pos hj]; exact ⟨_, rfl⟩
  · rw [if_neg hj, if_neg hj]; exact ⟨_, rfl⟩
theorem call_int1 : CallR X (.type "int") (fun xs H Q => (∃ i, xs = [.int i] ∧ Q (.int i) H) ∨ ∃ k, xs = [.bl k] ∧ Q (.int (if k then 1 else 0)) H) := by
  intro pins s σ H xs us Q I r h
  rcases h with ⟨i, rfl, q⟩ | ⟨k, rfl, q⟩
  · obtain ⟨u, rfl, t, rfl⟩ := vals1 r
    exact call_int_int ⟨.int i, H, I, ⟨_, rfl⟩, q⟩
  · obtain ⟨u, rfl, r1⟩ := vals1 r
    cases r1
    exact call_int_bool ⟨.int (if k then 1 else 0), H, I.tok _, ⟨_, rfl⟩, q⟩
theorem call_str_int : CallR X (.type "str") (fun xs H Q => ∃ i, xs = [.int i] ∧ i.natAbs.log2 < 1920 ∧ Q (.str (toString i)) H) := by
  intro pins s σ H xs us Q I r h
  obtain ⟨i, rfl, hz, q⟩ := h
  obtain ⟨u, rfl, t, rfl⟩ := vals1 r
  exact PySem.P.str_of_int hz ⟨.str _, H, I.tok _, ⟨_, rfl⟩, q⟩
end
end L2
namespace L2
open PySem PySem.Spec PyProof.Rows
structure ObjM (h : Heap) (x dx C : Addr) (mA : Str → Option Value) : Prop where
  obj : h.get? x = some (PySem.W.instObj C dx)
  ns : h.Ns1 dx mA
  ne : dx ≠ x
theorem lookIn_ns {h : Heap} {dx : Addr} {mA : Str → Option Value} (n : h.Ns1 dx mA) : ∃ od, h.get? dx = some od ∧ ∀ name, PySem.W.lookIn name od = some (mA name) := by
  obtain ⟨o, es, ep, ho, hd, hk, _, hm⟩ := n
  refine ⟨o, ho, fun name => ?_⟩
  have e := hm name
  unfold nsFind findBy at e
  rw [← Array.find?_toList] at e
  unfold PySem.W.lookIn
  rw [hd]
  dsimp only
  split
  · rename_i y q
    rw [q] at e
    exact congrArg some e
  · rename_i q
    rw [q] at e
    have a : es.toList.any (·.refKey) = false := by
      rw [List.any_eq_false]
      intro y hy
      obtain ⟨z, t, hkey⟩ := hk y (Array.mem_toList_iff.mp hy)
      simp [DictEntry.refKey, hkey]
    have a' : ¬ es.toList.any (·.refKey) = true := by rw [a]; exact Bool.false_ne_true
    rw [if_neg a']
    exact congrArg some e
theorem ObjM.look {h : Heap} {x dx C : Addr} {mA : Str → Option Value} (I : ObjM h x dx C mA) : ∃ od, PySem.W.InstAt h x (PySem.W.instObj C dx) C (some od) ∧ ∀ name, PySem.W.lookIn name od = some (mA name) :=
  let ⟨od, ho, hl⟩ := lookIn_ns I.ns
  ⟨od, ⟨I.obj, rfl, rfl, ho⟩, hl⟩
section
variable {prog : Program} {w : World} {A : Around} {E : Value → Shared → Prop} {s : Shared} {K : PySem.W.Frag} {x dx C f : Addr} {mA : Str → Option Value} {name : Str} {v : Value}
theorem get_map {expr : Bool} {Q : Value → Shared → Prop} (X : K.In s.heap) (I : ObjM s.heap x dx C mA) (hg : PySem.W.plainGet K C name = true) (hh : PySem.W.hasDictIn K C = true)
    (ha : PySem.W.findIn K (.ref C) name = some none) (hv : mA name = some v) (hv' : PySem.W.handedIn v = true) (h : Q v { s with toks := s.toks + 1 }) :
    wpAny (model prog w) A (getAttr (.ref x) name expr) Q E s := by
  obtain ⟨od, J, hl⟩ := I.look
  exact PySem.W.get_value X J (PySem.W.plainGet_of hg).1 (PySem.W.findObj_own hh ha rfl (by rw [hl, hv])) hv' h
theorem get_meth {pl : Sem Bool} {Q : Value × List Value → Shared → Prop} (X : K.In s.heap) (I : ObjM s.heap x dx C mA) (hg : PySem.W.plainGet K C name = true)
    (hf : PySem.W.findIn K (.ref C) name = some (some (.ref f))) (ht : PySem.W.isFn K (.ref f) = true) (hv : mA name = none) (h : Q (.ref f, [.ref x]) s) :
    wpAny (model prog w) A (getMethod (.ref x) name pl) Q E s := by
  obtain ⟨od, J, hl⟩ := I.look
  exact PySem.W.method_fn X J (PySem.W.plainGet_of hg).1 (PySem.W.plainGet_of hg).2 hf (beq_iff_eq.mp ht) (by show (PySem.W.lookIn name od).map (·.isSome) = some false; rw [hl, hv]; rfl) h
theorem set_map {ns : List Str} {Q : Unit → Shared → Prop} (X : K.In s.heap) (I : ObjM s.heap x dx C mA)
    (hs : PySem.W.findIn K (.ref C) "__setattr__" = some (some (.builtin "object.__setattr__"))) (hp : PySem.W.plainOver K C = true) (ht : PySem.W.takerIn K C name = some none) (hh : PySem.W.hasDictIn K C = true)
    (hw : PySem.Within mA ns) (hsz : ns.length ≤ sizeLine)
    (h : ∀ h', ObjM h' x dx C (fun y => if y = name then some v else mA y) → Heap.SameBut dx s.heap h' → Q () { s with heap := h', toks := s.toks + 2 }) :
    wpAny (model prog w) A (setAttr (.ref x) name v) Q E s := by
  obtain ⟨od, J, hl⟩ := I.look
  refine PySem.W.set_plain X J hs (PySem.W.osa_open (s := { s with toks := s.toks + 1 }) (r := none) X J hp ht fun b => ?_)
  obtain ⟨cd, hc, hd'⟩ := PySem.W.any_some hh
  have hx : s.heap.get? x = some ⟨.ref C, some dx, .plain, #[]⟩ := I.obj
  refine wpAny_bind (wpAny_pure (wpAny_bind (wpAny_bind (wpAny_loadPart hx (wpAny_bind (PySem.W.Looks.here (s := { s with toks := s.toks + 1 }) (PySem.W.looks_clsIn X hc) ?_))))))
  rw [hd']
  refine wpAny_pure (a := some dx) (wpAny_bind (wpAny_pure (wpAny_bind ?_)))
  refine wpAny_nsSet1 (s := { s with toks := s.toks + 1 }) I.ns fun h' hn2 hs2 => ?_
  obtain ⟨oD, esD, epD, hoD, hdD, hcD⟩ := hn2.count (PySem.Within.cons name v hw)
  refine wpAny_bind (wpAny_lookBehind hoD (by rw [hdD]; exact pastItsLine_dict (Nat.le_trans hcD (by rw [List.length_cons]; omega))) ?_)
  exact wpAny_pure (h _ ⟨(hs2.2 _ (Ne.symm I.ne)).trans I.obj, hn2, I.ne⟩ hs2)
theorem make_map {R : Result → Shared → Prop} {vs : List Value} {kw : List (Str × Value)} (X : K.In s.heap) (hm : PySem.W.makesIn K C = true)
    (hi : PySem.W.findIn K (.ref C) "__init__" = some (some (.ref f))) (hf : PySem.W.typeIn K (.ref f) = some (.type "function"))
    (h : codeAny (model prog w) (A.under (.builtin "type.__call__" ⟨.ref C :: vs, kw⟩)) (.call (.ref f) ⟨.ref (s.heap.objs.size + 1) :: vs, kw⟩) (PySem.W.InitBack (s.heap.objs.size + 1) R)
      { s with heap := (s.heap.push PySem.W.emptyDict).push (PySem.W.instObj C s.heap.objs.size) }) :
    codeAny (model prog w) A (.call (.ref C) ⟨vs, kw⟩) R s := by
  obtain ⟨hh, g, d, t, os⟩ := s
  exact PySem.W.make_core (PySem.W.makes_of X hm) (PySem.W.looks_findIn X hi) (fun self => PySem.W.bind_fn X self hf) (.inl rfl) h
end
def putF (f : Str) (v : V) : List (Str × V) → List (Str × V)
  | [] => [(f, v)]
  | (g, x) :: r => if g = f then (g, v) :: r else (g, x) :: putF f v r
theorem lookup_putF (f g : Str) (v : V) : ∀ fs : List (Str × V), (putF f v fs).lookup g = if g = f then some v else fs.lookup g
  | [] => by
    show List.lookup g [(f, v)] = _
    by_cases h : g = f
    · have hb : (g == f) = true := beq_iff_eq.mpr h
      simp only [List.lookup, hb, if_pos h]
    · have hb : (g == f) = false := beq_eq_false_iff_ne.mpr h
      simp only [List.lookup, hb, if_neg h]
  | (k, x) :: r => by
    have ih := lookup_putF f g v r
    rw [show putF f v ((k, x) :: r) = (if k = f then (k, v) :: r else (k, x) :: putF f v r) from rfl]
    by_cases hk : k = f
    · rw [if_pos hk]
      by_cases h : g = k
      · have hb : (g == k) = true := beq_iff_eq.mpr h
        simp only [List.lookup, hb, if_pos (h.trans hk)]
      · have hb : (g == k) = false := beq_eq_false_iff_ne.mpr h
        simp only [List.lookup, hb, if_neg (fun e : g = f => h (e.trans hk.symm))]
    · rw [if_neg hk]
      by_cases h : g = k
      · have hb : (g == k) = true := beq_iff_eq.mpr h
        simp only [List.lookup, hb, if_neg (fun e : g = f => hk (h.symm.trans e))]
      · have hb : (g == k) = false := beq_eq_false_iff_ne.mpr h
        simp only [List.lookup, hb]
        exact ih
theorem keys_putF (f : Str) (v : V) : ∀ fs : List (Str × V), f ∈ (putF f v fs).map (·.1) ∧ ∀ g, g ∈ fs.map (·.1) → g ∈ (putF f v fs).map (·.1)
  | [] => ⟨by simp [putF], fun g h => by simp at h⟩
  | (k, x) :: r => by
    obtain ⟨i1, i2⟩ := keys_putF f v r
    rw [show putF f v ((k, x) :: r) = (if k = f then (k, v) :: r else (k, x) :: putF f v r) from rfl]
    by_cases hk : k = f
    · rw [if_pos hk]
      subst hk
      exact ⟨by simp, fun g h => by simpa using h⟩
    · rw [if_neg hk]
      refine ⟨?_, fun g h => ?_⟩
      · rw [List.map_cons]
        exact List.mem_cons_of_mem _ i1
      · rw [List.map_cons] at h ⊢
        rcases List.mem_cons.mp h with e | e
        · exact List.mem_cons.mpr (.inl e)
        · exact List.mem_cons_of_mem _ (i2 g e)
theorem length_putF (f : Str) (v : V) : ∀ fs : List (Str × V), (putF f v fs).length ≤ fs.length + 1
  | [] => by simp [putF]
  | (k, x) :: r => by
    have ih := length_putF f v r
    rw [show putF f v ((k, x) :: r) = (if k = f then (k, v) :: r else (k, x) :: putF f v r) from rfl]
    by_cases hk : k = f
    · rw [if_pos hk, List.length_cons, List.length_cons]; omega
    · rw [if_neg hk, List.length_cons, List.length_cons]; omega
theorem RelO.some_of {v : V} {o : Option Value} (r : RelO (some v) o) : ∃ u, o = some u ∧ RelV v u := by
  cases o with
  | none => exact (show False from r).elim
  | some u => exact ⟨u, rfl, r⟩
theorem RelO.none_of {o : Option Value} (r : RelO none o) : o = none := by
  cases o with
  | none => rfl
  | some u => exact (show False from r).elim
theorem handed_of {v : V} {u : Value} (r : RelV v u) : PySem.W.handedIn u = true := by
  cases v with
  | non => cases (show u = Value.none from r); rfl
  | bl b => cases (show u = Value.bool b from r); rfl
  | int i => obtain ⟨t, e⟩ := (show ∃ t, u = Value.int i t from r); cases e; rfl
  | str x => obtain ⟨t, e⟩ := (show ∃ t, u = Value.str x t from r); cases e; rfl
  | byt b => obtain ⟨t, e⟩ := (show ∃ t, u = Value.bytes b t from r); cases e; rfl
  | flt b => obtain ⟨t, e⟩ := (show ∃ t, u = Value.float b t from r); cases e; rfl
  | ref a => cases (show u = Value.ref a from r); rfl
  | ty n => cases (show u = Value.type n from r); rfl
section
variable {P : Program} {w : World} {H H' : Hp} {h h' : Heap} {a C dx : Addr} {fs fs' : List (Str × V)}
theorem ins_get (hok : HOk P w H h) (e : H a = some (.ins C dx fs)) : ∃ mA, ObjM h a dx C mA ∧ (∀ f, RelO (fs.lookup f) (mA f)) ∧ PySem.Within mA (fs.map (·.1)) ∧ fs.length ≤ 1000 ∧ H dx = some (.own a) := by
  obtain ⟨d, z, ne, ob, mA, n, r, q⟩ := (show ObjOk P w H h a (.ins C dx fs) from hok a _ e)
  exact ⟨mA, ⟨ob, n, ne⟩, r, q, z, d⟩
end
structure Cls (K : PySem.W.Frag) (C : Addr) : Prop where
  pg : PySem.W.plainGet K C Str.empty = true
  hd : PySem.W.hasDictIn K C = true
  po : PySem.W.plainOver K C = true
  sa : PySem.W.findIn K (.ref C) "__setattr__" = some (some (.builtin "object.__setattr__"))
theorem Cls.get {K : PySem.W.Frag} {C : Addr} (c : Cls K C) (f : Str) : PySem.W.plainGet K C f = true := c.pg
def NoAttr (K : PySem.W.Frag) (C : Addr) (f : Str) : Prop := PySem.W.findIn K (.ref C) f = some none
theorem NoAttr.taker {K : PySem.W.Frag} {C : Addr} {f : Str} (n : NoAttr K C f) : PySem.W.takerIn K C f = some none := by
  unfold PySem.W.takerIn
  rw [show PySem.W.findIn K (.ref C) f = some none from n]
  rfl
structure Meth (K : PySem.W.Frag) (C : Addr) (m : Str) (f : Addr) : Prop where
  at_ : PySem.W.findIn K (.ref C) m = some (some (.ref f))
  fn : PySem.W.isFn K (.ref f) = true
  kp : PySem.W.keepIn K (.ref f) = true
section
variable {X : Cx} {pins : List (Addr × Obj)} {σ : St} {H : Hp} {s : Shared} {a C dx : Addr} {fs : List (Str × V)} {f : Str} {v : V} {A : Around} {E : Value → Shared → Prop}
theorem getattr_ok {b : Bool} {Q : Value → Shared → Prop} (I : Inv X pins σ H s) (e : H a = some (.ins C dx fs)) (c : Cls X.K C) (n : NoAttr X.K C f) (l : fs.lookup f = some v)
    (h : ∀ u s', Inv X pins σ H s' → RelV v u → Q u s') : wpAny (model X.prog X.w) A (getAttr (.ref a) f b) Q E s := by
  obtain ⟨mA, O, r, _, _, _⟩ := ins_get I.hok e
  obtain ⟨u, hu, ru⟩ := RelO.some_of (v := v) (o := mA f) (by rw [← l]; exact r f)
  exact get_map I.kIn O (c.get f) c.hd n hu (handed_of ru) (h u _ (I.tok _) ru)
theorem getmeth_ok {m : Str} {g : Addr} {pl : Sem Bool} {Q : Value × List Value → Shared → Prop} (I : Inv X pins σ H s) (e : H a = some (.ins C dx fs)) (c : Cls X.K C) (k : Meth X.K C m g) (l : fs.lookup m = none)
    (h : Q (.ref g, [.ref a]) s) : wpAny (model X.prog X.w) A (getMethod (.ref a) m pl) Q E s := by
  obtain ⟨mA, O, r, _, _, _⟩ := ins_get I.hok e
  have hn : mA m = none := RelO.none_of (by rw [← l]; exact r m)
  exact get_meth I.kIn O (c.get m) k.at_ k.fn hn h
theorem setattr_ok {y : V} {u : Value} {Q : Unit → Shared → Prop} (I : Inv X pins σ H s) (e : H a = some (.ins C dx fs)) (c : Cls X.K C) (n : NoAttr X.K C f) (hl : fs.length < 1000) (ry : RelV y u)
    (h : ∀ s', Inv X pins σ (upd H a (.ins C dx (putF f y fs))) s' → Q () s') : wpAny (model X.prog X.w) A (setAttr (.ref a) f u) Q E s := by
  obtain ⟨mA, O, r, wi, _, ho⟩ := ins_get I.hok e
  have hz : (fs.map (·.1)).length ≤ sizeLine := by rw [List.length_map, sizeLine_eq]; omega
  refine set_map I.kIn O c.sa c.po n.taker c.hd wi hz fun h' O' sb => h _ ?_
  have hd : ∃ o, h'.get? dx = some o := let ⟨o, _, _, e', _⟩ := O'.ns; ⟨o, e'⟩
  refine I.write (x := a) (e := dx) (by rw [e]; exact True.intro) (.inr ho) (fun b q hb z => (sb.2 b hb).trans z) hd ?_
  refine ⟨by rw [upd_ne O.ne]; exact ho, ?_, O.ne, O'.obj, _, O'.ns, fun g => ?_, fun g hg => ?_⟩
  · have := length_putF f y fs; omega
  · show RelO ((putF f y fs).lookup g) (if g = f then some u else mA g)
    rw [lookup_putF]
    by_cases q : g = f
    · rw [if_pos q, if_pos q]; exact ry
    · rw [if_neg q, if_neg q]; exact r g
  · by_cases q : g = f
    · rw [q]; exact (keys_putF f y fs).1
    · refine (keys_putF f y fs).2 g (wi g fun z => hg ?_)
      show (if g = f then some u else mA g) = none
      rw [if_neg q]; exact z
theorem Inv.made (I : Inv X pins σ H s) : Inv X pins σ (upd (upd H s.heap.objs.size (.own (s.heap.objs.size + 1))) (s.heap.objs.size + 1) (.ins C s.heap.objs.size []))
    { s with heap := (s.heap.push PySem.W.emptyDict).push (PySem.W.instObj C s.heap.objs.size) } := by
  have e1 : (s.heap.push PySem.W.emptyDict).get? s.heap.objs.size = some PySem.W.emptyDict := Heap.get?_push_size s.heap rfl
  have e2 : ((s.heap.push PySem.W.emptyDict).push (PySem.W.instObj C s.heap.objs.size)).get? (s.heap.objs.size + 1) = some (PySem.W.instObj C s.heap.objs.size) := by
    have := Heap.get?_push_size (s.heap.push PySem.W.emptyDict) (o := PySem.W.instObj C s.heap.objs.size) rfl
    rwa [Heap.size_push] at this
  have e3 : (s.heap.push PySem.W.emptyDict).Ns s.heap.objs.size (fun _ => none) := ⟨PySem.W.emptyDict, #[], _, e1, rfl, (fun e he => absurd he (by simp)), fun _ => rfl⟩
  have I1 := I.laid (a := s.heap.objs.size) (o := .own (s.heap.objs.size + 1)) (h' := s.heap.push PySem.W.emptyDict) (t' := s.toks) (fun b u q => Heap.get?_push_of_some _ q) (Nat.le_refl _) ⟨_, e1⟩
  refine I1.laid (a := s.heap.objs.size + 1) (o := .ins C s.heap.objs.size []) (t' := s.toks) (fun b u q => Heap.get?_push_of_some _ q) (Nat.le_of_eq (Heap.size_push _ _)) ?_
  have ne : s.heap.objs.size ≠ s.heap.objs.size + 1 := Nat.ne_of_lt (Nat.lt_succ_self _)
  refine ⟨by rw [upd_ne ne, upd_same], Nat.zero_le _, ne, e2, fun _ => none, (Heap.Ns1.of_empty e3).at fun o q => Heap.get?_push_of_some _ q, fun _ => True.intro, fun y hy => absurd rfl hy⟩
theorem attr_of {prog : Program} {w : World} {env : Env} {e : Expr} {f : Str} {pos : Pos} {s : Shared} {Q : Value → Shared → Prop} (hb : attributeBase e f env (eval e env) = eval e env)
    (h : wpAny (model prog w) A (eval e env) (fun o s₁ => wpAny (model prog w) A (getAttr o f true) Q E s₁) E s) : wpAny (model prog w) A (eval (.Attribute e f pos) env) Q E s :=
  Attribute_any_ h (by rw [arm_eval_Attribute, hb])
end
def tFld (K : PySem.W.Frag) (ta : TE) (f : Str) : TE := fun σ H Q => ta σ H fun x H1 => ∃ a C dx fs v, x = .ref a ∧ H1 a = some (.ins C dx fs) ∧ Cls K C ∧ NoAttr K C f ∧ fs.lookup f = some v ∧ Q v H1
def sFld (K : PySem.W.Frag) (ta tv : TE) (f : Str) : TS := fun D σ H => tv σ H fun y H1 => ta σ H1 fun x H2 => ∃ a C dx fs, x = .ref a ∧ H2 a = some (.ins C dx fs) ∧ Cls K C ∧ NoAttr K C f ∧ fs.length < 1000 ∧
  D.nx σ (upd H2 a (.ins C dx (putF f y fs)))
def InOp (X : Cx) (op : Operator) (rd : V → V → Hp → VK → Prop) : Prop :=
  ∀ (pins : List (Addr × Obj)) (s : Shared) (σ : St) (H : Hp) (x y : V) (u v : Value) (Q : VK), Inv X pins σ H s → RelV x u → RelV y v → rd x y H Q → wpAny (model X.prog X.w) X.A (inplaceOp op u v) (EP X pins σ Q) X.xe s
def sFldAug (K : PySem.W.Frag) (ta tv : TE) (rd : V → V → Hp → VK → Prop) (f : Str) : TS := fun D σ H => ta σ H fun x H1 => ∃ a C dx fs v, x = .ref a ∧ H1 a = some (.ins C dx fs) ∧ Cls K C ∧ NoAttr K C f ∧ fs.lookup f = some v ∧
  tv σ H1 fun y H2 => rd v y H2 fun z H3 => ∃ dx' fs', H3 a = some (.ins C dx' fs') ∧ fs'.length < 1000 ∧ D.nx σ (upd H3 a (.ins C dx' (putF f z fs')))
section
variable {X : Cx} {o e value : Expr} {f : Str} {pos pos' tpos : Pos} {ta tv : TE}
theorem pe_fld (he : PE X e ta) (hb : attributeBase e f X.env (eval e X.env) = eval e X.env) : PE X (.Attribute e f pos) (tFld X.K ta f) := by
  intro pins s σ H Q I h
  refine attr_of hb (thn (he pins s σ H _ I h) fun u s1 ⟨x, H1, I1, rx, a, C, dx, fs, v, ex, ea, c, n, l, q⟩ => ?_)
  subst ex
  obtain rfl : u = Value.ref a := rx
  exact getattr_ok I1 ea c n l fun u' s2 I2 ru => ⟨v, H1, I2, ru, q⟩
theorem ps_fld (ha : PE X o ta) (hv : PE X value tv) (hs : swapsWith value (some (.Attribute o f pos')) pos.line X.env = pure false) : PS X (.Assign [.Attribute o f pos'] value pos) (sFld X.K ta tv f) := by
  intro pins s σ H D I h
  refine plainObj_wpAny_Assign_Attribute (thn (hv pins s σ H _ I h) fun u s1 ⟨y, H1, I1, ry, q⟩ => thn (ha pins s1 σ H1 _ I1 q) fun ov s2 ⟨x, H2, I2, rx, a, C, dx, fs, ex, ea, c, n, l, q2⟩ => ?_) hs
  subst ex
  obtain rfl : ov = Value.ref a := rx
  exact setattr_ok I2 ea c n l ry fun s3 I3 => ⟨σ, _, I3, q2⟩
theorem ps_fldaug {op : Operator} {rd : V → V → Hp → VK → Prop} (ha : PE X o ta) (hv : PE X value tv) (hop : InOp X op rd) : PS X (.AugAssign (.Attribute o f tpos) op value pos) (sFldAug X.K ta tv rd f) := by
  intro pins s σ H D I h
  refine wpAny_AugAssign_AttributeAny (thn (ha pins s σ H _ I h) fun ov s1 ⟨x, H1, I1, rx, a, C, dx, fs, v, ex, ea, c, n, l, q⟩ => ?_)
  subst ex
  obtain rfl : ov = Value.ref a := rx
  refine getattr_ok I1 ea c n l fun u s2 I2 ru => thn (hv pins s2 σ H1 _ I2 q) fun w3 s3 ⟨y, H2, I3, ry, q3⟩ => thn (hop pins s3 σ H2 v y u w3 _ I3 ru ry q3) fun w4 s4 ⟨z, H3, I4, rz, dx', fs', ea', l', q4⟩ => ?_
  exact setattr_ok I4 ea' c n l' rz fun s5 I5 => ⟨σ, _, I5, q4⟩
def rAdd : V → V → Hp → VK → Prop := fun x y H Q => ∃ i j, x = .int i ∧ y = .int j ∧ Q (.int (i + j)) H
theorem in_add : InOp X .Add rAdd := by
  rintro pins s σ H x y u v Q I rx ry ⟨i, j, rfl, rfl, q⟩
  obtain ⟨t, rfl⟩ := (show ∃ t, u = Value.int i t from rx)
  obtain ⟨t', rfl⟩ := (show ∃ t', v = Value.int j t' from ry)
  exact PyProof.Rows.iadd_int ⟨.int (i + j), H, I.tok _, ⟨_, rfl⟩, q⟩
end
section
variable {X : Cx} {pins : List (Addr × Obj)} {σ : St} {H : Hp} {s : Shared} {A : Around} {E : Value → Shared → Prop} {Q : Value → Shared → Prop} {c : Value} {b : Bool}
inductive TyOf (K : PySem.W.Frag) (H : Hp) : V → Value → Prop where
  | non : TyOf K H .non (.type "NoneType")
  | bl (x : Bool) : TyOf K H (.bl x) (.type "bool")
  | int (i : Int) : TyOf K H (.int i) (.type "int")
  | str (x : Str) : TyOf K H (.str x) (.type "str")
  | flt (x : UInt64) : TyOf K H (.flt x) (.type "float")
  | lst {a : Addr} {xs : List V} (e : H a = some (.lst xs)) : TyOf K H (.ref a) (.type "list")
  | frz {a : Addr} {o : Obj} {xs : List V} (e : H a = some (.frz o (.lst xs))) : TyOf K H (.ref a) (.type "list")
  | tup {a : Addr} {xs : List V} (e : H a = some (.tup xs)) : TyOf K H (.ref a) (.type "tuple")
  | dK {a : Addr} {kvs : List (Key × V)} (e : H a = some (.dK kvs)) : TyOf K H (.ref a) (.type "dict")
  | dT {a : Addr} {kvs : List (List Key × V)} (e : H a = some (.dT kvs)) : TyOf K H (.ref a) (.type "dict")
  | ins {a C dx : Addr} {fs : List (Str × V)} (e : H a = some (.ins C dx fs)) (cl : Cls K C) (ha : PySem.W.findIn K (.ref C) "__class__" = some (some (.builtin "object.__class__")))
      (hn : PySem.W.specialIn K (.builtin "object.__class__") "__get__" = some (some (.builtin "getset_descriptor.__get__"))) (htk : PySem.W.takesIn K (.builtin "object.__class__") = some true)
      (hm : PySem.W.mroIn K C (.type "object") = some true) : TyOf K H (.ref a) (.ref C)
theorem isinst_ok {x : V} {u t : Value} (I : Inv X pins σ H s) (rx : RelV x u) (ty : TyOf X.K H x t) (e : PySem.W.kitOne X.K t c = some b) (h : ∀ tk, Q (.bool b) { s with toks := tk }) :
    wpAny (model X.prog X.w) A (call (.builtin "isinstance") [u, c]) Q E s := by
  cases ty with
  | non => cases (show u = Value.none from rx); exact PySem.W.kia_one PySem.W.kitx_none I.kIn True.intro e (fun z => nomatch z) h
  | bl y => cases (show u = Value.bool y from rx); exact PySem.W.kia_one PySem.W.kitx_bool I.kIn True.intro e (fun z => nomatch z) h
  | int i => obtain ⟨t, q⟩ := (show ∃ t, u = Value.int i t from rx); cases q; exact PySem.W.kia_one PySem.W.kitx_int I.kIn True.intro e (fun z => nomatch z) h
  | str y => obtain ⟨t, q⟩ := (show ∃ t, u = Value.str y t from rx); cases q; exact PySem.W.kia_one PySem.W.kitx_str I.kIn True.intro e (fun z => nomatch z) h
  | flt y => obtain ⟨t, q⟩ := (show ∃ t, u = Value.float y t from rx); cases q; exact PySem.W.kia_one PySem.W.kitx_float I.kIn True.intro e (fun z => nomatch z) h
  | @lst a xs ea =>
    cases (show u = Value.ref a from rx)
    obtain ⟨_, _, n, _, h1⟩ := (show ObjOk X.prog X.w H s.heap a (.lst xs) from I.hok a _ ea)
    exact PySem.W.kia_one PySem.W.kitx_list I.kIn ⟨_, h1, rfl⟩ e (fun z => nomatch z) h
  | @frz a ob xs ea =>
    cases (show u = Value.ref a from rx)
    obtain ⟨_, _, _, n, _, h1⟩ := (show ObjOk X.prog X.w H s.heap a (.frz ob (.lst xs)) from I.hok a _ ea)
    exact PySem.W.kia_one PySem.W.kitx_list I.kIn ⟨_, h1, rfl⟩ e (fun z => nomatch z) h
  | @tup a xs ea =>
    cases (show u = Value.ref a from rx)
    obtain ⟨_, _, _, p⟩ := (show ObjOk X.prog X.w H s.heap a (.tup xs) from I.hok a _ ea)
    obtain ⟨o, h1, h2, _⟩ := p
    exact PySem.W.kia_one PySem.W.kitx_tuple I.kIn ⟨o, h1, h2⟩ e (fun z => nomatch z) h
  | @dK a kvs ea =>
    cases (show u = Value.ref a from rx)
    obtain ⟨_, _, vs, _, p⟩ := (show ObjOk X.prog X.w H s.heap a (.dK kvs) from I.hok a _ ea)
    obtain ⟨o, es, ep, h1, h2, _⟩ := p
    exact PySem.W.kia_one PySem.W.kitx_dict I.kIn ⟨o, h1, h2.1⟩ e (fun z => nomatch z) h
  | @dT a kvs ea =>
    cases (show u = Value.ref a from rx)
    obtain ⟨_, _, xs, _, o, es, ep, h1, h2, _⟩ := (show ObjOk X.prog X.w H s.heap a (.dT kvs) from I.hok a _ ea)
    exact PySem.W.kia_one PySem.W.kitx_dict I.kIn ⟨o, h1, h2.1⟩ e (fun z => nomatch z) h
  | @ins a C dx fs ea cl ha hn htk hm =>
    cases (show u = Value.ref a from rx)
    obtain ⟨mA, O, _⟩ := ins_get I.hok ea
    obtain ⟨od, J, _⟩ := O.look
    exact PySem.W.kia_one (PySem.W.kitx_own (cl.get _) cl.hd ha hn htk hm) I.kIn J e (fun z => nomatch z) h
end
end L2
namespace L2
open PySem PySem.Spec PyProof.Rows
structure Room (k : Nat) (A : Around) : Prop where
  hd : A.handled = none
  dp : A.depth + 3 * k + 5 < recursionLimit
  un : A.units + 16 * k + 200 < cLine
theorem Room.mono {j k : Nat} {A : Around} (r : Room k A) (h : j ≤ k) : Room j A := ⟨r.hd, by have := r.dp; omega, by have := r.un; omega⟩
theorem Room.deeper {k : Nat} {A : Around} (r : Room (k + 1) A) (env : Env) : Room k (A.deeper env) :=
  ⟨r.hd, by have := r.dp; show A.depth + 1 + 3 * k + 5 < _; omega, by have := r.un; show A.units + 3 + 16 * k + 200 < _; omega⟩
theorem make_depth {A : Around} {C : Addr} {us : List Value} {kw : List (Str × Value)} : (A.under (.builtin "type.__call__" ⟨.ref C :: us, kw⟩)).depth = A.depth + 1 := by
  first | rfl | simp [Around.under, Code.weight, Code.isCreation, Code.isGuard, Code.isCaller, Code.frames, Code.isFrame, guardIds]
theorem make_units {A : Around} {C : Addr} {us : List Value} {kw : List (Str × Value)} : (A.under (.builtin "type.__call__" ⟨.ref C :: us, kw⟩)).units = A.units + 1 := by
  first | rfl | simp [Around.under, Code.cUnits, Code.frames, Code.isFrame]
theorem Room.make {k : Nat} {A : Around} (r : Room (k + 1) A) (C : Addr) (us : List Value) (kw : List (Str × Value)) : Room k (A.under (.builtin "type.__call__" ⟨.ref C :: us, kw⟩)) :=
  ⟨r.hd, by have := r.dp; rw [make_depth]; omega, by have := r.un; rw [make_units]; omega⟩
theorem Room.depth {k : Nat} {A : Around} (r : Room k A) : A.depth < recursionLimit := by have := r.dp; omega
theorem Room.units {k : Nat} {A : Around} (r : Room k A) : A.units + 64 < cLine := by have := r.un; omega
def tNil : TA := fun _ H Q => Q [] H
def tCons (ta : TE) (tr : TA) : TA := fun σ H Q => ta σ H fun x H1 => tr σ H1 fun xs H2 => Q (x :: xs) H2
section
variable {X : Cx} {e : Expr} {es : List Expr} {te : TE} {t : TA} {pos : Pos}
theorem pa_nil : PA X [] tNil := fun _ _ _ _ H Q I h => Calls.spliced_nil ⟨[], H, I, .nil, h⟩
theorem pa_cons (ha : PE X e te) (hr : PA X es t) (hs : starEach (e :: es) X.env = (false, eval e X.env) :: starEach es X.env := by rfl) : PA X (e :: es) (tCons te t) := by
  intro pos pins s σ H Q I h
  rw [hs]
  show wpAny _ _ (spliced ((false, eval e X.env) :: backTo pos (starEach es X.env))) _ _ s
  refine Calls.spliced_cons (thn (ha pins s σ H _ I h) fun u s1 ⟨x, H1, I1, r1, q1⟩ => ?_)
  exact thn (hr pos pins s1 σ H1 _ I1 q1) fun us s2 ⟨xs, H2, I2, r2, q2⟩ => ⟨x :: xs, H2, I2, .cons r1 r2, q2⟩
def tTup (t : TA) : TE := fun σ H Q => t σ H fun xs H1 => xs.length ≤ sizeLine ∧ ∀ p, H1 p = none → Q (.ref p) (upd H1 p (.tup xs))
def tLst (t : TA) : TE := fun σ H Q => t σ H fun xs H1 => xs.length ≤ sizeLine ∧ ∀ p, H1 p = none → Q (.ref p) (upd H1 p (.lst xs))
theorem pe_tup {x1} (h : PA X es t) : PE X (.Tuple es x1 pos) (tTup t) := by
  intro pins s σ H Q I hq
  refine wpAny_Tuple_spliced (thn (h pos pins s σ H _ I hq) fun us s1 ⟨xs, H1, I1, r, z, q⟩ => ⟨by rw [← r.length]; exact z, ?_⟩)
  have hf : H1 s1.heap.objs.size = none := I1.hok.fresh (Nat.le_refl _)
  refine ⟨.ref s1.heap.objs.size, upd H1 s1.heap.objs.size (.tup xs), I1.laid (t' := s1.toks) (fun b u e => Heap.get?_push_of_some _ e) (Nat.le_refl _) ?_, rfl, q _ hf⟩
  exact ⟨z, us, r, ⟨_, Heap.get?_push_size _ rfl, rfl, _, rfl⟩⟩
theorem pe_lst (h : PA X es t) : PE X (.List es pos) (tLst t) := by
  intro pins s σ H Q I hq
  refine wpAny_List_spliced (thn (h pos pins s σ H _ I hq) fun us s1 ⟨xs, H1, I1, r, z, q⟩ => ⟨by rw [← r.length]; exact z, ?_⟩)
  have hf : H1 s1.heap.objs.size = none := I1.hok.fresh (Nat.le_refl _)
  refine ⟨.ref s1.heap.objs.size, upd H1 s1.heap.objs.size (.lst xs), I1.laid (t' := s1.toks) (fun b u e => Heap.get?_push_of_some _ e) (Nat.le_refl _) ?_, rfl, q _ hf⟩
  exact ⟨z, us, 0, r, Heap.get?_push_size _ rfl⟩
end
abbrev Sp := List V → Hp → VK → XK → Prop
abbrev CXT := List Env → Hp → Shared → XK → Value → Shared → Prop
structure Env0 (P : Program) (w : World) (K : PySem.W.Frag) (mg : Str → Option Value) (base : Heap) (A : Around) (outer : List Env) (s : Shared) (H : Hp) : Prop where
  frames : A.frames = some outer
  mod : Mod K mg base
  bs : ∀ b o, base.get? b = some o → s.heap.get? b = some o ∧ H b = none
  bsz : base.objs.size ≤ s.heap.objs.size
  funs : s.heap.FunFrames base outer
  frf : ∀ b ∈ frs outer, H b = none
  hok : HOk P w H s.heap
  bare : AllBare s.gens
def CE (outer : List Env) (P : Program) (w : World) (H : Hp) (s : Shared) (Q : VK) (u : Value) (s' : Shared) : Prop :=
  ∃ v H', s'.os = s.os ∧ AllBare s'.gens ∧ Un (frs outer) [] H H' s.heap s'.heap ∧ HOk P w H' s'.heap ∧ RelV v u ∧ Q v H'
def CR (CX : CXT) (outer : List Env) (P : Program) (w : World) (H : Hp) (s : Shared) (Q : VK) (E : XK) (r : Result) (s' : Shared) : Prop :=
  match r with
  | .ok (.ret u) => CE outer P w H s Q u s'
  | .ok _ => False
  | .error e => CX outer H s E e s'
structure FnOk (P : Program) (w : World) (K : PySem.W.Frag) (mg : Str → Option Value) (base : Heap) (CX : CXT) (k : Nat) (f : Addr) (fd : FuncData) (ps : List Str) (sp : Sp) : Prop where
  len : ∀ vs H Q E, sp vs H Q E → vs.length = ps.length
  run : ∀ (A : Around) (outer : List Env) (s : Shared) (H : Hp) (args : Args) (us : List Value) (vs : List V) (Q : VK) (E : XK), Room k A → Env0 P w K mg base A outer s H → BindsTo s fd args (ps.zip us) → Vals vs us → sp vs H Q E →
    codeAny (model P w) A (.call (.ref f) args) (CR CX outer P w H s Q E) s
theorem Env0.make {P : Program} {w : World} {K : PySem.W.Frag} {mg : Str → Option Value} {base : Heap} {A : Around} {outer : List Env} {s : Shared} {H : Hp} (e : Env0 P w K mg base A outer s H) (C : Addr) (us : List Value) (kw : List (Str × Value)) :
    Env0 P w K mg base (A.under (.builtin "type.__call__" ⟨.ref C :: us, kw⟩)) outer s H := ⟨by first | exact e.frames | (simpa [Around.under, Code.envs, Code.isFrame, pushEnvs] using e.frames), e.mod, e.bs, e.bsz, e.funs, e.frf, e.hok, e.bare⟩
section
variable {X : Cx} {pins : List (Addr × Obj)} {σ : St} {H : Hp} {s s' : Shared}
theorem Inv.env0 (I : Inv X pins σ H s) : Env0 X.prog X.w X.K X.mg X.base X.A X.stack s H :=
  ⟨I.ok.frames, I.ok.mod, I.bs, Nat.le_trans I.ok.bsz I.sz, I.stack, I.stkFree, I.hok, I.bare⟩
theorem Inv.after {Q : VK} {u : Value} (I : Inv X pins σ H s) (h : CE X.stack X.prog X.w H s Q u s') : EP X pins σ Q u s' := by
  obtain ⟨v, H', os, bare, un, hok, r, q⟩ := h
  obtain ⟨hh, g, d, t, os'⟩ := s'
  obtain rfl : os' = s.os := os
  exact ⟨v, H', I.call (h' := hh) (g' := g) (d' := d) (t' := t) (ch := []) un hok bare (fun b z => absurd z (by simp)), r, q⟩
end
def tCall (sp : Sp) (dvs : List V) (E : XK) (t : TA) : TE := fun σ H Q => t σ H fun vs H1 => sp (vs ++ dvs) H1 Q E
def tMeth (C : Addr) (m : Str) (sp : Sp) (dvs : List V) (E : XK) (ta : TE) (t : TA) : TE := fun σ H Q => ta σ H fun x H1 => ∃ a dx fs, x = .ref a ∧ H1 a = some (.ins C dx fs) ∧ fs.lookup m = none ∧
  t σ H1 fun vs H2 => sp (x :: (vs ++ dvs)) H2 Q E
def tMake (C : Addr) (sp : Sp) (dvs : List V) (E : XK) (t : TA) : TE := fun σ H Q => t σ H fun vs H1 => ∀ x dx, H1 x = none → H1 dx = none → dx ≠ x →
  sp (.ref x :: (vs ++ dvs)) (upd (upd H1 dx (.own x)) x (.ins C dx [])) (fun v H2 => v = .non ∧ Q (.ref x) H2) E
def Binds (K : PySem.W.Frag) (fd : FuncData) (ps : List Str) (ds : List Value) : Prop :=
  ∀ (s : Shared) (us : List Value), K.In s.heap → (us ++ ds).length = ps.length → BindsTo s fd ⟨us, []⟩ (ps.zip (us ++ ds))
theorem Binds.all {K : PySem.W.Frag} {fd : FuncData} {ps : List Str} (h : ∀ us : List Value, us.length = ps.length → bindArgs fd ⟨us, []⟩ = pure (ps.zip us)) : Binds K fd ps [] := fun s us _ hl => by
  rw [List.append_nil] at hl ⊢
  exact .of_eq (h us hl)
def Passes (CX : CXT) (X : Cx) (E : XK) : Prop := ∀ (pins : List (Addr × Obj)) (σ : St) (H : Hp) (s : Shared) (e : Value) (s' : Shared), Inv X pins σ H s → CX X.stack H s E e s' → X.xe e s'
section
variable {X : Cx} {CX : CXT} {k : Nat} {f C : Addr} {fd : FuncData} {ps : List Str} {sp : Sp} {dvs : List V} {ds : List Value} {E : XK} {x m : Str} {p pos apos : Pos} {e o : Expr} {es : List Expr} {ta : TE} {t : TA}
theorem run_fn {pins : List (Addr × Obj)} {σ : St} {H : Hp} {s : Shared} {Q : VK} {us : List Value} {vs : List V} (F : FnOk X.prog X.w X.K X.mg X.base CX k f fd ps sp) (hr : Room k X.A) (hb : Binds X.K fd ps ds) (hd : Vals dvs ds) (hx : Passes CX X E)
    (I : Inv X pins σ H s) (r : Vals vs us) (h : sp (vs ++ dvs) H Q E) : wpAny (model X.prog X.w) X.A (call (.ref f) us) (EP X pins σ Q) X.xe s := by
  have r2 : Vals (vs ++ dvs) (us ++ ds) := r.append hd
  have hl : (us ++ ds).length = ps.length := by rw [← r2.length]; exact F.len _ _ _ _ h
  refine wpAny_call (codeAny_mono (F.run X.A X.stack s H ⟨us, []⟩ (us ++ ds) (vs ++ dvs) Q E hr I.env0 (hb s us I.kIn hl) r2 h) fun r s' hq => ?_)
  cases r with
  | error e => exact hx pins σ H s e s' I hq
  | ok fl =>
    cases fl with
    | ret u => exact I.after hq
    | next => exact False.elim hq
    | brk => exact False.elim hq
    | cont => exact False.elim hq
theorem pe_call (F : FnOk X.prog X.w X.K X.mg X.base CX k f fd ps sp) (hr : Room k X.A) (hg : Gl X x) (hm : X.mg x = some (.ref f)) (hk : PySem.W.keepIn X.K (.ref f) = true) (hb : Binds X.K fd ps ds) (hd : Vals dvs ds) (hx : Passes CX X E)
    (ha : PA X (e :: es) t) (hdb : (x == ("__debug__" : Str)) = false := by decide) (he : starEach (e :: es) X.env = (false, eval e X.env) :: starEach es X.env := by rfl) (hpl : (backTo pos (starEach es X.env)).any (·.1) = false := by rfl) :
    PE X (.Call (.Name x p) (e :: es) [] pos) (tCall sp dvs E t) := by
  intro pins s σ H Q I h
  refine wpAny_Call_Name_kw (ld_glob I hg hm ?_ hdb)
  refine PySem.W.callWith_K (h₀ := X.base) I.ok.mod.kin hk (thn (ha pos pins s σ H _ I h) fun us s1 ⟨vs, H1, I1, r, q⟩ => ⟨I1.kIn, ?_⟩) he hpl
  exact run_fn F hr hb hd hx I1 r q
theorem pe_meth {pl : Sem Bool} (he : PE X o ta) (c : Cls X.K C) (hm : Meth X.K C m f) (F : FnOk X.prog X.w X.K X.mg X.base CX k f fd ps sp) (hr : Room k X.A) (hb : Binds X.K fd ps ds) (hd : Vals dvs ds) (hx : Passes CX X E) (ha : PA X (e :: es) t)
    (hst : starEach (e :: es) X.env = (false, eval e X.env) :: starEach es X.env := by rfl) (hpl : (backTo pos (starEach es X.env)).any (·.1) = false := by rfl)
    (ht : eval (.Call (.Attribute o m apos) (e :: es) [] pos) X.env = (do
      let ov ← eval o X.env
      standAt apos.atName
      let (f, first) ← holding [ov] (getMethod ov m pl)
      callWith pos f first (backTo pos (starEach (e :: es) X.env)) (backToKw pos (keywordEach [] X.env))) := by rfl) :
    PE X (.Call (.Attribute o m apos) (e :: es) [] pos) (tMeth C m sp dvs E ta t) := by
  intro pins s σ H Q I h
  refine PySem.W.methodCall_KW (pl := pl) (thn (he pins s σ H _ I h) fun u s1 ⟨x, H1, I1, rx, a, dx, fs, ex, ea, l, q⟩ => ?_) ht
  subst ex
  obtain rfl : u = Value.ref a := rx
  refine getmeth_ok I1 ea c hm l ?_
  refine PySem.W.callWith_K (first := [.ref a]) (h₀ := X.base) I.ok.mod.kin hm.kp (thn (ha pos pins s1 σ H1 _ I1 q) fun us s2 ⟨vs, H2, I2, r, q2⟩ => ⟨I2.kIn, ?_⟩) hst hpl
  exact run_fn (us := .ref a :: us) (vs := .ref a :: vs) F hr hb hd hx I2 (.cons rfl r) q2
theorem pe_meth0 {pl : Sem Bool} (he : PE X o ta) (c : Cls X.K C) (hm : Meth X.K C m f) (F : FnOk X.prog X.w X.K X.mg X.base CX k f fd ps sp) (hr : Room k X.A) (hb : Binds X.K fd ps ds) (hd : Vals dvs ds) (hx : Passes CX X E)
    (ht : eval (.Call (.Attribute o m apos) [] [] pos) X.env = (do
      let ov ← eval o X.env
      standAt apos.atName
      let (f, first) ← holding [ov] (getMethod ov m pl)
      callWith pos f first (backTo pos (starEach [] X.env)) (backToKw pos (keywordEach [] X.env))) := by rfl) :
    PE X (.Call (.Attribute o m apos) [] [] pos) (tMeth C m sp dvs E ta tNil) := by
  intro pins s σ H Q I h
  refine PySem.W.methodCall_KW (pl := pl) (thn (he pins s σ H _ I h) fun u s1 ⟨x, H1, I1, rx, a, dx, fs, ex, ea, l, q⟩ => ?_) ht
  subst ex
  obtain rfl : u = Value.ref a := rx
  refine getmeth_ok I1 ea c hm l ?_
  exact PySem.W.callWith_K0 (first := [.ref a]) I1.kIn hm.kp (run_fn (us := [.ref a]) (vs := [.ref a]) F hr hb hd hx I1 (.cons rfl .nil) q)
structure Mk (K : PySem.W.Frag) (C f : Addr) : Prop where
  makes : PySem.W.makesIn K C = true
  init : PySem.W.findIn K (.ref C) "__init__" = some (some (.ref f))
  fn : PySem.W.isFn K (.ref f) = true
  kp : PySem.W.keepIn K (.ref C) = true
theorem run_make {pins : List (Addr × Obj)} {σ : St} {H : Hp} {s : Shared} {Q : VK} {us : List Value} {vs : List V} (M : Mk X.K C f) (F : FnOk X.prog X.w X.K X.mg X.base CX k f fd ps sp) (hr : Room (k + 1) X.A) (hb : Binds X.K fd ps ds) (hd : Vals dvs ds)
    (hx : Passes CX X E) (I : Inv X pins σ H s) (r : Vals vs us)
    (h : ∀ x dx, H x = none → H dx = none → dx ≠ x → sp (.ref x :: (vs ++ dvs)) (upd (upd H dx (.own x)) x (.ins C dx [])) (fun v H2 => v = .non ∧ Q (.ref x) H2) E) :
    wpAny (model X.prog X.w) X.A (call (.ref C) us) (EP X pins σ Q) X.xe s := by
  have hq := h (s.heap.objs.size + 1) s.heap.objs.size (I.hok.fresh (Nat.le_succ _)) (I.hok.fresh (Nat.le_refl _)) (Nat.ne_of_lt (Nat.lt_succ_self _))
  have I2 := Inv.made (C := C) I
  have r2 : Vals (V.ref (s.heap.objs.size + 1) :: (vs ++ dvs)) (Value.ref (s.heap.objs.size + 1) :: (us ++ ds)) := .cons rfl (r.append hd)
  have hl : (Value.ref (s.heap.objs.size + 1) :: us ++ ds).length = ps.length := by
    have e := r2.length
    rw [F.len _ _ _ _ hq] at e
    exact e.symm
  refine wpAny_call (make_map (f := f) I.kIn M.makes M.init (beq_iff_eq.mp M.fn) (codeAny_mono (F.run _ X.stack _ _ ⟨Value.ref (s.heap.objs.size + 1) :: us, []⟩ (Value.ref (s.heap.objs.size + 1) :: (us ++ ds)) _ _ E (hr.make C us [])
    (I2.env0.make C us []) (hb _ (Value.ref (s.heap.objs.size + 1) :: us) I2.kIn hl) r2 hq) fun r s' hq' => ?_))
  cases r with
  | error e => exact hx pins σ _ _ e s' I2 hq'
  | ok fl =>
    cases fl with
    | ret u =>
      obtain ⟨v, H', I3, rv, ev, q3⟩ := I2.after hq'
      subst ev
      exact ⟨rv, ⟨V.ref (s.heap.objs.size + 1), H', I3, rfl, q3⟩⟩
    | next => exact False.elim hq'
    | brk => exact False.elim hq'
    | cont => exact False.elim hq'
theorem pe_make (M : Mk X.K C f) (F : FnOk X.prog X.w X.K X.mg X.base CX k f fd ps sp) (hr : Room (k + 1) X.A) (hg : Gl X x) (hm : X.mg x = some (.ref C)) (hb : Binds X.K fd ps ds) (hd : Vals dvs ds) (hx : Passes CX X E)
    (ha : PA X (e :: es) t) (hdb : (x == ("__debug__" : Str)) = false := by decide) (he : starEach (e :: es) X.env = (false, eval e X.env) :: starEach es X.env := by rfl) (hpl : (backTo pos (starEach es X.env)).any (·.1) = false := by rfl) :
    PE X (.Call (.Name x p) (e :: es) [] pos) (tMake C sp dvs E t) := by
  intro pins s σ H Q I h
  refine wpAny_Call_Name_kw (ld_glob I hg hm ?_ hdb)
  refine PySem.W.callWith_K (h₀ := X.base) I.ok.mod.kin M.kp (thn (ha pos pins s σ H _ I h) fun us s1 ⟨vs, H1, I1, r, q⟩ => ⟨I1.kIn, ?_⟩) he hpl
  exact run_make M F hr hb hd hx I1 r q
end
section
variable {X : Cx} {CX : CXT} {k : Nat} {f C : Addr} {fd : FuncData} {ps ks : List Str} {sp : Sp} {E : XK} {x m : Str} {p pos apos kpos : Pos} {e o : Expr} {es : List Expr} {kws : List Keyword} {te ta : TE} {t tk : TA} {nm : Option Str}
variable {g : List Value → List Value → List Value} {gV : List V → List V → List V}
end
structure FnScope (N P : List Str) (sc : Scope) : Prop where
  kind : sc.kind = .function
  co : sc.isCoroutine = false
  gen : sc.isGenerator = false
  nd : N.Nodup
  pre : N.take P.length = P
  par : ∀ x ∈ P, sc.names.lookup x = some .local ∨ sc.names.lookup x = some .cell
  nofree : ∀ y ∈ sc.names, y.2 ≠ .free
theorem bindL_out {kindOf : Str → Option NameKind} {x : Str} : ∀ {binds : List (Str × Value)} {m : Str → Option Value}, (∀ v, (x, v) ∉ binds) → bindL kindOf binds m x = m x
  | [], _, _ => rfl
  | (n, v) :: r, m, h => by
    unfold bindL
    rw [bindL_out fun w hw => h w (List.mem_cons_of_mem _ hw)]
    split
    · have : x ≠ n := by rintro rfl; exact h v List.mem_cons_self
      simp [this]
    · rfl
theorem bindC_out {kindOf : Str → Option NameKind} {x : Str} : ∀ {binds : List (Str × Value)} {m : Str → Option Value}, (∀ v, (x, v) ∉ binds) → bindC kindOf binds m x = m x
  | [], _, _ => rfl
  | (n, v) :: r, m, h => by
    unfold bindC
    rw [bindC_out fun w hw => h w (List.mem_cons_of_mem _ hw)]
    split
    · rfl
    · have : x ≠ n := by rintro rfl; exact h v List.mem_cons_self
      simp [this]
theorem bindL_get {kindOf : Str → Option NameKind} {x : Str} {v : Value} : ∀ {P : List Str} {vs : List Value} {i : Nat} {m : Str → Option Value}, P.Nodup → P[i]? = some x → vs[i]? = some v → kindOf x = some .local →
    bindL kindOf (P.zip vs) m x = some v
  | [], _, _, _, _, h, _, _ => by simp at h
  | _ :: _, [], _, _, _, _, h, _ => by simp at h
  | p :: P, w :: vs, 0, m, nd, h1, h2, hk => by
    simp at h1 h2; subst h1; subst h2
    show bindL kindOf ((p, w) :: P.zip vs) m p = _
    unfold bindL
    rw [bindL_out fun v hv => (List.nodup_cons.mp nd).1 (List.of_mem_zip hv).1, if_pos hk]
    simp
  | p :: P, w :: vs, i + 1, m, nd, h1, h2, hk => by
    show bindL kindOf ((p, w) :: P.zip vs) m x = _
    unfold bindL
    exact bindL_get (i := i) (List.nodup_cons.mp nd).2 (by simpa using h1) (by simpa using h2) hk
theorem bindC_get {kindOf : Str → Option NameKind} {x : Str} {v : Value} : ∀ {P : List Str} {vs : List Value} {i : Nat} {m : Str → Option Value}, P.Nodup → P[i]? = some x → vs[i]? = some v → kindOf x ≠ some .local →
    bindC kindOf (P.zip vs) m x = some v
  | [], _, _, _, _, h, _, _ => by simp at h
  | _ :: _, [], _, _, _, _, h, _ => by simp at h
  | p :: P, w :: vs, 0, m, nd, h1, h2, hk => by
    simp at h1 h2; subst h1; subst h2
    show bindC kindOf ((p, w) :: P.zip vs) m p = _
    unfold bindC
    rw [bindC_out fun v hv => (List.nodup_cons.mp nd).1 (List.of_mem_zip hv).1, if_neg hk]
    simp
  | p :: P, w :: vs, i + 1, m, nd, h1, h2, hk => by
    show bindC kindOf ((p, w) :: P.zip vs) m x = _
    unfold bindC
    exact bindC_get (i := i) (List.nodup_cons.mp nd).2 (by simpa using h1) (by simpa using h2) hk
def start (N : List Str) (vs : List V) : St := vs.map some ++ List.replicate (N.length - vs.length) none
def cxOf (CX : CXT) (P : Program) (w : World) (K : PySem.W.Frag) (mg : Str → Option Value) (base : Heap) (N : List Str) (qual : Str) (scope : Scope) (f : Addr) (cd : Value) (A : Around) (outer : List Env) (s : Shared) (H : Hp) (E : XK) : Cx where
  prog := P
  w := w
  K := K
  mg := mg
  base := base
  A := A.deeper (envOfC qual scope s.heap.objs.size f cd)
  N := N
  s₀ := s
  H₀ := H
  env := envOfC qual scope s.heap.objs.size f cd
  outer := outer
  stack := envOfC qual scope s.heap.objs.size f cd :: outer
  ex := []
  calm := true
  fn := fun _ => true
  pn := []
  xe := fun e s' => wpAny (model P w) (A.deeper (envOfC qual scope s.heap.objs.size f cd)) (leaving (envOfC qual scope s.heap.objs.size f cd) e) (fun _ s'' => CX outer H s E e s'') (fun e' s'' => CX outer H s E e' s'') s'
theorem cell_has {sc : Scope} {n : Nat} {x : Str} (h : sc.names.lookup x = some .cell) : ∃ c, (cellsFrom n sc.names []).lookup x = some c := by
  have q := PySem.W.cellsFrom_some sc.names n [] (.inl h)
  exact Option.isSome_iff_exists.mp q
theorem inv_start {CX : CXT} {P : Program} {w : World} {K : PySem.W.Frag} {mg : Str → Option Value} {base : Heap} {N ps : List Str} {qual : Str} {scope : Scope} {f : Addr} {cd : Value} {A : Around} {outer : List Env} {s s1 : Shared} {H : Hp} {E : XK} {us : List Value} {vs : List V}
    (S : FnScope N ps scope) (hd : A.handled = none) (e0 : Env0 P w K mg base A outer s H) (hl : vs.length = ps.length) (r : Vals vs us)
    (x : InCallC s s.heap.objs.size (bindL (envOfC qual scope s.heap.objs.size f cd).kindOf (ps.zip us) fun _ => none) (cellsFrom (s.heap.objs.size + 1) scope.names []) (bindC (envOfC qual scope s.heap.objs.size f cd).kindOf (ps.zip us) fun _ => none) s1) :
    Inv (cxOf CX P w K mg base N qual scope f cd A outer s H E) [] (start N vs) H s1 := by
  have hpl : ps.length ≤ N.length := by have := congrArg List.length S.pre; rw [List.length_take] at this; omega
  obtain ⟨h1, tk, rfl, hk⟩ := x.done
  have noA : ∀ b : Addr, b ∉ (cxOf CX P w K mg base N qual scope f cd A outer s H E).ex := fun b z => absurd (show b ∈ ([] : List Addr) from z) (by simp)
  refine ⟨⟨e0.mod, S.kind, rfl, rfl, Nat.le_refl _, fun y z c h1 h2 => ?_, fun y hy => ?_, fun y c _ h => ?_, fun _ => hd, Around.frames_deeper e0.frames, .inr ⟨rfl, rfl⟩, fun b z => absurd z (noA b), e0.bs, e0.bsz, fun b _ _ => noA b, fun b z => absurd z (noA b), e0.funs, e0.frf⟩,
    rfl, e0.bare, Un.kept hk, ⟨_, x.toInCall.ns, fun i y v h1 h2 h3 => ?_⟩, fun y c h => ⟨_, x.cell y c h⟩, e0.hok.fresh (Nat.le_refl _), fun y c h => ?_, fun p hp => absurd (show p ∈ ([] : List (Addr × Obj)) from hp) (by simp), e0.hok.kept hk, ?_⟩
  · exact name_of_addr x.apart (PySem.mem_of_lookup h1) (PySem.mem_of_lookup h2)
  · have hy : scope.names.lookup y = some .cell ∨ scope.names.lookup y = some .free := hy
    rcases hy with hy | hy
    · exact cell_has hy
    · exact absurd rfl (S.nofree _ (PySem.mem_of_lookup hy))
  · exact Nat.le_of_lt (x.above y c (PySem.mem_of_lookup h))
  · have hi : i < vs.length := by
      unfold start at h2
      by_cases hi : i < vs.length
      · exact hi
      · rw [List.getElem?_append_right (by simpa using hi)] at h2
        rw [List.getElem?_replicate] at h2
        split at h2 <;> cases h2
    have ha : vs[i]? = some v := by
      unfold start at h2
      rw [List.getElem?_append_left (by simpa using hi), List.getElem?_map] at h2
      cases e : vs[i]? with
      | none => rw [e] at h2; cases h2
      | some a => rw [e] at h2; cases h2; rfl
    obtain ⟨u, hu, rv⟩ := r.get ha
    have hp : ps[i]? = some y := by
      rw [← S.pre, List.getElem?_take_of_lt (by omega)]; exact h1
    have ndP : ps.Nodup := by rw [← S.pre]; exact S.nd.sublist (List.take_sublist _ _)
    refine ⟨u, rv, ?_⟩
    rcases S.par y (List.mem_of_getElem? hp) with k | k
    · exact .inl ⟨k, bindL_get ndP hp hu k⟩
    · obtain ⟨c, e⟩ := cell_has (n := s.heap.objs.size + 1) k
      refine .inr ⟨.inl k, c, e, ?_⟩
      have q := x.cell y c e
      rw [bindC_get ndP hp hu (by show scope.names.lookup y ≠ _; rw [k]; decide)] at q
      exact q
  · exact e0.hok.fresh (Nat.le_of_lt (x.above y c (PySem.mem_of_lookup h)))
  · unfold start
    show _ = N.length
    rw [List.length_append, List.length_map, List.length_replicate]
    omega
theorem fn_of {CX : CXT} {P : Program} {w : World} {K : PySem.W.Frag} {mg : Str → Option Value} {base : Heap} {k : Nat} {f : Addr} {name qual : Str} {params : Arguments} {body : List Stmt} {scope : Scope} {dV kV doc pm cdv ct oc : Value} {an od : Option Addr}
    {osl : Array (Option Value)} {N ps : List Str} {sp : Sp} (lk : K.lookup f = some ⟨oc, od, .func (PySem.W.fnOf name qual params body scope dV kV doc pm an cdv ct), osl⟩) (hcd : PySem.W.codeIn K cdv qual = true) (S : FnScope N ps scope)
    (len : ∀ vs H Q E, sp vs H Q E → vs.length = ps.length)
    (hbody : ∀ (A : Around) (outer : List Env) (s : Shared) (H : Hp) (vs : List V) (Q : VK) (E : XK), Room k (A.deeper (envOfC qual scope s.heap.objs.size f cdv)) → sp vs H Q E →
      ∃ t, PSs (cxOf CX P w K mg base N qual scope f cdv A outer s H E) body t ∧ t { nx := fun _ H' => Q .non H', rt := Q } (start N vs) H) :
    FnOk P w K mg base CX (k + 1) f (PySem.W.fnOf name qual params body scope dV kV doc pm an cdv ct) ps sp := by
  refine ⟨len, fun A outer s H args us vs Q E hr e0 hb r hsp => ?_⟩
  have hl := len _ _ _ _ hsp
  have KX : K.In s.heap := e0.mod.kin.keeps fun b o e => (e0.bs b o e).1
  have lim : s.heap.NoLimit := e0.mod.nolimit.keeps fun b o e => (e0.bs b o e).1
  have hkind : ∀ y ∈ ps.zip us, scope.names.lookup y.1 = some .local ∨ (scope.names.lookup y.1 = some .cell ∧ ((cellsFrom (s.heap.objs.size + 1) scope.names []).lookup y.1).isSome = true) := fun ⟨n, v⟩ hy => by
    rcases S.par n (List.of_mem_zip hy).1 with q | q
    · exact .inl q
    · exact .inr ⟨q, PySem.W.cellsFrom_some _ _ _ (.inl q)⟩
  refine codeAny_call_function hr.depth (KX _ _ lk) rfl S.co S.gen rfl (PySem.W.codeRec_of KX hcd) (hb _ _ _ _ ?_)
  refine wpAny_newFunctionEnv_cells S.kind hkind fun env he s1 x => ?_
  subst he
  refine ⟨lim.keeps x.toInCall.keep, codeAny_func ?_⟩
  obtain ⟨t, ht, hq⟩ := hbody A outer s H vs Q E (hr.deeper _) hsp
  have I : Inv (cxOf CX P w K mg base N qual scope f cdv A outer s H E) [] (start N vs) H s1 := inv_start S hr.hd e0 hl r x
  refine wpAny_mono (ht [] s1 (start N vs) H _ I hq) (fun fl s' hs => ?_) fun e s' hs => hs
  have fin : ∀ {σ' : St} {H' : Hp} {v : V} {u : Value}, Inv (cxOf CX P w K mg base N qual scope f cdv A outer s H E) [] σ' H' s' → RelV v u → Q v H' → CE outer P w H s Q u s' :=
    fun {σ' H' v u} J rv q => ⟨v, H', J.os, J.bare, J.base, J.hok, rv, q⟩
  cases fl with
  | ret u =>
    obtain ⟨v, σ', H', J, rv, q⟩ := hs
    exact fin J rv q
  | next =>
    obtain ⟨σ', H', J, q⟩ := hs
    exact fin (v := V.non) (u := Value.none) J rfl q
  | brk =>
    obtain ⟨_, _, _, q⟩ := hs
    exact False.elim q
  | cont =>
    obtain ⟨_, _, _, q⟩ := hs
    exact False.elim q
end L2
namespace L2
open PySem PySem.Spec PyProof.Rows
section
variable {X : Cx} {x : Str} {p pos : Pos} {e : Expr} {es : List Expr} {t : TA} {id T : String} {r : List V → Hp → VK → Prop}
def tCB (r : List V → Hp → VK → Prop) (t : TA) : TE := fun σ H Q => t σ H fun vs H1 => r vs H1 Q
theorem pe_callB (hc : CallR X (.builtin id) r) (hg : Gl X x) (hm : X.mg x = none) (hv : bootBuiltins x = some (.builtin id)) (ha : PA X (e :: es) t) (hn : x ≠ "__name__" := by decide) (hdb : (x == ("__debug__" : Str)) = false := by decide)
    (he : starEach (e :: es) X.env = (false, eval e X.env) :: starEach es X.env := by rfl) (hpl : (backTo pos (starEach es X.env)).any (·.1) = false := by rfl) : PE X (.Call (.Name x p) (e :: es) [] pos) (tCB r t) := by
  intro pins s σ H Q I h
  refine wpAny_Call_Name_kw (ld_blt I hg hm hv ?_ hn hdb)
  exact PyProof.Rows.callWith_builtin1 (thn (ha pos pins s σ H _ I h) fun us s1 ⟨vs, H1, I1, r1, q1⟩ => hc pins s1 σ H1 vs us Q I1 r1 q1) he hpl
theorem pe_callTy (hc : CallR X (.type T) r) (hg : Gl X x) (hm : X.mg x = none) (hv : bootBuiltins x = some (.type T)) (ha : PA X (e :: es) t) (hn : x ≠ "__name__" := by decide) (hdb : (x == ("__debug__" : Str)) = false := by decide)
    (he : starEach (e :: es) X.env = (false, eval e X.env) :: starEach es X.env := by rfl) (hpl : (backTo pos (starEach es X.env)).any (·.1) = false := by rfl) : PE X (.Call (.Name x p) (e :: es) [] pos) (tCB r t) := by
  intro pins s σ H Q I h
  refine wpAny_Call_Name_kw (ld_blt I hg hm hv ?_ hn hdb)
  exact PyProof.Rows.callWith_type1 (thn (ha pos pins s σ H _ I h) fun us s1 ⟨vs, H1, I1, r1, q1⟩ => hc pins s1 σ H1 vs us Q I1 r1 q1) he hpl
end
end L2
namespace HT
open PySem PyProof.Rows
def lexLt : List Int → List Int → Bool
  | [], [] => false
  | [], _ :: _ => true
  | _ :: _, [] => false
  | x :: xs, y :: ys => if x = y then lexLt xs ys else decide (x < y)
section
open PySem.SeqAt
open PySem.AutoSeq1 (wpAny_loadPart')
open PySem.MeetsSeq PySem.MeetsSeq2 PySem.MeetsSeq3
end
section
variable {prog : Program} {w : World} {A : Around} {E : Value → Shared → Prop} {s : Shared}
def sIx (n d : Nat) : Option Int → Nat
  | none => d
  | some v => if v < 0 then (v + (n : Int)).toNat else min v.toNat n
theorem sIx_none (n d : Nat) : sIx n d none = d := rfl
theorem sIx_nat (n d k : Nat) : sIx n d (some (k : Int)) = min k n := by
  show (if (k : Int) < 0 then ((k : Int) + (n : Int)).toNat else min (k : Int).toNat n) = min k n
  rw [if_neg (by omega), Int.toNat_natCast]
theorem sIx_le (n d : Nat) (hd : d ≤ n) (o : Option Int) : sIx n d o ≤ n := by
  cases o with
  | none => exact hd
  | some v =>
    show (if v < 0 then (v + (n : Int)).toNat else min v.toNat n) ≤ n
    by_cases hv : v < 0
    · rw [if_pos hv]; omega
    · rw [if_neg hv]; exact Nat.min_le_right _ _
end
end HT
namespace L2
open PySem PySem.Spec PyProof.Rows
abbrev TO := St → Hp → (Option Int → Hp → Prop) → Prop
def PO (X : Cx) (e : Option Expr) (t : TO) : Prop :=
  ∀ (pins : List (Addr × Obj)) (s : Shared) (σ : St) (H : Hp) (Q : Option Int → Hp → Prop), Inv X pins σ H s → t σ H Q →
    wpAny (model X.prog X.w) X.A (evalPart e X.env) (fun u s' => ∃ o H', Inv X pins σ H' s' ∧ IsPart u o ∧ Q o H') X.xe s
def tNoPart : TO := fun _ H Q => Q none H
def tPart (t : TE) : TO := fun σ H Q => t σ H fun x H1 => ∃ i, x = .int i ∧ Q (some i) H1
section
variable {X : Cx} {e : Expr} {te : TE} {lo hi : Option Expr} {tl th : TO} {pos p2 : Pos}
theorem po_none : PO X none tNoPart := by
  intro pins s σ H Q I h
  rw [evalPart_none]
  exact wpAny_pure ⟨none, H, I, .none, h⟩
theorem po_some (h : PE X e te) : PO X (some e) (tPart te) := by
  intro pins s σ H Q I hw
  rw [evalPart_some]
  refine thn (h pins s σ H _ I hw) fun u s1 ⟨x, H1, I1, r1, q1⟩ => ?_
  obtain ⟨i, rfl, q⟩ := q1
  obtain ⟨t, rfl⟩ := r1
  exact ⟨some i, H1, I1, .int i t, q⟩
def SlR (X : Cx) (r : V → Option Int → Option Int → Hp → VK → Prop) : Prop :=
  ∀ (pins : List (Addr × Obj)) (s : Shared) (σ : St) (H : Hp) (x : V) (v vl vu : Value) (lo hi : Option Int) (sl : Addr) (Q : VK), Inv X pins σ H s → RelV x v → s.heap.IsSliceOf sl vl vu .none → IsPart vl lo → IsPart vu hi → r x lo hi H Q →
    ∃ T id, typeLookup (.type T) "__getitem__" = pure (some (.builtin id)) ∧ s.TypeIs v T ∧ wpAny (model X.prog X.w) X.A (getItem v (.ref sl)) (EP X pins σ Q) X.xe s
def tSl (r : V → Option Int → Option Int → Hp → VK → Prop) (te : TE) (tl th : TO) : TE := fun σ H Q => te σ H fun x H1 => tl σ H1 fun l H2 => th σ H2 fun u H3 => r x l u H3 Q
theorem pe_slice {r : V → Option Int → Option Int → Hp → VK → Prop} (hr : SlR X r) (he : PE X e te) (hl : PO X lo tl) (hu : PO X hi th) : PE X (.Subscript e (.Slice lo hi none p2) pos) (tSl r te tl th) := by
  intro pins s σ H Q I h
  refine Subscript_ (thn (he pins s σ H _ I h) fun v s1 ⟨x, H1, I1, r1, q1⟩ => ?_)
  refine wpAny_Slice (thn (hl pins s1 σ H1 _ I1 q1) fun vl s2 ⟨l, H2, I2, pl, q2⟩ => thn (hu pins s2 σ H2 _ I2 q2) fun vu s3 ⟨u, H3, I3, pu, q3⟩ => ?_)
  rw [evalPart_none]
  refine wpAny_pure ?_
  have I4 : Inv X pins σ H3 { s3 with heap := s3.heap.push { cls := .type "slice", data := .fields #[vl, vu, .none] } } := I3.kept (t' := s3.toks) fun b ob q => Heap.get?_push_of_some _ q
  obtain ⟨T, id, hT, ht, hg⟩ := hr pins { s3 with heap := s3.heap.push { cls := .type "slice", data := .fields #[vl, vu, .none] } } σ H3 x v vl vu l u s3.heap.objs.size Q I4 r1 (Heap.IsSliceOf.new ..) pl pu q3
  show wpAny (model X.prog X.w) X.A (subscriptTail e (.Slice lo hi none p2) v (.ref s3.heap.objs.size)) (EP X pins σ Q) X.xe { s3 with heap := s3.heap.push { cls := .type "slice", data := .fields #[vl, vu, .none] } }
  exact tail_any (ops := [.ref s3.heap.objs.size, v]) ht hT hg (by with_unfolding_all rfl)
def cutV (xs : List V) (lo hi : Option Int) : List V := (xs.drop (HT.sIx xs.length 0 lo)).take (HT.sIx xs.length xs.length hi - HT.sIx xs.length 0 lo)
theorem cutV_length (xs : List V) (lo hi : Option Int) : (cutV xs lo hi).length ≤ xs.length := by
  unfold cutV
  rw [List.length_take, List.length_drop]
  omega
theorem Vals.nil_iff {xs : List V} {us : List Value} (r : Vals xs us) : us = [] ↔ xs = [] := by
  cases r with
  | nil => simp
  | cons _ _ => simp
end
end L2
namespace L2
open PySem PySem.Spec PyProof.Rows
def ixN (n : Nat) (i : Int) : Option Nat := if 0 ≤ i then (if i < n then some i.toNat else none) else if -(n : Int) ≤ i then some (i + n).toNat else none
def atI {α : Type} (xs : List α) (i : Int) : Option α := (ixN xs.length i).bind fun j => xs[j]?
theorem ixN_seq {n : Nat} {i : Int} {j : Nat} (h : ixN n i = some j) : seqIndex? i n = some j ∧ j < n ∧ -(n : Int) ≤ i ∧ i < n := by
  unfold ixN at h
  by_cases h0 : 0 ≤ i
  · rw [if_pos h0] at h
    by_cases h1 : i < n
    · rw [if_pos h1] at h
      have e : i.toNat = j := Option.some.inj h
      exact ⟨by rw [seqIndex_of h0 h1, e], by omega, by omega, h1⟩
    · rw [if_neg h1] at h; cases h
  · rw [if_neg h0] at h
    by_cases h1 : -(n : Int) ≤ i
    · rw [if_pos h1] at h
      have e : (i + n).toNat = j := Option.some.inj h
      exact ⟨by rw [seqIndex_neg (by omega) h1, e], by omega, h1, by omega⟩
    · rw [if_neg h1] at h; cases h
theorem atI_get {α : Type} {xs : List α} {i : Int} {v : α} (h : atI xs i = some v) : ∃ j, seqIndex? i xs.length = some j ∧ xs[j]? = some v ∧ j < xs.length ∧ -(xs.length : Int) ≤ i ∧ i < xs.length := by
  unfold atI at h
  cases e : ixN xs.length i with
  | none => rw [e] at h; cases h
  | some j =>
    rw [e] at h
    obtain ⟨h1, h2, h3, h4⟩ := ixN_seq e
    exact ⟨j, h1, h, h2, h3, h4⟩
theorem atI_nat {α : Type} {xs : List α} {j : Nat} {v : α} (h : xs[j]? = some v) : atI xs (j : Int) = some v := by
  have hj : j < xs.length := (List.getElem?_eq_some_iff.mp h).1
  have e : ixN xs.length (j : Int) = some j := by
    unfold ixN
    rw [if_pos (by omega), if_pos (by omega)]; simp
  unfold atI; rw [e]; exact h
def PlainIx (b : Expr) : Prop := ∀ o i, subscripted b false o i = operate [o, i] (getItem o i)
def IxR (X : Cx) (r : R2) : Prop :=
  ∀ (value slice : Expr) (pins : List (Addr × Obj)) (s : Shared) (σ : St) (H : Hp) (x y : V) (v u : Value) (Q : VK), Inv X pins σ H s → RelV x v → RelV y u → r x y H Q →
    subscripted slice false v u = operate [v, u] (getItem v u) → wpAny (model X.prog X.w) X.A (subscriptTail value slice v u) (EP X pins σ Q) X.xe s
def MtR (X : Cx) (id : String) (r : V → List V → Hp → VK → Prop) : Prop :=
  ∀ (pins : List (Addr × Obj)) (s : Shared) (σ : St) (H : Hp) (x : V) (xs : List V) (v : Value) (us : List Value) (Q : VK), Inv X pins σ H s → RelV x v → Vals xs us → r x xs H Q →
    wpAny (model X.prog X.w) X.A (call (.builtin id) (v :: us)) (EP X pins σ Q) X.xe s
section
variable {X : Cx} {a b : Expr} {ta tb : TE} {pos : Pos}
theorem pe_ix {r : R2} (hr : IxR X r) (ha : PE X a ta) (hb : PE X b tb) (hs : PlainIx b) : PE X (.Subscript a b pos) (tOp r ta tb) := by
  intro pins s σ H Q I h
  exact Subscript_ (binT ha hb I h fun v u s2 x y H2 I2 rx ry q => hr a b pins s2 σ H2 x y v u Q I2 rx ry q (hs _ _))
def rIxL (K : PySem.W.Frag) : R2 := fun x y H Q => ∃ p xs i v, x = .ref p ∧ y = .int i ∧ SqL K H p xs ∧ atI xs i = some v ∧ Q v H
def rIxT (K : PySem.W.Frag) : R2 := fun x y H Q => ∃ p xs i v, x = .ref p ∧ y = .int i ∧ SqT K H p xs ∧ atI xs i = some v ∧ Q v H
def rIxS : R2 := fun x y H Q => ∃ z i c, x = .str z ∧ y = .int i ∧ z.length ≤ sizeLine ∧ atI z.cps.toList i = some c ∧ Q (.str ⟨#[c]⟩) H
theorem ix_list : IxR X (rIxL X.K) := by
  intro value slice pins s σ H x y v u Q I rx ry h hs
  obtain ⟨p, xs, i, z, rfl, rfl, hq, he, q⟩ := h
  cases rx
  obtain ⟨t, rfl⟩ := ry
  obtain ⟨its, r, pl, hz⟩ := I.list hq
  obtain ⟨j, h1, h2, h3, h4, h5⟩ := atI_get he
  obtain ⟨w, ew, rw'⟩ := r.get h2
  have hl := r.length
  have hn := line63
  have fin : EP X pins σ Q w s := ⟨z, H, I, rw', q⟩
  by_cases h0 : 0 ≤ i
  · have hj : i.toNat = j := by
      rw [seqIndex_of h0 h5] at h1
      exact Option.some.inj h1
    exact item_listR pl.isList h0 (by omega) (by rw [hj]; simpa using ew) fin hs
  · have hj : (i + (its.toArray.size : Int)).toNat = j := by
      rw [seqIndex_neg (by omega) h4] at h1
      rw [List.size_toArray, ← hl]
      exact Option.some.inj h1
    exact subscriptTail_builtinR (x := w) pl.isList.typeIs slot_list_getitem.lookup
      (wpAny_getItem_list_neg (Q := fun r s' => r = w ∧ EP X pins σ Q r s') pl.isList (by omega) (by rw [List.size_toArray] <;> omega) (by omega) (by rw [hj]; simpa using ew) ⟨rfl, fin⟩) hs
theorem ix_tup : IxR X (rIxT X.K) := by
  intro value slice pins s σ H x y v u Q I rx ry h hs
  obtain ⟨p, xs, i, z, rfl, rfl, hq, he, q⟩ := h
  cases rx
  obtain ⟨t, rfl⟩ := ry
  obtain ⟨its, r, pl, hz⟩ := I.tuple hq
  obtain ⟨j, h1, h2, h3, h4, h5⟩ := atI_get he
  obtain ⟨w, ew, rw'⟩ := r.get h2
  have hl := r.length
  have hn := line63
  have fin : EP X pins σ Q w s := ⟨z, H, I, rw', q⟩
  exact subscriptTail_builtinR (x := w) pl.typeIs slot_tuple_getitem.lookup
    (getItem_tuple (j := j) (Q := fun r s' => r = w ∧ EP X pins σ Q r s') pl (by omega) (by omega) (by rw [List.size_toArray, ← hl]; exact h1) (by simpa using ew) ⟨rfl, fin⟩) hs
theorem ix_str : IxR X rIxS := by
  intro value slice pins s σ H x y v u Q I rx ry h hs
  obtain ⟨z, i, c, rfl, rfl, hz, he, q⟩ := h
  obtain ⟨t, rfl⟩ := rx
  obtain ⟨t', rfl⟩ := ry
  obtain ⟨j, h1, h2, h3, h4, h5⟩ := atI_get he
  have hl : z.cps.toList.length = z.length := by simp [Str.length]
  rw [hl] at h1 h4 h5
  have hn := line63
  exact tail_any (typeIs_str s z t) slot_str_getitem.lookup (getItem_str (c := c) (by
    have e1 : decide (i < -(2 ^ 63 : Int)) = false := decide_eq_false (by omega)
    have e2 : decide (i ≥ 2 ^ 63) = false := decide_eq_false (by omega)
    rw [e1, e2, Bool.or_false]) (by rw [h1]; simpa using h2) ⟨.str ⟨#[c]⟩, H, I.tok _, ⟨_, rfl⟩, q⟩) hs
theorem mapSeq_set (its : List Value) (n j : Nat) (u : Value) : Obj.mapSeq (·.setIfInBounds j u) { cls := .type "list", data := .seq its.toArray n } = { cls := .type "list", data := .seq (its.set j u).toArray n } := by
  simp [Obj.mapSeq]
theorem Inv.lst {pins : List (Addr × Obj)} {σ : St} {H : Hp} {s : Shared} {p : Addr} {xs : List V} (I : Inv X pins σ H s) (h : H p = some (.lst xs)) :
    ∃ (its : List Value) (n : Nat), Vals xs its ∧ s.heap.get? p = some { cls := .type "list", data := .seq its.toArray n } ∧ xs.length ≤ sizeLine := by
  obtain ⟨z, its, n, r, e⟩ := I.hok p _ h
  exact ⟨its, n, r, e, z⟩
theorem Inv.lstUpd {pins : List (Addr × Obj)} {σ : St} {H : Hp} {s : Shared} {p : Addr} {xs ys : List V} {its its' : List Value} {n n' : Nat} {f : Obj → Obj} (I : Inv X pins σ H s) (h : H p = some (.lst xs))
    (ho : s.heap.get? p = some { cls := .type "list", data := .seq its.toArray n }) (hf : f { cls := .type "list", data := .seq its.toArray n } = { cls := .type "list", data := .seq its'.toArray n' }) (r : Vals ys its') (hz : ys.length ≤ sizeLine) (t : Nat) :
    Inv X pins σ (upd H p (.lst ys)) { s with heap := s.heap.update p f, toks := t } := by
  have e : (s.heap.update p f).get? p = some { cls := .type "list", data := .seq its'.toArray n' } := by
    rw [Heap.get?_update_self f ho (by rw [hf] <;> rfl), hf]
  refine I.write (x := p) (e := p) (by rw [h]; trivial) (.inl rfl) (fun b u hb q => (Heap.get?_update_other _ _ (Ne.symm hb)).trans q) ⟨_, e⟩ ?_
  exact ⟨hz, its', n', r, e⟩
def rSetL : V → V → V → Hp → (Hp → Prop) → Prop := fun o i v H Q => ∃ p xs k j, o = .ref p ∧ i = .int k ∧ H p = some (.lst xs) ∧ ixN xs.length k = some j ∧ Q (upd H p (.lst (xs.set j v)))
theorem set_list : PSet X rSetL := by
  intro pins s σ H o i v ov iv u Q I ro ri rv h
  obtain ⟨p, xs, k, j, rfl, rfl, hp, hj, q⟩ := h
  cases ro
  obtain ⟨t, rfl⟩ := ri
  obtain ⟨its, n, r, ho, hz⟩ := I.lst hp
  obtain ⟨h1, h2, h3, h4⟩ := ixN_seq hj
  have hl := r.length
  have hn := line63
  have I' : Inv X pins σ (upd H p (.lst (xs.set j v))) { s with heap := s.heap.update p (Obj.mapSeq (·.setIfInBounds j u)) } :=
    I.lstUpd hp ho (mapSeq_set its n j u) (r.set rv j) (by rw [List.length_set]; exact hz) s.toks
  by_cases h0 : 0 ≤ k
  · have hk : k.toNat = j := by
      rw [seqIndex_of h0 h4] at h1
      exact Option.some.inj h1
    exact PySem.W.ki_setAt ho h0 (by omega) (by rw [List.size_toArray, ← hl]; exact h4) (by rw [hk]; exact ⟨_, I', q⟩)
  · have hk : (k + (its.toArray.size : Int)).toNat = j := by
      rw [seqIndex_neg (by omega) h3] at h1
      rw [List.size_toArray, ← hl]
      exact Option.some.inj h1
    exact PySem.W.ki_setBack ho (by omega) (by rw [List.size_toArray, ← hl]; exact h3) (by omega) (by rw [hk]; exact ⟨_, I', q⟩)
theorem slice_bounds (lo hi : Option Int) (n : Nat) : (sliceBounds lo hi none n).1 = ((HT.sIx n 0 lo : Nat) : Int) ∧ (sliceBounds lo hi none n).2.1 = ((HT.sIx n n hi : Nat) : Int) ∧ (sliceBounds lo hi none n).2.2 = 1 := by
  refine ⟨?_, ?_, rfl⟩
  · cases lo with
    | none => simp [sliceBounds, HT.sIx]
    | some i =>
      simp only [sliceBounds, HT.sIx, Option.getD_none, show (1 : Int) > 0 by decide, if_true]
      by_cases h : i < 0
      · simp only [h, if_true] <;> omega
      · simp only [h, if_false] <;> omega
  · cases hi with
    | none => simp [sliceBounds, HT.sIx]
    | some i =>
      simp only [sliceBounds, HT.sIx, Option.getD_none, show (1 : Int) > 0 by decide, if_true]
      by_cases h : i < 0
      · simp only [h, if_true] <;> omega
      · simp only [h, if_false] <;> omega
theorem slicePick_cut (its : List Value) (lo hi : Option Int) : slicePick its.toArray lo hi none = ((its.drop (HT.sIx its.length 0 lo)).take (HT.sIx its.length its.length hi - HT.sIx its.length 0 lo)).toArray := by
  obtain ⟨h1, h2, h3⟩ := slice_bounds lo hi its.toArray.size
  unfold slicePick
  rw [h1, h2, h3]
  simp only [sliceRange_one, pick_run, List.size_toArray] <;> rfl
def rSlL (K : PySem.W.Frag) : V → Option Int → Option Int → Hp → VK → Prop := fun x lo hi H Q => ∃ a xs, x = .ref a ∧ SqL K H a xs ∧ ∀ p, H p = none → Q (.ref p) (upd H p (.lst (cutV xs lo hi)))
theorem sl_list : SlR X (rSlL X.K) := by
  intro pins s σ H x v vl vu lo hi sl Q I rx hs pl pu h
  obtain ⟨a, xs, rfl, hx, q⟩ := h
  cases rx
  obtain ⟨its, r, ht, hz⟩ := I.list hx
  have hlen := r.length
  refine ⟨"list", _, slot_list_getitem.lookup, ht.isList.typeIs, ?_⟩
  refine wpAny_getItem_list_slice ht.isList hs pl pu .none (by simp) ?_ (by rw [List.size_toArray] <;> omega)
  rw [slicePick_cut, ← hlen]
  refine ⟨.ref s.heap.objs.size, _, I.laid (t' := s.toks) (o := .lst (cutV xs lo hi)) (fun b ob q => Heap.get?_push_of_some _ q) (Nat.le_refl _) ?_, rfl, q _ (I.hok.fresh (Nat.le_refl _))⟩
  exact ⟨Nat.le_trans (cutV_length xs lo hi) hz, _, 0, (r.drop (HT.sIx xs.length 0 lo)).take (HT.sIx xs.length xs.length hi - HT.sIx xs.length 0 lo), Heap.get?_push_size _ rfl⟩
theorem call_len_seq : CallR X (.builtin "len") (fun xs H Q => ∃ p ys, xs = [.ref p] ∧ (SqL X.K H p ys ∨ SqT X.K H p ys) ∧ Q (.int ys.length) H) := by
  intro pins s σ H xs us Q I r h
  obtain ⟨p, ys, rfl, hq, q⟩ := h
  obtain ⟨u, rfl, rx⟩ := vals1 r
  cases rx
  have hn := line63
  rcases hq with hq | hq
  · obtain ⟨its, r', pl, hz⟩ := I.list hq
    have hlen := r'.length
    exact Calls.call_len_list pl.isList (by simp only [List.size_toArray] <;> omega) ⟨.int ys.length, H, I.tok _, ⟨s.toks + 1, by rw [List.size_toArray, hlen]⟩, q⟩
  · obtain ⟨its, r', pl, hz⟩ := I.tuple hq
    have hlen := r'.length
    exact len_tuple pl (by simp only [List.size_toArray] <;> omega) ⟨.int ys.length, H, I.tok _, ⟨s.toks + 1, by rw [List.size_toArray, hlen]⟩, q⟩
theorem call_len_str : CallR X (.builtin "len") (fun xs H Q => ∃ z, xs = [.str z] ∧ z.length ≤ sizeLine ∧ Q (.int z.length) H) := by
  intro pins s σ H xs us Q I r h
  obtain ⟨z, rfl, hz, q⟩ := h
  obtain ⟨u, rfl, t, rfl⟩ := vals1 r
  have hn := line63
  exact len_str (by omega) ⟨.int z.length, H, I.tok _, ⟨_, rfl⟩, q⟩
theorem call_tuple_of : CallR X (.type "tuple") (fun xs H Q => ∃ p ys, xs = [.ref p] ∧ ((SqL X.K H p ys ∧ ∀ l, H l = none → Q (.ref l) (upd H l (.tup ys))) ∨ (SqT X.K H p ys ∧ Q (.ref p) H))) := by
  intro pins s σ H xs us Q I r h
  obtain ⟨p, ys, rfl, h⟩ := h
  obtain ⟨u, rfl, rx⟩ := vals1 r
  cases rx
  rcases h with ⟨hq, q⟩ | ⟨hq, q⟩
  · obtain ⟨its, r', pl, hz⟩ := I.list hq
    have hlen := r'.length
    refine call_tuple_list pl.isList (fun h' kp => ?_) (by simp only [List.size_toArray] <;> omega)
    have I1 : Inv X pins σ H { s with heap := h' } := I.kept (t' := s.toks) kp
    have I2 : Inv X pins σ (upd H h'.objs.size (.tup ys)) { s with heap := h'.push { cls := .type "tuple", data := .seq its.toArray } } :=
      I1.laid (t' := s.toks) (fun b o e => Heap.get?_push_of_some _ e) (Nat.le_refl _) (show ObjOk X.prog X.w _ _ _ (.tup ys) from ⟨hz, its, r', IsTup.new _ _⟩)
    exact ⟨.ref h'.objs.size, _, I2, rfl, q _ (I1.hok.fresh (Nat.le_refl _))⟩
  · obtain ⟨its, r', pl, hz⟩ := I.tuple hq
    exact call_tuple_same pl ⟨.ref p, H, I, rfl, q⟩
def tyV (K : PySem.W.Frag) (T : String) (x : V) (H : Hp) : Prop := match x with
  | .str _ => T = "str"
  | .int _ => T = "int"
  | .ref p => (T = "list" ∧ ∃ xs, SqL K H p xs) ∨ (T = "tuple" ∧ ∃ o, K.lookup p = some o ∧ o.cls = .type "tuple" ∧ o.dict = none) ∨
      (T = "dict" ∧ ((∃ kvs, H p = some (.dK kvs)) ∨ ∃ kvs, H p = some (.dT kvs))) ∨ (T = "set" ∧ ∃ S n, H p = some (.set S n))
  | _ => False
theorem tyV_is {pins : List (Addr × Obj)} {σ : St} {H : Hp} {s : Shared} {T : String} {x : V} {v : Value} (I : Inv X pins σ H s) (r : RelV x v) (ty : tyV X.K T x H) :
    s.TypeIs v T ∧ ∀ a, v = .ref a → ∃ ob, s.heap.get? a = some ob ∧ ob.dict = none := by
  cases x with
  | str z =>
    obtain ⟨t, rfl⟩ := r
    cases (show T = "str" from ty)
    exact ⟨typeIs_str s z t, fun _ e => nomatch e⟩
  | int i =>
    obtain ⟨t, rfl⟩ := r
    cases (show T = "int" from ty)
    exact ⟨typeIs_int s i t, fun _ e => nomatch e⟩
  | ref p =>
    cases r
    rcases ty with ⟨rfl, xs, hq⟩ | ⟨rfl, o, hk, hc, hd⟩ | ⟨rfl, hk⟩ | ⟨rfl, S, n, hk⟩
    · obtain ⟨its, _, pl, _⟩ := I.list hq
      refine ⟨pl.isList.typeIs, fun a e => ?_⟩
      cases e
      obtain ⟨o, n, e, c, hd, _⟩ := pl
      exact ⟨o, e, hd⟩
    · refine ⟨⟨o, I.kIn p o hk, hc⟩, fun a e => ?_⟩
      cases e
      exact ⟨o, I.kIn _ o hk, hd⟩
    · have z : ∃ o, s.heap.get? p = some o ∧ o.ExactDict := by
        rcases hk with ⟨kvs, hk⟩ | ⟨kvs, hk⟩
        · obtain ⟨_, _, _, _, o, _, _, e, ex, _⟩ := I.hok p _ hk
          exact ⟨o, e, ex⟩
        · obtain ⟨_, _, _, _, o, _, _, e, ex, _⟩ := I.hok p _ hk
          exact ⟨o, e, ex⟩
      obtain ⟨o, e, ex⟩ := z
      refine ⟨⟨o, e, ex.1⟩, fun a e2 => ?_⟩
      cases e2
      exact ⟨o, e, ex.2.1⟩
    · obtain ⟨o, _, _, _, e, ex, _⟩ := I.hok p _ hk
      refine ⟨⟨o, e, ex.1⟩, fun a e2 => ?_⟩
      cases e2
      exact ⟨o, e, ex.2.1⟩
  | _ => exact False.elim ty
def tBM0 (K : PySem.W.Frag) (T : String) (r : V → List V → Hp → VK → Prop) (to : TE) : TE := fun σ H Q => to σ H fun x H1 => tyV K T x H1 ∧ r x [] H1 Q
def tBM (K : PySem.W.Frag) (T : String) (r : V → List V → Hp → VK → Prop) (to : TE) (t : TA) : TE := fun σ H Q => to σ H fun x H1 => tyV K T x H1 ∧ t σ H1 fun xs H2 => r x xs H2 Q
variable {o e : Expr} {es : List Expr} {to : TE} {t : TA} {name : Str} {apos cpos : Pos} {T id : String} {r : V → List V → Hp → VK → Prop}
theorem pe_bm0 (pa : PlainAttrs T) (slot : Slot T name id) (hty : typeOf (.builtin id) = pure (.type "method_descriptor")) (hm : MtR X id r) (ho : PE X o to)
    (hbase : attributeBase o name X.env (eval o X.env) = eval o X.env := by rfl) (hline : (apos.endLine == cpos.line) = true := by rfl) : PE X (.Call (.Attribute o name apos) [] [] cpos) (tBM0 X.K T r to) := by
  intro pins s σ H Q I h
  refine wpAny_Call_method0_late hbase hline (thn (ho pins s σ H _ I h) fun v s1 ⟨x, H1, I1, r1, ty, q1⟩ => ?_)
  obtain ⟨h1, h2⟩ := tyV_is I1 r1 ty
  exact ⟨T, id, pa, slot, hty, h1, h2, Calls.callWith_builtin rfl (PySem.evalArgs_none (hm pins s1 σ H1 x [] v [] Q I1 r1 .nil q1))⟩
theorem pe_bm (pa : PlainAttrs T) (slot : Slot T name id) (hty : typeOf (.builtin id) = pure (.type "method_descriptor")) (hm : MtR X id r) (ho : PE X o to) (ha : PA X (e :: es) t)
    (hbase : attributeBase o name X.env (eval o X.env) = eval o X.env := by rfl)
    (hfew : ((backTo cpos (starEach (e :: es) X.env)).all (fun x => !x.1) && (backToKw cpos (keywordEach [] X.env)).all (fun x => x.1.isSome)
      && decide ((e :: es).length + ([] : List Keyword).length + (if ([] : List Keyword).isEmpty then 0 else 1) < 30)) = true := by rfl)
    (hline : (apos.endLine == cpos.line) = true := by rfl) (hs : starEach (e :: es) X.env = (false, eval e X.env) :: starEach es X.env := by rfl) (hplain : (backTo cpos (starEach es X.env)).any (·.1) = false := by rfl) :
    PE X (.Call (.Attribute o name apos) (e :: es) [] cpos) (tBM X.K T r to t) := by
  intro pins s σ H Q I h
  refine wpAny_Call_method_late hbase hfew hline rfl (thn (ho pins s σ H _ I h) fun v s1 ⟨x, H1, I1, r1, ty, q1⟩ => ?_)
  obtain ⟨h1, h2⟩ := tyV_is I1 r1 ty
  refine ⟨T, id, pa, slot, hty, h1, h2, ?_⟩
  have hA := ha cpos pins s1 σ H1 _ I1 q1
  rw [hs] at hA ⊢
  refine Calls.callWith_builtin (by show (false || (backTo cpos (starEach es X.env)).any (·.1)) = false; rw [hplain] <;> rfl) (Calls.evalArgs_plain ?_)
  exact thn hA fun us s2 ⟨vs, H2, I2, r2, q2⟩ => hm pins s2 σ H2 x vs v us Q I2 r1 r2 q2
/- xs.append(e), list.index on a module's tuple .. are MtR facts of 06m -/
end
end L2
namespace L2
open PySem PySem.Spec PyProof.Rows
def MtM (X : Cx) (id : String) (r : V → List V → Hp → VK → Prop) : Prop :=
  ∀ (pins : List (Addr × Obj)) (s : Shared) (σ : St) (H : Hp) (x : V) (xs : List V) (v : Value) (us : List Value) (Q : VK), Inv X pins σ H s → RelV x v → Vals xs us → r x xs H Q →
    wpAny (model X.prog X.w) X.A (call (.builtin id) (v :: us)) (EP X pins σ Q) X.xe s
theorem Vals.one : ∀ {x : V} {us : List Value}, Vals [x] us → ∃ u, us = [u] ∧ RelV x u
  | _, _, .cons r .nil => ⟨_, rfl, r⟩
theorem Vals.zero : ∀ {us : List Value}, Vals [] us → us = []
  | _, .nil => rfl
theorem Vals.dropLast {xs : List V} {us : List Value} (h : Vals xs us) : Vals xs.dropLast us.dropLast := by
  induction h with
  | nil => exact .nil
  | cons r t ih =>
    cases t with
    | nil => exact .nil
    | cons q t' => exact .cons r ih
theorem Vals.rep {xs : List V} {us : List Value} (h : Vals xs us) : ∀ k : Nat, Vals (List.replicate k xs).flatten (List.replicate k us).flatten
  | 0 => .nil
  | k + 1 => by
    rw [List.replicate_succ, List.replicate_succ, List.flatten_cons, List.flatten_cons]
    exact Vals.append h (Vals.rep h k)
theorem erase_last {α : Type} (l : List α) : l.eraseIdx (l.length - 1) = l.dropLast := by
  induction l with
  | nil => rfl
  | cons a r ih =>
    cases r with
    | nil => rfl
    | cons b r =>
      have e : (a :: b :: r).length - 1 = ((b :: r).length - 1) + 1 := by
        have h1 : (a :: b :: r).length = r.length + 2 := rfl
        have h2 : (b :: r).length = r.length + 1 := rfl
        omega
      rw [e, List.eraseIdx_cons_succ, ih]
      all_goals rfl
theorem foldl_rep (its : List Value) : ∀ (k : Nat) (acc : List Value),
    List.foldl (fun x1 x2 => x1 ++ x2) acc.toArray (List.replicate k its.toArray) = (acc ++ (List.replicate k its).flatten).toArray
  | 0, acc => by simp
  | k + 1, acc => by
    have e : acc.toArray ++ its.toArray = (acc ++ its).toArray := by simp
    have e2 : (acc ++ its) ++ (List.replicate k its).flatten = acc ++ (List.replicate (k + 1) its).flatten := by
      rw [List.replicate_succ, List.flatten_cons, List.append_assoc]
    rw [← e2, ← foldl_rep its k (acc ++ its), ← e, List.replicate_succ, List.foldl_cons]
section
variable {X : Cx} {pins : List (Addr × Obj)} {σ : St} {H : Hp} {s : Shared} {l b : Addr} {xs ys zs : List V}
theorem Inv.lset {its its' : List Value} {n : Nat} {f : Array Value → Array Value} {t' : Nat} (I : Inv X pins σ H s) (hH : H l = some (.lst xs))
    (e : s.heap.get? l = some { cls := .type "list", data := .seq its.toArray n }) (hf : f its.toArray = its'.toArray) (hv : Vals ys its') (hz : ys.length ≤ sizeLine) :
    Inv X pins σ (upd H l (.lst ys)) { s with heap := s.heap.update l (Obj.mapSeq f), toks := t' } := by
  have q := PySem.IsL.update e f
  rw [hf] at q
  refine I.write (x := l) (e := l) (by rw [hH]; exact trivial) (.inl rfl) (fun b' u hb hu => (Heap.get?_update_other s.heap (Obj.mapSeq f) (Ne.symm hb)).trans hu) ⟨_, q⟩ ?_
  exact ⟨hz, its', _, hv, q⟩
theorem Inv.lnew {its : List Value} {t' : Nat} (I : Inv X pins σ H s) (hv : Vals ys its) (hz : ys.length ≤ sizeLine) :
    Inv X pins σ (upd H s.heap.objs.size (.lst ys)) { s with heap := s.heap.push { cls := .type "list", data := .seq its.toArray }, toks := t' } :=
  I.laid (fun _ _ q => Heap.get?_push_of_some _ q) (Nat.le_refl _) ⟨hz, its, 0, hv, Heap.get?_push_size _ rfl⟩
theorem Inv.fresh (I : Inv X pins σ H s) : H s.heap.objs.size = none := I.hok.fresh (Nat.le_refl _)
theorem Inv.lstM (I : Inv X pins σ H s) (hH : H l = some (.lst xs)) : xs.length ≤ sizeLine ∧ ∃ (its : List Value) (n : Nat), Vals xs its ∧ xs.length = its.length ∧ s.heap.get? l = some { cls := .type "list", data := .seq its.toArray n } := by
  obtain ⟨z, its, n, r, e⟩ := I.hok l _ hH
  exact ⟨z, its, n, r, r.length, e⟩
theorem notLongL {n : Nat} (h : n ≤ sizeLine) : Builtin.List.listTooLong n = false := by
  unfold Builtin.List.listTooLong
  exact decide_eq_false (by omega)
end
section
variable {X : Cx}
def rAppend : V → List V → Hp → VK → Prop := fun x vs H Q => ∃ l xs y, x = .ref l ∧ vs = [y] ∧ H l = some (.lst xs) ∧ xs.length < sizeLine ∧ Q .non (upd H l (.lst (xs ++ [y])))
theorem mt_append : MtM X "list.append" rAppend := by
  intro pins s σ H x vs v us Q I rx rv h
  obtain ⟨l, xs, y, rfl, rfl, hH, hz, q⟩ := h
  cases rx
  obtain ⟨u, rfl, ru⟩ := rv.one
  obtain ⟨z, its, n, r, hl, e⟩ := I.lstM hH
  refine call_meets F.slot_list_append ⟨_, e, rfl⟩ F.entry_list_append (F.args_list_append_2 _ _) (PySem.list_append l its.toArray n u (by rw [List.size_toArray]; omega)) ⟨e, ?_⟩
  refine ⟨.non, _, I.lset (its' := its ++ [u]) hH e (by simp) (r.append (.cons ru .nil)) ?_, rfl, q⟩
  rw [List.length_append, List.length_singleton]
  omega
def rPop : V → List V → Hp → VK → Prop := fun x vs H Q => ∃ l xs y, x = .ref l ∧ vs = [] ∧ H l = some (.lst xs) ∧ xs[xs.length - 1]? = some y ∧ Q y (upd H l (.lst xs.dropLast))
theorem mt_pop : MtM X "list.pop" rPop := by
  intro pins s σ H x vs v us Q I rx rv h
  obtain ⟨l, xs, y, rfl, rfl, hH, hy, q⟩ := h
  cases rx
  have hus := rv.zero
  subst hus
  obtain ⟨z, its, n, r, hl, e⟩ := I.lstM hH
  obtain ⟨u, hu, ru⟩ := r.get hy
  have hy' : its.toArray[its.toArray.size - 1]? = some u := by
    show its.toArray[its.length - 1]? = some u
    rw [← Array.getElem?_toList, ← hl]
    exact hu
  refine call_meets F.slot_list_pop ⟨_, e, rfl⟩ F.entry_list_pop (F.args_list_pop_1 _) (MeetsSeq.list_pop_last l its.toArray n u hy' (by rw [List.size_toArray]; omega)) ⟨e, ?_⟩
  refine ⟨y, _, I.lset (its' := its.dropLast) hH e ?_ r.dropLast ?_, ru, q⟩
  · show its.toArray.eraseIdxIfInBounds (its.toArray.size - 1) = its.dropLast.toArray
    rw [List.size_toArray, List.eraseIdxIfInBounds_toArray, erase_last]
  · rw [List.length_dropLast]
    omega
def rRep : R2 := fun x y H Q => ∃ l k xs, x = .ref l ∧ y = .int k ∧ H l = some (.lst xs) ∧ -(2 ^ 63) ≤ k ∧ k < 2 ^ 63 ∧ xs.length * k.toNat ≤ sizeLine ∧
  ∀ p, H p = none → Q (.ref p) (upd H p (.lst (List.replicate k.toNat xs).flatten))
theorem len_rep {α : Type} (xs : List α) (k : Nat) : (List.replicate k xs).flatten.length = k * xs.length := by
  induction k with
  | zero => simp
  | succ k ih => rw [List.replicate_succ, List.flatten_cons, List.length_append, ih, Nat.succ_mul, Nat.add_comm]
theorem op_rep : OpR X (binaryOp .Mult) rRep := by
  intro pins s σ H x y v u Q I rx ry h
  obtain ⟨l, k, xs, rfl, rfl, hH, h1, h2, hz, q⟩ := h
  cases rx
  obtain ⟨t, rfl⟩ := ry
  obtain ⟨z, its, n, r, hl, e⟩ := I.lstM hH
  have hlen : its.toArray.size * k.toNat ≤ sizeLine := by rw [List.size_toArray, ← hl]; exact hz
  have hcap : ¬ its.toArray.size * k.toNat > (2 ^ 63 - 1) / 8 := by
    have : (sizeLine : Nat) ≤ (2 ^ 63 - 1) / 8 := by decide
    omega
  have hfit : ¬ (!Builtin.List.listFitsIndex k) = true := by
    rw [fitsIndex_both h1 h2]
    exact Bool.false_ne_true
  have hlong : ¬ Builtin.List.listTooLong (its.toArray.size * k.toNat) = true := by
    rw [notLongL hlen]
    exact Bool.false_ne_true
  have hnew : List.foldl (fun x1 x2 => x1 ++ x2) #[] (List.replicate (if its.toArray.isEmpty = true then 0 else k.toNat) its.toArray) = (List.replicate k.toNat its).flatten.toArray := by
    have f0 : ∀ m : Nat, List.foldl (fun x1 x2 => x1 ++ x2) #[] (List.replicate m its.toArray) = (List.replicate m its).flatten.toArray := fun m => by
      have := foldl_rep its m []
      rw [List.nil_append] at this
      exact this
    rw [f0]
    cases its with
    | nil => simp
    | cons a r' => rw [if_neg (by simp)]
  refine wpAny_binaryOp_repeat_ref (T := "list") (U := "int") (by decide) ⟨_, e, rfl⟩ (fun s' => typeIs_int s' k t) noFill_list_mul F.fills_int_mul F.slot_int_rmul repeat_list F.slot_int_index.lookup
    (call_meets F.slot_int_rmul (typeIs_int s k t) F.entry_int_rmul (F.args_int_rmul_2 _ _) (int___rmul___int_list k t l its.toArray n)
      ⟨e, rfl, ⟨_, e, rfl⟩, call_meets F.slot_list_mul ⟨_, e, rfl⟩ F.entry_list_mul (F.args_list_mul_2 _ _) (AutoListH.list___mul___list_int_3 l its.toArray n k t hfit hcap hlong) ⟨e, ?_⟩⟩)
  rw [hnew]
  exact ⟨.ref _, _, I.lnew (t' := s.toks) (r.rep k.toNat) (by rw [len_rep, Nat.mul_comm]; exact hz), rfl, q _ I.fresh⟩
end
section
variable {prog : Program} {w : World} {A : Around} {E : Value → Shared → Prop} {s : Shared}
set_option maxRecDepth 100000 in
end
section
variable {X : Cx}
end
end L2
namespace Att
open PySem PySem.W PySem.Calls PyProof.Rows
theorem ints_of_wellAll {P : Params} {h : Heap} : ∀ (ns : List Int) (vs : List Value), WellAll P h vs (ns.map WData.int) → IntsAre vs ns := by
  intro ns
  induction ns with
  | nil =>
    intro vs w
    rw [List.map_nil] at w
    cases w
    exact .nil
  | cons n ns ih =>
    intro vs w
    rw [List.map_cons] at w
    cases w with
    | cons a b =>
      cases a
      exact .cons _ _ (ih _ b)
theorem script_of {l : OpenLaw} {n : Nat} (hn : l.most = some n) {P : Params} {h : Heap} {args : List WData} {vals : List Value}
    (hpre : l.row.toRowW.claim.pre args = true) (hwl : WellAll P h vals args) :
    ∃ a vs ns, vals = [Value.ref a] ∧ args = [WData.list (ns.map WData.int)] ∧ h.get? a = some { cls := .type "list", data := .seq vs.toArray } ∧ IntsAre vs ns ∧ ns.length ≤ n := by
  have hsh : WShape.hasAll [] args [.list .int] = true := (pre_splitW hpre).1
  have hc : l.pre.holds [] { args := args } = true := (pre_splitW hpre).2
  obtain ⟨d, r, rfl, h1, h2⟩ := hasAllW_cons hsh
  obtain rfl := hasAllW_nil h2
  obtain ⟨xs, rfl, h3⟩ := hasW_list h1
  obtain ⟨ns, rfl⟩ := items_int h3
  have hlen : ns.length ≤ n := by
    unfold OpenLaw.pre at hc
    have h4 : (WTm.not (.lt (.lit (.int (n : Int))) (.len (.arg 0)))).holds [] { args := [.list (ns.map .int)] } = true := by
      have h4 := (holds_andW hc).1
      rw [hn] at h4
      exact h4
    have h5 := condW_of h4 (w_not (w_lt w_lit (w_len_list (w_arg rfl))))
    rw [List.length_map] at h5
    refine Nat.le_of_not_lt fun q => ?_
    have q' : (n : Int) < ((ns.length : Nat) : Int) := by omega
    first
      | (rw [decide_eq_true q'] at h5; exact absurd h5 (by decide))
      | (simp at h5; omega)
  cases hwl with
  | cons w1 w2 =>
    cases w2
    cases w1 with
    | list ho hall => exact ⟨_, _, ns, rfl, rfl, ho, ints_of_wellAll ns _ hall, hlen⟩
theorem post_true (l : OpenLaw) (args : List WData) : l.row.toRowW.claim.post args (.bool true) args = true :=
  postW_of (r := l.row.toRowW) (X := (true == true))
    (show WShape.has [] (.bool true) .bool = true by first | rfl | decide | simp [WShape.has, WShape.arms, WShape.armsAll])
    (show (WTm.eq .res (.lit (.bool true))).value [] { args := args, res := some (.bool true), after := args } = some (.bool (true == true)) from w_eq_bool (w_res rfl) w_lit) rfl
theorem attach_call {l : OpenLaw} {n : Nat} {q : Program} {loose : List Str} {XP : (Str → Option Value) → Heap → Prop} {YP : World → Heap → Prop} {d : DefRec}
    (hn : l.most = some n) (hdf : d.params.defaults = [])
    (call : ∀ (w : World) (s₀ s₁ : Shared) (mg mb : Str → Option Value) (fa : Addr) (o : Obj) (pm cd doc : Value) (a : Addr) (vs : List Value) (ns : List Int),
      Ground q loose [] XP w s₀ mg mb s₁.heap → YP w s₁.heap →
      s₁.heap.get? fa = some o → o.data = .func (docDef d.name d.params d.body d.scope pm cd doc) → s₁.heap.CodeRec cd d.name → mg d.name = some (.ref fa) →
      s₁.heap.get? a = some { cls := .type "list", data := .seq vs.toArray } → IntsAre vs ns → ns.length ≤ n → s₁.gens = #[] →
      codeAny (model l.prog w) callerA (.call (.ref fa) ⟨[.ref a], []⟩) (fun r s' => r = .ok (.ret (.bool true)) ∧ OldK s₁.heap s'.heap ∧ s'.os = s₁.os ∧ AllBare s'.gens) s₁) :
    WalkO q loose XP YP l.row.toRowW d [] (fun f vs => PySem.call f vs) := by
  intro w s₀ s₁ mg mb G Y fa o pm cd doc dV kV ho hd hcd hD hmg hg args vals as hpre hlay hrd hwl hlo
  obtain rfl : dV = .none := Dflts.none hD hdf
  obtain rfl : kV = .none := Dflts.noKw hD
  obtain ⟨a, vs, ns, rfl, rfl, hobj, hints, hlen⟩ := script_of hn hpre hwl
  refine enter_call (codeAny_mono (call w s₀ s₁ mg mb fa o pm cd doc a vs ns G Y ho (fd_plain hd) hcd hmg hobj hints hlen hg) fun r s' hq => ?_)
  obtain ⟨rfl, h2, h3, h4⟩ := hq
  exact ⟨.inl ⟨.bool true, .bool true, [], rfl, fun _ => rfl, .bool true, post_true l _, fun _ => ⟨List.Pairwise.nil, fun _ hm => (nomatch hm)⟩⟩, h2, h3, h4⟩
section
variable {prog : Program} {w : World} {A : Around} {E : Value → Shared → Prop} {s : Shared} {K : Frag}
def ledger (h : Heap) (L d : Addr) : List (Addr × Obj) := (List.range h.objs.size).filterMap fun a => if a = L ∨ a = d then none else (h.get? a).map fun o => (a, o)
end
end Att
namespace L2
open PySem PySem.Spec PyProof.Rows
theorem vals_ints : ∀ {vs : List Value} {ns : List Int}, IntsAre vs ns → Vals (ns.map V.int) vs
  | _, _, .nil => .nil
  | _, _, .cons n t h => .cons ⟨t, rfl⟩ (vals_ints h)
def Only (H : Hp) : Prop := ∀ b, H b = none ∨ ∃ o xs, H b = some (.frz o (.lst xs))
theorem law_call {P : Program} {w : World} {K : PySem.W.Frag} {mg mb : Str → Option Value} {CX : CXT} {k : Nat} {fa a : Addr} {fd : FuncData} {x : Str} {sp : Sp} {s₁ : Shared} {vs : List Value} {ns : List Int}
    (KX : K.In s₁.heap) (hns : s₁.heap.Ns mainGlobals mg) (hb : s₁.heap.Ns builtinsNs mb) (hbb : ∀ x : Str, x ≠ "__name__" → mb x = bootBuiltins x) (hlim : s₁.heap.NoLimit) (hg : s₁.gens = #[])
    (ha : s₁.heap.get? a = some { cls := .type "list", data := .seq vs.toArray }) (hi : IntsAre vs ns) (hl : ns.length ≤ sizeLine) (hr : Room k callerA)
    (F : ∀ base : Heap, K.In base → base.Ns mainGlobals mg → FnOk P w K mg base CX k fa fd [x] sp) (hbind : ∀ (s : Shared) (u : Value), BindsTo s fd ⟨[u], []⟩ [(x, u)])
    (hsp : ∀ H : Hp, Only H → SqL K H a (ns.map V.int) → sp [.ref a] H (fun v _ => v = .bl true) fun _ _ _ => False)
    (hCX : ∀ H e s', CX [] H s₁ (fun _ _ _ => False) e s' → False) :
    codeAny (model P w) callerA (.call (.ref fa) ⟨[.ref a], []⟩) (fun r s' => r = .ok (.ret (.bool true)) ∧ OldK s₁.heap s'.heap ∧ s'.os = s₁.os ∧ AllBare s'.gens) s₁ := by
  have rv := vals_ints hi
  have lenV := hi.length
  have core : ∀ H : Hp, Only H → SqL K H a (ns.map V.int) → HOk P w H s₁.heap → (∀ b, H b ≠ none → b = a) → (H a ≠ none → K.lookup a = none) →
      codeAny (model P w) callerA (.call (.ref fa) ⟨[.ref a], []⟩) (fun r s' => r = .ok (.ret (.bool true)) ∧ OldK s₁.heap s'.heap ∧ s'.os = s₁.os ∧ AllBare s'.gens) s₁ := by
    intro H hO hS hok hA hK
    have base_of : ∀ {b : Addr} {o : Obj}, s₁.heap.get? b = some o → H b = none → (hidT s₁.heap H).get? b = some o := fun e n => hidT_get e n
    have noA : ∀ {b : Addr} {o : Obj} {es : Array DictEntry} {ep : Nat}, s₁.heap.get? b = some o → o.data = .dict es ep → H b = none := fun {b o es ep} e d => by
      cases q : H b with
      | none => rfl
      | some u =>
        have e' : b = a := hA b (by rw [q]; simp)
        subst e'
        rw [ha] at e; cases e
        have d' : Data.seq vs.toArray _ = Data.dict es ep := d
        cases d'
    have nsK : ∀ {b : Addr} {m : Str → Option Value}, s₁.heap.Ns b m → (hidT s₁.heap H).Ns b m := fun {b m} ⟨o, es, ep, e, d, r⟩ => ⟨o, es, ep, base_of e (noA e d), d, r⟩
    have hKb : K.In (hidT s₁.heap H) := fun b o e => base_of (KX b o e) (by
      cases q : H b with
      | none => rfl
      | some u =>
        have e' : b = a := hA b (by rw [q]; simp)
        subst e'
        rw [hK (by rw [q]; simp)] at e; cases e)
    have hM : Mod K mg (hidT s₁.heap H) := ⟨hKb, nsK hns, ⟨mb, nsK hb, hbb⟩, let ⟨mc, h1, h2⟩ := hlim; ⟨mc, nsK h1, h2⟩⟩
    have e0 : Env0 P w K mg (hidT s₁.heap H) callerA [] s₁ H := ⟨rfl, hM, fun b o e => of_hidT e, Nat.le_of_eq (hidT_size _ _), trivial, fun b hb => absurd (show b ∈ ([] : List Addr) from hb) (by simp), hok, .of_eq hg⟩
    refine codeAny_mono ((F _ hKb (nsK hns)).run callerA [] s₁ H ⟨[.ref a], []⟩ [.ref a] [.ref a] _ _ hr e0 (hbind s₁ (.ref a)) (.cons rfl .nil) (hsp H hO hS)) fun r s' h => ?_
    cases r with
    | error e => exact (hCX H e s' h).elim
    | ok fl =>
      cases fl with
      | next => exact False.elim h
      | brk => exact False.elim h
      | cont => exact False.elim h
      | ret u =>
        obtain ⟨v, H', os, bare, un, hok', r', q⟩ := h
        have q' : v = .bl true := q
        subst q'
        obtain rfl : u = Value.bool true := r'
        refine ⟨rfl, OldK.of_keep fun b o e => ?_, os, bare⟩
        cases q : H b with
        | none => exact un.keep b o e q (by intro z; exact absurd (show b ∈ ([] : List Addr) from z) (by simp)) (by simp)
        | some u =>
          rcases hO b with z | ⟨ob, xs, z⟩
          · rw [q] at z; cases z
          · have z2 := un.frzs b ob _ z
            obtain ⟨e1, _⟩ := hok b _ z
            obtain ⟨e2, _⟩ := hok' b _ z2
            rw [e] at e1; cases e1
            exact e2
  cases hk : K.lookup a with
  | some o =>
    have e := KX a o hk
    rw [ha] at e
    cases e
    refine core (fun _ => none) (fun _ => .inl rfl) (.inr ⟨_, vs.toArray, _, hk, rfl, rfl, rfl, by rw [List.size_toArray, lenV]; exact hl, by simpa using rv⟩) (fun b u z => by have z' : (none : Option HO) = some u := z; cases z') (fun b z => absurd rfl z) fun z => absurd rfl z
  | none =>
    refine core (fun b => if b = a then some (.frz { cls := .type "list", data := .seq vs.toArray } (.lst (ns.map V.int))) else none) (fun b => ?_) (.inl (.inr ⟨{ cls := .type "list", data := .seq vs.toArray }, if_pos rfl⟩)) (fun b u z => ?_) (fun b z => ?_) fun _ => hk
    · by_cases hb : b = a
      · exact .inr ⟨_, _, if_pos hb⟩
      · exact .inl (if_neg hb)
    · by_cases hb : b = a
      · have z' := (if_pos hb).symm.trans z
        cases z'
        subst hb
        exact ⟨ha, by rw [List.length_map]; exact hl, vs, _, rv, ha⟩
      · have z' := (if_neg hb).symm.trans z
        cases z'
    · by_cases hb : b = a
      · exact hb
      · exact absurd (if_neg hb) z
end L2
namespace L2
open PySem PySem.Spec PyProof.Rows
abbrev KOf {K : PySem.W.Frag} {h : Heap} (_ : K.In h) : PySem.W.Frag := K
theorem walk_of {l : PySem.W.OpenLaw} {n k : Nat} {q : Program} {loose : List Str} {XP : (Str → Option Value) → Heap → Prop} {YP : World → Heap → Prop} {d : DefRec} {K : Params → PySem.W.Frag} {CX : World → CXT} {sp : World → Sp} {x : Str}
    (hn : l.most = some n) (hn2 : n ≤ sizeLine) (hdf : d.params.defaults = []) (hr : Room k callerA)
    (hY : ∀ (w : World) (h : Heap), YP w h → (K w.params).In h)
    (F : ∀ (w : World) (mg : Str → Option Value) (fa : Addr) (h : Heap), (K w.params).In h → h.Ns mainGlobals mg → mg d.name = some (.ref fa) →
      ∃ fd : FuncData, (∀ (s : Shared) (u : Value), BindsTo s fd ⟨[u], []⟩ [(x, u)]) ∧
        ∀ base : Heap, (K w.params).In base → base.Ns mainGlobals mg → FnOk l.prog w (K w.params) mg base (CX w) k fa fd [x] (sp w))
    (hsp : ∀ (w : World) (H : Hp) (a : Addr) (ns : List Int), ns.length ≤ n → Only H → SqL (K w.params) H a (ns.map V.int) → sp w [.ref a] H (fun v _ => v = .bl true) fun _ _ _ => False)
    (hCX : ∀ (w : World) (H : Hp) (s : Shared) (e : Value) (s' : Shared), CX w [] H s (fun _ _ _ => False) e s' → False) :
    PySem.W.WalkO q loose XP YP l.row.toRowW d [] (fun f vs => PySem.call f vs) := by
  refine Att.attach_call hn hdf fun w s₀ s₁ mg mb fa o pm cd doc a vs ns G Y ho hd hcd hmg hobj hints hlen hg => ?_
  have KX := hY w _ Y
  obtain ⟨fd, hb, hF⟩ := F w mg fa _ KX G.T.g hmg
  exact law_call KX G.T.g G.T.b G.T.builtins G.T.nolimit hg hobj hints (Nat.le_trans hlen hn2) hr hF hb (fun H hO hS => hsp w H a ns hlen hO hS) fun H e s' => hCX w H s₁ e s'
end L2
/- THE LAST THEOREM (shape; LID, My.* are yours):
   My.Adr: a structure of the addresses that your layer names (classes, functions); My.Txt K t: a structure (Prop) of the equations over K;
   My.txt_mk : {K} {implicit addresses ..} (e1 : nsIn K mainGlobals "law" = some (some (.ref f))) (e2 : K.lookup f = some ⟨oc, od, .func (fnOf "law" "law" params body scope dV kV doc pm an cdv ct), sl⟩) (e3 : codeIn K cdv "law" = true) .. : ∃ t, My.Txt K t
set_option maxRecDepth 100000 in
set_option maxHeartbeats 0 in
theorem PySem.Challenge.cw_LID_holds : PySem.Challenge.rw_LID.Holds := by
  w_on; o_law; k_head; (case hw => w_witness2)
  k_fill
  refine L2.walk_of (l := PySem.Challenge.rw_LID) (n := 63) (k := 40) (x := "script") (CX := fun w => ..) (sp := fun _ => My.sp_law) rfl (by decide) rfl ⟨rfl, by decide, by decide⟩ (fun w h Y => PySem.W.kIn_of Y) ?F ?S ?C
  case F =>
    intro w mg fa h KX G hmg
    have T : ∃ t, My.Txt (L2.KOf KX) t := by
      dsimp only [L2.KOf]                          -- K must stand as «<heap const> w.params» for k_is
      refine' My.txt_mk ?e1 ?e2 ?e3 ..
      (case e1 => PySem.W.k_is)                    -- in the order: a name -> its address -> its object -> its parts
      (case e2 => PySem.W.k_is)
      ..
    obtain ⟨t, T⟩ := T
    have e0 := hmg.symm.trans (PySem.W.mg_of KX G T.law)
    cases e0                                       -- fa is the law's own address
    exact ⟨_, fun s u => .of_eq rfl, fun base kb nb => My.law_fn T kb nb⟩     -- if «.of_eq rfl» comes too early: refine' ⟨_, ?b, fun base kb nb => My.law_fn T kb nb⟩; exact fun s u => .of_eq rfl
  case S => exact fun w H a ns hl hO hS => ..
  case C => exact ..
(the tactic k_is has no namespace: write k_is) -/
namespace L2
open PySem PySem.Spec PyProof.Rows
def inClass (s : Stmt) (j : Nat) : Stmt := match s with
  | .ClassDef _ _ _ body _ _ _ _ _ _ _ => body.getD j (.Pass ⟨0, 0, 0, 0⟩)
  | _ => .Pass ⟨0, 0, 0, 0⟩
def defArgs (s : Stmt) : Arguments := match s with
  | .FunctionDef _ a _ _ _ _ _ _ _ _ => a
  | _ => { posonlyargs := [], args := [], vararg := none, kwonlyargs := [], kw_defaults := [], kwarg := none, defaults := [] }
def defBody (s : Stmt) : List Stmt := match s with
  | .FunctionDef _ _ b _ _ _ _ _ _ _ => b
  | _ => []
def defScope (s : Stmt) : Scope := match s with
  | .FunctionDef _ _ _ _ _ _ sc _ _ _ => sc
  | _ => { kind := .function, names := [], isGenerator := false, isCoroutine := false }
abbrev CX0 : CXT := fun _ _ _ _ _ _ => False
abbrev E0 : XK := fun _ _ _ => False
theorem pass0 {X : Cx} : Passes CX0 X E0 := fun _ _ _ _ _ _ _ h => h.elim
structure Fun (K : PySem.W.Frag) (x qual : Str) (st : Stmt) (f : Addr) (fd : FuncData) : Prop where
  ex : ∃ (oc : Value) (od : Option Addr) (kV doc pm : Value) (an : Option Addr) (cdv ct : Value) (osl : Array (Option Value)),
    fd = PySem.W.fnOf x qual (defArgs st) (defBody st) (defScope st) .none kV doc pm an cdv ct ∧ K.lookup f = some ⟨oc, od, .func fd, osl⟩ ∧ PySem.W.codeIn K cdv qual = true
  kp : PySem.W.keepIn K (.ref f) = true
section
variable {P : Program} {w : World} {K : PySem.W.Frag} {mg : Str → Option Value} {base : Heap}
theorem Fun.ok {x qual : Str} {st : Stmt} {f : Addr} {fd : FuncData} {N ps : List Str} {k : Nat} {sp : Sp} (F : Fun K x qual st f fd) (S : FnScope N ps (defScope st)) (len : ∀ vs H Q E, sp vs H Q E → vs.length = ps.length)
    (hbody : ∀ (cdv : Value) (A : Around) (outer : List Env) (s : Shared) (H : Hp) (vs : List V) (Q : VK) (E : XK), Room k (A.deeper (envOfC qual (defScope st) s.heap.objs.size f cdv)) → sp vs H Q E →
      ∃ t, PSs (cxOf CX0 P w K mg base N qual (defScope st) f cdv A outer s H E).nox (defBody st) t ∧ t { nx := fun _ H' => Q .non H', rt := Q } (start N vs) H) : FnOk P w K mg base CX0 (k + 1) f fd ps sp := by
  obtain ⟨oc, od, kV, doc, pm, an, cdv, ct, osl, rfl, lk, hcd⟩ := F.ex
  refine fn_of lk hcd S len fun A outer s H vs Q E hr hsp => ?_
  obtain ⟨t, h, q⟩ := hbody cdv A outer s H vs Q E hr hsp
  exact ⟨t, h.nox, q⟩
theorem Fun.binds {x qual : Str} {st : Stmt} {f : Addr} {fd : FuncData} {ps : List Str} (F : Fun K x qual st f fd)
    (h : ∀ (kV doc pm : Value) (an : Option Addr) (cdv ct : Value) (us : List Value), us.length = ps.length → bindArgs (PySem.W.fnOf x qual (defArgs st) (defBody st) (defScope st) .none kV doc pm an cdv ct) ⟨us, []⟩ = pure (ps.zip us)) : Binds K fd ps [] := by
  obtain ⟨oc, od, kV, doc, pm, an, cdv, ct, osl, rfl, lk, hcd⟩ := F.ex
  exact .all (h kV doc pm an cdv ct)
theorem fun_mk {x qual : Str} {st : Stmt} {f : Addr} {oc : Value} {od an : Option Addr} {osl : Array (Option Value)} {kV doc pm cdv ct : Value} (l : K.lookup f = some ⟨oc, od, .func (PySem.W.fnOf x qual (defArgs st) (defBody st) (defScope st) .none kV doc pm an cdv ct), osl⟩)
    (c : PySem.W.codeIn K cdv qual = true) (k : PySem.W.keepIn K (.ref f) = true) : Fun K x qual st f (PySem.W.fnOf x qual (defArgs st) (defBody st) (defScope st) .none kV doc pm an cdv ct) := ⟨⟨oc, od, kV, doc, pm, an, cdv, ct, osl, rfl, l, c⟩, k⟩
end
section
variable {X : Cx}
theorem pv (i : Nat) {x : Str} {pos : Pos} (hN : X.N[i]? = some x := by rfl) (hv : Vis X.env.scope x := by first | exact Or.inl rfl | exact Or.inr (Or.inl rfl) | exact Or.inr (Or.inr rfl)) (hd : (x == ("__debug__" : Str)) = false := by decide)
    (hcd : (x == ("__classdict__" : Str)) = false := by decide) : PE X (.Name x pos) (tVar i) := pe_var hN hv hd hcd
end
theorem iteF {A B : Prop} (h : B) : if false = true then A else B := by
  rw [if_neg Bool.false_ne_true]
  exact h
theorem iteT {A B : Prop} (h : A) : if true = true then A else B := by
  rw [if_pos rfl]
  exact h
theorem ite2 {c A B : Prop} [Decidable c] (h1 : c → A) (h2 : ¬ c → B) : if c then A else B := by
  by_cases h : c
  · rw [if_pos h]
    exact h1 h
  · rw [if_neg h]
    exact h2 h
theorem iteNS {c A B : Prop} [Decidable c] (hc : c) (h : B) : if (!decide c) = true then A else B := by
  rw [decide_eq_true hc]
  exact iteF h
def Same (H H' : Hp) : Prop := ∀ b o, H b = some o → H' b = some o
theorem Same.refl (H : Hp) : Same H H := fun _ _ h => h
theorem Same.trans {H H1 H2 : Hp} (a : Same H H1) (b : Same H1 H2) : Same H H2 := fun c o h => b c o (a c o h)
theorem Same.seq {K : PySem.W.Frag} {H H' : Hp} {a : Addr} {xs : List V} (e : Same H H') (h : SqL K H a xs) : SqL K H' a xs := by
  rcases h with (h | ⟨o, h⟩) | h
  · exact .inl (.inl (e _ _ h))
  · exact .inl (.inr ⟨o, e _ _ h⟩)
  · exact .inr h
end L2
set_option maxHeartbeats 4000000
namespace L2
open PySem PySem.Spec PyProof.Rows
section
variable {X : Cx}
theorem call_isinst : CallR X (.builtin "isinstance") (fun xs H Q => ∃ x T t b, xs = [x, .ty T] ∧ TyOf X.K H x t ∧ PySem.W.kitOne X.K t (.type T) = some b ∧ Q (.bl b) H) := by
  intro pins s σ H xs us Q I r h
  obtain ⟨x, T, t, b, rfl, ty, e, q⟩ := h
  obtain ⟨u, c, rfl, rx, rc⟩ := vals2 r
  cases (show c = Value.type T from rc)
  exact isinst_ok I rx ty e fun tk => ⟨.bl b, H, I.tok tk, rfl, q⟩
end
section
variable {X : Cx}
def cutS (z : Str) (lo hi : Option Int) : Str := ⟨((z.cps.toList.drop (HT.sIx z.length 0 lo)).take (HT.sIx z.length z.length hi - HT.sIx z.length 0 lo)).toArray⟩
theorem sIx_clip (n d : Nat) (v : Int) : max (0 : Int) (min (if v < 0 then v + (n : Int) else v) (n : Int)) = ((HT.sIx n d (some v) : Nat) : Int) := by
  show _ = (((if v < 0 then (v + (n : Int)).toNat else min v.toNat n) : Nat) : Int)
  by_cases hv : v < 0
  · simp only [if_pos hv]; omega
  · simp only [if_neg hv]; omega
theorem strIx_eq (lo hi : Option Int) (n : Nat) : Builtin.Str.strSliceIndices lo hi 1 n = (List.range (HT.sIx n n hi - HT.sIx n 0 lo)).map (fun k => HT.sIx n 0 lo + k) := by
  have h1 : (1 : Int) > 0 := by decide
  have hb : HT.sIx n n hi ≤ n := HT.sIx_le _ _ (Nat.le_refl _) hi
  have ha : HT.sIx n 0 lo ≤ n := HT.sIx_le _ _ (Nat.zero_le _) lo
  have key : ∀ a b : Nat, sliceRange (a : Int) (b : Int) 1 = (List.range (b - a)).map (fun k => a + k) := fun a b => sliceRange_one a b
  unfold Builtin.Str.strSliceIndices
  simp only [h1, if_true]
  cases lo with
  | none =>
    cases hi with
    | none => exact key 0 n
    | some v =>
      dsimp only
      rw [sIx_clip n n v]
      exact key 0 _
  | some u =>
    cases hi with
    | none =>
      dsimp only
      rw [sIx_clip n 0 u]
      exact key _ n
    | some v =>
      dsimp only
      rw [sIx_clip n n v, sIx_clip n 0 u]
      exact key _ _
theorem strPick_eq (z : Str) (lo hi : Option Int) : (Builtin.Str.strSliceIndices lo hi 1 z.length).filterMap (z.cps[·]?) = (z.cps.toList.drop (HT.sIx z.length 0 lo)).take (HT.sIx z.length z.length hi - HT.sIx z.length 0 lo) := by
  rw [strIx_eq]
  exact pick_run z.cps _ _
theorem strSlice_eq (z : Str) (lo hi : Option Int) : (if ((1 : Int) == 1 && (Builtin.Str.strSliceIndices lo hi 1 z.length).length == z.length) = true then z else ⟨((Builtin.Str.strSliceIndices lo hi 1 z.length).filterMap (z.cps[·]?)).toArray⟩) = cutS z lo hi := by
  rw [strPick_eq]
  split
  · rename_i h
    have hl : HT.sIx z.length z.length hi - HT.sIx z.length 0 lo = z.length := by
      rw [strIx_eq] at h
      simpa using h
    have hb : HT.sIx z.length z.length hi ≤ z.length := HT.sIx_le _ _ (Nat.le_refl _) hi
    have h0 : HT.sIx z.length 0 lo = 0 := by
      by_cases q : z.length = 0
      · have ha : HT.sIx z.length 0 lo ≤ z.length := HT.sIx_le _ _ (Nat.zero_le _) lo
        omega
      · omega
    unfold cutS
    rw [hl, h0, List.drop_zero, List.take_of_length_le (by simp [Str.length])]
  · rfl
def rSlS : V → Option Int → Option Int → Hp → VK → Prop := fun x lo hi H Q => ∃ z, x = .str z ∧ z.length ≤ sizeLine ∧ Q (.str (cutS z lo hi)) H
theorem cutS_len (z : Str) (lo hi : Option Int) : (cutS z lo hi).length ≤ z.length := by
  show (List.take _ (List.drop _ z.cps.toList)).toArray.size ≤ z.cps.size
  rw [List.size_toArray, List.length_take, List.length_drop, Array.length_toList]
  omega
theorem sl_str : SlR X rSlS := by
  intro pins s σ H x v vl vu lo hi sl Q I rx hs pl pu h
  obtain ⟨z, rfl, hz, q⟩ := h
  obtain ⟨t, rfl⟩ := rx
  refine ⟨"str", _, F.slot_str_getitem.lookup, typeIs_str _ _ _, ?_⟩
  have fin : ∀ (l u : Option (Int × Tok)), l.map (·.1) = lo → u.map (·.1) = hi → (sliceMade z t l u none).post (EP X pins σ Q) s := fun l u el eu => by
    subst el; subst eu
    refine post_val_or_str ?_
    have e := strSlice_eq z (l.map (·.1)) (u.map (·.1))
    have e' : (if (((none : Option (Int × Tok)).map (·.1)).getD 1 == 1 && (slicePicked z l u none).length == z.length) = true then z else ⟨((slicePicked z l u none).filterMap (z.cps[·]?)).toArray⟩) = cutS z (l.map (·.1)) (u.map (·.1)) := e
    rw [e']
    exact ⟨Nat.le_trans (cutS_len _ _ _) hz, fun t' k => ⟨.str _, H, I.tok k, ⟨t', rfl⟩, q⟩⟩
  cases pl with
  | none =>
    cases pu with
    | none => exact wpAny_getItem_str_slice (l := none) (u := none) (st := none) hs rfl (fin none none rfl rfl)
    | int j tj => exact wpAny_getItem_str_slice (l := none) (u := some (j, tj)) (st := none) hs rfl (fin none (some (j, tj)) rfl rfl)
  | int i ti =>
    cases pu with
    | none => exact wpAny_getItem_str_slice (l := some (i, ti)) (u := none) (st := none) hs rfl (fin (some (i, ti)) none rfl rfl)
    | int j tj => exact wpAny_getItem_str_slice (l := some (i, ti)) (u := some (j, tj)) (st := none) hs rfl (fin (some (i, ti)) (some (j, tj)) rfl rfl)
end
mutual
inductive RdV (K : PySem.W.Frag) (H : Hp) : V → PyData → Prop where
  | non : RdV K H .non .none
  | bl (b : Bool) : RdV K H (.bl b) (.bool b)
  | int (i : Int) : RdV K H (.int i) (.int i)
  | str (x : Str) : RdV K H (.str x) (.str x)
  | lst {a : Addr} {xs : List V} {ds : List PyData} : SqL K H a xs → RdAll K H xs ds → RdV K H (.ref a) (.list ds)
  | tup {a : Addr} {xs : List V} {ds : List PyData} : SqT K H a xs → RdAll K H xs ds → RdV K H (.ref a) (.tuple ds)
inductive RdAll (K : PySem.W.Frag) (H : Hp) : List V → List PyData → Prop where
  | nil : RdAll K H [] []
  | cons {v : V} {vs : List V} {d : PyData} {ds : List PyData} : RdV K H v d → RdAll K H vs ds → RdAll K H (v :: vs) (d :: ds)
end
section
variable {X : Cx} {pins : List (Addr × Obj)} {σ : St} {H : Hp} {s : Shared}
mutual
theorem RdV.reads (I : Inv X pins σ H s) : ∀ {v : V} {d : PyData} {u : Value}, RdV X.K H v d → RelV v u → ∃ as, Reads s.heap u d as
  | _, _, u, .non, r => by cases (show u = Value.none from r); exact ⟨_, .none⟩
  | _, _, u, .bl b, r => by cases (show u = Value.bool b from r); exact ⟨_, .bool b⟩
  | _, _, u, .int i, r => by obtain ⟨t, e⟩ := (show ∃ t, u = Value.int i t from r); cases e; exact ⟨_, .int i t⟩
  | _, _, u, .str x, r => by obtain ⟨t, e⟩ := (show ∃ t, u = Value.str x t from r); cases e; exact ⟨_, .str x t⟩
  | _, _, u, @RdV.lst _ _ a xs ds hq hr, r => by
    cases (show u = Value.ref a from r)
    obtain ⟨its, rv, ⟨o, n, e, c, _, dt⟩, _⟩ := I.list hq
    obtain ⟨as, q⟩ := RdAll.reads I hr rv
    exact ⟨_, .list e c dt (by simpa using q)⟩
  | _, _, u, @RdV.tup _ _ a xs ds hq hr, r => by
    cases (show u = Value.ref a from r)
    obtain ⟨its, rv, ⟨o, e, c, n, dt⟩, _⟩ := I.tuple hq
    obtain ⟨as, q⟩ := RdAll.reads I hr rv
    exact ⟨_, .tuple e c dt (by simpa using q)⟩
theorem RdAll.reads (I : Inv X pins σ H s) : ∀ {vs : List V} {ds : List PyData} {us : List Value}, RdAll X.K H vs ds → Vals vs us → ∃ as, ReadsAll s.heap us ds as
  | _, _, _, .nil, r => by cases r; exact ⟨_, .nil⟩
  | _, _, _, .cons h t, r => by
    cases r with
    | cons r1 r2 =>
      obtain ⟨as, q⟩ := RdV.reads I h r1
      obtain ⟨bs, q2⟩ := RdAll.reads I t r2
      exact ⟨_, .cons q q2⟩
end
end
section
variable {X : Cx}
def rEqD (K : PySem.W.Frag) (A : Around) (neg : Bool) : R2 := fun x y H Q => ∃ d e : PyData, RdV K H x d ∧ RdV K H y e ∧ d.canLay0 = true ∧ e.canLay0 = true ∧ A.units + min d.depth e.depth < cLine ∧ Q (.bl (if neg then !PyData.eqv d e else PyData.eqv d e)) H
theorem op_eqD : OpR X (compareOp .Eq) (rEqD X.K X.A false) := by
  intro pins s σ H x y v u Q I rx ry h
  obtain ⟨d, e, hd, he, cd, ce, hu, q⟩ := h
  obtain ⟨as, q1⟩ := hd.reads I rx
  obtain ⟨bs, q2⟩ := he.reads I ry
  exact SeqAt.compareEq_reads q1 q2 cd ce hu ⟨.bl _, H, I, rfl, q⟩
theorem op_neD : OpR X (compareOp .NotEq) (rEqD X.K X.A true) := by
  intro pins s σ H x y v u Q I rx ry h
  obtain ⟨d, e, hd, he, cd, ce, hu, q⟩ := h
  obtain ⟨as, q1⟩ := hd.reads I rx
  obtain ⟨bs, q2⟩ := he.reads I ry
  exact SeqAt.compareNe_reads q1 q2 cd ce hu ⟨.bl _, H, I, rfl, q⟩
end
mutual
theorem eqv_self : ∀ d : PyData, d.canLay0 = true → PyData.eqv d d = true
  | .none, _ => by simp [PyData.eqv]
  | .bool _, _ => by simp [PyData.eqv]
  | .int _, _ => by simp [PyData.eqv]
  | .str _, _ => by simp [PyData.eqv]
  | .list xs, h => by
    simp only [PyData.eqv]
    exact eqvAll_self xs (by simpa [PyData.canLay0] using h)
  | .tuple xs, h => by
    simp only [PyData.eqv]
    exact eqvAll_self xs (by simpa [PyData.canLay0] using h)
  | .dict _, h => by simp [PyData.canLay0] at h
theorem eqvAll_self : ∀ ds : List PyData, PyData.canLayAll0 ds = true → PyData.eqvAll ds ds = true
  | [], _ => by simp [PyData.eqvAll]
  | d :: ds, h => by
    simp only [PyData.canLayAll0, Bool.and_eq_true] at h
    simp only [PyData.eqvAll, Bool.and_eq_true]
    exact ⟨eqv_self d h.1, eqvAll_self ds h.2⟩
end
theorem in_one (z : Str) (c : Nat) : (!(Builtin.Str.occurrences z ⟨#[c]⟩ 0 z.length 1).isEmpty) = decide (c ∈ z.cps.toList) := PySem.StrLaws.found_one z c
theorem op_in_one {X : Cx} : OpR X (compareOp .In) (fun x y H Q => ∃ c z, x = .str ⟨#[c]⟩ ∧ y = .str z ∧ Q (.bl (decide (c ∈ z.cps.toList))) H) := by
  intro pins s σ H x y v u Q I rx ry h
  obtain ⟨c, z, e1, e2, q⟩ := h
  exact op_in_str pins s σ H x y v u Q I rx ry ⟨_, _, e1, e2, by rw [in_one]; exact q⟩
end L2
namespace L2
open PySem PySem.Spec PyProof.Rows
structure Fn (P : Program) (w : World) (K : PySem.W.Frag) (mg : Str → Option Value) (base : Heap) (k : Nat) (x : Str) (ps : List Str) (sp : Sp) : Prop where
  ex : ∃ (f : Addr) (fd : FuncData), FnOk P w K mg base CX0 k f fd ps sp ∧ Binds K fd ps [] ∧ PySem.W.keepIn K (.ref f) = true ∧ mg x = some (.ref f)
theorem pe_fn {X : Cx} {k k' : Nat} {x : Str} {ps : List Str} {sp : Sp} {p pos : Pos} {e : Expr} {es : List Expr} {t : TA} (F : Fn X.prog X.w X.K X.mg X.base k x ps sp) (hr : Room k' X.A) (ha : PA X (e :: es) t) (hk : k ≤ k' := by decide) (hg : Gl X x := by rfl)
    (hdb : (x == ("__debug__" : Str)) = false := by decide) (he : starEach (e :: es) X.env = (false, eval e X.env) :: starEach es X.env := by rfl) (hpl : (backTo pos (starEach es X.env)).any (·.1) = false := by rfl) :
    PE X (.Call (.Name x p) (e :: es) [] pos) (tCall sp [] E0 t) := by
  obtain ⟨f, fd, h1, h2, h3, h4⟩ := F.ex
  exact pe_call h1 (hr.mono hk) hg h4 h3 h2 .nil pass0 ha hdb he hpl
theorem iteP {c A B : Prop} [Decidable c] (hc : c) (h : A) : if decide c = true then A else B := by
  rw [decide_eq_true hc]
  exact iteT h
theorem iteN {c A B : Prop} [Decidable c] (hc : ¬ c) (h : B) : if decide c = true then A else B := by
  rw [decide_eq_false hc]
  exact iteF h
theorem same_new {H : Hp} {p : Addr} (h : H p = Option.none) (o : HO) : Same H (upd H p o) := fun b u q => by rw [upd_ne (ne_of_none q h)]; exact q
def S (l : List Nat) : Str := ⟨l.toArray⟩
theorem S_list (l : List Nat) : (S l).cps.toList = l := by simp [S]
theorem S_len (l : List Nat) : (S l).length = l.length := by simp [S, Str.length]
theorem S_self (z : Str) : S z.cps.toList = z := by cases z; simp [S]
theorem S_inj {a b : List Nat} (h : S a = S b) : a = b := by
  have := congrArg (fun z : Str => z.cps.toList) h
  simpa [S_list] using this
theorem S_app (a b : List Nat) : S a ++ S b = S (a ++ b) := by
  show Str.append (S a) (S b) = S (a ++ b)
  simp [Str.append, S]
end L2
namespace L2
open PySem PySem.Spec PyProof.Rows
def tCut (t : TS) : TS := fun D σ H => ∃ R : St → Hp → Prop, t { D with nx := R } σ H ∧ ∀ σ' H', R σ' H' → D.nx σ' H'
theorem ps_cut {X : Cx} {st : Stmt} {t : TS} (h : PS X st t) : PS X st (tCut t) := by
  intro pins s σ H D I hw
  obtain ⟨R, h1, h2⟩ := hw
  refine thn (h pins s σ H { D with nx := R } I h1) fun f s1 q => ?_
  cases f with
  | next =>
    obtain ⟨σ', H', I', q⟩ := q
    exact ⟨σ', H', I', h2 _ _ q⟩
  | brk => exact q
  | cont => exact q
  | ret v => exact q
end L2
namespace L2
open PySem PySem.Spec PyProof.Rows
structure DefAt (K : PySem.W.Frag) (x : Str) (st : Stmt) : Prop where
  ex : ∃ (f : Addr) (oc : Value) (od : Option Addr) (kV doc pm : Value) (an : Option Addr) (cdv ct : Value) (osl : Array (Option Value)),
    PySem.W.nsIn K mainGlobals x = some (some (.ref f)) ∧ K.lookup f = some ⟨oc, od, .func (PySem.W.fnOf x x (defArgs st) (defBody st) (defScope st) .none kV doc pm an cdv ct), osl⟩ ∧ PySem.W.codeIn K cdv x = true ∧ PySem.W.keepIn K (.ref f) = true
theorem DefAt.mk' {K : PySem.W.Frag} {x : Str} {st : Stmt} {f : Addr} {oc : Value} {od : Option Addr} {kV doc pm : Value} {an : Option Addr} {cdv ct : Value} {osl : Array (Option Value)}
    (a : PySem.W.nsIn K mainGlobals x = some (some (.ref f))) (l : K.lookup f = some ⟨oc, od, .func (PySem.W.fnOf x x (defArgs st) (defBody st) (defScope st) .none kV doc pm an cdv ct), osl⟩) (c : PySem.W.codeIn K cdv x = true) (k : PySem.W.keepIn K (.ref f) = true) : DefAt K x st :=
  ⟨f, oc, od, kV, doc, pm, an, cdv, ct, osl, a, l, c, k⟩
theorem DefAt.fn {P : Program} {w : World} {K : PySem.W.Frag} {mg : Str → Option Value} {base h : Heap} {k : Nat} {x : Str} {st : Stmt} {ps : List Str} {sp : Sp} (D : DefAt K x st) (X : K.In h) (G : h.Ns mainGlobals mg)
    (ok : ∀ (f : Addr) (fd : FuncData), Fun K x x st f fd → FnOk P w K mg base CX0 k f fd ps sp)
    (hb : ∀ (kV doc pm : Value) (an : Option Addr) (cdv ct : Value) (us : List Value), us.length = ps.length → bindArgs (PySem.W.fnOf x x (defArgs st) (defBody st) (defScope st) .none kV doc pm an cdv ct) ⟨us, []⟩ = pure (ps.zip us)) : Fn P w K mg base k x ps sp := by
  obtain ⟨f, oc, od, kV, doc, pm, an, cdv, ct, osl, a, l, c, kp⟩ := D.ex
  have F := fun_mk (st := st) l c kp
  exact ⟨f, _, ok f _ F, F.binds hb, kp, PySem.W.mg_of X G a⟩
end L2
namespace K3
def letL : List Nat := [97, 98, 99, 100, 101, 102, 103, 104, 105, 106, 107, 108, 109, 110, 111, 112, 113, 114, 115, 116, 117, 118, 119, 120, 121, 122]
def figL : List Nat := [48, 49, 50, 51, 52, 53, 54, 55, 56, 57]
def sgnL : List Nat := [40, 41, 59, 58, 61, 124, 42]
theorem let_sgn : ∀ c ∈ letL, c ∉ sgnL := by decide
theorem let_fig : ∀ c ∈ letL, c ∉ figL := by decide
theorem fig_sgn : ∀ c ∈ figL, c ∉ sgnL := by decide
theorem fig_let : ∀ c ∈ figL, c ∉ letL := by decide
theorem sgn_32 : ∀ c ∈ sgnL, c ≠ 32 ∧ c ≠ 45 := by decide
theorem let_32 : ∀ c ∈ letL, c ≠ 32 ∧ c ≠ 45 := by decide
theorem fig_32 : ∀ c ∈ figL, c ≠ 32 ∧ c ≠ 45 := by decide
theorem n45 : 45 ∉ sgnL ∧ 45 ∉ letL ∧ (45 : Nat) ≠ 32 := by decide
theorem n32 : 32 ∉ letL ∧ 32 ∉ figL := by decide
structure Num (w : List Nat) : Prop where
  ne : w ≠ []
  len : w.length ≤ 60
  all : ∀ c ∈ w, c ∈ figL
  lead : w[0]? = some 48 → w.length = 1
inductive Word : List Nat → Prop where
  | sign {c : Nat} : c ∈ sgnL → Word [c]
  | name {w : List Nat} : w ≠ [] → w.length ≤ 8 → (∀ c ∈ w, c ∈ letL) → Word w
  | num {w : List Nat} : Num w → Word w
  | neg {w : List Nat} : Num w → w ≠ [48] → Word (45 :: w)
def Sep (w rest : List Nat) : Prop := ∀ a b, w.getLast? = some a → rest[0]? = some b → ¬ (a ∈ letL ∧ b ∈ letL) ∧ ¬ (a ∈ figL ∧ b ∈ figL)
theorem Sep.nil (w : List Nat) : Sep w [] := fun a b _ h => by simp at h
theorem Sep.blank (w r : List Nat) : Sep w (32 :: r) := fun a b _ h => by
  have e : 32 = b := by simpa using h
  subst e
  exact ⟨fun q => n32.1 q.2, fun q => n32.2 q.2⟩
theorem Word.ne {w : List Nat} (h : Word w) : w ≠ [] := by
  cases h with
  | sign _ => simp
  | name h _ _ => exact h
  | num h => exact h.ne
  | neg _ _ => simp
theorem Word.len {w : List Nat} (h : Word w) : w.length ≤ 61 := by
  cases h with
  | sign _ => simp
  | name _ h _ => omega
  | num h => have := h.len; omega
  | neg h _ => have := h.len; simp only [List.length_cons]; omega
theorem Word.head {w : List Nat} (h : Word w) : ∃ c r, w = c :: r ∧ c ≠ 32 := by
  cases h with
  | @sign c h => exact ⟨c, [], rfl, (sgn_32 c h).1⟩
  | name h _ a =>
    cases w with
    | nil => exact absurd rfl h
    | cons c r => exact ⟨c, r, rfl, (let_32 c (a c (by simp))).1⟩
  | num h =>
    cases w with
    | nil => exact absurd rfl h.ne
    | cons c r => exact ⟨c, r, rfl, (fig_32 c (h.all c (by simp))).1⟩
  | @neg w h _ => exact ⟨45, w, rfl, n45.2.2⟩
def run (L : List Nat) (t : List Nat) : List Nat := t.takeWhile fun c => decide (c ∈ L)
theorem run_eq {L w rest : List Nat} (h : ∀ c ∈ w, c ∈ L) (hr : ∀ b, rest[0]? = some b → b ∉ L) : run L (w ++ rest) = w := by
  unfold run
  induction w with
  | nil =>
    cases rest with
    | nil => rfl
    | cons b r =>
      have := hr b (by simp)
      simp [this]
  | cons c w ih =>
    have hc : c ∈ L := h c (by simp)
    rw [List.cons_append, List.takeWhile_cons, if_pos (by simpa using hc), ih (fun d hd => h d (by simp [hd]))]
theorem last_of {w : List Nat} (h : w ≠ []) : ∃ a, w.getLast? = some a ∧ a ∈ w := by
  refine ⟨w.getLast h, List.getLast?_eq_some_getLast h, List.getLast_mem h⟩
theorem Sep.let_of {w rest : List Nat} (s : Sep w rest) (h : w ≠ []) (a : ∀ c ∈ w, c ∈ letL) : ∀ b, rest[0]? = some b → b ∉ letL := fun b hb q => by
  obtain ⟨x, hx, hm⟩ := last_of h
  exact (s x b hx hb).1 ⟨a x hm, q⟩
theorem Sep.fig_of {w rest : List Nat} (s : Sep w rest) (h : w ≠ []) (a : ∀ c ∈ w, c ∈ figL) : ∀ b, rest[0]? = some b → b ∉ figL := fun b hb q => by
  obtain ⟨x, hx, hm⟩ := last_of h
  exact (s x b hx hb).2 ⟨a x hm, q⟩
theorem Sep.tail {c : Nat} {w rest : List Nat} (s : Sep (c :: w) rest) (h : w ≠ []) : Sep w rest := fun a b ha hb => s a b (by
  cases w with
  | nil => exact absurd rfl h
  | cons d w => rw [List.getLast?_cons_cons]; exact ha) hb
inductive Writ : List Nat → List (List Nat) → Prop where
  | nil : Writ [] []
  | blank {t ws} : Writ t ws → Writ (32 :: t) ws
  | word {w t ws} : Word w → Sep w t → Writ t ws → Writ (w ++ t) (w :: ws)
def D (n : Nat) : List Nat := (Nat.toDigits 10 n).map Char.toNat
theorem dig (d : Nat) (h : d < 10) : (Nat.digitChar d).toNat = 48 + d := by
  have : ∀ d : Nat, d < 10 → (Nat.digitChar d).toNat = 48 + d := by decide
  exact this d h
theorem fig_of (d : Nat) (h : d < 10) : 48 + d ∈ figL := by
  have : ∀ d : Nat, d < 10 → 48 + d ∈ figL := by decide
  exact this d h
theorem D_small {n : Nat} (h : n < 10) : D n = [48 + n] := by
  unfold D
  rw [Nat.toDigits_of_lt_base h]
  simp [dig n h]
theorem D_step {n : Nat} (h : ¬ n < 10) : D n = D (n / 10) ++ [48 + n % 10] := by
  have hm : n % 10 < 10 := Nat.mod_lt n (by decide)
  have t : Nat.toDigits 10 (n / 10) ++ Nat.toDigits 10 (n % 10) = Nat.toDigits 10 (10 * (n / 10) + n % 10) := Nat.toDigits_append_toDigits (by decide) (by omega) hm
  rw [Nat.div_add_mod] at t
  unfold D
  rw [← t, List.map_append, Nat.toDigits_of_lt_base hm]
  simp [dig _ hm]
theorem D_facts : ∀ (k n : Nat), n < 10 ^ (k + 1) → D n ≠ [] ∧ (D n).length ≤ k + 1 ∧ (∀ c ∈ D n, c ∈ figL) ∧ (n ≠ 0 → (D n)[0]? ≠ some 48)
  | 0, n, h => by
    have h' : n < 10 := by simpa using h
    rw [D_small h']
    refine ⟨by simp, by simp, fun c hc => ?_, fun hn => ?_⟩
    · have : c = 48 + n := by simpa using hc
      rw [this]; exact fig_of n h'
    · simp; exact hn
  | k + 1, n, h => by
    by_cases h10 : n < 10
    · rw [D_small h10]
      refine ⟨by simp, by simp, fun c hc => ?_, fun hn => ?_⟩
      · have : c = 48 + n := by simpa using hc
        rw [this]; exact fig_of n h10
      · simp; exact hn
    · have hd : n / 10 < 10 ^ (k + 1) := by
        have : n < 10 * 10 ^ (k + 1) := by rw [Nat.pow_succ] at h; omega
        omega
      obtain ⟨a, b, c, d⟩ := D_facts k (n / 10) hd
      rw [D_step h10]
      refine ⟨by simp, by simp; omega, fun x hx => ?_, fun _ => ?_⟩
      · rcases List.mem_append.mp hx with q | q
        · exact c x q
        · have : x = 48 + n % 10 := by simpa using q
          rw [this]; exact fig_of _ (Nat.mod_lt n (by decide))
      · have e : (D (n / 10) ++ [48 + n % 10])[0]? = (D (n / 10))[0]? := by
          cases q : D (n / 10) with
          | nil => exact absurd q a
          | cons x r => simp
        rw [e]
        exact d (by omega)
theorem D_num {n : Nat} (h : n < 10 ^ 60) : Num (D n) := by
  obtain ⟨a, b, c, d⟩ := D_facts 59 n h
  refine ⟨a, b, c, fun q => ?_⟩
  by_cases hn : n = 0
  · subst hn; rw [D_small (by decide)]; rfl
  · exact absurd q (d hn)
theorem D_ne {n : Nat} (h : n < 10 ^ 60) (hn : n ≠ 0) : D n ≠ [48] := fun q => by
  obtain ⟨a, b, c, d⟩ := D_facts 59 n h
  exact d hn (by rw [q]; rfl)
end K3
namespace K3
theorem seg_step {L : List Nat} {k e c : Nat} (hk : k ≤ e) (he : L[e]? = some c) : (L.drop k).take (e + 1 - k) = (L.drop k).take (e - k) ++ [c] := by
  have h1 : e + 1 - k = (e - k) + 1 := by omega
  rw [h1, List.take_add_one, List.getElem?_drop, show k + (e - k) = e by omega, he]
  rfl
theorem seg_stop {L sg : List Nat} {k e : Nat} (hk : k ≤ e) (hall : ∀ c ∈ (L.drop k).take (e - k), c ∈ sg) (hstop : ∀ c, L[e]? = some c → c ∉ sg) : run sg (L.drop k) = (L.drop k).take (e - k) := by
  have h := run_eq (L := sg) (w := (L.drop k).take (e - k)) (rest := (L.drop k).drop (e - k)) hall (fun b hb => by
    rw [List.drop_drop, show k + (e - k) = e by omega] at hb
    exact hstop b (by simpa [List.getElem?_drop] using hb))
  rw [List.take_append_drop] at h
  exact h
theorem Writ.len {t : List Nat} {ws : List (List Nat)} (h : Writ t ws) : ws.length ≤ t.length := by
  induction h with
  | nil => simp
  | blank _ ih => simp only [List.length_cons]; omega
  | word hw _ _ ih =>
    have : 0 < (_ : List Nat).length := List.length_pos_iff.mpr hw.ne
    simp only [List.length_cons, List.length_append]; omega
theorem Writ.words {t : List Nat} {ws : List (List Nat)} (h : Writ t ws) : ∀ w ∈ ws, Word w := by
  induction h with
  | nil => intro w hw; cases hw
  | blank _ ih => exact ih
  | word hw _ _ ih =>
    intro w h
    rcases List.mem_cons.mp h with q | q
    · rw [q]; exact hw
    · exact ih w q
theorem Writ.step {t : List Nat} {ws : List (List Nat)} (h : Writ t ws) (ht : t ≠ []) :
    (∃ r, t = 32 :: r ∧ Writ r ws) ∨ ∃ w r vs, t = w ++ r ∧ ws = w :: vs ∧ Word w ∧ Sep w r ∧ Writ r vs := by
  cases h with
  | nil => exact absurd rfl ht
  | blank h => exact .inl ⟨_, rfl, h⟩
  | word a b c => exact .inr ⟨_, _, _, rfl, rfl, a, b, c⟩
theorem letL_at (k : Nat) (h : k < 26) : ∃ c, letL[k]? = some c ∧ c ∈ letL := by
  have : k < letL.length := h
  exact ⟨letL[k], List.getElem?_eq_getElem this, List.getElem_mem this⟩
theorem log_small {n : Nat} (h : n < 10 ^ 61) : n.log2 < 1920 := by
  by_cases h0 : n = 0
  · subst h0; decide
  · have h1 : 10 ^ 61 ≤ 2 ^ 203 := by decide
    have h2 : 2 ^ 203 ≤ 2 ^ 1920 := Nat.pow_le_pow_right (by decide) (by decide)
    exact (Nat.log2_lt h0).mpr (Nat.lt_of_lt_of_le h (Nat.le_trans h1 h2))
end K3
namespace K6
open PySem L2 K3
def top (i : Nat) : Stmt := PySem.Challenge.pw_turnery_k06_texts_that_are_no_tree.main.body.getD i (.Pass ⟨0, 0, 0, 0⟩)
abbrev sWords : Stmt := top 10
abbrev sWordAt : Stmt := top 11
abbrev sNameAt : Stmt := top 12
abbrev sBelow : Stmt := top 13
abbrev sFigures : Stmt := top 14
abbrev sRun : Stmt := top 15
abbrev sReader : Stmt := top 17
abbrev sBegins : Stmt := top 18
abbrev sSize : Stmt := top 20
abbrev sRead : Stmt := top 24
abbrev sTreeF : Stmt := top 25
abbrev sCell : Stmt := top 27
abbrev sWordBy : Stmt := top 28
abbrev sTreeW : Stmt := top 29
abbrev sSpoilt : Stmt := top 30
abbrev sTree : Stmt := top 31
abbrev sTold : Stmt := top 32
abbrev sGreat : Stmt := top 33
abbrev sLaw : Stmt := top 34
abbrev LETS : Str := Str.ofString "abcdefghijklmnopqrstuvwxyz"
abbrev FIGS : Str := Str.ofString "0123456789"
abbrev SGNS : Str := Str.ofString "();:=|*"
theorem let_eq : LETS = S letL := by decide +kernel
theorem fig_eq : FIGS = S figL := by decide +kernel
theorem sgn_eq : SGNS = S sgnL := by decide +kernel
theorem let_cps : LETS.cps.toList = letL := by rw [let_eq, S_list]
theorem fig_cps : FIGS.cps.toList = figL := by rw [fig_eq, S_list]
theorem sgn_cps : SGNS.cps.toList = sgnL := by rw [sgn_eq, S_list]
theorem minus_eq : Str.ofString "-" = S [45] := by decide +kernel
theorem blank_eq : Str.ofString " " = S [32] := by decide +kernel
theorem zero_eq : Str.ofString "0" = S [48] := by decide +kernel
theorem none_eq : Str.ofString "" = S [] := by decide +kernel
theorem size_line : sizeLine = 16777216 := by decide
structure Gm (mg : Str → Option Value) : Prop where
  len : mg "len" = none
  isi : mg "isinstance" = none
  str : mg "str" = none
  lst : mg "list" = none
  rng : mg "range" = none
  tup : mg "tuple" = none
  int : mg "int" = none
  sum : mg "sum" = none
  lets : ∃ t, mg "LETTERS" = some (.str LETS t)
  figs : ∃ t, mg "FIGURES" = some (.str FIGS t)
  sgns : ∃ t, mg "SIGNS" = some (.str SGNS t)
  ml : ∃ t, mg "MOST_LETTERS" = some (.int 8 t)
  mf : ∃ t, mg "MOST_FIGURES" = some (.int 60 t)
def spRun : Sp := fun vs H Q _ => ∃ (z : List Nat) (k : Nat) (sg : List Nat), vs = [.str (S z), .int k, .str (S sg)] ∧ z.length ≤ 9000 ∧ k ≤ z.length ∧ Q (.str (S (run sg (z.drop k)))) H
def spFig : Sp := fun vs H Q _ => ∃ (z : List Nat) (k : Nat), vs = [.str (S z), .int k] ∧ z.length ≤ 9000 ∧ k ≤ z.length ∧ Num (run figL (z.drop k)) ∧ Q (.str (S (run figL (z.drop k)))) H
def spBelow : Sp := fun vs H Q _ => ∃ (z : List Nat) (k : Nat), vs = [.str (S z), .int k] ∧ z.length ≤ 9000 ∧ k ≤ z.length ∧ Num (run figL (z.drop k)) ∧ run figL (z.drop k) ≠ [48] ∧ Q (.str (S (run figL (z.drop k)))) H
def spNameAt : Sp := fun vs H Q _ => ∃ (z : List Nat) (k : Nat), vs = [.str (S z), .int k] ∧ z.length ≤ 9000 ∧ k ≤ z.length ∧ (run letL (z.drop k)).length ≤ 8 ∧ Q (.str (S (run letL (z.drop k)))) H
def spWordAt : Sp := fun vs H Q _ => ∃ (z : List Nat) (k : Nat) (w r : List Nat), vs = [.str (S z), .int k] ∧ z.length ≤ 9000 ∧ z.drop k = w ++ r ∧ Word w ∧ Sep w r ∧ Q (.str (S w)) H
def W (ws : List (List Nat)) : List V := ws.map fun w => V.str (S w)
def spWords : Sp := fun vs H Q _ => ∃ (z : List Nat) (ws : List (List Nat)), vs = [.str (S z)] ∧ z.length ≤ 9000 ∧ Writ z ws ∧ ∀ (l : Addr) (H' : Hp), Same H H' → H' l = some (.lst (W ws)) → H l = none → Q (.ref l) H'
theorem line_of {n : Nat} (h : n ≤ 9000) : n ≤ sizeLine := by rw [size_line]; omega
theorem atS {z : List Nat} {k : Nat} {c : Nat} (h : z[k]? = some c) : atI (S z).cps.toList (k : Int) = some c := by
  rw [S_list]; exact atI_nat h
theorem one_S (c : Nat) : (⟨#[c]⟩ : Str) = S [c] := rfl
theorem str_ne {a b : List Nat} (h : a ≠ b) : ¬ V.str (S a) = V.str (S b) := fun q => h (S_inj (by injection q))
section
variable {P : Program} {w : World} {K : PySem.W.Frag} {mg : Str → Option Value} {base : Heap} {f : Addr} {fd : FuncData}
theorem scRun : FnScope ["text", "start", "signs", "end"] ["text", "start", "signs"] (defScope sRun) := ⟨rfl, rfl, rfl, by decide +kernel, rfl, by decide +kernel, by decide +kernel⟩
theorem cut_seg (z : List Nat) {k e : Nat} (hk : k ≤ e) (he : e ≤ z.length) : cutS (S z) (some (k : Int)) (some (e : Int)) = S ((z.drop k).take (e - k)) := by
  unfold cutS
  rw [HT.sIx_nat, HT.sIx_nat, S_list, S_len, Nat.min_eq_left he, Nat.min_eq_left (Nat.le_trans hk he)]
  rfl
theorem ok_run (F : Fun K "run_at" "run_at" sRun f fd) (G : Gm mg) : FnOk P w K mg base CX0 1 f fd ["text", "start", "signs"] spRun := by
  refine F.ok scRun (fun vs H Q E h => ?_) (fun cdv A outer s H vs Q E hr h => ?_)
  · obtain ⟨z, k, sg, rfl, _⟩ := h
    rfl
  obtain ⟨z, k, sg, rfl, hz, hk, q⟩ := h
  have hzl : (S z).length ≤ sizeLine := by rw [S_len]; exact line_of hz
  refine ⟨_, pss_cons (ps_set (i := 3) scRun.nd rfl (Or.inl rfl) (pv 1))
    (pss_cons (ps_while PassesOwn.never (PW.pt (pw_and (pt_cmpR op_lt (pv 3) (pe_callB call_len_str rfl G.len PySem.boot_len (pa_cons (pv 0) pa_nil)) (nomark _))
        (pw_and1 (pt_cmpR op_in_one (pe_ix ix_str (pv 0) (pv 3) (fun _ _ => rfl)) (pv 2) (by with_unfolding_all rfl)))))
      (pss_one (ps_aug (i := 3) scRun.nd rfl (Or.inl rfl) pe_int ip_add)))
    (pss_one (ps_ret (pe_slice sl_str (pv 0) (po_some (pv 1)) (po_some (pv 3)))))), ?_⟩
  refine ⟨_, rfl, ?_⟩
  have fin : ∀ e : Nat, k ≤ e → e ≤ z.length → (∀ c ∈ (z.drop k).take (e - k), c ∈ sg) → (∀ c, z[e]? = some c → c ∉ sg) → Q (.str (cutS (S z) (some (k : Int)) (some (e : Int)))) H := fun e h1 h2 h3 h4 => by
    rw [cut_seg z h1 h2, ← seg_stop h1 h3 h4]
    exact q
  refine ⟨fun m σ H' => ∃ e : Nat, σ = [some (.str (S z)), some (.int (k : Int)), some (.str (S sg)), some (.int (e : Int))] ∧ H' = H ∧ k ≤ e ∧ e ≤ z.length ∧ (∀ c ∈ (z.drop k).take (e - k), c ∈ sg) ∧ m = z.length - e,
    ⟨_, k, rfl, rfl, Nat.le_refl _, hk, (by intro c hc; simp at hc), rfl⟩, ?_⟩
  rintro m σ H' ⟨e, rfl, rfl, h1, h2, h3, rfl⟩
  refine ⟨_, rfl, _, rfl, _, rfl, hzl, _, _, rfl, rfl, _, rfl, ?_⟩
  refine ite2 (fun c => ?_) (fun c => ?_)
  · have c' : (e : Int) < (((S z).length : Nat) : Int) := of_decide_eq_true c
    rw [S_len] at c'
    have he : e < z.length := by omega
    have hat : z[e]? = some z[e] := List.getElem?_eq_getElem he
    refine ⟨_, rfl, _, rfl, _, _, _, rfl, rfl, hzl, atS hat, _, rfl, _, _, rfl, rfl, _, rfl, ?_⟩
    refine ite2 (fun d => ?_) (fun d => ?_)
    · have d' : z[e] ∈ (S sg).cps.toList := of_decide_eq_true d
      rw [S_list] at d'
      refine ⟨_, fun σ' H'' q' => q', _, rfl, _, _, rfl, rfl, ?_⟩
      refine ⟨z.length - (e + 1), by omega, e + 1, rfl, rfl, by omega, by omega, ?_, rfl⟩
      rw [seg_step h1 hat]
      intro x hx
      rcases List.mem_append.mp hx with y | y
      · exact h3 x y
      · have : x = z[e] := by simpa using y
        rw [this]; exact d'
    · have d' : ¬ z[e] ∈ (S sg).cps.toList := of_decide_eq_false (Bool.eq_false_iff.mpr d)
      rw [S_list] at d'
      refine ⟨_, rfl, _, rfl, _, rfl, _, rfl, _, rfl, _, rfl, hzl, ?_⟩
      exact fin e h1 h2 h3 (fun x hx => by rw [hat] at hx; cases hx; exact d')
  · have c' : ¬ (e : Int) < (((S z).length : Nat) : Int) := of_decide_eq_false (Bool.eq_false_iff.mpr c)
    rw [S_len] at c'
    refine ⟨_, rfl, _, rfl, _, rfl, _, rfl, _, rfl, _, rfl, hzl, ?_⟩
    exact fin e h1 h2 h3 (fun x hx => by rw [List.getElem?_eq_none (by omega)] at hx; cases hx)
theorem scFig : FnScope ["text", "start", "figures"] ["text", "start"] (defScope sFigures) := ⟨rfl, rfl, rfl, by decide +kernel, rfl, by decide +kernel, by decide +kernel⟩
theorem ok_fig (F : Fun K "figures_at" "figures_at" sFigures f fd) (G : Gm mg) (R : Fn P w K mg base 1 "run_at" ["text", "start", "signs"] spRun) : FnOk P w K mg base CX0 2 f fd ["text", "start"] spFig := by
  obtain ⟨tf, hf⟩ := G.figs
  obtain ⟨tm, hm⟩ := G.mf
  refine F.ok scFig (fun vs H Q E h => ?_) (fun cdv A outer s H vs Q E hr h => ?_)
  · obtain ⟨z, k, rfl, _⟩ := h
    rfl
  obtain ⟨z, k, rfl, hz, hk, hn, q⟩ := h
  refine ⟨_, pss_cons (ps_set (i := 2) scFig.nd rfl (Or.inl rfl) (pe_fn R hr (pa_cons (pv 0) (pa_cons (pv 1) (pa_cons (pe_glob (v := .str FIGS) rfl hf ⟨_, rfl⟩) pa_nil)))))
    (pss_cons (ps_if (pt_cmpR op_eq (pv 2) pe_str (nomark _)) pss_never pss_nil)
    (pss_cons (ps_if (pt_cmpR op_gt (pe_callB call_len_str rfl G.len PySem.boot_len (pa_cons (pv 2) pa_nil)) (pe_glob (v := .int 60) rfl hm ⟨_, rfl⟩) (nomark _)) pss_never pss_nil)
    (pss_cons (ps_if (PW.pt (pw_and (pt_cmpR op_eq (pe_ix ix_str (pv 2) pe_int (fun _ _ => rfl)) pe_str (nomark _)) (pw_and1 (pt_cmpR op_gt (pe_callB call_len_str rfl G.len PySem.boot_len (pa_cons (pv 2) pa_nil)) pe_int (nomark _))))) pss_never pss_nil)
    (pss_one (ps_ret (pv 2)))))), ?_⟩
  refine ⟨_, rfl, _, rfl, z, k, figL, by rw [← fig_eq]; rfl, hz, hk, ?_⟩
  have hlen : (S (run figL (z.drop k))).length ≤ sizeLine := by rw [S_len]; exact line_of (Nat.le_trans hn.len (by omega))
  obtain ⟨c, r, hc⟩ : ∃ c r, run figL (z.drop k) = c :: r := by
    cases e : run figL (z.drop k) with
    | nil => exact absurd e hn.ne
    | cons c r => exact ⟨c, r, rfl⟩
  have h0 : (run figL (z.drop k))[0]? = some c := by rw [hc]; rfl
  refine ⟨_, rfl, rfl, _, rfl, iteN (by rw [none_eq]; exact str_ne hn.ne) ?_⟩
  refine ⟨_, rfl, _, rfl, hlen, _, _, rfl, rfl, _, rfl, iteN (by rw [S_len]; have := hn.len; omega) ?_⟩
  refine ⟨_, rfl, _, 0, c, rfl, rfl, hlen, atS h0, rfl, _, rfl, ?_⟩
  by_cases hc0 : c = 48
  · have hl : (run figL (z.drop k)).length = 1 := hn.lead (by rw [h0, hc0])
    refine iteP (by rw [hc0, one_S, zero_eq]) ⟨_, rfl, _, rfl, hlen, _, _, rfl, rfl, _, rfl, iteN (by rw [S_len, hl]; decide) ?_⟩
    exact ⟨_, rfl, q⟩
  · refine iteN (by rw [one_S, zero_eq]; exact str_ne (by simpa using hc0)) (iteF ?_)
    exact ⟨_, rfl, q⟩
theorem scBelow : FnScope ["text", "start", "figures"] ["text", "start"] (defScope sBelow) := ⟨rfl, rfl, rfl, by decide +kernel, rfl, by decide +kernel, by decide +kernel⟩
theorem ok_below (F : Fun K "below_zero_at" "below_zero_at" sBelow f fd) (R : Fn P w K mg base 2 "figures_at" ["text", "start"] spFig) : FnOk P w K mg base CX0 3 f fd ["text", "start"] spBelow := by
  refine F.ok scBelow (fun vs H Q E h => ?_) (fun cdv A outer s H vs Q E hr h => ?_)
  · obtain ⟨z, k, rfl, _⟩ := h
    rfl
  obtain ⟨z, k, rfl, hz, hk, hn, h48, q⟩ := h
  refine ⟨_, pss_cons (ps_set (i := 2) scBelow.nd rfl (Or.inl rfl) (pe_fn R hr (pa_cons (pv 0) (pa_cons (pv 1) pa_nil))))
    (pss_cons (ps_if (pt_cmpR op_eq (pv 2) pe_str (nomark _)) pss_never pss_nil)
    (pss_one (ps_ret (pv 2)))), ?_⟩
  refine ⟨_, rfl, _, rfl, z, k, rfl, hz, hk, hn, ?_⟩
  refine ⟨_, rfl, rfl, _, rfl, iteN (by rw [zero_eq]; exact str_ne h48) ?_⟩
  exact ⟨_, rfl, q⟩
theorem scNameAt : FnScope ["text", "start", "name"] ["text", "start"] (defScope sNameAt) := ⟨rfl, rfl, rfl, by decide +kernel, rfl, by decide +kernel, by decide +kernel⟩
theorem ok_nameAt (F : Fun K "name_at" "name_at" sNameAt f fd) (G : Gm mg) (R : Fn P w K mg base 1 "run_at" ["text", "start", "signs"] spRun) : FnOk P w K mg base CX0 2 f fd ["text", "start"] spNameAt := by
  obtain ⟨tf, hf⟩ := G.lets
  obtain ⟨tm, hm⟩ := G.ml
  refine F.ok scNameAt (fun vs H Q E h => ?_) (fun cdv A outer s H vs Q E hr h => ?_)
  · obtain ⟨z, k, rfl, _⟩ := h
    rfl
  obtain ⟨z, k, rfl, hz, hk, hn, q⟩ := h
  refine ⟨_, pss_cons (ps_set (i := 2) scNameAt.nd rfl (Or.inl rfl) (pe_fn R hr (pa_cons (pv 0) (pa_cons (pv 1) (pa_cons (pe_glob (v := .str LETS) rfl hf ⟨_, rfl⟩) pa_nil)))))
    (pss_cons (ps_if (pt_cmpR op_gt (pe_callB call_len_str rfl G.len PySem.boot_len (pa_cons (pv 2) pa_nil)) (pe_glob (v := .int 8) rfl hm ⟨_, rfl⟩) (nomark _)) pss_never pss_nil)
    (pss_one (ps_ret (pv 2)))), ?_⟩
  refine ⟨_, rfl, _, rfl, z, k, letL, by rw [← let_eq]; rfl, hz, hk, ?_⟩
  have hlen : (S (run letL (z.drop k))).length ≤ sizeLine := by rw [S_len]; exact line_of (by omega)
  refine ⟨_, rfl, _, rfl, hlen, _, _, rfl, rfl, _, rfl, iteN (by rw [S_len]; omega) ?_⟩
  exact ⟨_, rfl, q⟩
theorem scWordAt : FnScope ["text", "start", "first"] ["text", "start"] (defScope sWordAt) := ⟨rfl, rfl, rfl, by decide +kernel, rfl, by decide +kernel, by decide +kernel⟩
theorem drop_at {z : List Nat} {k c : Nat} {r : List Nat} (h : z.drop k = c :: r) : z[k]? = some c ∧ k < z.length ∧ z.drop (k + 1) = r := by
  have h1 : z[k]? = some c := by
    have : (z.drop k)[0]? = some c := by rw [h]; rfl
    simpa [List.getElem?_drop] using this
  refine ⟨h1, (List.getElem?_eq_some_iff.mp h1).1, ?_⟩
  rw [← List.tail_drop, h]; rfl
theorem ok_wordAt (F : Fun K "word_at" "word_at" sWordAt f fd) (G : Gm mg) (RN : Fn P w K mg base 2 "name_at" ["text", "start"] spNameAt) (RF : Fn P w K mg base 2 "figures_at" ["text", "start"] spFig)
    (RB : Fn P w K mg base 3 "below_zero_at" ["text", "start"] spBelow) : FnOk P w K mg base CX0 4 f fd ["text", "start"] spWordAt := by
  obtain ⟨ts, hs⟩ := G.sgns
  obtain ⟨tl, hl⟩ := G.lets
  obtain ⟨tf, hf⟩ := G.figs
  refine F.ok scWordAt (fun vs H Q E h => ?_) (fun cdv A outer s H vs Q E hr h => ?_)
  · obtain ⟨z, k, u, r, rfl, _⟩ := h
    rfl
  obtain ⟨z, k, u, r, rfl, hz, hd, hw, hsep, q⟩ := h
  have hzl : (S z).length ≤ sizeLine := by rw [S_len]; exact line_of hz
  refine ⟨_, pss_cons (ps_set (i := 2) scWordAt.nd rfl (Or.inl rfl) (pe_ix ix_str (pv 0) (pv 1) (fun _ _ => rfl)))
    (pss_cons (ps_if (pt_cmpR op_in_one (pv 2) (pe_glob (v := .str SGNS) rfl hs ⟨_, rfl⟩) (by with_unfolding_all rfl)) (pss_one (ps_ret (pv 2))) pss_nil)
    (pss_cons (ps_if (pt_cmpR op_in_one (pv 2) (pe_glob (v := .str LETS) rfl hl ⟨_, rfl⟩) (by with_unfolding_all rfl)) (pss_one (ps_ret (pe_fn RN hr (pa_cons (pv 0) (pa_cons (pv 1) pa_nil))))) pss_nil)
    (pss_cons (ps_if (pt_cmpR op_eq (pv 2) pe_str (nomark _)) (pss_one (ps_ret (pe_op op_add_str pe_str (pe_fn RB hr (pa_cons (pv 0) (pa_cons (pe_op op_add (pv 1) pe_int) pa_nil)))))) pss_nil)
    (pss_cons (ps_if (pt_cmpR op_in_one (pv 2) (pe_glob (v := .str FIGS) rfl hf ⟨_, rfl⟩) (by with_unfolding_all rfl)) (pss_one (ps_ret (pe_fn RF hr (pa_cons (pv 0) (pa_cons (pv 1) pa_nil))))) pss_nil)
    pss_never)))), ?_⟩
  obtain ⟨c, u', hu, _⟩ := hw.head
  have hd' : z.drop k = c :: (u' ++ r) := by rw [hd, hu]; rfl
  obtain ⟨hat, hkl, hd1⟩ := drop_at hd'
  refine ⟨_, rfl, _, rfl, _, _, _, rfl, rfl, hzl, atS hat, ?_⟩
  refine ⟨_, rfl, _, _, rfl, rfl, _, rfl, ?_⟩
  rw [sgn_cps]
  cases hw with
  | @sign d hs' =>
    have e : d = c := by injection hu
    subst e
    exact iteP hs' ⟨_, rfl, q⟩
  | name hne h8 hall =>
    have hc : c ∈ letL := hall c (by rw [hu]; simp)
    have hrun : run letL (z.drop k) = u := by rw [hd]; exact run_eq hall (hsep.let_of hne hall)
    refine iteN (let_sgn c hc) ⟨_, rfl, _, _, rfl, rfl, _, rfl, ?_⟩
    rw [let_cps]
    refine iteP hc ⟨_, rfl, _, rfl, z, k, rfl, hz, Nat.le_of_lt hkl, by rw [hrun]; exact h8, ?_⟩
    rw [hrun]; exact q
  | num hn =>
    have hc : c ∈ figL := hn.all c (by rw [hu]; simp)
    have hrun : run figL (z.drop k) = u := by rw [hd]; exact run_eq hn.all (hsep.fig_of hn.ne hn.all)
    refine iteN (fig_sgn c hc) ⟨_, rfl, _, _, rfl, rfl, _, rfl, ?_⟩
    rw [let_cps]
    refine iteN (fig_let c hc) ⟨_, rfl, rfl, _, rfl, iteN (by rw [one_S, minus_eq]; exact str_ne (by simpa using (fig_32 c hc).2)) ⟨_, rfl, _, _, rfl, rfl, _, rfl, ?_⟩⟩
    rw [fig_cps]
    refine iteP hc ⟨_, rfl, _, rfl, z, k, rfl, hz, Nat.le_of_lt hkl, by rw [hrun]; exact hn, ?_⟩
    rw [hrun]; exact q
  | @neg v hn h48 =>
    have e : 45 = c ∧ v = u' := by injection hu with h1 h2; exact ⟨h1, h2⟩
    obtain ⟨e1, e2⟩ := e
    subst e1; subst e2
    have hrun : run figL (z.drop (k + 1)) = v := by rw [hd1]; exact run_eq hn.all ((hsep.tail hn.ne).fig_of hn.ne hn.all)
    refine iteN n45.1 ⟨_, rfl, _, _, rfl, rfl, _, rfl, ?_⟩
    rw [let_cps]
    refine iteN n45.2.1 ⟨_, rfl, rfl, _, rfl, iteP (by rw [one_S, minus_eq]) ?_⟩
    refine ⟨_, rfl, _, rfl, _, _, rfl, rfl, z, k + 1, rfl, hz, hkl, by rw [hrun]; exact hn, by rw [hrun]; exact h48, ?_⟩
    rw [hrun]
    refine ⟨_, _, rfl, rfl, ?_, ?_⟩
    · rw [minus_eq, S_len, S_len]
      have := hn.len
      exact line_of (by simp; omega)
    · rw [minus_eq, S_app]; exact q
end
end K6
namespace K6
open PySem L2 K3
section
variable {P : Program} {w : World} {K : PySem.W.Frag} {mg : Str → Option Value} {base : Heap} {f : Addr} {fd : FuncData}
theorem scWords : FnScope ["text", "told", "start", "word"] ["text"] (defScope sWords) := ⟨rfl, rfl, rfl, by decide +kernel, rfl, by decide +kernel, by decide +kernel⟩
theorem W_app (a b : List (List Nat)) : W (a ++ b) = W a ++ W b := by simp [W]
theorem W_len (a : List (List Nat)) : (W a).length = a.length := by simp [W]
theorem ok_words (F : Fun K "words" "words" sWords f fd) (G : Gm mg) (R : Fn P w K mg base 4 "word_at" ["text", "start"] spWordAt) : FnOk P w K mg base CX0 5 f fd ["text"] spWords := by
  refine F.ok scWords (fun vs H Q E h => ?_) (fun cdv A outer s H vs Q E hr h => ?_)
  · obtain ⟨z, ws, rfl, _⟩ := h
    rfl
  obtain ⟨z, ws, rfl, hz, hW, q⟩ := h
  have hzl : (S z).length ≤ sizeLine := by rw [S_len]; exact line_of hz
  refine ⟨_, pss_cons (ps_if (pt_not (pt_val (pe_callB call_isinst rfl G.isi PyProof.Rows.boot_isinstance (pa_cons (pv 0) (pa_cons (pe_bltn (v := .ty "str") rfl G.str PyProof.Rows.boot_str rfl) pa_nil))))) pss_never pss_nil)
    (pss_cons (ps_set (i := 1) scWords.nd rfl (Or.inl rfl) (pe_lst pa_nil))
    (pss_cons (ps_set (i := 2) scWords.nd rfl (Or.inl rfl) pe_int)
    (pss_cons (ps_while PassesOwn.never (pt_cmpR op_lt (pv 2) (pe_callB call_len_str rfl G.len PySem.boot_len (pa_cons (pv 0) pa_nil)) (nomark _))
      (pss_one (ps_if (pt_cmpR op_eq (pe_ix ix_str (pv 0) (pv 2) (fun _ _ => rfl)) pe_str (nomark _))
        (pss_one (ps_aug (i := 2) scWords.nd rfl (Or.inl rfl) pe_int ip_add))
        (pss_cons (ps_set (i := 3) scWords.nd rfl (Or.inl rfl) (pe_fn R hr (pa_cons (pv 0) (pa_cons (pv 2) pa_nil))))
        (pss_cons (ps_expr (pe_bm PySem.F.plainAttrs_list PySem.F.slot_list_append PySem.F.type_list_append mt_append (pv 1) (pa_cons (pv 3) pa_nil)))
        (pss_one (ps_aug (i := 2) scWords.nd rfl (Or.inl rfl) (pe_callB call_len_str rfl G.len PySem.boot_len (pa_cons (pv 3) pa_nil)) ip_add)))))))
    (pss_one (ps_ret (pv 1)))))), ?_⟩
  refine ⟨_, rfl, _, "str", _, true, rfl, .str _, rfl, _, rfl, iteF ?_⟩
  refine ⟨(by show 0 ≤ sizeLine; decide), fun l hl => ?_⟩
  have hws := hW.len
  refine ⟨fun m σ H' => ∃ (k : Nat) (done rest : List (List Nat)) (wd : Option V), σ = [some (.str (S z)), some (.ref l), some (.int (k : Int)), wd] ∧ Same H H' ∧ H' l = some (.lst (W done)) ∧ done ++ rest = ws ∧ Writ (z.drop k) rest ∧ k ≤ z.length ∧ m = z.length - k,
    ⟨_, 0, [], ws, none, rfl, same_new hl _, upd_same, rfl, hW, Nat.zero_le _, rfl⟩, ?_⟩
  rintro m σ H' ⟨k, done, rest, wd, rfl, hsame, hl', hdr, hwr, hk, rfl⟩
  refine ⟨_, rfl, _, rfl, _, rfl, hzl, _, _, rfl, rfl, _, rfl, ?_⟩
  refine ite2 (fun c => ?_) (fun c => ?_)
  · have c' : (k : Int) < (((S z).length : Nat) : Int) := of_decide_eq_true c
    rw [S_len] at c'
    have hkl : k < z.length := by omega
    have hat : z[k]? = some z[k] := List.getElem?_eq_getElem hkl
    have hdk : z.drop k = z[k] :: z.drop (k + 1) := List.drop_eq_getElem_cons hkl
    refine ⟨_, fun σ' H'' q' => q', ?_⟩
    refine ⟨_, rfl, _, rfl, _, _, _, rfl, rfl, hzl, atS hat, rfl, _, rfl, ?_⟩
    rcases hwr.step (by rw [hdk]; exact List.cons_ne_nil _ _) with ⟨r, er, hr'⟩ | ⟨u, r, vs, er, ev, hu, hsep, hr'⟩
    · have e32 : z[k] = 32 ∧ z.drop (k + 1) = r := by rw [hdk] at er; injection er with h1 h2; exact ⟨h1, h2⟩
      refine iteP (by rw [e32.1, one_S, blank_eq]) ⟨_, rfl, _, _, rfl, rfl, ?_⟩
      exact ⟨z.length - (k + 1), by omega, k + 1, done, rest, wd, rfl, hsame, hl', hdr, by rw [e32.2]; exact hr', by omega, rfl⟩
    · obtain ⟨c0, u', hu0, h32⟩ := hu.head
      have ec : z[k] = c0 := by
        rw [hdk, hu0] at er
        injection er
      have hul : 0 < u.length := List.length_pos_iff.mpr hu.ne
      have hzk : z.length - k = u.length + r.length := by
        have := congrArg List.length er
        rw [List.length_drop, List.length_append] at this
        exact this
      refine iteN (by rw [ec, one_S, blank_eq]; exact str_ne (by simpa using h32)) ?_
      refine ⟨_, rfl, _, rfl, z, k, u, r, rfl, hz, er, hu, hsep, ?_⟩
      have hdl : done.length < 9000 := by
        have h1 : (done ++ rest).length = ws.length := by rw [hdr]
        rw [List.length_append, ev, List.length_cons] at h1
        omega
      refine ⟨_, rfl, .inl ⟨rfl, _, SqL.of hl'⟩, _, rfl, l, _, _, rfl, rfl, hl', by rw [W_len, size_line]; omega, ?_⟩
      have hul' : (S u).length ≤ sizeLine := by rw [S_len]; exact line_of (Nat.le_trans hu.len (by omega))
      refine ⟨_, rfl, _, rfl, _, rfl, hul', _, _, rfl, rfl, ?_⟩
      refine ⟨z.length - (k + u.length), by omega, k + u.length, done ++ [u], vs, some (.str (S u)), ?_, ?_, ?_, ?_, ?_, by omega, rfl⟩
      · rw [S_len]; rfl
      · intro b o hb
        have hne : b ≠ l := ne_of_none hb hl
        rw [upd_ne hne]; exact hsame b o hb
      · rw [upd_same, W_app]; rfl
      · rw [← hdr, ev, List.append_assoc]; rfl
      · rw [← List.drop_drop, er, List.drop_left]; exact hr'
  · have c' : ¬ (k : Int) < (((S z).length : Nat) : Int) := of_decide_eq_false (Bool.eq_false_iff.mpr c)
    rw [S_len] at c'
    have hnil : z.drop k = [] := List.drop_eq_nil_of_le (by omega)
    rw [hnil] at hwr
    have hre : rest = [] := by
      have := hwr.len
      exact List.length_eq_zero_iff.mp (by simpa using this)
    rw [hre, List.append_nil] at hdr
    refine ⟨_, rfl, q l H' hsame (by rw [← hdr]; exact hl') hl⟩
end
end K6
namespace L2
open PySem PySem.Spec PyProof.Rows
section
variable {κ : Type} [DecidableEq κ]
end
section
variable {P : Program} {w : World} {H : Hp} {h : Heap} {a : Addr}
end
section
variable {X : Cx} {pins : List (Addr × Obj)} {σ : St} {H : Hp} {s : Shared} {a : Addr} {y v : V} {u r : Value} {o : Option V} {A : Around} {E : Value → Shared → Prop}
end
section
variable {X : Cx} {pins : List (Addr × Obj)} {σ : St} {H : Hp} {s : Shared} {a : Addr} {kvs : List (Key × V)} {k : Key} {u : Value} {A : Around} {E : Value → Shared → Prop}
end
section
variable {X : Cx} {o i e value : Expr} {pos pos' tpos : Pos} {td ty tv : TE}
end
section
variable {X : Cx} {pos : Pos}
end
section
variable {X : Cx} {pins : List (Addr × Obj)} {σ : St} {H : Hp} {s : Shared} {a : Addr} {y d : V} {u r : Value} {o : Option V} {A : Around} {E : Value → Shared → Prop}
end
section
variable {X : Cx} {o e f : Expr} {apos cpos : Pos} {td ty tx : TE}
end
section
variable {X : Cx} {pins : List (Addr × Obj)} {σ : St} {H : Hp} {s : Shared} {a : Addr} {kvs : List (Key × V)} {A : Around} {E : Value → Shared → Prop}
end
section
variable {X : Cx} {pins : List (Addr × Obj)} {σ : St} {H : Hp} {s : Shared} {a : Addr} {y : V} {u : Value} {A : Around} {E : Value → Shared → Prop}
end
end L2
namespace L2
open PySem PySem.Spec PyProof.Rows
section
variable {X : Cx}
theorem Same.seqT {K : PySem.W.Frag} {H H' : Hp} {a : Addr} {xs : List V} (e : Same H H') (h : SqT K H a xs) : SqT K H' a xs := by
  rcases h with (h | ⟨o, h⟩) | h
  · exact .inl (.inl (e _ _ h))
  · exact .inl (.inr ⟨o, e _ _ h⟩)
  · exact .inr h
end
def Itd (hi : Int) (n : Nat) : It := ⟨fun i _ => i < n, fun i H x H' => H' = H ∧ x = .int (hi - i), fun i _ => n ≤ i⟩
theorem turn_rangeD {P : Program} {w : World} {K : PySem.W.Frag} {tg : Expr} (it : Addr) (hi : Int) (n : Nat) : Turn P w K tg (Itd hi n) [it] it (fun i h => IsRangeIter h it (hi + (i : Nat) * (-1)) ((n : Int) - (i : Nat)) (-1)) where
  mem := by simp
  obj := fun i h st b hb => by
    have e : b = it := by simpa using hb
    subst e
    exact ⟨_, st, fun v z => by
      have z' : Data.fields _ = Data.cell v := z
      cases z'⟩
  keep := fun i h h' st k => k it (by simp) _ st
  item := by
    intro X hP hw hK hc i pins s σ H E I hf st hg
    subst hP hw hK
    have hg' : i < n := hg
    obtain ⟨f0, f1, f2, f3, f4, f5⟩ := hf it (by simp)
    refine wpAny_pyNext_range_item st (by omega) fun h' st' sb => ?_
    have I1 : Inv X pins σ H { s with heap := h', toks := s.toks + 1 } := I.turned (t' := s.toks + 1) (fun b o hb e => (sb.2 b hb).trans e) f0 f1 f3 f4 f5
    have st2 : IsRangeIter h' it (hi + ((i + 1 : Nat) : Int) * (-1)) ((n : Int) - ((i + 1 : Nat) : Int)) (-1) := by
      have e1 : hi + ((i + 1 : Nat) : Int) * (-1) = hi + (i : Nat) * (-1) + (-1) := by omega
      have e2 : (n : Int) - ((i + 1 : Nat) : Int) = (n : Int) - (i : Nat) - 1 := by omega
      rw [e1, e2]; exact st'
    exact ⟨_, rfl, go_of (s := { s with heap := h', toks := s.toks + 1 }) (n := "range_iterator") st2 rfl rfl (by decide) ⟨.int (hi - i), H, I1, ⟨s.toks, by congr 1; omega⟩, ⟨rfl, rfl⟩, st2, fun b hb => (hf b hb).1⟩⟩
  done := by
    intro X hP hw hK hc i pins s σ H E I hf st hg
    subst hP hw hK
    have hg' : n ≤ i := hg
    obtain ⟨f0, f1, f2, f3, f4, f5⟩ := hf it (by simp)
    exact wpAny_pyNext_range_end (I.ok.hd hc) st (by omega) fun h' eb => ⟨rfl, I.turned (t' := s.toks) (fun b o hb e => eb b o hb e) f0 f1 f3 f4 f5⟩
  self := fun _ _ _ _ _ st h => wpAny_pyIter_rangeiter st h
section
variable {X : Cx} {tg : Expr}
theorem rangeSize_neg (a b : Int) : Builtin.Range.rangeSize a b (-1) = if b < a then a - b else 0 := by
  unfold Builtin.Range.rangeSize
  simp only [show ¬ ((-1 : Int) > 0) by decide, if_false]
  split <;> first | omega | (simp; omega) | simp
def iRngD (ta : TA) : TI := fun σ H R => ta σ H fun vs H1 => ∃ i j : Int, vs = [.int i, .int j, .int (-1)] ∧ (-(2 ^ 20) ≤ i ∧ i < 2 ^ 20 ∧ -(2 ^ 20) ≤ j ∧ j < 2 ^ 20) ∧ R (Itd i (i - j).toNat) H1
theorem pi_rangeD {a b c : Expr} {ta : TA} {p pos : Pos} (hg : Gl X "range") (hm : X.mg "range" = none) (ha : PA X [a, b, c] ta) (hs : starEach [a, b, c] X.env = [(false, eval a X.env), (false, eval b X.env), (false, eval c X.env)] := by rfl)
    (hs2 : starEach [b, c] X.env = [(false, eval b X.env), (false, eval c X.env)] := by rfl) : PI X tg (.Call (.Name "range" p) [a, b, c] [] pos) (iRngD ta) := by
  intro pins s σ H R I h
  refine Call_ (ld_blt I hg hm boot_range (PyProof.Rows.callWith_type1 (thn (ha pos pins s σ H _ I h) fun us s1 ⟨vs, H1, I1, r1, q1⟩ => ?_) (by rw [hs, hs2]) (by rw [hs2]; rfl)))
  obtain ⟨i, j, e, ⟨q1, q2, q3, q4⟩, q⟩ := q1
  subst e
  cases r1 with
  | cons r rr =>
    cases rr with
    | cons r' rr =>
      cases rr with
      | cons r'' rr =>
        cases rr
        obtain ⟨t, rfl⟩ := r
        obtain ⟨t', rfl⟩ := r'
        obtain ⟨t'', rfl⟩ := r''
        refine call_range_3 (by decide) ?_ (.inl (PyProof.noPylong_small (by decide)))
        have hsmall : Builtin.Range.small i j (-1) = true := by
          unfold Builtin.Range.small
          rw [rangeSize_neg]
          simp only [Builtin.Range.rangeFitsLong, Bool.and_eq_true, Bool.or_eq_true, decide_eq_true_eq, beq_iff_eq, show ¬ ((-1 : Int) > 0) by decide, if_false]
          split <;> omega
        refine wpAny_pyIter_range (IsRange.new ..) hsmall ?_
        have I2 : Inv X pins σ H1 { s1 with heap := s1.heap.push { cls := .type "range", data := .fields #[.int i t, .int j t', .int (-1) t''] }, toks := s1.toks } := I1.kept fun b o e => Heap.get?_push_of_some _ e
        refine ⟨(s1.heap.push { cls := .type "range", data := .fields #[.int i t, .int j t', .int (-1) t''] }).objs.size, [(s1.heap.push { cls := .type "range", data := .fields #[.int i t, .int j t', .int (-1) t''] }).objs.size], _, _, H1, rfl,
          I2.kept (t' := s1.toks) fun b o e => Heap.get?_push_of_some _ e, turn_rangeD _ i (i - j).toNat, ?_, fun b hb => ?_, q⟩
        · have e1 : i + ((0 : Nat) : Int) * (-1) = i := by omega
          have e2 : (((i - j).toNat : Nat) : Int) - ((0 : Nat) : Int) = Builtin.Range.rangeSize i j (-1) := by rw [rangeSize_neg]; split <;> omega
          show IsRangeIter _ _ (i + ((0 : Nat) : Int) * (-1)) ((((i - j).toNat : Nat) : Int) - ((0 : Nat) : Int)) (-1)
          rw [e1, e2]
          exact Heap.get?_push_size _ rfl
        · have e : b = (s1.heap.push { cls := .type "range", data := .fields #[.int i t, .int j t', .int (-1) t''] }).objs.size := by simpa using hb
          subst e
          exact I2.fpOk (Nat.le_refl _) (I2.hok.fresh (Nat.le_refl _))
theorem for_rangeD {hi : Int} {n : Nat} {g : TG} {tb : TS} {D : Ends} {σ : St} {H : Hp} (Pv : Nat → St → Hp → Prop) (h0 : Pv 0 σ H)
    (hs : ∀ i σ H, i < n → Pv i σ H → g (.int (hi - i)) σ H fun σ2 H2 => tb { D with nx := Pv (i + 1), ct := Pv (i + 1), bk := D.nx } σ2 H2) (hd : ∀ σ H, Pv n σ H → D.nx σ H) :
    ∃ W : Nat → Nat → St → Hp → Prop, (∃ m, W 0 m σ H) ∧ ∀ i m σ H, W i m σ H →
      ((Itd hi n).stop i H ∧ D.nx σ H) ∨ ((Itd hi n).go i H ∧ ∃ N : St → Hp → Prop, (∀ σ' H', N σ' H' → ∃ m', m' < m ∧ W (i + 1) m' σ' H') ∧ ∀ x H', (Itd hi n).yld i H x H' → g x σ H' fun σ2 H2 => tb { D with nx := N, ct := N, bk := D.nx } σ2 H2) := by
  refine ⟨fun i m σ H => m = n - i ∧ i ≤ n ∧ Pv i σ H, ⟨n - 0, rfl, Nat.zero_le _, h0⟩, ?_⟩
  rintro i m σ H ⟨rfl, hi', p⟩
  by_cases h : i < n
  · refine .inr ⟨h, Pv (i + 1), fun σ' H' p' => ⟨n - (i + 1), by omega, rfl, h, p'⟩, ?_⟩
    rintro x H' ⟨rfl, rfl⟩
    exact hs i σ _ h p
  · have e : i = n := by omega
    subst e
    exact .inl ⟨Nat.le_refl _, hd σ H p⟩
end
end L2
namespace TM
inductive Tree (α : Type) where
  | node (name : α) (mark : Int) (bs : List (Tree α))
variable {α : Type}
def Tree.bs : Tree α → List (Tree α)
  | .node _ _ bs => bs
structure Rows (α : Type) where
  n : Nat
  nm : Nat → α
  mr : Nat → Int
  up : Nat → Nat
variable {R : Rows α}
section
variable {K : Nat → List Int} {B : Nat → Tree α} {o0 : Tree α}
def it (R : Rows α) : Nat → Nat → Nat
  | 0, s => s
  | j + 1, s => R.up (it R j s)
variable {B' : Nat → Tree α} {o : Tree α} {s : Nat}
end
end TM
namespace L2
open PySem PySem.Spec PyProof.Rows TM
mutual
inductive TrV (K : PySem.W.Frag) (H : Hp) : V → Tree Str → Prop where
  | mk {a b : Addr} {vs : List V} {ts : List (Tree Str)} {name : Str} {mark : Int} : SqT K H a [.str name, .int mark, .ref b] → SqT K H b vs → TrAll K H vs ts → vs.length ≤ 1000 → TrV K H (.ref a) (.node name mark ts)
inductive TrAll (K : PySem.W.Frag) (H : Hp) : List V → List (Tree Str) → Prop where
  | nil : TrAll K H [] []
  | cons {v : V} {vs : List V} {t : Tree Str} {ts : List (Tree Str)} : TrV K H v t → TrAll K H vs ts → TrAll K H (v :: vs) (t :: ts)
end
mutual
theorem TrV.mono {K : PySem.W.Frag} {H H' : Hp} (k : ∀ a xs, SqT K H a xs → SqT K H' a xs) : ∀ {v : V} {t : Tree Str}, TrV K H v t → TrV K H' v t
  | _, _, .mk h1 h2 h3 h4 => .mk (k _ _ h1) (k _ _ h2) (TrAll.mono k h3) h4
theorem TrAll.mono {K : PySem.W.Frag} {H H' : Hp} (k : ∀ a xs, SqT K H a xs → SqT K H' a xs) : ∀ {vs : List V} {ts : List (Tree Str)}, TrAll K H vs ts → TrAll K H' vs ts
  | _, _, .nil => .nil
  | _, _, .cons h t => .cons (TrV.mono k h) (TrAll.mono k t)
end
theorem TrAll.length {K : PySem.W.Frag} {H : Hp} : ∀ {vs : List V} {ts : List (Tree Str)}, TrAll K H vs ts → vs.length = ts.length
  | _, _, .nil => rfl
  | _, _, .cons _ t => by rw [List.length_cons, List.length_cons, TrAll.length t]
theorem TrAll.get {K : PySem.W.Frag} {H : Hp} : ∀ {vs : List V} {ts : List (Tree Str)} {i : Nat} {t : Tree Str}, TrAll K H vs ts → ts[i]? = some t → ∃ v, vs[i]? = some v ∧ TrV K H v t
  | _, _, _, _, .nil, e => by simp at e
  | _, _, 0, _, .cons h _, e => by simp at e; subst e; exact ⟨_, rfl, h⟩
  | _, _, i + 1, t, .cons _ r, e => by
    obtain ⟨v, h1, h2⟩ := TrAll.get (i := i) (t := t) r (by simpa using e)
    exact ⟨v, by simpa using h1, h2⟩
theorem TrAll.append {K : PySem.W.Frag} {H : Hp} : ∀ {vs ws : List V} {ts us : List (Tree Str)}, TrAll K H vs ts → TrAll K H ws us → TrAll K H (vs ++ ws) (ts ++ us)
  | _, _, _, _, .nil, h => h
  | _, _, _, _, .cons a t, h => .cons a (TrAll.append t h)
end L2
namespace L2
open PySem
def SameX (x : Addr) (H H' : Hp) : Prop := ∀ b u, b ≠ x → H b = some u → H' b = some u
theorem SameX.trans {x : Addr} {H H1 H2 : Hp} (a : SameX x H H1) (b : SameX x H1 H2) : SameX x H H2 := fun c u n e => b c u n (a c u n e)
theorem SameX.of {x : Addr} {H H' : Hp} (h : Same H H') : SameX x H H' := fun b u _ e => h b u e
theorem SameX.upd {x : Addr} {H : Hp} {o : HO} : SameX x H (upd H x o) := fun b u n e => by rw [upd_ne n]; exact e
theorem put_no {f g : Str} {v y : V} {r : List (Str × V)} (h : ¬ g = f) : putF f v ((g, y) :: r) = (g, y) :: putF f v r := by
  show (if g = f then _ else _) = _
  rw [if_neg h]
theorem put_yes {f : Str} {v y : V} {r : List (Str × V)} : putF f v ((f, y) :: r) = (f, v) :: r := by
  show (if f = f then _ else _) = _
  rw [if_pos rfl]
end L2
namespace L2
open PySem PySem.Spec PyProof.Rows
def lamArgs (e : Expr) : Arguments := match e with
  | .Lambda a _ _ _ => a
  | _ => { posonlyargs := [], args := [], vararg := none, kwonlyargs := [], kw_defaults := [], kwarg := none, defaults := [] }
def lamBody (e : Expr) : Expr := match e with
  | .Lambda _ b _ _ => b
  | _ => e
def lamScope (e : Expr) : Scope := match e with
  | .Lambda _ _ s _ => s
  | _ => { kind := .function, names := [], isGenerator := false, isCoroutine := false }
def lamPos (e : Expr) : Pos := match e with
  | .Lambda _ _ _ p => p
  | _ => ⟨0, 0, 0, 0⟩
def retOf (s : Stmt) : Expr := match (defBody s).getLast? with
  | some (.Return (some e) _) => e
  | _ => .Name "" ⟨0, 0, 0, 0⟩
def argOf (e : Expr) (i : Nat) : Expr := match e with
  | .Call _ as _ _ => as.getD i e
  | _ => e
def LamO (f : Addr) (fd : FuncData) : HO := .ext fun h => h.get? f = some { cls := .type "function", data := .func fd }
def CodO (c : Addr) (qual : Str) : HO := .ext fun h => h.CodeRec (.ref c) qual
def TbS (H : Hp) (T : Addr) (pos : Pos) (qual : Str) : Prop := H T = some (.tbl #[]) ∨ ∃ c, H T = some (.tbl #[rawInt pos.line, rawInt pos.col, .ref c]) ∧ H c = some (CodO c qual)
theorem TbS.at {H : Hp} {T : Addr} {pos : Pos} {qual : Str} (h : TbS H T pos qual) : ∃ ps, H T = some (.tbl ps) := by
  rcases h with h | ⟨c, h, _⟩
  · exact ⟨_, h⟩
  · exact ⟨_, h⟩
theorem TbS.same {H H' : Hp} {T : Addr} {pos : Pos} {qual : Str} (g : Same H H') (h : TbS H T pos qual) : TbS H' T pos qual := by
  rcases h with h | ⟨c, h, h2⟩
  · exact .inl (g _ _ h)
  · exact .inr ⟨c, g _ _ h, g _ _ h2⟩
def BtAt (mg : Str → Option Value) (base : Heap) : Prop := ∃ bm o, mg "__builtins__" = some (.ref bm) ∧ bm ≠ builtinsNs ∧ bm ≠ mainGlobals ∧ base.get? bm = some o ∧ o.cls = .type "module" ∧ o.dict = some builtinsNs ∧ o.data = .plain
section
variable {X : Cx}
theorem ext_lam {P : Program} {w : World} {H : Hp} {h : Heap} {f : Addr} {fd : FuncData} (e : h.get? f = some { cls := .type "function", data := .func fd }) : ObjOk P w H h f (LamO f fd) := ⟨e, ⟨_, e⟩, fun _ _ e1 k => k _ e1⟩
theorem ext_cod {P : Program} {w : World} {H : Hp} {h : Heap} {c : Addr} {qual : Str} (e : h.CodeRec (.ref c) qual) : ObjOk P w H h c (CodO c qual) := by
  refine ⟨e, ?_, fun h1 h2 e1 k => ?_⟩
  · obtain ⟨c', oc, vs, tq, z, hoc, _⟩ := e
    cases z
    exact ⟨_, hoc⟩
  · obtain ⟨c', oc, vs, tq, z, hoc, r⟩ := e1
    cases z
    exact ⟨c, oc, vs, tq, rfl, k _ hoc, r⟩
end
end L2
namespace L2
open PySem PySem.Spec PyProof.Rows
section
variable {X : Cx}
end
section
variable {P : Program} {w : World} {K : PySem.W.Frag} {mg : Str → Option Value} {base : Heap}
theorem code_of {x : Str} {f c T : Addr} {oc : Value} {od : Option Addr} {fd : FuncData} {sl : Array (Option Value)} (hn : PySem.W.nsIn K mainGlobals x = some (some (.ref f))) (lk : K.lookup f = some ⟨oc, od, .func fd, sl⟩) (h : PySem.W.tabIn K x = some (c, T)) : fd.code = .ref c := by
  unfold PySem.W.tabIn at h
  rw [hn] at h
  simp only [lk] at h
  split at h
  · rename_i c2 hc
    split at h
    · split at h
      · cases h; exact hc
      · cases h
    · cases h
  · cases h
end
end L2
namespace L2
open PySem PySem.Spec PyProof.Rows
def hidF (h : Heap) (H : Hp) (l : List Addr) : Heap := PySem.W.hideAll h (trk h H ++ l)
theorem hidF_size (h : Heap) (H : Hp) (l : List Addr) : (hidF h H l).objs.size = h.objs.size := PySem.W.hideAll_size _ _
theorem hidF_get {h : Heap} {H : Hp} {l : List Addr} {b : Addr} {o : Obj} (e : h.get? b = some o) (n : H b = none) (m : b ∉ l) : (hidF h H l).get? b = some o :=
  PySem.W.hideAll_get _ e fun hm => by
    rcases List.mem_append.mp hm with hm | hm
    · have q : (H b).isSome = true := (List.mem_filter.mp hm).2
      rw [n] at q; simp at q
    · exact m hm
theorem of_hidF {h : Heap} {H : Hp} {l : List Addr} {b : Addr} {o : Obj} (e : (hidF h H l).get? b = some o) : h.get? b = some o ∧ H b = none ∧ b ∉ l := by
  have e' : h.get? b = some o := PySem.W.of_hideAll (trk h H ++ l) e
  have no : ∀ m : b ∈ trk h H ++ l, False := fun m => by
    have z : (hidF h H l).get? b = none := PySem.W.hideAll_none (trk h H ++ l) m
    rw [z] at e; cases e
  refine ⟨e', ?_, fun m => no (List.mem_append_right _ m)⟩
  cases q : H b with
  | none => rfl
  | some x => exact (no (List.mem_append_left _ (List.mem_filter.mpr ⟨List.mem_range.mpr (Heap.lt_size e'), by simp [q]⟩))).elim
def Sub (g h : Heap) : Prop := ∀ b o, g.get? b = some o → h.get? b = some o
theorem Mod.sub {K : PySem.W.Frag} {mg : Str → Option Value} {g h : Heap} (s : Sub g h) (m : Mod K mg g) : Mod K mg h :=
  ⟨m.kin.keeps s, m.glob.keeps s, let ⟨mb, hb, q⟩ := m.blt; ⟨mb, hb.keeps s, q⟩, m.nolimit.keeps s⟩
theorem BtAt.sub {mg : Str → Option Value} {g h : Heap} (s : Sub g h) (b : BtAt mg g) : BtAt mg h := by
  obtain ⟨bm, ob, b1, b2, b3, b4, r⟩ := b
  exact ⟨bm, ob, b1, b2, b3, s _ _ b4, r⟩
theorem funs_to {h g base : Heap} : ∀ {l : List Env}, h.FunFrames base l → (∀ b ∈ frs l, g.get? b = none) → h.FunFrames g l
  | [], _, _ => trivial
  | env :: rest, hf, hn => by
    obtain ⟨h1, ⟨L, o, e1, e2, e3, e4⟩, r⟩ := hf
    refine ⟨h1, ⟨L, o, e1, hn L ?_, e3, e4⟩, funs_to r fun b hb => hn b ?_⟩
    · exact List.mem_filterMap.mpr ⟨env, List.mem_cons_self, e1⟩
    · obtain ⟨e, he, q⟩ := List.mem_filterMap.mp hb
      exact List.mem_filterMap.mpr ⟨e, List.mem_cons_of_mem _ he, q⟩
theorem Env0.sub {P : Program} {w : World} {K : PySem.W.Frag} {mg : Str → Option Value} {base : Heap} {A : Around} {outer : List Env} {s : Shared} {H : Hp} (e : Env0 P w K mg base A outer s H) : Sub base (hidF s.heap H (frs outer)) := fun b o h =>
  hidF_get (e.bs b o h).1 (e.bs b o h).2 fun m => by
    have := (e.funs.mem m).1
    rw [h] at this; cases this
theorem Env0.big {P : Program} {w : World} {K : PySem.W.Frag} {mg : Str → Option Value} {base : Heap} {A : Around} {outer : List Env} {s : Shared} {H : Hp} (e : Env0 P w K mg base A outer s H) : Env0 P w K mg (hidF s.heap H (frs outer)) A outer s H :=
  ⟨e.frames, e.mod.sub e.sub, fun b o h => ⟨(of_hidF h).1, (of_hidF h).2.1⟩, Nat.le_of_eq (hidF_size _ _ _), funs_to e.funs fun b hb => by
    cases q : (hidF s.heap H (frs outer)).get? b with
    | none => rfl
    | some o => exact absurd hb (of_hidF q).2.2, e.frf, e.hok, e.bare⟩
def Cells (X : Cx) (σ : St) (g : Heap) : Prop := ∀ (i : Nat) (x : Str) (v : V), X.N[i]? = some x → σ[i]? = some (some v) → X.env.scope.names.lookup x = some .cell → ∃ c u, X.env.cells.lookup x = some c ∧ g.IsCell c (some u) ∧ RelV v u
section
variable {X : Cx} {pins : List (Addr × Obj)} {σ : St} {H : Hp} {s : Shared}
theorem Inv.cells (I : Inv X pins σ H s) (hfn : ∀ x, X.fn x = true) : Cells X σ (hidF s.heap H (frs X.stack)) := by
  intro i x v h1 h2 h3
  obtain ⟨m, hns, hl⟩ := I.loc
  obtain ⟨u, rv, lk⟩ := hl i x v h1 h2 (.inr (.inl h3))
  rcases lk with ⟨k, _⟩ | ⟨_, c, hc, ic⟩
  · have k' : X.env.scope.names.lookup x = some .local := k
    rw [h3] at k'; cases k'
  refine ⟨c, u, hc, ?_, rv⟩
  obtain ⟨o, ho, r⟩ := ic
  refine ⟨o, hidF_get ho (I.freeC x c hc) (fun m => ?_), r⟩
  have hge := I.ok.cab x c (hfn x) hc
  have lt : ∀ b ∈ frs X.outer, b < X.s₀.heap.objs.size := fun b hb => by
    obtain ⟨_, o', ho', _⟩ := I.ok.funs.mem hb
    exact Heap.lt_size ho'
  rcases I.ok.stk with e | ⟨e, e2⟩
  · rw [e] at m
    exact absurd (lt c m) (Nat.not_lt.mpr hge)
  · rw [e] at m
    rcases List.mem_filterMap.mp m with ⟨env, he, hf⟩
    rcases List.mem_cons.mp he with rfl | he
    · rw [e2] at hf
      obtain rfl := Option.some.inj hf
      obtain ⟨o2, es, ep, h5, h6, _⟩ := hns
      rw [h5] at ho
      obtain rfl := Option.some.inj ho
      rw [h6] at r
      cases r
    · exact absurd (lt c (List.mem_filterMap.mpr ⟨env, he, hf⟩)) (Nat.not_lt.mpr hge)
end
abbrev lamFnC (qual : Str) (e : Expr) (cl : List (Str × Addr)) (pm : Value) (c : Addr) (ctv : Value) : FuncData := PySem.W.kla_fn "<lambda>" qual (lamArgs e) (lamBody e) (lamScope e) cl pm (.ref c) ctv
structure LamAtC (H : Hp) (f : Addr) (e : Expr) (cl : List (Str × Addr)) : Prop where
  ex : ∃ qual pm c ctv, H f = some (LamO f (lamFnC qual e cl pm c ctv)) ∧ H c = some (CodO c qual)
theorem LamAtC.same {H H' : Hp} {f : Addr} {e : Expr} {cl : List (Str × Addr)} (g : Same H H') (h : LamAtC H f e cl) : LamAtC H' f e cl := by
  obtain ⟨q, pm, c, ctv, h1, h2⟩ := h.ex
  exact ⟨q, pm, c, ctv, g _ _ h1, g _ _ h2⟩
def tLamC (T : Addr) (qual : Str) (e : Expr) (cl : List (Str × Addr)) : TE := fun σ H Q => TbS H T (lamPos e) qual ∧ ∀ f H', SameX T H H' → H f = none → LamAtC H' f e cl → TbS H' T (lamPos e) qual → Q (.ref f) H'
section
variable {X : Cx}
theorem pe_lamC {cl : List (Str × Addr)} {a : Arguments} {b : Expr} {sc : Scope} {pos : Pos} {c T : Addr} (hcode : X.env.code = .ref c) (hC : PySem.W.codeHdIn X.K c T = true) (hB : BtAt X.mg X.base) (hcl : closureFor sc X.env = pure cl := by rfl) (hdef : defaultsOf a X.env = ([], []) := by rfl) :
    PE X (.Lambda a b sc pos) (tLamC T (X.env.qual ++ "<lambda>") (.Lambda a b sc pos) cl) := by
  intro pins s σ H Q I h
  obtain ⟨ht, q⟩ := h
  obtain ⟨ps0, hT⟩ := ht.at
  obtain ⟨bm, ob, b1, b2, b3, b4, b5, b6, b7⟩ := hB
  have hbT : bm ≠ T := fun z => by have := (I.bs _ _ b4).2; rw [z, hT] at this; cases this
  have hg : s.heap.Ns mainGlobals X.mg := I.mod.glob.keeps I.bk
  have hgT : mainGlobals ≠ T := fun z => by
    obtain ⟨o, es, ep, e, _⟩ := I.mod.glob
    have := (I.bs _ _ e).2
    rw [z, hT] at this; cases this
  have hb : s.heap.BuiltinsAt X.mg T := ⟨bm, ob, b1, b2, b3, hbT, I.bk _ _ b4, b5, b6, b7⟩
  have hCd : PySem.W.CodeHd s.heap c T := PySem.W.codeHd_of_K I.kIn hC
  have hLT : X.env.locals ≠ T := fun z => by have := I.free; rw [z, hT] at this; cases this
  refine PySem.W.kla_eval hdef ?_
  rcases ht with h0 | ⟨c', h0, hc'⟩
  · have hP : s.heap.get? T = some (PySem.W.tabObj #[]) := I.hok T _ h0
    refine PySem.W.kla_makeFunction (mg := X.mg) hcl I.ok.glob hg hcode hCd hP trivial rfl hgT hb fun c' ctv h' tk hx hge hlt hrec htb => ?_
    obtain ⟨qual, hqual⟩ : ∃ qual, qual = X.env.qual ++ "<lambda>" := ⟨_, rfl⟩
    rw [← hqual] at hrec ⊢
    have hHc : H c' = none := I.hok.fresh hge
    have hHf : H h'.objs.size = none := I.hok.fresh (Nat.le_of_lt (Nat.lt_of_le_of_lt hge hlt))
    have nTc : T ≠ c' := ne_of_none h0 hHc
    have nTf : T ≠ h'.objs.size := ne_of_none h0 hHf
    have ncf : c' ≠ h'.objs.size := Nat.ne_of_lt hlt
    obtain ⟨fd, hfd⟩ : ∃ fd : FuncData, fd = lamFnC qual (.Lambda a b sc pos) cl ((X.mg "__name__").getD .none) c' ctv := ⟨_, rfl⟩
    have hob : PySem.W.kla_obj "<lambda>" qual a b sc cl ((X.mg "__name__").getD .none) c' ctv = { cls := .type "function", data := .func fd } := by rw [hfd]; rfl
    rw [hob]
    obtain ⟨ps, hps⟩ : ∃ ps : Array Value, ps = #[rawInt pos.line, rawInt pos.col, .ref c'] := ⟨_, rfl⟩
    have htb' : h'.get? T = some { cls := .none, data := .fields ps } := by rw [hps]; exact htb
    obtain ⟨H', hH'⟩ : ∃ H' : Hp, H' = upd (upd (upd H T (.tbl ps)) c' (CodO c' qual)) h'.objs.size (LamO h'.objs.size fd) := ⟨_, rfl⟩
    have eF : H' h'.objs.size = some (LamO h'.objs.size fd) := by rw [hH']; exact upd_same
    have eC : H' c' = some (CodO c' qual) := by rw [hH', upd_ne ncf]; exact upd_same
    have eT : H' T = some (.tbl ps) := by rw [hH', upd_ne nTf, upd_ne nTc]; exact upd_same
    have eO : ∀ x, x ≠ T → x ≠ c' → x ≠ h'.objs.size → H' x = H x := fun x n1 n2 n3 => by rw [hH', upd_ne n3, upd_ne n2, upd_ne n1]
    have eK : ∀ x u, H x = some u → x ≠ T → H' x = some u := fun x u e n1 => by rw [eO x n1 (ne_of_none e hHc) (ne_of_none e hHf)]; exact e
    have hpush : ∀ x o, h'.get? x = some o → (h'.push { cls := .type "function", data := .func fd }).get? x = some o := fun x o e => Heap.get?_push_of_some _ e
    have J : Inv X pins σ H' { s with heap := h'.push { cls := .type "function", data := .func fd }, toks := tk } := by
      refine I.step (g' := s.gens) (d' := s.drawn) (ch := []) (fun _ z => nomatch z) (fun x o _ _ _ e n => ?_) (fun x o _ _ _ e n => ?_) (fun x o _ e n => ?_) (fun x o _ e => ?_) (fun x xs e => ?_) (fun x o u e => ?_) (fun x qs e => ?_) (fun m hn => ?_) (fun x o e => ?_) I.bare
      · exact hpush _ _ (hx _ _ (fun z => by rw [z, hT] at n; cases n) e)
      · exact ⟨o.slots, hpush _ _ (hx _ _ (fun z => by rw [z, hT] at n; cases n) e)⟩
      · have lx := Heap.lt_size e
        rw [eO x (fun z => by rw [z, hT] at n; cases n) (Nat.ne_of_lt (Nat.lt_of_lt_of_le lx hge)) (Nat.ne_of_lt (Nat.lt_trans (Nat.lt_of_lt_of_le lx hge) hlt))]
        exact n
      · by_cases z : x = T
        · exact ⟨_, hpush _ _ (z ▸ htb')⟩
        · exact ⟨o, hpush _ _ (hx _ _ z e)⟩
      · exact eK x _ e (ne_of e h0 (by intro z; cases z))
      · exact eK x _ e (ne_of e h0 (by intro z; cases z))
      · by_cases z : x = T
        · subst z
          rw [h0] at e
          cases e
          exact ⟨ps, by rw [eT]; simp⟩
        · exact ⟨#[], by rw [eK x _ e z]; simp⟩
      · exact (hn.extBut hx hLT).push _
      · by_cases z1 : x = h'.objs.size
        · subst z1
          rw [eF] at e
          cases e
          exact ext_lam (Heap.get?_push_size _ rfl)
        by_cases z2 : x = c'
        · subst z2
          rw [eC] at e
          cases e
          refine ext_cod ?_
          obtain ⟨c2, oc, vs, tq, z, hoc, r⟩ := hrec
          exact ⟨c2, oc, vs, tq, z, hpush _ _ hoc, r⟩
        by_cases z3 : x = T
        · subst z3
          rw [eT] at e
          cases e
          exact hpush _ _ htb'
        rw [eO x z3 z2 z1] at e
        refine (I.hok x o e).stay (fun y u hy r => ?_) (fun y r => ?_) fun y xs r => ?_
        · refine hpush _ _ (hx _ _ (fun z => ?_) r)
          rcases hy with hy | hy
          · exact z3 (hy.symm.trans z)
          · rw [z, hT] at hy; cases hy
        · exact eK y _ r (ne_of r h0 (by intro z; cases z))
        · exact eK y _ r (ne_of r h0 (by intro z; cases z))
    refine ⟨.ref h'.objs.size, H', J, rfl, q h'.objs.size H' (fun x u n e => eK x u e n) hHf ⟨qual, _, c', ctv, by rw [eF, hfd], eC⟩ ?_⟩
    refine .inr ⟨c', ?_, by rw [← hqual]; exact eC⟩
    rw [eT, hps]; rfl
  · have hP : s.heap.get? T = some (PySem.W.tabObj #[rawInt pos.line, rawInt pos.col, .ref c']) := I.hok T _ h0
    have hf : codeAmong pos (#[rawInt pos.line, rawInt pos.col, Value.ref c'] : Array Value).toList = some (.ref c') := by
      show (if ((pos.line : Int) == (pos.line : Int) && (pos.col : Int) == (pos.col : Int)) = true then some (Value.ref c') else _) = _
      simp
    refine PySem.W.kla_makeFunctionHit (mg := X.mg) hcl I.ok.glob hg hcode hCd hP trivial hf hb fun ctv h' tk hk hsz => ?_
    obtain ⟨qual, hqual⟩ : ∃ qual, qual = X.env.qual ++ "<lambda>" := ⟨_, rfl⟩
    rw [← hqual]
    have hHf : H h'.objs.size = none := I.hok.fresh hsz
    refine ⟨.ref h'.objs.size, upd H h'.objs.size (LamO h'.objs.size (lamFnC qual (.Lambda a b sc pos) cl ((X.mg "__name__").getD .none) c' ctv)), I.laid (t' := tk) (fun x o e => Heap.get?_push_of_some _ (hk _ _ e)) hsz (ext_lam (Heap.get?_push_size _ rfl)), rfl, ?_⟩
    have g := same_new hHf (LamO h'.objs.size (lamFnC qual (.Lambda a b sc pos) cl ((X.mg "__name__").getD .none) c' ctv))
    refine q h'.objs.size _ (SameX.of g) hHf ⟨qual, _, c', ctv, upd_same, g _ _ (by rw [hqual]; exact hc')⟩ (.inr ⟨c', g _ _ h0, g _ _ hc'⟩)
end
end L2
namespace L2
open PySem PySem.Spec PyProof.Rows
abbrev envL (qual : Str) (scope : Scope) (cl : List (Str × Addr)) (L f : Addr) (cd : Value) : Env := newEnv scope L mainGlobals cl (qual ++ Str.ofString ".<locals>.") (some f) cd none builtinsNs
def cxL (CX : CXT) (P : Program) (w : World) (K : PySem.W.Frag) (mg : Str → Option Value) (base : Heap) (N : List Str) (qual : Str) (scope : Scope) (cl : List (Str × Addr)) (f : Addr) (cd : Value) (A : Around) (outer : List Env) (s : Shared) (H : Hp) (E : XK) : Cx :=
  { prog := P, w := w, K := K, mg := mg, base := base, A := A.deeper (envL qual scope cl s.heap.objs.size f cd), N := N, s₀ := s, H₀ := H, env := envL qual scope cl s.heap.objs.size f cd, outer := outer, stack := envL qual scope cl s.heap.objs.size f cd :: outer, ex := [], fn := fun _ => false, calm := true, pn := [],
    xe := fun e s' => wpAny (model P w) (A.deeper (envL qual scope cl s.heap.objs.size f cd)) (leaving (envL qual scope cl s.heap.objs.size f cd) e) (fun _ s'' => CX outer H s E e s'') (fun e' s'' => CX outer H s E e' s'') s' }
structure ClAt (base : Heap) (N : List Str) (cl : List (Str × Addr)) (vs : List V) : Prop where
  len : vs.length = N.length
  val : ∀ (i : Nat) (x : Str) (v : V), N[i]? = some x → vs[i]? = some v → ∃ c u, cl.lookup x = some c ∧ base.IsCell c (some u) ∧ RelV v u
  cel : ∀ x c, cl.lookup x = some c → ∃ u, base.IsCell c u
  inj : ∀ x y c, cl.lookup x = some c → cl.lookup y = some c → x = y
theorem ClAt.two {base : Heap} {x1 x2 : Str} {c1 c2 : Addr} {v1 v2 : V} {u1 u2 : Value} (hx : x1 ≠ x2) (hc : c1 ≠ c2) (h1 : base.IsCell c1 (some u1)) (h2 : base.IsCell c2 (some u2)) (r1 : RelV v1 u1) (r2 : RelV v2 u2) : ClAt base [x1, x2] [(x2, c2), (x1, c1)] [v1, v2] := by
  have l1 : List.lookup x1 [(x2, c2), (x1, c1)] = some c1 := by
    rw [List.lookup_cons]
    have : (x1 == x2) = false := by simpa using hx
    rw [this]; simp [List.lookup]
  have l2 : List.lookup x2 [(x2, c2), (x1, c1)] = some c2 := by simp [List.lookup]
  have any : ∀ x c, List.lookup x [(x2, c2), (x1, c1)] = some c → (x = x2 ∧ c = c2) ∨ (x = x1 ∧ c = c1) := fun x c h => by
    by_cases e2 : x = x2
    · subst e2; rw [l2] at h; exact .inl ⟨rfl, (Option.some.inj h).symm⟩
    by_cases e1 : x = x1
    · subst e1; rw [l1] at h; exact .inr ⟨rfl, (Option.some.inj h).symm⟩
    · have a : (x == x2) = false := by simpa using e2
      have b : (x == x1) = false := by simpa using e1
      simp [List.lookup, a, b] at h
  refine ⟨rfl, fun i x v e1 e2 => ?_, fun x c h => ?_, fun x y c a b => ?_⟩
  · match i, e1, e2 with
    | 0, e1, e2 => cases e1; cases e2; exact ⟨c1, u1, l1, h1, r1⟩
    | 1, e1, e2 => cases e1; cases e2; exact ⟨c2, u2, l2, h2, r2⟩
    | i + 2, e1, e2 => cases e1
  · rcases any x c h with ⟨_, rfl⟩ | ⟨_, rfl⟩
    · exact ⟨_, h2⟩
    · exact ⟨_, h1⟩
  · rcases any x c a with ⟨rfl, rfl⟩ | ⟨rfl, rfl⟩ <;> rcases any y c b with ⟨rfl, e⟩ | ⟨rfl, e⟩
    · rfl
    · exact absurd e.symm hc
    · exact absurd e hc
    · rfl
section
variable {X : Cx}
end
end L2
namespace L2
open PySem PySem.Spec PyProof.Rows
structure Mt (P : Program) (w : World) (K : PySem.W.Frag) (mg : Str → Option Value) (base : Heap) (C : Addr) (k : Nat) (m : Str) (ps : List Str) (sp : Sp) : Prop where
  ex : ∃ f fd, Meth K C m f ∧ FnOk P w K mg base CX0 k f fd ps sp ∧ Binds K fd ps []
section
variable {X : Cx} {C : Addr} {k k' : Nat} {m : Str} {ps : List Str} {sp : Sp} {o e : Expr} {es : List Expr} {ta : TE} {t : TA} {apos pos : Pos}
theorem pe_mt0 {pl : Sem Bool} (M : Mt X.prog X.w X.K X.mg X.base C k m ps sp) (c : Cls X.K C) (hr : Room k' X.A) (he : PE X o ta) (hk : k ≤ k' := by decide)
    (ht : eval (.Call (.Attribute o m apos) [] [] pos) X.env = (do
      let ov ← eval o X.env
      standAt apos.atName
      let (f, first) ← holding [ov] (getMethod ov m pl)
      callWith pos f first (backTo pos (starEach [] X.env)) (backToKw pos (keywordEach [] X.env))) := by rfl) :
    PE X (.Call (.Attribute o m apos) [] [] pos) (tMeth C m sp [] E0 ta tNil) := by
  obtain ⟨f, fd, h1, h2, h3⟩ := M.ex
  exact pe_meth0 (pl := pl) he c h1 h2 (hr.mono hk) h3 .nil pass0 ht
theorem pe_mt {pl : Sem Bool} (M : Mt X.prog X.w X.K X.mg X.base C k m ps sp) (c : Cls X.K C) (hr : Room k' X.A) (he : PE X o ta) (ha : PA X (e :: es) t) (hk : k ≤ k' := by decide)
    (hst : starEach (e :: es) X.env = (false, eval e X.env) :: starEach es X.env := by rfl) (hpl : (backTo pos (starEach es X.env)).any (·.1) = false := by rfl)
    (ht : eval (.Call (.Attribute o m apos) (e :: es) [] pos) X.env = (do
      let ov ← eval o X.env
      standAt apos.atName
      let (f, first) ← holding [ov] (getMethod ov m pl)
      callWith pos f first (backTo pos (starEach (e :: es) X.env)) (backToKw pos (keywordEach [] X.env))) := by rfl) :
    PE X (.Call (.Attribute o m apos) (e :: es) [] pos) (tMeth C m sp [] E0 ta t) := by
  obtain ⟨f, fd, h1, h2, h3⟩ := M.ex
  exact pe_meth (pl := pl) he c h1 h2 (hr.mono hk) h3 .nil pass0 ha hst hpl ht
theorem call_intS : CallR X (.type "int") (fun xs H Q => ∃ (x : Str) (n : Int), xs = [.str x] ∧ intText? x = some n ∧ x.length ≤ 640 ∧ Q (.int n) H) := by
  intro pins s σ H xs us Q I r h
  obtain ⟨x, n, rfl, h1, h2, q⟩ := h
  obtain ⟨u, rfl, t, rfl⟩ := vals1 r
  exact PySem.W.KIN.call_text h1 h2 ⟨.int n, H, I.tok _, ⟨_, rfl⟩, q⟩
end
end L2
namespace K3
open PySem L2
def sh (m : Int) : List Nat := if m < 0 then 45 :: D m.natAbs else D m.natAbs
theorem D_nil (n : Nat) : D n ≠ [] := by
  obtain ⟨k, hk⟩ : ∃ k, n < 10 ^ (k + 1) := ⟨n, Nat.lt_of_lt_of_le (Nat.lt_pow_self (by decide : 1 < 10)) (Nat.pow_le_pow_right (by decide) (Nat.le_succ n))⟩
  exact (D_facts k n hk).1
theorem sh_word {m : Int} (h : m.natAbs < 10 ^ 60) : Word (sh m) := by
  unfold sh
  by_cases c : m < 0
  · rw [if_pos c]; exact .neg (D_num h) (D_ne h (by omega))
  · rw [if_neg c]; exact .num (D_num h)
theorem sh_head (m : Int) : ∃ c r, sh m = c :: r ∧ (c ∈ figL ∨ c = 45) := by
  unfold sh
  by_cases c : m < 0
  · rw [if_pos c]; exact ⟨45, _, rfl, .inr rfl⟩
  · rw [if_neg c]
    cases q : D m.natAbs with
    | nil => exact absurd q (D_nil _)
    | cons x r =>
      obtain ⟨k, hk⟩ : ∃ k, m.natAbs < 10 ^ (k + 1) := ⟨m.natAbs, Nat.lt_of_lt_of_le (Nat.lt_pow_self (by decide : 1 < 10)) (Nat.pow_le_pow_right (by decide) (Nat.le_succ _))⟩
      exact ⟨x, r, rfl, .inl ((D_facts k _ hk).2.2.1 x (by rw [q]; exact List.mem_cons_self))⟩
theorem sh_last (m : Int) : ∃ a, (sh m).getLast? = some a ∧ a ∈ figL := by
  obtain ⟨k, hk⟩ : ∃ k, m.natAbs < 10 ^ (k + 1) := ⟨m.natAbs, Nat.lt_of_lt_of_le (Nat.lt_pow_self (by decide : 1 < 10)) (Nat.pow_le_pow_right (by decide) (Nat.le_succ _))⟩
  have hf := D_facts k _ hk
  have e : (sh m).getLast? = (D m.natAbs).getLast? := by
    unfold sh
    split
    · cases q : D m.natAbs with
      | nil => exact absurd q hf.1
      | cons x r => rw [List.getLast?_cons_cons]
    · rfl
  rw [e]
  exact ⟨_, List.getLast?_eq_some_getLast hf.1, hf.2.2.1 _ (List.getLast_mem hf.1)⟩
end K3
namespace K6
open PySem L2 K3
abbrev sInit : Stmt := inClass sReader 0
abbrev sAhead : Stmt := inClass sReader 1
abbrev sAtName : Stmt := inClass sReader 2
abbrev sAtNum : Stmt := inClass sReader 3
abbrev sPassed : Stmt := inClass sReader 4
abbrev sNeedEnd : Stmt := inClass sReader 6
abbrev sTakeName : Stmt := inClass sReader 7
abbrev sTakeNum : Stmt := inClass sReader 8
abbrev sTakeWord : Stmt := inClass sReader 9
abbrev sInB : Stmt := inClass sReader 10
def rdV (l : Addr) (v : V) : List (Str × V) := [("found", .ref l), ("spot", v)]
def rd (l : Addr) (n : Nat) : List (Str × V) := rdV l (.int (n : Int))
theorem put_spot (l : Addr) (n : Nat) (v : V) : putF "spot" v (rd l n) = rdV l v := by
  unfold rd rdV
  rw [put_no (by decide +kernel), put_yes]
structure RdAt (C : Addr) (H : Hp) (r l : Addr) (ws : List (List Nat)) (n : Nat) : Prop where
  ins : ∃ dx, H r = some (.ins C dx (rd l n))
  fl : H l = some (.lst (W ws))
theorem RdAt.same {C : Addr} {H H' : Hp} {r l : Addr} {ws : List (List Nat)} {n : Nat} (g : Same H H') (h : RdAt C H r l ws n) : RdAt C H' r l ws n := by
  obtain ⟨⟨dx, h1⟩, h2⟩ := h
  exact ⟨⟨dx, g _ _ h1⟩, g _ _ h2⟩
structure RdT (K : PySem.W.Frag) (mg : Str → Option Value) (C : Addr) : Prop where
  cl : Cls K C
  nf : NoAttr K C "found"
  ns : NoAttr K C "spot"
  mgC : mg "Reader" = some (.ref C)
def ah (ws : List (List Nat)) (n : Nat) : List Nat := (ws[n]?).getD []
def beg (w sg : List Nat) : Bool := match w with
  | [] => false
  | c :: _ => decide (c ∈ sg)
def numL : List Nat := figL ++ [45]
def spBeg : Sp := fun vs H Q _ => ∃ (w sg : List Nat), vs = [.str (S w), .str (S sg)] ∧ w.length ≤ 100 ∧ Q (.bl (beg w sg)) H
def spAhead (C : Addr) : Sp := fun vs H Q _ => ∃ (r l : Addr) (ws : List (List Nat)) (n : Nat), vs = [.ref r] ∧ RdAt C H r l ws n ∧ n ≤ ws.length ∧ Q (.str (S (ah ws n))) H
def spAt (C : Addr) (sg : List Nat) : Sp := fun vs H Q _ => ∃ (r l : Addr) (ws : List (List Nat)) (n : Nat), vs = [.ref r] ∧ RdAt C H r l ws n ∧ n ≤ ws.length ∧ (ah ws n).length ≤ 100 ∧ Q (.bl (beg (ah ws n) sg)) H
def spPassed (C : Addr) : Sp := fun vs H Q _ => ∃ (r l : Addr) (ws : List (List Nat)) (n : Nat) (c : List Nat), vs = [.ref r, .str (S c)] ∧ RdAt C H r l ws n ∧ n ≤ ws.length ∧ (ah ws n ≠ c → Q (.bl false) H) ∧ (ah ws n = c → ∀ H', SameX r H H' → RdAt C H' r l ws (n + 1) → Q (.bl true) H')
def spTakeW (C : Addr) : Sp := fun vs H Q _ => ∃ (r l : Addr) (ws : List (List Nat)) (n : Nat), vs = [.ref r] ∧ RdAt C H r l ws n ∧ n ≤ ws.length ∧ ∀ H', SameX r H H' → RdAt C H' r l ws (n + 1) → Q (.str (S (ah ws n))) H'
def spInit (C : Addr) : Sp := fun vs H Q _ => ∃ (r dx : Addr) (z : List Nat) (ws : List (List Nat)), vs = [.ref r, .str (S z)] ∧ H r = some (.ins C dx []) ∧ z.length ≤ 9000 ∧ Writ z ws ∧ ∀ (l : Addr) (H' : Hp), SameX r H H' → RdAt C H' r l ws 0 → Q .non H'
theorem RdAt.step {C : Addr} {H : Hp} {r l dx : Addr} {ws : List (List Nat)} {n : Nat} (h : RdAt C H r l ws n) (hx : H r = some (.ins C dx (rd l n))) : RdAt C (upd H r (.ins C dx (putF "spot" (.int ((n : Int) + 1)) (rd l n)))) r l ws (n + 1) := by
  refine ⟨⟨dx, ?_⟩, ?_⟩
  · rw [upd_same, put_spot]; rfl
  · rw [upd_ne (ne_of h.fl hx (by intro z; cases z))]; exact h.fl
theorem ah_at {ws : List (List Nat)} {n : Nat} (h : n < ws.length) : (W ws)[n]? = some (.str (S (ah ws n))) := by
  unfold W ah
  rw [List.getElem?_map, List.getElem?_eq_getElem h]; rfl
section
variable {P : Program} {w : World} {K : PySem.W.Frag} {mg : Str → Option Value} {base : Heap} {f : Addr} {fd : FuncData} {C : Addr}
theorem scBegins : FnScope ["word", "signs"] ["word", "signs"] (defScope sBegins) := ⟨rfl, rfl, rfl, by decide +kernel, rfl, by decide +kernel, by decide +kernel⟩
theorem ok_begins (F : Fun K "begins_in" "begins_in" sBegins f fd) : FnOk P w K mg base CX0 1 f fd ["word", "signs"] spBeg := by
  refine F.ok scBegins (fun vs H Q E h => ?_) (fun cdv A outer s H vs Q E hr h => ?_)
  · obtain ⟨u, sg, rfl, _⟩ := h
    rfl
  obtain ⟨u, sg, rfl, hu, q⟩ := h
  refine ⟨_, (pss_one (ps_ret (pe_and (pe_cmpR op_ne (pv 0) pe_str (nomark _)) (pe_one (pe_cmpR op_in_one (pe_ix ix_str (pv 0) pe_int (fun _ _ => rfl)) (pv 1) (by with_unfolding_all rfl)))))), ?_⟩
  cases u with
  | nil =>
    refine ⟨_, rfl, rfl, _, rfl, ?_⟩
    have e : decide (V.str (S []) = V.str (Str.ofString "")) = true := decide_eq_true (by rw [none_eq])
    rw [e]
    exact iteF q
  | cons c u =>
    refine ⟨_, rfl, rfl, _, rfl, ?_⟩
    have e : decide (V.str (S (c :: u)) = V.str (Str.ofString "")) = false := decide_eq_false (by rw [none_eq]; exact str_ne (by simp))
    rw [e]
    refine iteT ⟨_, rfl, _, _, c, rfl, rfl, (by rw [S_len]; exact line_of (by omega)), atS (k := 0) rfl, _, rfl, _, _, rfl, rfl, ?_⟩
    rw [S_list]
    exact q
theorem scAhead : FnScope ["self"] ["self"] (defScope sAhead) := ⟨rfl, rfl, rfl, by decide +kernel, rfl, by decide +kernel, by decide +kernel⟩
theorem ok_ahead (F : Fun K "ahead" "Reader.ahead" sAhead f fd) (G : Gm mg) (T : RdT K mg C) : FnOk P w K mg base CX0 1 f fd ["self"] (spAhead C) := by
  refine F.ok scAhead (fun vs H Q E h => ?_) (fun cdv A outer s H vs Q E hr h => ?_)
  · obtain ⟨r, l, ws, n, rfl, _⟩ := h
    rfl
  obtain ⟨r, l, ws, n, rfl, hR, hn, q⟩ := h
  refine ⟨_, (pss_cons (ps_if (pt_cmpR op_eq (pe_fld (pv 0) rfl) (pe_callB call_len_seq rfl G.len PySem.boot_len (pa_cons (pe_fld (pv 0) rfl) pa_nil)) (nomark _)) (pss_one (ps_ret pe_str)) pss_nil)
    (pss_one (ps_ret (pe_ix ix_list (pe_fld (pv 0) rfl) (pe_fld (pv 0) rfl) (fun _ _ => rfl))))), ?_⟩
  obtain ⟨dx, hx⟩ := hR.ins
  refine ⟨_, rfl, r, C, dx, _, _, rfl, hx, T.cl, T.ns, rfl, _, rfl, r, C, dx, _, _, rfl, hx, T.cl, T.nf, rfl, l, _, rfl, .inl (SqL.of hR.fl), rfl, _, rfl, ?_⟩
  rw [W_len]
  by_cases h : n = ws.length
  · refine iteP (by rw [h]) ?_
    have e : ah ws n = [] := by unfold ah; rw [List.getElem?_eq_none (by omega)]; rfl
    rw [e] at q
    show Q (.str (Str.ofString "")) H
    rw [none_eq]; exact q
  · refine iteN (fun z => h (by injection z with z; omega)) ⟨_, rfl, r, C, dx, _, _, rfl, hx, T.cl, T.nf, rfl, _, rfl, r, C, dx, _, _, rfl, hx, T.cl, T.ns, rfl, l, _, _, _, rfl, rfl, SqL.of hR.fl, atI_nat (ah_at (by omega)), q⟩
theorem scAtName : FnScope ["self"] ["self"] (defScope sAtName) := ⟨rfl, rfl, rfl, by decide +kernel, rfl, by decide +kernel, by decide +kernel⟩
theorem ok_atName (F : Fun K "at_name" "Reader.at_name" sAtName f fd) (G : Gm mg) (T : RdT K mg C) (RB : Fn P w K mg base 1 "begins_in" ["word", "signs"] spBeg) (MA : Mt P w K mg base C 1 "ahead" ["self"] (spAhead C)) : FnOk P w K mg base CX0 2 f fd ["self"] (spAt C letL) := by
  obtain ⟨tl, hl⟩ := G.lets
  refine F.ok scAtName (fun vs H Q E h => ?_) (fun cdv A outer s H vs Q E hr h => ?_)
  · obtain ⟨r, l, ws, n, rfl, _⟩ := h
    rfl
  obtain ⟨r, l, ws, n, rfl, hR, hn, hw, q⟩ := h
  refine ⟨_, (pss_one (ps_ret (pe_fn RB hr (pa_cons (pe_mt0 MA T.cl hr (pv 0)) (pa_cons (pe_glob (v := .str LETS) rfl hl ⟨_, rfl⟩) pa_nil))))), ?_⟩
  obtain ⟨dx, hx⟩ := hR.ins
  refine ⟨_, rfl, r, dx, _, rfl, hx, rfl, r, l, ws, n, rfl, hR, hn, ah ws n, letL, ?_, hw, q⟩
  rw [← let_eq]; rfl
theorem scAtNum : FnScope ["self"] ["self"] (defScope sAtNum) := ⟨rfl, rfl, rfl, by decide +kernel, rfl, by decide +kernel, by decide +kernel⟩
theorem ok_atNum (F : Fun K "at_number" "Reader.at_number" sAtNum f fd) (G : Gm mg) (T : RdT K mg C) (RB : Fn P w K mg base 1 "begins_in" ["word", "signs"] spBeg) (MA : Mt P w K mg base C 1 "ahead" ["self"] (spAhead C)) : FnOk P w K mg base CX0 2 f fd ["self"] (spAt C numL) := by
  obtain ⟨tl, hl⟩ := G.figs
  refine F.ok scAtNum (fun vs H Q E h => ?_) (fun cdv A outer s H vs Q E hr h => ?_)
  · obtain ⟨r, l, ws, n, rfl, _⟩ := h
    rfl
  obtain ⟨r, l, ws, n, rfl, hR, hn, hw, q⟩ := h
  refine ⟨_, (pss_one (ps_ret (pe_fn RB hr (pa_cons (pe_mt0 MA T.cl hr (pv 0)) (pa_cons (pe_op op_add_str (pe_glob (v := .str FIGS) rfl hl ⟨_, rfl⟩) pe_str) pa_nil))))), ?_⟩
  obtain ⟨dx, hx⟩ := hR.ins
  refine ⟨_, rfl, r, dx, _, rfl, hx, rfl, r, l, ws, n, rfl, hR, hn, _, _, rfl, rfl, (by decide +kernel), ah ws n, numL, ?_, hw, q⟩
  rw [fig_eq, minus_eq, S_app]; rfl
theorem scPassed : FnScope ["self", "sign"] ["self", "sign"] (defScope sPassed) := ⟨rfl, rfl, rfl, by decide +kernel, rfl, by decide +kernel, by decide +kernel⟩
theorem ok_passed (F : Fun K "passed" "Reader.passed" sPassed f fd) (T : RdT K mg C) (MA : Mt P w K mg base C 1 "ahead" ["self"] (spAhead C)) : FnOk P w K mg base CX0 2 f fd ["self", "sign"] (spPassed C) := by
  refine F.ok scPassed (fun vs H Q E h => ?_) (fun cdv A outer s H vs Q E hr h => ?_)
  · obtain ⟨r, l, ws, n, c, rfl, _⟩ := h
    rfl
  obtain ⟨r, l, ws, n, c, rfl, hR, hn, q1, q2⟩ := h
  refine ⟨_, (pss_cons (ps_if (pt_cmpR op_ne (pe_mt0 MA T.cl hr (pv 0)) (pv 1) (nomark _)) (pss_one (ps_ret pe_bl)) pss_nil)
    (pss_cons (ps_fldaug (pv 0) pe_int in_add)
    (pss_one (ps_ret pe_bl)))), ?_⟩
  obtain ⟨dx, hx⟩ := hR.ins
  refine ⟨_, rfl, r, dx, _, rfl, hx, rfl, r, l, ws, n, rfl, hR, hn, _, rfl, rfl, _, rfl, ?_⟩
  by_cases h : ah ws n = c
  · refine iteNS (by rw [h]) ⟨_, rfl, r, C, dx, _, _, rfl, hx, T.cl, T.ns, rfl, _, _, rfl, rfl, dx, _, hx, (by show 2 < 1000; decide), ?_⟩
    exact q2 h _ SameX.upd (hR.step hx)
  · have e : decide (V.str (S (ah ws n)) = V.str (S c)) = false := decide_eq_false (str_ne h)
    rw [e]
    exact iteT (q1 h)
theorem scTakeWord : FnScope ["self", "word"] ["self"] (defScope sTakeWord) := ⟨rfl, rfl, rfl, by decide +kernel, rfl, by decide +kernel, by decide +kernel⟩
theorem ok_takeWord (F : Fun K "take_word" "Reader.take_word" sTakeWord f fd) (T : RdT K mg C) (MA : Mt P w K mg base C 1 "ahead" ["self"] (spAhead C)) : FnOk P w K mg base CX0 2 f fd ["self"] (spTakeW C) := by
  refine F.ok scTakeWord (fun vs H Q E h => ?_) (fun cdv A outer s H vs Q E hr h => ?_)
  · obtain ⟨r, l, ws, n, rfl, _⟩ := h
    rfl
  obtain ⟨r, l, ws, n, rfl, hR, hn, q⟩ := h
  refine ⟨_, (pss_cons (ps_set (i := 1) scTakeWord.nd rfl (Or.inl rfl) (pe_mt0 MA T.cl hr (pv 0)))
    (pss_cons (ps_fldaug (pv 0) pe_int in_add)
    (pss_one (ps_ret (pv 1))))), ?_⟩
  obtain ⟨dx, hx⟩ := hR.ins
  refine ⟨_, rfl, r, dx, _, rfl, hx, rfl, r, l, ws, n, rfl, hR, hn, ?_⟩
  refine ⟨_, rfl, r, C, dx, _, _, rfl, hx, T.cl, T.ns, rfl, _, _, rfl, rfl, dx, _, hx, (by show 2 < 1000; decide), _, rfl, ?_⟩
  exact q _ SameX.upd (hR.step hx)
theorem scTakeName : FnScope ["self"] ["self"] (defScope sTakeName) := ⟨rfl, rfl, rfl, by decide +kernel, rfl, by decide +kernel, by decide +kernel⟩
theorem scTakeNum : FnScope ["self"] ["self"] (defScope sTakeNum) := ⟨rfl, rfl, rfl, by decide +kernel, rfl, by decide +kernel, by decide +kernel⟩
theorem scNeedEnd : FnScope ["self", "word"] ["self"] (defScope sNeedEnd) := ⟨rfl, rfl, rfl, by decide +kernel, rfl, by decide +kernel, by decide +kernel⟩
theorem scInit : FnScope ["self", "text"] ["self", "text"] (defScope sInit) := ⟨rfl, rfl, rfl, by decide +kernel, rfl, by decide +kernel, by decide +kernel⟩
theorem ok_init (F : Fun K "__init__" "Reader.__init__" sInit f fd) (T : RdT K mg C) (RW : Fn P w K mg base 5 "words" ["text"] spWords) : FnOk P w K mg base CX0 6 f fd ["self", "text"] (spInit C) := by
  refine F.ok scInit (fun vs H Q E h => ?_) (fun cdv A outer s H vs Q E hr h => ?_)
  · obtain ⟨r, dx, z, ws, rfl, _⟩ := h
    rfl
  obtain ⟨r, dx, z, ws, rfl, hx, hz, hw, q⟩ := h
  refine ⟨_, (pss_cons (ps_fld (pv 0) (pe_fn RW hr (pa_cons (pv 1) pa_nil)) rfl)
    (pss_one (ps_fld (pv 0) pe_int rfl))), ?_⟩
  refine ⟨_, rfl, z, ws, rfl, hz, hw, fun l H' g' hl hl0 => ?_⟩
  have hx' := g' _ _ hx
  have ne : l ≠ r := fun e => by rw [e, hx] at hl0; cases hl0
  refine ⟨_, rfl, r, C, dx, _, rfl, hx', T.cl, T.nf, (by show 0 < 1000; decide), ?_⟩
  refine ⟨_, rfl, r, C, dx, _, rfl, upd_same, T.cl, T.ns, (by show 1 < 1000; decide), ?_⟩
  refine q l _ (((SameX.of g').trans SameX.upd).trans SameX.upd) ⟨⟨dx, ?_⟩, ?_⟩
  · rw [upd_same]
    show some (HO.ins C dx (putF "spot" _ (putF "found" _ []))) = _
    rw [show putF "found" (V.ref l) [] = ([("found", V.ref l)] : List (Str × V)) from rfl, put_no (by decide +kernel)]; rfl
  · rw [upd_ne ne, upd_ne ne]; exact hl
end
end K6
namespace L2
open PySem PySem.Spec PyProof.Rows
theorem law_callT {P : Program} {w : World} {K : PySem.W.Frag} {mg mb : Str → Option Value} {k : Nat} {fa a : Addr} {fd : FuncData} {x : Str} {sp : Sp} {s₁ : Shared} {vs : List Value} {ns : List Int} {Ts : List Addr}
    (KX : K.In s₁.heap) (hns : s₁.heap.Ns mainGlobals mg) (hb : s₁.heap.Ns builtinsNs mb) (hbb : ∀ x : Str, x ≠ "__name__" → mb x = bootBuiltins x) (hlim : s₁.heap.NoLimit) (hg : s₁.gens = #[]) (hbt : BtAt mg s₁.heap)
    (hTs : ∀ T ∈ Ts, s₁.heap.get? T = some { cls := .none, data := .fields #[] } ∧ isCodeTable s₁.heap T ∧ K.lookup T = none)
    (ha : s₁.heap.get? a = some { cls := .type "list", data := .seq vs.toArray }) (hi : IntsAre vs ns) (hl : ns.length ≤ sizeLine) (hr : Room k callerA)
    (F : ∀ base : Heap, K.In base → base.Ns mainGlobals mg → BtAt mg base → FnOk P w K mg base CX0 k fa fd [x] sp) (hbind : ∀ (s : Shared) (u : Value), BindsTo s fd ⟨[u], []⟩ [(x, u)])
    (hsp : ∀ H : Hp, SqL K H a (ns.map V.int) → (∀ T ∈ Ts, H T = some (.tbl #[])) → sp [.ref a] H (fun v _ => v = .bl true) fun _ _ _ => False) :
    codeAny (model P w) callerA (.call (.ref fa) ⟨[.ref a], []⟩) (fun r s' => r = .ok (.ret (.bool true)) ∧ OldK s₁.heap s'.heap ∧ s'.os = s₁.os ∧ AllBare s'.gens) s₁ := by
  have rv := vals_ints hi
  have lenV := hi.length
  have core : ∀ H : Hp, (∀ b, H b = none ∨ (b = a ∧ K.lookup a = none ∧ ∃ o xs, H b = some (.frz o (.lst xs))) ∨ (b ∈ Ts ∧ H b = some (.tbl #[]))) → SqL K H a (ns.map V.int) → (∀ T ∈ Ts, H T = some (.tbl #[])) → HOk P w H s₁.heap →
      codeAny (model P w) callerA (.call (.ref fa) ⟨[.ref a], []⟩) (fun r s' => r = .ok (.ret (.bool true)) ∧ OldK s₁.heap s'.heap ∧ s'.os = s₁.os ∧ AllBare s'.gens) s₁ := by
    intro H hO hS hT hok
    have base_of : ∀ {b : Addr} {o : Obj}, s₁.heap.get? b = some o → H b = none → (hidT s₁.heap H).get? b = some o := fun e n => hidT_get e n
    have noA : ∀ {b : Addr} {o : Obj}, s₁.heap.get? b = some o → (∀ xs n, o.data ≠ .seq xs n) → (∀ xs, o.data ≠ .fields xs) → H b = none := fun {b o} e d1 d2 => by
      rcases hO b with z | ⟨rfl, _⟩ | ⟨z, _⟩
      · exact z
      · rw [ha] at e; cases e
        exact absurd rfl (d1 _ _)
      · rw [(hTs b z).1] at e; cases e
        exact absurd rfl (d2 _)
    have nsK : ∀ {b : Addr} {m : Str → Option Value}, s₁.heap.Ns b m → (hidT s₁.heap H).Ns b m := fun {b m} ⟨o, es, ep, e, d, r⟩ => ⟨o, es, ep, base_of e (noA e (fun _ _ z => by rw [d] at z; cases z) (fun _ z => by rw [d] at z; cases z)), d, r⟩
    have hKb : K.In (hidT s₁.heap H) := fun b o e => base_of (KX b o e) (by
      rcases hO b with z | ⟨rfl, hk, _⟩ | ⟨z, _⟩
      · exact z
      · rw [hk] at e; cases e
      · rw [(hTs b z).2.2] at e; cases e)
    have hBt : BtAt mg (hidT s₁.heap H) := by
      obtain ⟨bm, o, b1, b2, b3, b4, b5, b6, b7⟩ := hbt
      exact ⟨bm, o, b1, b2, b3, base_of b4 (noA b4 (fun _ _ z => by rw [b7] at z; cases z) (fun _ z => by rw [b7] at z; cases z)), b5, b6, b7⟩
    have hM : Mod K mg (hidT s₁.heap H) := ⟨hKb, nsK hns, ⟨mb, nsK hb, hbb⟩, let ⟨mc, h1, h2⟩ := hlim; ⟨mc, nsK h1, h2⟩⟩
    have e0 : Env0 P w K mg (hidT s₁.heap H) callerA [] s₁ H := ⟨rfl, hM, fun b o e => of_hidT e, Nat.le_of_eq (hidT_size _ _), trivial, fun b hb => absurd (show b ∈ ([] : List Addr) from hb) (by simp), hok, .of_eq hg⟩
    refine codeAny_mono ((F _ hKb (nsK hns) hBt).run callerA [] s₁ H ⟨[.ref a], []⟩ [.ref a] [.ref a] _ _ hr e0 (hbind s₁ (.ref a)) (.cons rfl .nil) (hsp H hS hT)) fun r s' h => ?_
    cases r with
    | error e => exact h.elim
    | ok fl =>
      cases fl with
      | next => exact False.elim h
      | brk => exact False.elim h
      | cont => exact False.elim h
      | ret u =>
        obtain ⟨v, H', os, bare, un, hok', r', q⟩ := h
        have q' : v = .bl true := q
        subst q'
        obtain rfl : u = Value.bool true := r'
        refine ⟨rfl, ⟨fun b o e => ?_, fun b o e => un.there b o e (by simp)⟩, os, bare⟩
        rcases hO b with z | ⟨rfl, _, ob, xs, z⟩ | ⟨zT, z⟩
        · exact .inl (un.keep b o e z (by intro z; exact absurd (show b ∈ ([] : List Addr) from z) (by simp)) (by simp))
        · have z2 := un.frzs b ob _ z
          obtain ⟨e1, _⟩ := hok b _ z
          obtain ⟨e2, _⟩ := hok' b _ z2
          rw [e] at e1; cases e1
          exact .inl e2
        · obtain ⟨more, z2⟩ := un.tbls b _ z
          have e2 : s'.heap.get? b = some { cls := .none, data := .fields (#[] ++ more) } := hok' b _ z2
          obtain ⟨t1, t2, _⟩ := hTs b zT
          rw [t1] at e; cases e
          exact .inr (.inl ⟨t2, rfl, #[], more, rfl, e2⟩)
  have haT : ∀ T ∈ Ts, T ≠ a := fun T hT z => by
    have := (hTs T hT).1
    rw [z, ha] at this; cases this
  cases hk : K.lookup a with
  | some o =>
    have e := KX a o hk
    rw [ha] at e
    cases e
    refine core (fun b => if b ∈ Ts then some (.tbl #[]) else none) (fun b => ?_) (.inr ⟨_, vs.toArray, _, hk, rfl, rfl, rfl, by rw [List.size_toArray, lenV]; exact hl, by simpa using rv⟩) (fun T hT => if_pos hT) (fun b u z => ?_)
    · by_cases hb : b ∈ Ts
      · exact .inr (.inr ⟨hb, if_pos hb⟩)
      · exact .inl (if_neg hb)
    · by_cases hb : b ∈ Ts
      · have z' := (if_pos hb).symm.trans z
        cases z'
        exact (hTs b hb).1
      · have z' := (if_neg hb).symm.trans z
        cases z'
  | none =>
    refine core (fun b => if b = a then some (.frz { cls := .type "list", data := .seq vs.toArray } (.lst (ns.map V.int))) else if b ∈ Ts then some (.tbl #[]) else none) (fun b => ?_) (.inl (.inr ⟨{ cls := .type "list", data := .seq vs.toArray }, if_pos rfl⟩)) (fun T hT => (if_neg (haT T hT)).trans (if_pos hT)) (fun b u z => ?_)
    · by_cases hb : b = a
      · exact .inr (.inl ⟨hb, hk, _, _, if_pos hb⟩)
      · by_cases hbT : b ∈ Ts
        · exact .inr (.inr ⟨hbT, (if_neg hb).trans (if_pos hbT)⟩)
        · exact .inl ((if_neg hb).trans (if_neg hbT))
    · by_cases hb : b = a
      · have z' := (if_pos hb).symm.trans z
        cases z'
        subst hb
        exact ⟨ha, by rw [List.length_map]; exact hl, vs, _, rv, ha⟩
      · have z1 := (if_neg hb).symm.trans z
        by_cases hbT : b ∈ Ts
        · have z' := (if_pos hbT).symm.trans z1
          cases z'
          exact (hTs b hbT).1
        · have z' := (if_neg hbT).symm.trans z1
          cases z'
structure TabAt (q : Program) (K : PySem.W.Frag) (x : Str) (c T : Addr) : Prop where
  fnd : ∃ d, (recsOf q).find? (fun e => e.name == x) = some d
  tab : PySem.W.tabIn K x = some (c, T)
  hd : PySem.W.codeHdIn K c T = true
  no : K.lookup T = none
theorem walk_ofT {l : PySem.W.OpenLaw} {n k : Nat} {q : Program} {loose : List Str} {XP : (Str → Option Value) → Heap → Prop} {YP : World → Heap → Prop} {d : DefRec} {K : Params → PySem.W.Frag} {sp : World → Sp} {x : Str} {tabs : List (Str × Addr × Addr)}
    (hn : l.most = some n) (hn2 : n ≤ sizeLine) (hdf : d.params.defaults = []) (hr : Room k callerA)
    (hY : ∀ (w : World) (h : Heap), YP w h → (K w.params).In h)
    (htab : ∀ (w : World), ∀ p ∈ tabs, TabAt q (K w.params) p.1 p.2.1 p.2.2)
    (F : ∀ (w : World) (mg : Str → Option Value) (fa : Addr) (h : Heap), (K w.params).In h → h.Ns mainGlobals mg → mg d.name = some (.ref fa) →
      ∃ fd : FuncData, (∀ (s : Shared) (u : Value), BindsTo s fd ⟨[u], []⟩ [(x, u)]) ∧
        ∀ base : Heap, (K w.params).In base → base.Ns mainGlobals mg → BtAt mg base → FnOk l.prog w (K w.params) mg base CX0 k fa fd [x] (sp w))
    (hsp : ∀ (w : World) (H : Hp) (a : Addr) (ns : List Int), ns.length ≤ n → SqL (K w.params) H a (ns.map V.int) → (∀ p ∈ tabs, H p.2.2 = some (.tbl #[])) → sp w [.ref a] H (fun v _ => v = .bl true) fun _ _ _ => False) :
    PySem.W.WalkO q loose XP YP l.row.toRowW d [] (fun f vs => PySem.call f vs) := by
  refine Att.attach_call hn hdf fun w s₀ s₁ mg mb fa o pm cd doc a vs ns G Y ho hd hcd hmg hobj hints hlen hg => ?_
  have KX := hY w _ Y
  obtain ⟨fd, hb, hF⟩ := F w mg fa _ KX G.T.g hmg
  have hbt : BtAt mg s₁.heap := by
    obtain ⟨bm, ob, b1, b2, b3, b4, b5, b6⟩ := G.T.bmain
    have hbG : bm ≠ mainGlobals := fun q => by
      obtain ⟨o, es, ep, e, hd, _⟩ := G.T.g
      rw [q, e] at b3; cases b3; rw [hd] at b6; cases b6
    exact ⟨bm, ob, b1, b2, hbG, b3, b4, b5, b6⟩
  refine law_callT (Ts := tabs.map fun p => p.2.2) KX G.T.g G.T.b G.T.builtins G.T.nolimit hg hbt (fun T hT => ?_) hobj hints (Nat.le_trans hlen hn2) hr hF hb (fun H hS hT => hsp w H a ns hlen hS fun p hp => hT _ (List.mem_map.mpr ⟨p, hp, rfl⟩))
  obtain ⟨p, hp, rfl⟩ := List.mem_map.mp hT
  obtain ⟨⟨dd, hrec⟩, ht, _, hno⟩ := htab w p hp
  obtain ⟨hc, h0⟩ := PySem.W.tab_of G.T KX hrec ht
  exact ⟨h0, (hc.tab h0).isCodeTable, hno⟩
end L2
namespace L2
open PySem PySem.Spec PyProof.Rows
theorem ObjOk.there {P : Program} {w : World} {H : Hp} {h : Heap} {a : Addr} {o : HO} (x : ObjOk P w H h a o) : ∃ ob, h.get? a = some ob := by
  cases o with
  | lst xs => obtain ⟨_, _, _, _, e⟩ := x; exact ⟨_, e⟩
  | tup xs => obtain ⟨_, _, _, _, e, _⟩ := x; exact ⟨_, e⟩
  | dK kvs => obtain ⟨_, _, _, _, o, _, _, e, _⟩ := x; exact ⟨_, e⟩
  | dT kvs => obtain ⟨_, _, _, _, o, _, _, e, _⟩ := x; exact ⟨_, e⟩
  | set S n => obtain ⟨o, _, _, _, e, _⟩ := x; exact ⟨_, e⟩
  | ins C dx fs => obtain ⟨_, _, _, e, _⟩ := x; exact ⟨_, e⟩
  | own y => obtain ⟨_, e⟩ := x; exact ⟨_, e⟩
  | xd fs => obtain ⟨_, ⟨_, _, _, e, _⟩, _⟩ := x; exact ⟨_, e⟩
  | rng lo hi => obtain ⟨_, _, _, e⟩ := x; exact ⟨_, e⟩
  | frz ob u => obtain ⟨e, _⟩ := x; exact ⟨_, e⟩
  | tbl ps => exact ⟨_, (show h.get? a = some _ from x)⟩
  | met f y => exact ⟨_, (show h.get? a = some _ from x)⟩
  | ext φ => obtain ⟨_, e, _⟩ := x; exact e
def Cov (B : Heap) (fs : List Addr) (H' : Hp) (h h1 : Heap) : Prop := ∀ b o, h1.get? b = some o → (H' b ≠ none ∨ ∃ o', h.get? b = some o') → b ∉ fs → B.get? b = some o
structure Flw (P : Program) (w : World) (outer : List Env) (H : Hp) (s : Shared) (a : Addr) (cls : Value) (H' : Hp) (s' : Shared) : Prop where
  os : s'.os = s.os
  bare : AllBare s'.gens
  un : Un (frs outer) [] H H' s.heap s'.heap
  hok : HOk P w H' s'.heap
  fly : ∃ B t, Heap.FlyingW B outer a cls (.ref t) s'.heap ∧ Cov B (frs outer) H' s.heap s'.heap
def CX1 (P : Program) (w : World) : CXT := fun outer H s E e s' => ∃ (a : Addr) (cls : Value) (H' : Hp), e = .ref a ∧ Flw P w outer H s a cls H' s' ∧ E cls none H'
theorem un_fly {fs : List Addr} {H H' : Hp} {h h1 h2 B : Heap} (u : Un fs [] H H' h h1) (cov : Cov B fs H' h h1) (st : B.StaysIn h2) (up : h1.UpToSlots h2) (hfs : ∀ b ∈ fs, ∀ o, h1.get? b = some o → ∀ vs, o.data ≠ .fields vs) : Un fs [] H H' h h2 where
  keep := fun b o e n hb hx => st _ _ (cov b o (u.keep b o e n hb hx) (.inr ⟨o, e⟩) hb)
  slot := fun b o e n hb hx => by
    obtain ⟨sl, e1⟩ := u.slot b o e n hb hx
    obtain ⟨sl2, e2⟩ := up b _ e1 (hfs b hb _ e1)
    exact ⟨sl2, e2⟩
  free := u.free
  there := fun b o e hx => by
    obtain ⟨o1, e1⟩ := u.there b o e hx
    by_cases hb : b ∈ fs
    · obtain ⟨sl2, e2⟩ := up b _ e1 (hfs b hb _ e1)
      exact ⟨_, e2⟩
    · exact ⟨o1, st _ _ (cov b o1 e1 (.inr ⟨o, e⟩) hb)⟩
  tups := u.tups
  frzs := u.frzs
  tbls := u.tbls
theorem hok_fly {P : Program} {w : World} {fs : List Addr} {H' : Hp} {h h1 h2 B : Heap} (hok : HOk P w H' h1) (trk : ∀ b ∈ fs, H' b = none) (cov : Cov B fs H' h h1) (st : B.StaysIn h2) : HOk P w H' h2 := fun b u e => by
  refine (hok b u e).stay (fun c v hc r => ?_) (fun _ r => r) fun _ _ r => r
  have hne : H' c ≠ none := by
    rcases hc with rfl | hc
    · rw [e]; intro z; cases z
    · rw [hc]; intro z; cases z
  exact st _ _ (cov c v r (.inl hne) fun z => hne (trk c z))
section
variable {X : Cx} {pins : List (Addr × Obj)} {σ : St} {H H' : Hp} {s s' : Shared}
theorem frs_data {B : Heap} {l : List Env} {h : Heap} (hl : h.FunFrames B l) : ∀ b ∈ frs l, ∀ o, h.get? b = some o → ∀ vs, o.data ≠ .fields vs := fun b hb o e vs => by
  obtain ⟨_, o', e', d⟩ := hl.mem hb
  rw [e] at e'
  cases e'
  exact d vs
theorem free_un (I : Inv X pins σ H s) (u : Un (frs X.stack) [] H H' s.heap s'.heap) : ∀ b ∈ frs X.stack, H' b = none := fun b hb => by
  obtain ⟨_, o, ho, _⟩ := I.stack.mem hb
  exact u.free b o ho (I.stkFree b hb) (by simp)
theorem Inv.flown {h2 B : Heap} (I : Inv X pins σ H s) (os : s'.os = s.os) (bare : AllBare s'.gens) (un : Un (frs X.stack) [] H H' s.heap s'.heap) (hok : HOk X.prog X.w H' s'.heap) (hfr : s'.heap.FunFrames B X.stack) (cov : Cov B (frs X.stack) H' s.heap s'.heap) (st : B.StaysIn h2) (up : s'.heap.UpToSlots h2) :
    Inv X pins σ H' { s' with heap := h2 } :=
  I.call' (s' := { s' with heap := h2 }) (ch := []) os (un_fly un cov st up (frs_data hfr)) (hok_fly hok (free_un I un) cov st) bare (fun b z => absurd z (by simp))
theorem Cov.out {B h2 : Heap} {H0 : Hp} {s0 : Shared} (I : Inv X pins σ H s) (hH0 : X.H₀ = H0) (hs0 : X.s₀ = s0) (hex : X.ex = []) (un : Un (frs X.stack) [] H H' s.heap s'.heap) (hok : HOk X.prog X.w H' s'.heap) (cov : Cov B (frs X.stack) H' s.heap s'.heap) (st : B.StaysIn h2) : Cov B X.fs H' s0.heap h2 := fun b o e hb nb => by
  have key : ∃ o', s'.heap.get? b = some o' ∧ b ∉ frs X.stack ∧ (H' b ≠ none ∨ ∃ o', s.heap.get? b = some o') := by
    rcases hb with hb | ⟨o', hb⟩
    · cases hH : H' b with
      | none => exact absurd hH hb
      | some u =>
        obtain ⟨o', ho'⟩ := (hok b u hH).there
        refine ⟨o', ho', fun z => ?_, .inl (by intro z; cases z)⟩
        rw [free_un I un b z] at hH
        cases hH
    · have h1 : X.s₀.heap.get? b = some o' := by rw [hs0]; exact hb
      obtain ⟨o1, e1⟩ := I.base.there b o' h1 (by rw [hex]; simp)
      obtain ⟨o2, e2⟩ := un.there b o1 e1 (by simp)
      refine ⟨o2, e2, fun z => ?_, .inr ⟨o1, e1⟩⟩
      rcases List.mem_cons.mp (I.stkSub b z) with z | z
      · rw [z] at h1
        exact absurd (Nat.lt_of_lt_of_le (Heap.lt_size h1) I.ok.above) (Nat.lt_irrefl _)
      · exact nb z
  obtain ⟨o', h1, h2', h3⟩ := key
  have hB := cov b o' h1 h3 h2'
  have := st _ _ hB
  rw [e] at this
  cases this
  exact hB
end
section
variable {P : Program} {w : World} {K : PySem.W.Frag} {mg : Str → Option Value} {base : Heap} {N : List Str} {qual : Str} {scope : Scope} {f : Addr} {cd : Value} {A : Around} {outer : List Env} {s : Shared} {H : Hp} {E : XK}
theorem pass1 {E' : XK} (k : ∀ cls H', E' cls none H' → E cls none H') : Passes (CX1 P w) (cxOf (CX1 P w) P w K mg base N qual scope f cd A outer s H E) E' := by
  intro pins σ H1 s1 e s' I h
  obtain ⟨a, cls, H', rfl, F, q⟩ := h
  obtain ⟨B, t, hfl, cov⟩ := F.fly
  show wpAny (model P w) (A.deeper (envOfC qual scope s.heap.objs.size f cd)) (leaving (envOfC qual scope s.heap.objs.size f cd) (.ref a)) _ _ s'
  refine wpAny_leaves_onW I.ok.frames rfl hfl fun h2 hfl2 up => ?_
  have J := I.flown F.os F.bare F.un F.hok hfl.2.2.1 cov hfl2.1 up
  exact ⟨a, cls, H', rfl, ⟨J.os, J.bare, J.base, J.hok, B, t, hfl2, Cov.out I rfl rfl rfl F.un F.hok cov hfl2.1⟩, k _ _ q⟩
theorem raised {pins : List (Addr × Obj)} {σ : St} {H1 : Hp} {s1 : Shared} {a : Addr} {cls : Value} {args : List Value} {h' : Heap} (I : Inv (cxOf (CX1 P w) P w K mg base N qual scope f cd A outer s H E) pins σ H1 s1) (hx : Heap.MadeExcOf s1.heap h' a cls args) (q : E cls none H1) :
    (cxOf (CX1 P w) P w K mg base N qual scope f cd A outer s H E).xe (.ref a) { s1 with heap := h' } := by
  show wpAny (model P w) (A.deeper (envOfC qual scope s.heap.objs.size f cd)) (leaving (envOfC qual scope s.heap.objs.size f cd) (.ref a)) _ _ _
  obtain ⟨stk, hstk⟩ : ∃ stk, stk = envOfC qual scope s.heap.objs.size f cd :: outer := ⟨_, rfl⟩
  have hfr : s1.heap.FunFrames (PySem.W.hideAll s1.heap (frs stk)) stk := by
    have := I.stack
    rw [hstk]
    exact PySem.W.funFrames_hide this fun env he b hb => List.mem_filterMap.mpr ⟨env, he, hb⟩
  have cov : Cov (PySem.W.hideAll s1.heap (frs stk)) (frs stk) H1 s1.heap s1.heap := fun b o e _ nb => PySem.W.hideAll_get _ e nb
  refine wpAny_leaves_madeW (base := PySem.W.hideAll s1.heap (frs stk)) (h := s1.heap) I.ok.frames rfl (fun b o q => PySem.W.of_hideAll _ q) (hstk ▸ hfr) hx fun h2 t hfl2 tup hbt up => ?_
  subst hstk
  have up' : s1.heap.UpToSlots h2 := (Heap.UpToSlots.of_keeps hx.keeps).trans up
  have J := I.flown (s' := s1) rfl I.bare Un.refl I.hok hfr cov hfl2.1 up'
  exact ⟨a, cls, H1, rfl, ⟨J.os, J.bare, J.base, J.hok, _, t, hfl2, Cov.out (s' := s1) I rfl rfl rfl Un.refl I.hok cov hfl2.1⟩, q⟩
end
end L2
namespace L2
open PySem PySem.Spec PyProof.Rows
abbrev mroV : List Value := [.type "ValueError", .type "Exception", .type "BaseException", .type "object"]
theorem exc_obj {K : PySem.W.Frag} {h : Heap} {C : Addr} {bmB : List Value} {newId : String} (X : K.In h) (q : PySem.W.excIn K C bmB newId = true) :
    ∃ tl N nm qn bs hdct sn sub ab col dd k0 k1 k2 k3 k5 mN, h.get? C = some (excClassObj nm qn C N bs tl hdct sn sub ab col dd k0 k1 k2 k3 k5 newId) ∧ h.Ns N mN ∧ mN "__init__" = none ∧ OwnTail h bmB tl := by
  unfold PySem.W.excIn at q
  split at q
  · rename_i dd cd sl ho
    split at q
    · rename_i C' bm k0 k1 k2 k3 n k5 hm hs
      simp only [Bool.and_eq_true, beq_iff_eq, Bool.not_eq_true'] at q
      obtain ⟨⟨⟨⟨⟨e1, e2⟩, hdel⟩, ht⟩, hok⟩, hni⟩ := q
      subst e1 e2
      obtain ⟨nm, bs, mro, ns, qn, hd, sn, sub, ab, col, del⟩ := cd
      dsimp only at hm hdel hok hni
      subst hm hdel
      have hsl : sl = #[k0, k1, k2, k3, some (.builtin n), k5] := by
        obtain ⟨l⟩ := sl
        exact congrArg Array.mk hs
      subst hsl
      exact ⟨bm, ns, nm, qn, bs, hd, sn, sub, ab, col, dd, k0, k1, k2, k3, k5, _, X _ _ ho, .of_isNs (PySem.W.isNs_of_in X hok), PySem.W.nsMap_none_of_in X hok hni, PySem.W.tail_of_in X ht⟩
    · cases q
  · cases q
def sRaise (C : Addr) (E : XK) (t : TA) : TS := fun D σ H => t σ H fun vs H1 => vs.length ≤ sizeLine ∧ E (.ref C) none H1
section
variable {P : Program} {w : World} {K : PySem.W.Frag} {mg : Str → Option Value} {base : Heap} {N : List Str} {qual : Str} {scope : Scope} {f : Addr} {cd : Value} {A : Around} {outer : List Env} {s : Shared} {H : Hp} {E : XK}
theorem ps_raise {x : Str} {C : Addr} {newId Bn inN : String} {bmN : List Value} {e : Expr} {es : List Expr} {t : TA} {np cpos pos : Pos} (hm : mg x = some (.ref C)) (hq : PySem.W.excIn K C mroV newId = true) (Fn : ExcBaseFacts Bn newId inN bmN) (hBn : mroV.contains (.type Bn) = true)
    (ha : PA (cxOf (CX1 P w) P w K mg base N qual scope f cd A outer s H E) (e :: es) t) (hg : Gl (cxOf (CX1 P w) P w K mg base N qual scope f cd A outer s H E) x := by rfl) (hd : (x == ("__debug__" : Str)) = false := by decide)
    (he : starEach (e :: es) (envOfC qual scope s.heap.objs.size f cd) = (false, eval e (envOfC qual scope s.heap.objs.size f cd)) :: starEach es (envOfC qual scope s.heap.objs.size f cd) := by rfl) (hpl : (backTo cpos (starEach es (envOfC qual scope s.heap.objs.size f cd))).any (·.1) = false := by rfl) :
    PS (cxOf (CX1 P w) P w K mg base N qual scope f cd A outer s H E) (.Raise (some (.Call (.Name x np) (e :: es) [] cpos)) none pos) (sRaise C E t) := by
  intro pins s1 σ H1 D I h
  obtain ⟨tl, N', nm, qn, bs, hdct, sn, sub, ab, col, dd, k0, k1, k2, k3, k5, mN, hC, hN, hni, T⟩ := exc_obj (h := base) I.ok.mod.kin hq
  refine wpAny_Raise_call_subU (C := C) (nm := nm) (q := qn) (N := N') (bs := bs) (bm := tl) (hdct := hdct) (sn := sn) (sub := sub) (ab := ab) (col := col) (dd := dd) (k0 := k0) (k1 := k1) (k2 := k2) (k3 := k3) (k5 := k5)
    Fn hBn PySem.F.excBase_ValueError (mN := mN) (T.hasType PySem.F.excBase_ValueError.hasBase) (I.ok.hd rfl) ?_ hni (ld_glob I hg hm ⟨rfl, ?_⟩ hd)
  · show (backTo cpos (starEach (e :: es) (envOfC qual scope s.heap.objs.size f cd))).any (·.1) = false
    rw [he]
    show (false || (backTo cpos (starEach es (envOfC qual scope s.heap.objs.size f cd))).any (·.1)) = false
    rw [hpl]; rfl
  · have hw := ha cpos pins s1 σ H1 _ I h
    show wpAny (model P w) (A.deeper (envOfC qual scope s.heap.objs.size f cd)) (evalArgs (.ref C) true (backTo cpos (starEach (e :: es) (envOfC qual scope s.heap.objs.size f cd))) []) _ _ s1
    have hw' : wpAny (model P w) (A.deeper (envOfC qual scope s.heap.objs.size f cd)) (spliced (backTo cpos (starEach (e :: es) (envOfC qual scope s.heap.objs.size f cd)))) _ _ s1 := hw
    rw [he] at hw' ⊢
    refine Calls.evalArgs_plain (wpAny_mono hw' (fun us s2 h2 => ?_) fun _ _ y => y)
    obtain ⟨vs, H2, I2, r, hl, q⟩ := h2
    exact ⟨rfl, by rw [← r.length]; exact hl, I2.bk _ _ hC, hN.keeps I2.bk, T.keeps I2.bk, fun h' a hx => raised I2 hx q⟩
end
end L2
namespace L2
open PySem PySem.Spec PyProof.Rows
structure FnX (P : Program) (w : World) (K : PySem.W.Frag) (mg : Str → Option Value) (base : Heap) (k : Nat) (x : Str) (ps : List Str) (sp : Sp) : Prop where
  ex : ∃ (f : Addr) (fd : FuncData), FnOk P w K mg base (CX1 P w) k f fd ps sp ∧ Binds K fd ps [] ∧ PySem.W.keepIn K (.ref f) = true ∧ mg x = some (.ref f)
def PassE (X : Cx) (EE : St → XK) : Prop := ∀ (pins : List (Addr × Obj)) (σ : St) (H : Hp) (s : Shared) (e : Value) (s' : Shared), Inv X pins σ H s → CX1 X.prog X.w X.stack H s (EE σ) e s' → X.xe e s'
def tCallX (sp : Sp) (EE : St → XK) (t : TA) : TE := fun σ H Q => t σ H fun vs H1 => sp vs H1 Q (EE σ)
section
variable {X : Cx}
theorem pe_fnX {k k' : Nat} {x : Str} {ps : List Str} {sp : Sp} {EE : St → XK} {p pos : Pos} {e : Expr} {es : List Expr} {t : TA} (F : FnX X.prog X.w X.K X.mg X.base k x ps sp) (hr : Room k' X.A) (hx : PassE X EE) (ha : PA X (e :: es) t) (hk : k ≤ k' := by decide) (hg : Gl X x := by rfl)
    (hdb : (x == ("__debug__" : Str)) = false := by decide) (he : starEach (e :: es) X.env = (false, eval e X.env) :: starEach es X.env := by rfl) (hpl : (backTo pos (starEach es X.env)).any (·.1) = false := by rfl) :
    PE X (.Call (.Name x p) (e :: es) [] pos) (tCallX sp EE t) := by
  obtain ⟨f, fd, h1, h2, h3, h4⟩ := F.ex
  intro pins s σ H Q I h
  refine wpAny_Call_Name_kw (ld_glob I hg h4 ?_ hdb)
  refine PySem.W.callWith_K (h₀ := X.base) I.ok.mod.kin h3 (thn (ha pos pins s σ H _ I h) fun us s1 ⟨vs, H1, I1, r, q⟩ => ⟨I1.kIn, ?_⟩) he hpl
  have hl : us.length = ps.length := by rw [← r.length]; exact h1.len _ _ _ _ q
  have hb := h2 s1 us I1.kIn (by rw [List.append_nil]; exact hl)
  rw [List.append_nil] at hb
  refine wpAny_call (codeAny_mono (h1.run X.A X.stack s1 H1 ⟨us, []⟩ us vs Q (EE σ) (hr.mono hk) I1.env0 hb r q) fun r s' hq => ?_)
  cases r with
  | error e => exact hx pins σ H1 s1 e s' I1 hq
  | ok fl =>
    cases fl with
    | ret u => exact I1.after hq
    | next => exact False.elim hq
    | brk => exact False.elim hq
    | cont => exact False.elim hq
end
section
variable {P : Program} {w : World} {K : PySem.W.Frag} {mg : Str → Option Value} {base : Heap} {N : List Str} {qual : Str} {scope : Scope} {f : Addr} {cd : Value} {A : Around} {outer : List Env} {s : Shared} {H : Hp} {E : XK}
theorem passE {E' : XK} (k : ∀ cls H', E' cls none H' → E cls none H') : PassE (cxOf (CX1 P w) P w K mg base N qual scope f cd A outer s H E) (fun _ => E') := fun pins σ H1 s1 e s' I h => pass1 k pins σ H1 s1 e s' I h
theorem Fun.okX {x : Str} {st : Stmt} {fd : FuncData} {ps : List Str} {k : Nat} {sp : Sp} (F : Fun K x qual st f fd) (S : FnScope N ps (defScope st)) (len : ∀ vs H Q E, sp vs H Q E → vs.length = ps.length)
    (hbody : ∀ (cdv : Value) (A : Around) (outer : List Env) (s : Shared) (H : Hp) (vs : List V) (Q : VK) (E : XK), Room k (A.deeper (envOfC qual (defScope st) s.heap.objs.size f cdv)) → sp vs H Q E →
      ∃ t, PSs (cxOf (CX1 P w) P w K mg base N qual (defScope st) f cdv A outer s H E) (defBody st) t ∧ t { nx := fun _ H' => Q .non H', rt := Q } (start N vs) H) : FnOk P w K mg base (CX1 P w) (k + 1) f fd ps sp := by
  obtain ⟨oc, od, kV, doc, pm, an, cdv, ct, osl, rfl, lk, hcd⟩ := F.ex
  exact fn_of lk hcd S len fun A outer s H vs Q E hr hsp => hbody cdv A outer s H vs Q E hr hsp
theorem Fun.okXC {x : Str} {st : Stmt} {fd : FuncData} {ps : List Str} {k : Nat} {sp : Sp} {c T : Addr} (F : Fun K x qual st f fd) (hn : PySem.W.nsIn K mainGlobals x = some (some (.ref f))) (hT : PySem.W.tabIn K x = some (c, T)) (S : FnScope N ps (defScope st)) (len : ∀ vs H Q E, sp vs H Q E → vs.length = ps.length)
    (hbody : ∀ (A : Around) (outer : List Env) (s : Shared) (H : Hp) (vs : List V) (Q : VK) (E : XK), Room k (A.deeper (envOfC qual (defScope st) s.heap.objs.size f (.ref c))) → sp vs H Q E →
      ∃ t, PSs (cxOf (CX1 P w) P w K mg base N qual (defScope st) f (.ref c) A outer s H E) (defBody st) t ∧ t { nx := fun _ H' => Q .non H', rt := Q } (start N vs) H) : FnOk P w K mg base (CX1 P w) (k + 1) f fd ps sp := by
  obtain ⟨oc, od, kV, doc, pm, an, cdv, ct, osl, rfl, lk, hcd⟩ := F.ex
  have e : cdv = .ref c := code_of hn lk hT
  subst e
  exact fn_of lk hcd S len fun A outer s H vs Q E hr hsp => hbody A outer s H vs Q E hr hsp
end
abbrev Cx.pnd (X : Cx) (pins : List (Addr × Obj)) : Cx := { X with pn := X.pn ++ pins }
abbrev Cx.tryx (X : Cx) (pins : List (Addr × Obj)) (EE : St → XK) : Cx := { X with pn := X.pn ++ pins, xe := fun e s' => ∃ pins' σ H s, Inv (X.pnd pins) pins' σ H s ∧ CX1 X.prog X.w X.stack H s (EE σ) e s' }
abbrev Cx.mrk (X : Cx) (a : Addr) : Cx := { X with A := X.A.mark (some (.ref a)), calm := false, xe := fun _ _ => False }
section
variable {X : Cx} {pins : List (Addr × Obj)} {σ : St} {H : Hp} {s : Shared} {EE : St → XK} {a : Addr}
theorem Inv.toTry (I : Inv X pins σ H s) (EE : St → XK) : Inv (X.tryx pins EE) [] σ H s :=
  ⟨⟨I.ok.mod, I.ok.kind, I.ok.glob, I.ok.blt, I.ok.above, I.ok.inj, I.ok.has, I.ok.cab, I.ok.hd, I.ok.frames, I.ok.stk, I.ok.exf, I.ok.bs, I.ok.bsz, I.ok.noex, I.ok.exfs, I.ok.funs, I.ok.frf⟩, I.os, I.bare, I.base, I.loc, I.cell, I.free, I.freeC, fun p hp => I.pin p (by simpa using hp), I.hok, I.len⟩
theorem Inv.ofTry {p2 : List (Addr × Obj)} (I : Inv (X.tryx pins EE) p2 σ H s) : Inv X pins σ H s :=
  ⟨⟨I.ok.mod, I.ok.kind, I.ok.glob, I.ok.blt, I.ok.above, I.ok.inj, I.ok.has, I.ok.cab, I.ok.hd, I.ok.frames, I.ok.stk, I.ok.exf, I.ok.bs, I.ok.bsz, I.ok.noex, I.ok.exfs, I.ok.funs, I.ok.frf⟩, I.os, I.bare, I.base, I.loc, I.cell, I.free, I.freeC, fun p hp => I.pin p (List.mem_append_left _ hp), I.hok, I.len⟩
theorem Inv.ofTryP {p2 : List (Addr × Obj)} (I : Inv (X.tryx pins EE) p2 σ H s) : Inv (X.pnd pins) p2 σ H s :=
  ⟨⟨I.ok.mod, I.ok.kind, I.ok.glob, I.ok.blt, I.ok.above, I.ok.inj, I.ok.has, I.ok.cab, I.ok.hd, I.ok.frames, I.ok.stk, I.ok.exf, I.ok.bs, I.ok.bsz, I.ok.noex, I.ok.exfs, I.ok.funs, I.ok.frf⟩, I.os, I.bare, I.base, I.loc, I.cell, I.free, I.freeC, I.pin, I.hok, I.len⟩
theorem Inv.ofPnd {p2 : List (Addr × Obj)} (I : Inv (X.pnd pins) p2 σ H s) : Inv X pins σ H s :=
  ⟨⟨I.ok.mod, I.ok.kind, I.ok.glob, I.ok.blt, I.ok.above, I.ok.inj, I.ok.has, I.ok.cab, I.ok.hd, I.ok.frames, I.ok.stk, I.ok.exf, I.ok.bs, I.ok.bsz, I.ok.noex, I.ok.exfs, I.ok.funs, I.ok.frf⟩, I.os, I.bare, I.base, I.loc, I.cell, I.free, I.freeC, fun p hp => I.pin p (List.mem_append_left _ hp), I.hok, I.len⟩
theorem Inv.toMrk (I : Inv X pins σ H s) (a : Addr) (hf : (X.A.mark (some (.ref a))).frames = X.A.frames) : Inv (X.mrk a) pins σ H s :=
  ⟨⟨I.ok.mod, I.ok.kind, I.ok.glob, I.ok.blt, I.ok.above, I.ok.inj, I.ok.has, I.ok.cab, fun z => (nomatch z), hf.trans I.ok.frames, I.ok.stk, I.ok.exf, I.ok.bs, I.ok.bsz, I.ok.noex, I.ok.exfs, I.ok.funs, I.ok.frf⟩, I.os, I.bare, I.base, I.loc, I.cell, I.free, I.freeC, I.pin, I.hok, I.len⟩
theorem Inv.ofMrk (ok : X.Ok) (I : Inv (X.mrk a) pins σ H s) : Inv X pins σ H s := ⟨ok, I.os, I.bare, I.base, I.loc, I.cell, I.free, I.freeC, I.pin, I.hok, I.len⟩
theorem SP.ofTry {D : Ends} {fl : Flow} {s' : Shared} (h : SP (X.tryx pins EE) [] D fl s') : SP X pins D fl s' := by
  cases fl with
  | next => obtain ⟨σ', H', I, q⟩ := h; exact ⟨σ', H', I.ofTry, q⟩
  | brk => obtain ⟨σ', H', I, q⟩ := h; exact ⟨σ', H', I.ofTry, q⟩
  | cont => obtain ⟨σ', H', I, q⟩ := h; exact ⟨σ', H', I.ofTry, q⟩
  | ret u => obtain ⟨v, σ', H', I, r, q⟩ := h; exact ⟨v, σ', H', I.ofTry, r, q⟩
theorem SP.ofMrk {D : Ends} {fl : Flow} {s' : Shared} (ok : X.Ok) (h : SP (X.mrk a) pins D fl s') : SP X pins D fl s' := by
  cases fl with
  | next => obtain ⟨σ', H', I, q⟩ := h; exact ⟨σ', H', I.ofMrk ok, q⟩
  | brk => obtain ⟨σ', H', I, q⟩ := h; exact ⟨σ', H', I.ofMrk ok, q⟩
  | cont => obtain ⟨σ', H', I, q⟩ := h; exact ⟨σ', H', I.ofMrk ok, q⟩
  | ret u => obtain ⟨v, σ', H', I, r, q⟩ := h; exact ⟨v, σ', H', I.ofMrk ok, r, q⟩
theorem passT : PassE (X.tryx pins EE) EE := fun p2 σ H s e s' I h => ⟨p2, σ, H, s, I.ofTryP, h⟩
end
end L2
namespace L2
open PySem PySem.Spec PyProof.Rows
structure MtX (P : Program) (w : World) (K : PySem.W.Frag) (mg : Str → Option Value) (base : Heap) (C : Addr) (k : Nat) (m : Str) (ps : List Str) (sp : Sp) : Prop where
  ex : ∃ f fd, Meth K C m f ∧ FnOk P w K mg base (CX1 P w) k f fd ps sp ∧ Binds K fd ps []
section
variable {X : Cx}
theorem run_fnX {f : Addr} {fd : FuncData} {k : Nat} {ps : List Str} {sp : Heap → Sp} {EE : St → XK} {pins : List (Addr × Obj)} {σ : St} {H : Hp} {s : Shared} {Q : VK} {us : List Value} {vs : List V} (F : ∀ g : Heap, Sub X.base g → FnOk X.prog X.w X.K X.mg g (CX1 X.prog X.w) k f fd ps (sp g)) (hr : Room k X.A) (hb : Binds X.K fd ps []) (hx : PassE X EE) (hfn : ∀ x, X.fn x = true)
    (I : Inv X pins σ H s) (r : Vals vs us) (h : ∀ g : Heap, Sub X.base g → Cells X σ g → sp g vs H Q (EE σ)) : wpAny (model X.prog X.w) X.A (call (.ref f) us) (EP X pins σ Q) X.xe s := by
  have h' := h _ I.env0.sub (I.cells hfn)
  have hl : us.length = ps.length := by rw [← r.length]; exact (F _ I.env0.sub).len _ _ _ _ h'
  have hb' := hb s us I.kIn (by rw [List.append_nil]; exact hl)
  rw [List.append_nil] at hb'
  refine wpAny_call (codeAny_mono ((F _ I.env0.sub).run X.A X.stack s H ⟨us, []⟩ us vs Q (EE σ) hr I.env0.big hb' r h') fun r s' hq => ?_)
  cases r with
  | error e => exact hx pins σ H s e s' I hq
  | ok fl =>
    cases fl with
    | ret u => exact I.after hq
    | next => exact False.elim hq
    | brk => exact False.elim hq
    | cont => exact False.elim hq
theorem run_fnX1 {f : Addr} {fd : FuncData} {k : Nat} {ps : List Str} {sp : Sp} {EE : St → XK} {pins : List (Addr × Obj)} {σ : St} {H : Hp} {s : Shared} {Q : VK} {us : List Value} {vs : List V} (F : FnOk X.prog X.w X.K X.mg X.base (CX1 X.prog X.w) k f fd ps sp) (hr : Room k X.A) (hb : Binds X.K fd ps []) (hx : PassE X EE)
    (I : Inv X pins σ H s) (r : Vals vs us) (h : sp vs H Q (EE σ)) : wpAny (model X.prog X.w) X.A (call (.ref f) us) (EP X pins σ Q) X.xe s := by
  have hl : us.length = ps.length := by rw [← r.length]; exact F.len _ _ _ _ h
  have hb' := hb s us I.kIn (by rw [List.append_nil]; exact hl)
  rw [List.append_nil] at hb'
  refine wpAny_call (codeAny_mono (F.run X.A X.stack s H ⟨us, []⟩ us vs Q (EE σ) hr I.env0 hb' r h) fun r s' hq => ?_)
  cases r with
  | error e => exact hx pins σ H s e s' I hq
  | ok fl =>
    cases fl with
    | ret u => exact I.after hq
    | next => exact False.elim hq
    | brk => exact False.elim hq
    | cont => exact False.elim hq
def tMethX (C : Addr) (m : Str) (sp : Sp) (EE : St → XK) (ta : TE) (t : TA) : TE := fun σ H Q => ta σ H fun x H1 => ∃ a dx fs, x = .ref a ∧ H1 a = some (.ins C dx fs) ∧ fs.lookup m = none ∧ t σ H1 fun vs H2 => sp (.ref a :: vs) H2 Q (EE σ)
def tMethBX (X : Cx) (C : Addr) (m : Str) (sp : Heap → Sp) (EE : St → XK) (ta : TE) (t : TA) : TE := fun σ H Q => ta σ H fun x H1 => ∃ a dx fs, x = .ref a ∧ H1 a = some (.ins C dx fs) ∧ fs.lookup m = none ∧
  t σ H1 fun vs H2 => ∀ g : Heap, Sub X.base g → Cells X σ g → sp g (.ref a :: vs) H2 Q (EE σ)
section
variable {C : Addr} {k k' : Nat} {m : Str} {ps : List Str} {sp : Sp} {o e : Expr} {es : List Expr} {ta : TE} {t : TA} {apos pos : Pos} {EE : St → XK}
theorem pe_mtX0 {pl : Sem Bool} (M : MtX X.prog X.w X.K X.mg X.base C k m ps sp) (c : Cls X.K C) (hr : Room k' X.A) (hx : PassE X EE) (he : PE X o ta) (hk : k ≤ k' := by decide)
    (ht : eval (.Call (.Attribute o m apos) [] [] pos) X.env = (do
      let ov ← eval o X.env
      standAt apos.atName
      let (f, first) ← holding [ov] (getMethod ov m pl)
      callWith pos f first (backTo pos (starEach [] X.env)) (backToKw pos (keywordEach [] X.env))) := by rfl) :
    PE X (.Call (.Attribute o m apos) [] [] pos) (tMethX C m sp EE ta tNil) := by
  obtain ⟨f, fd, h1, h2, h3⟩ := M.ex
  intro pins s σ H Q I h
  refine PySem.W.methodCall_KW (pl := pl) (thn (he pins s σ H _ I h) fun u s1 ⟨x, H1, I1, rx, a, dx, fs, ex, ea, l, q⟩ => ?_) ht
  subst ex
  obtain rfl : u = Value.ref a := rx
  refine getmeth_ok I1 ea c h1 l ?_
  exact PySem.W.callWith_K0 (first := [.ref a]) I1.kIn h1.kp (run_fnX1 (us := [.ref a]) (vs := [.ref a]) h2 (hr.mono hk) h3 hx I1 (.cons rfl .nil) q)
theorem pe_methBX {f : Addr} {fd : FuncData} {spB : Heap → Sp} {pl : Sem Bool} (he : PE X o ta) (c : Cls X.K C) (hm : Meth X.K C m f) (F : ∀ g : Heap, Sub X.base g → FnOk X.prog X.w X.K X.mg g (CX1 X.prog X.w) k f fd ps (spB g)) (hr : Room k X.A) (hb : Binds X.K fd ps []) (hx : PassE X EE) (hfn : ∀ x, X.fn x = true) (ha : PA X (e :: es) t)
    (hst : starEach (e :: es) X.env = (false, eval e X.env) :: starEach es X.env := by rfl) (hpl : (backTo pos (starEach es X.env)).any (·.1) = false := by rfl)
    (ht : eval (.Call (.Attribute o m apos) (e :: es) [] pos) X.env = (do
      let ov ← eval o X.env
      standAt apos.atName
      let (f, first) ← holding [ov] (getMethod ov m pl)
      callWith pos f first (backTo pos (starEach (e :: es) X.env)) (backToKw pos (keywordEach [] X.env))) := by rfl) :
    PE X (.Call (.Attribute o m apos) (e :: es) [] pos) (tMethBX X C m spB EE ta t) := by
  intro pins s σ H Q I h
  refine PySem.W.methodCall_KW (pl := pl) (thn (he pins s σ H _ I h) fun u s1 ⟨x, H1, I1, rx, a, dx, fs, ex, ea, l, q⟩ => ?_) ht
  subst ex
  obtain rfl : u = Value.ref a := rx
  refine getmeth_ok I1 ea c hm l ?_
  refine PySem.W.callWith_K (first := [.ref a]) (h₀ := X.base) I.ok.mod.kin hm.kp (thn (ha pos pins s1 σ H1 _ I1 q) fun us s2 ⟨vs, H2, I2, r, q2⟩ => ⟨I2.kIn, ?_⟩) hst hpl
  exact run_fnX (us := .ref a :: us) (vs := .ref a :: vs) F hr hb hx hfn I2 (.cons rfl r) q2
end
end
def CalX (P : Program) (w : World) (K : PySem.W.Frag) (mg : Str → Option Value) (base : Heap) (k : Nat) (e : Expr) (cl : List (Str × Addr)) (sp : Sp) : Prop :=
  ∀ (f : Addr) (A : Around) (outer : List Env) (s : Shared) (H : Hp) (Q : VK) (E : XK), Room k A → Env0 P w K mg base A outer s H → LamAtC H f e cl → sp [] H Q E →
    codeAny (model P w) A (.call (.ref f) ⟨[], []⟩) (CR (CX1 P w) outer P w H s Q E) s
theorem passL {P : Program} {w : World} {K : PySem.W.Frag} {mg : Str → Option Value} {base : Heap} {N : List Str} {qual : Str} {scope : Scope} {cl : List (Str × Addr)} {f : Addr} {cd : Value} {A : Around} {outer : List Env} {s : Shared} {H : Hp} {E : XK} : PassE (cxL (CX1 P w) P w K mg base N qual scope cl f cd A outer s H E) (fun _ => E) := by
  intro pins σ H1 s1 e s' I h
  obtain ⟨a, cls, H', rfl, F, q⟩ := h
  obtain ⟨B, t, hfl, cov⟩ := F.fly
  show wpAny (model P w) (A.deeper (envL qual scope cl s.heap.objs.size f cd)) (leaving (envL qual scope cl s.heap.objs.size f cd) (.ref a)) _ _ s'
  refine wpAny_leaves_onW I.ok.frames rfl hfl fun h2 hfl2 up => ?_
  have J := I.flown F.os F.bare F.un F.hok hfl.2.2.1 cov hfl2.1 up
  exact ⟨a, cls, H', rfl, ⟨J.os, J.bare, J.base, J.hok, B, t, hfl2, Cov.out I rfl rfl rfl F.un F.hok cov hfl2.1⟩, q⟩
theorem lam_runX {P : Program} {w : World} {K : PySem.W.Frag} {mg : Str → Option Value} {base : Heap} {k : Nat} {e : Expr} {cl : List (Str × Addr)} {N : List Str} {vs : List V} {sp : Sp} (hk : (lamScope e).kind = ScopeKind.function) (hco : (lamScope e).isCoroutine = false) (hge : (lamScope e).isGenerator = false) (hfree : ∀ y ∈ (lamScope e).names, y.2 ≠ NameKind.cell ∧ y.2 ≠ NameKind.local)
    (hN : ∀ x, (lamScope e).names.lookup x = some .free → ∃ c, cl.lookup x = some c) (hC : ClAt base N cl vs)
    (hbind : ∀ (qual : Str) (pm : Value) (c : Addr) (ctv : Value), bindArgs (lamFnC qual e cl pm c ctv) ⟨[], []⟩ = pure [])
    (hbody : ∀ (qual : Str) (f c : Addr) (A : Around) (outer : List Env) (s : Shared) (H : Hp) (Q : VK) (E : XK), Room k (A.deeper (envL qual (lamScope e) cl s.heap.objs.size f (.ref c))) → sp [] H Q E →
      ∃ t, PE (cxL (CX1 P w) P w K mg base N qual (lamScope e) cl f (.ref c) A outer s H E) (lamBody e) t ∧ t (vs.map some) H Q) : CalX P w K mg base (k + 1) e cl sp := by
  intro f A outer s H Q E hr e0 hL hsp
  obtain ⟨qual, pm, c, ctv, hf, hc⟩ := hL.ex
  have hfo : s.heap.get? f = some { cls := .type "function", data := .func (lamFnC qual e cl pm c ctv) } := (e0.hok f _ hf).1
  have hrec : s.heap.CodeRec (.ref c) qual := (e0.hok c _ hc).1
  have lim : s.heap.NoLimit := e0.mod.nolimit.keeps fun b o e => (e0.bs b o e).1
  refine PySem.W.kla_callFunE hr.depth hfo rfl hco hge rfl hrec ?_
  rw [hbind qual pm c ctv]
  refine wpAny_pure ?_
  refine wpAny_newFunctionEnv (fun y hy => (hfree y hy).1) (by intro y hy; simp at hy) (fun h1 hns hsb => ?_) hk
  have keep : ∀ b o, s.heap.get? b = some o → h1.get? b = some o := fun b o e => (hsb.2 b (Nat.ne_of_lt (Heap.lt_size e))).trans (Heap.get?_push_of_some _ e)
  refine ⟨lim.keeps keep, PySem.W.kla_codeExpr ?_⟩
  obtain ⟨t, ht, hq⟩ := hbody qual f c A outer s H Q E (hr.deeper _) hsp
  have inb : ∀ {x : Str} {cc : Addr} {u : Option Value}, base.IsCell cc u → h1.IsCell cc u ∧ H cc = none ∧ cc < s.heap.objs.size := fun {x cc u} ⟨o, ho, r⟩ => ⟨⟨o, keep _ _ (e0.bs _ _ ho).1, r⟩, (e0.bs _ _ ho).2, Heap.lt_size (e0.bs _ _ ho).1⟩
  have noA : ∀ b : Addr, b ∉ (cxL (CX1 P w) P w K mg base N qual (lamScope e) cl f (.ref c) A outer s H E).ex := fun b z => absurd (show b ∈ ([] : List Addr) from z) (by simp)
  have I : Inv (cxL (CX1 P w) P w K mg base N qual (lamScope e) cl f (.ref c) A outer s H E) [] (vs.map some) H { s with heap := h1, toks := s.toks + 0 } := by
    refine ⟨⟨e0.mod, hk, rfl, rfl, Nat.le_refl _, fun y z cc h1 h2 => hC.inj y z cc h1 h2, fun y hy => ?_, fun y cc h _ => ?_, fun _ => hr.hd, Around.frames_deeper e0.frames, .inr ⟨rfl, rfl⟩, fun b z => absurd z (noA b), e0.bs, e0.bsz, fun b _ _ => noA b, fun b z => absurd z (noA b), e0.funs, e0.frf⟩,
      rfl, e0.bare, Un.kept keep, ⟨_, hns, fun i y v h1 h2 h3 => ?_⟩, fun y cc h => ?_, e0.hok.fresh (Nat.le_refl _), fun y cc h => ?_, fun p hp => absurd (show p ∈ ([] : List (Addr × Obj)) from hp) (by simp), e0.hok.kept keep, ?_⟩
    · have hy : (lamScope e).names.lookup y = some .cell ∨ (lamScope e).names.lookup y = some .free := hy
      rcases hy with hy | hy
      · exact absurd rfl (hfree _ (PySem.mem_of_lookup hy)).1
      · exact hN y hy
    · cases h
    · have hv : vs[i]? = some v := by
        rw [List.getElem?_map] at h2
        cases q : vs[i]? with
        | none => rw [q] at h2; cases h2
        | some a => rw [q] at h2; cases h2; rfl
      obtain ⟨cc, u, e1, e2, e3⟩ := hC.val i y v h1 hv
      have h3 : (lamScope e).names.lookup y = some .local ∨ (lamScope e).names.lookup y = some .cell ∨ (lamScope e).names.lookup y = some .free := h3
      rcases h3 with k | k | k
      · exact absurd rfl (hfree _ (PySem.mem_of_lookup k)).2
      · exact absurd rfl (hfree _ (PySem.mem_of_lookup k)).1
      · exact ⟨u, e3, .inr ⟨.inr k, cc, e1, (inb (x := y) e2).1⟩⟩
    · obtain ⟨u, hu⟩ := hC.cel y cc h
      exact ⟨u, (inb (x := y) hu).1⟩
    · obtain ⟨u, hu⟩ := hC.cel y cc h
      exact (inb (x := y) hu).2.1
    · rw [List.length_map]; exact hC.len
  refine wpAny_mono (ht [] _ (vs.map some) H _ I hq) (fun u s' hs => ?_) fun e s' hs => hs
  obtain ⟨v, H', J, rv, q⟩ := hs
  exact ⟨v, H', J.os, J.bare, J.base, J.hok, rv, q⟩
def tCallX0 (i : Nat) (e : Expr) (cl : List (Str × Addr)) (sp : Sp) (EE : St → XK) : TE := fun σ H Q => ∃ f, σ[i]? = some (some (.ref f)) ∧ LamAtC H f e cl ∧ sp [] H Q (EE σ)
section
variable {X : Cx}
theorem pe_callX0 {i : Nat} {x : Str} {e : Expr} {cl : List (Str × Addr)} {sp : Sp} {k : Nat} {p pos : Pos} {EE : St → XK} (C : CalX X.prog X.w X.K X.mg X.base k e cl sp) (hr : Room k X.A) (hx : PassE X EE) (hN : X.N[i]? = some x := by rfl) (hv : Vis X.env.scope x := by first | exact Or.inl rfl | exact Or.inr (Or.inl rfl) | exact Or.inr (Or.inr rfl))
    (hd : (x == ("__debug__" : Str)) = false := by decide) (hcd : (x == ("__classdict__" : Str)) = false := by decide) :
    PE X (.Call (.Name x p) [] [] pos) (tCallX0 i e cl sp EE) := by
  intro pins s σ H Q I h
  obtain ⟨f, hs, hL, q2⟩ := h
  refine wpAny_Call_Name_kw (thn (pe_var (pos := p) hN hv hd hcd pins s σ H (fun v H1 => v = .ref f ∧ H1 = H) I ⟨.ref f, hs, rfl, rfl⟩) fun u s1 ⟨v, H1, I1, r1, ev, eH⟩ => ?_)
  subst ev eH
  obtain rfl : u = Value.ref f := r1
  refine PySem.W.callWith_of (P := fun h => ∃ fd, h.get? f = some { cls := .type "function", data := .func fd }) rfl
    (fun h ⟨fd, hf⟩ => ⟨.frame, .inl rfl, (PySem.W.Looks.ld (part := none) hf).andThen .now⟩) (PySem.evalArgs_none ⟨?_, ?_⟩)
  · obtain ⟨qual, pm, c, ctv, hf, hc⟩ := hL.ex
    exact ⟨_, (I1.hok f _ hf).1⟩
  · refine wpAny_call (codeAny_mono (C f X.A X.stack s1 H1 Q (EE σ) hr I1.env0 hL q2) fun r s' hq => ?_)
    cases r with
    | error e => exact hx pins σ H1 s1 e s' I1 hq
    | ok fl =>
      cases fl with
      | ret u => exact I1.after hq
      | next => exact False.elim hq
      | brk => exact False.elim hq
      | cont => exact False.elim hq
end
end L2
namespace L2
open PySem PySem.Spec PyProof.Rows
def rCatL (K : PySem.W.Frag) : R2 := fun x y H Q => ∃ l b xs zs, x = .ref l ∧ y = .ref b ∧ SqL K H l xs ∧ SqL K H b zs ∧ xs.length + zs.length ≤ sizeLine ∧ ∀ p, H p = none → Q (.ref p) (upd H p (.lst (xs ++ zs)))
theorem op_catL {X : Cx} : OpR X (binaryOp .Add) (rCatL X.K) := by
  intro pins s σ H x y v u Q I rx ry h
  obtain ⟨l, b, xs, zs, rfl, rfl, ha, hb, hz, q⟩ := h
  cases rx
  cases ry
  obtain ⟨its, r1, ⟨⟨c1, d1, t1, s1⟩, n1, g1, e1, f1, k1⟩, _⟩ := I.list ha
  obtain ⟨its2, r2, ⟨⟨c2, d2, t2, s2⟩, n2, g2, e2, f2, k2⟩, _⟩ := I.list hb
  simp only at e1 f1 k1 e2 f2 k2
  subst e1 f1 k1 e2 f2 k2
  have l1 := r1.length
  have l2 := r2.length
  refine concat_meets ⟨_, g1, rfl⟩ ⟨_, g2, rfl⟩ noFill_list_add seq_list_add PySem.F.slot_list_add PySem.F.entry_list_add (PySem.F.args_list_add_2 _ _) (list_addW l b _ _ n1 n2 none none s1 s2 (by rw [List.size_toArray, List.size_toArray]; omega)) ⟨g1, g2, ?_⟩
  have ea : its.toArray ++ its2.toArray = (its ++ its2).toArray := by simp
  rw [ea]
  exact ⟨.ref _, _, I.lnew (t' := s.toks) (r1.append r2) (by rw [List.length_append]; omega), rfl, q _ I.fresh⟩
theorem cutFrom (xs : List V) (k : Nat) : cutV xs (some (k : Int)) none = xs.drop k := by
  unfold cutV
  rw [HT.sIx_none, HT.sIx_nat]
  by_cases h : k ≤ xs.length
  · rw [Nat.min_eq_left h]
    exact List.take_of_length_le (by rw [List.length_drop]; omega)
  · rw [Nat.min_eq_right (by omega), List.drop_of_length_le (Nat.le_refl _), List.drop_of_length_le (by omega), List.take_nil]
theorem cutTo (xs : List V) (k : Nat) : cutV xs none (some (k : Int)) = xs.take k := by
  unfold cutV
  rw [HT.sIx_none, HT.sIx_nat, List.drop_zero, Nat.sub_zero]
  by_cases h : k ≤ xs.length
  · rw [Nat.min_eq_left h]
  · rw [Nat.min_eq_right (by omega), List.take_of_length_le (Nat.le_refl _), List.take_of_length_le (by omega)]
theorem ixN_nat {n k : Nat} (h : k < n) : ixN n (k : Int) = some k := by
  unfold ixN
  rw [if_pos (by omega), if_pos (by omega)]; simp
theorem rep_flat (n : Nat) (v : V) : (List.replicate n [v]).flatten = List.replicate n v := by
  induction n with
  | zero => rfl
  | succ n ih => rw [List.replicate_succ, List.flatten_cons, ih, List.replicate_succ]; rfl
theorem size_line : sizeLine = 16777216 := by decide
theorem line_of {n : Nat} (h : n ≤ 5000) : n ≤ sizeLine := by rw [size_line]; omega
end L2
namespace L2
open PySem PySem.Spec PyProof.Rows
def tFInt (te : TE) : TE := fun σ H Q => te σ H fun v H1 => ∃ i : Int, v = .int i ∧ i.natAbs.log2 < 1920 ∧ Q (.str (toString i)) H1
def tFRep (te : TE) : TE := fun σ H Q => te σ H fun v H1 => ∃ x : Str, v = .str x ∧ (reprText x).length ≤ sizeLine ∧ Q (.str (reprText x)) H1
def tJoin3 (t1 t2 t3 : TE) : TE := fun σ H Q => t1 σ H fun v1 H1 => ∃ a : Str, v1 = .str a ∧ a.length ≤ 1000 ∧ t2 σ H1 fun v2 H2 => ∃ b : Str, v2 = .str b ∧ b.length ≤ 1000 ∧ t3 σ H2 fun v3 H3 => ∃ c : Str, v3 = .str c ∧ c.length ≤ 1000 ∧ Q (.str (Str.empty ++ a ++ b ++ c)) H3
def tJoin2 (t1 t2 : TE) : TE := fun σ H Q => t1 σ H fun v1 H1 => ∃ a : Str, v1 = .str a ∧ a.length ≤ 1000 ∧ t2 σ H1 fun v2 H2 => ∃ b : Str, v2 = .str b ∧ b.length ≤ 1000 ∧ Q (.str (Str.empty ++ a ++ b)) H2
section
variable {X : Cx} {e e1 e2 e3 : Expr} {te t1 t2 t3 : TE} {pos : Pos}
theorem pe_fint (he : PE X e te) : PE X (.FormattedValue e (-1) none pos) (tFInt te) := by
  intro pins s σ H Q I h
  refine PySem.wpAny_FormattedValue_plain (thn (he pins s σ H _ I h) fun u s1 ⟨x, H1, I1, r, i, ex, hd, q⟩ => ?_)
  subst ex
  obtain ⟨t, rfl⟩ := r
  exact wpAny_formatField_int hd ⟨.str (toString i), H1, I1.tok _, ⟨_, rfl⟩, q⟩
theorem pe_frep (he : PE X e te) : PE X (.FormattedValue e 114 none pos) (tFRep te) := by
  intro pins s σ H Q I h
  refine PySem.wpAny_FormattedValue_repr (thn (he pins s σ H _ I h) fun u s1 ⟨x, H1, I1, r, y, ex, hd, q⟩ => ?_)
  subst ex
  obtain ⟨t, rfl⟩ := r
  refine wpAny_pyReprObj_gives (T := "str") (typeIs_str _ _ _) PySem.F.slot_str_repr PySem.F.entry_str_repr (PySem.F.args_str_repr_1 _) (gives_str_repr y t) ?_ rfl hd
  exact wpAny_formatField_str ⟨.str (reprText y), H1, I1.tok _, ⟨_, rfl⟩, q⟩ ⟨.str (reprText y), H1, (I1.tok _).tok _, ⟨_, rfl⟩, q⟩ hd
theorem pe_join3 (h1 : PE X e1 t1) (h2 : PE X e2 t2) (h3 : PE X e3 t3) : PE X (.JoinedStr [e1, e2, e3] pos) (tJoin3 t1 t2 t3) := by
  intro pins s σ H Q I h
  refine wpAny_JoinedStr ?_
  have e0 : (Str.empty).length = 0 := rfl
  refine thn (h1 pins s σ H _ I h) fun u1 s1 ⟨x1, H1, I1, r1, a, ea, la, q1⟩ => ?_
  subst ea
  obtain ⟨ta, rfl⟩ := r1
  refine ⟨a, ta, rfl, line_of (by rw [strLen_append]; omega), ?_⟩
  refine thn (h2 pins s1 σ H1 _ I1 q1) fun u2 s2 ⟨x2, H2, I2, r2, b, eb, lb, q2⟩ => ?_
  subst eb
  obtain ⟨tb, rfl⟩ := r2
  refine ⟨b, tb, rfl, line_of (by rw [strLen_append, strLen_append]; omega), ?_⟩
  refine thn (h3 pins s2 σ H2 _ I2 q2) fun u3 s3 ⟨x3, H3, I3, r3, c, ec, lc, q3⟩ => ?_
  subst ec
  obtain ⟨tc, rfl⟩ := r3
  refine ⟨c, tc, rfl, line_of (by rw [strLen_append, strLen_append, strLen_append]; omega), line_of (by rw [strLen_append, strLen_append, strLen_append]; omega), ?_⟩
  exact ⟨.str (Str.empty ++ a ++ b ++ c), H3, I3.tok _, ⟨_, rfl⟩, q3⟩
theorem pe_join2 (h1 : PE X e1 t1) (h2 : PE X e2 t2) : PE X (.JoinedStr [e1, e2] pos) (tJoin2 t1 t2) := by
  intro pins s σ H Q I h
  refine wpAny_JoinedStr ?_
  have e0 : (Str.empty).length = 0 := rfl
  refine thn (h1 pins s σ H _ I h) fun u1 s1 ⟨x1, H1, I1, r1, a, ea, la, q1⟩ => ?_
  subst ea
  obtain ⟨ta, rfl⟩ := r1
  refine ⟨a, ta, rfl, line_of (by rw [strLen_append]; omega), ?_⟩
  refine thn (h2 pins s1 σ H1 _ I1 q1) fun u2 s2 ⟨x2, H2, I2, r2, b, eb, lb, q2⟩ => ?_
  subst eb
  obtain ⟨tb, rfl⟩ := r2
  refine ⟨b, tb, rfl, line_of (by rw [strLen_append, strLen_append]; omega), line_of (by rw [strLen_append, strLen_append]; omega), ?_⟩
  exact ⟨.str (Str.empty ++ a ++ b), H2, I2.tok _, ⟨_, rfl⟩, q2⟩
end
end L2
namespace L2
open PySem PySem.Spec PyProof.Rows
def ExcO (a : Addr) (cls : Value) : HO := .ext fun h => ∃ ob, h.get? a = some ob ∧ ob.cls = cls
section
variable {X : Cx} {pins : List (Addr × Obj)} {σ : St} {H H' : Hp} {s s' : Shared} {a : Addr}
theorem Inv.track {o : HO} (I : Inv X pins σ H s) (hn : H a = none) (h0 : ∀ ob, X.s₀.heap.get? a ≠ some ob) (hL : a ≠ X.env.locals) (hc : ∀ x c, X.env.cells.lookup x = some c → c ≠ a) (hp : ∀ p ∈ X.pn ++ pins, p.1 ≠ a) (ok : ObjOk X.prog X.w (upd H a o) s.heap a o) : Inv X pins σ (upd H a o) s := by
  have k : ∀ b u, H b = some u → upd H a o b = some u := fun b u e => by rw [upd_ne (ne_of_none e hn)]; exact e
  refine ⟨I.ok, I.os, I.bare, ⟨I.base.keep, I.base.slot, fun b ob e n hx => ?_, I.base.there, fun b xs e => k _ _ (I.base.tups b xs e), fun b ob u e => k _ _ (I.base.frzs b ob u e), fun b ps e => ?_⟩, I.loc, I.cell, ?_, fun x c e => ?_, fun p hp' => ?_, fun b u e => ?_, I.len⟩
  · rw [upd_ne (fun z => by rw [z] at e; exact h0 ob e)]; exact I.base.free b ob e n hx
  · obtain ⟨more, e1⟩ := I.base.tbls b ps e
    exact ⟨more, k _ _ e1⟩
  · rw [upd_ne (Ne.symm hL)]; exact I.free
  · rw [upd_ne (hc x c e)]; exact I.freeC x c e
  · obtain ⟨q1, q2, q3⟩ := I.pin p hp'
    exact ⟨q1, by rw [upd_ne (hp p hp')]; exact q2, q3⟩
  · by_cases z : b = a
    · subst z
      rw [upd_same] at e
      cases e
      exact ok
    · rw [upd_ne z] at e
      exact (I.hok b u e).stay (fun _ _ _ r => r) (fun c r => k _ _ r) fun c xs r => k _ _ r
theorem gone_ok {M : Model} {A : Around} {E : Value → Shared → Prop} {i : Nat} {n : Str} {pos : Pos} {Q : Unit → Shared → Prop} (I : Inv X pins σ H s) (hN : X.N.Nodup) (hi : X.N[i]? = some n) (hk : X.env.scope.names.lookup n = some .local)
    (h : ∀ s', Inv X pins (σ.set i none) H s' → Q () s') : wpAny M A (do bindName X.env n .none; unbindBehindTheSuite X.env n pos) Q E s := by
  obtain ⟨m, hn, hl⟩ := id I.loc
  have hcls : (X.env.scope.kind == .class || (X.env.scope.kind == .module && X.env.locals != X.env.globals)) = false := by rw [I.ok.kind]; rfl
  have hiσ : i < σ.length := by rw [I.len]; exact (List.getElem?_eq_some_iff.mp hi).1
  have cne := I.cne
  refine wpAny_nameGoes_keeps hk hn hcls fun h' v hn' hs => ?_
  obtain ⟨oL, _, _, hoL, _⟩ := id hn
  have tracked : HOk X.prog X.w H h' := fun b ob e => by
    refine (I.hok b ob e).stay (fun c w' hc q => (hs.2 c ?_).trans q) (fun _ q => q) fun _ _ q => q
    rintro rfl
    rcases hc with rfl | hc
    · rw [I.free] at e; cases e
    · rw [I.free] at hc; cases hc
  have neL : ∀ b o, X.s₀.heap.get? b = some o → b ≠ X.env.locals := fun b o e => Nat.ne_of_lt (Nat.lt_of_lt_of_le (Heap.lt_size e) I.ok.above)
  refine h _ ⟨I.ok, I.os, I.bare, ⟨fun b o e n hb hx => (hs.2 b (neL b o e)).trans (I.base.keep b o e n hb hx), fun b o e n hb hx => ?_, I.base.free, fun b o e hx => ?_, I.base.tups, I.base.frzs, I.base.tbls⟩, ⟨_, hn', fun j y v' e1 e2 e3 => ?_⟩, fun y c e => ?_, I.free, I.freeC, fun p hp => ?_, tracked, by simpa using I.len⟩
  · obtain ⟨sl, e1⟩ := I.base.slot b o e n hb hx
    exact ⟨sl, (hs.2 b (neL b o e)).trans e1⟩
  · obtain ⟨o', e1⟩ := I.base.there b o e hx
    exact ⟨o', (hs.2 b (neL b o e)).trans e1⟩
  · by_cases hj : j = i
    · subst hj
      rw [List.getElem?_set_self hiσ] at e2
      cases e2
    · rw [List.getElem?_set_ne (Ne.symm hj)] at e2
      obtain ⟨u', r', q⟩ := hl j y v' e1 e2 e3
      refine ⟨u', r', ?_⟩
      rcases q with ⟨k, e⟩ | ⟨k, c, e, z⟩
      · refine .inl ⟨k, ?_⟩
        have : y ≠ n := fun e => hj (nodup_ix hN e1 (e ▸ hi))
        simp [this, e]
      · exact .inr ⟨k, c, e, z.sameBut hs (cne y c e)⟩
  · obtain ⟨w', z⟩ := I.cell y c e
    exact ⟨w', z.sameBut hs (cne y c e)⟩
  · obtain ⟨e, n, ne, nf, d⟩ := I.pin p hp
    exact ⟨(hs.2 p.1 ne).trans e, n, ne, nf, d⟩
end
def Ends.gone (D : Ends) (i : Nat) : Ends := { nx := fun σ H => D.nx (σ.set i none) H, ct := fun σ H => D.ct (σ.set i none) H, bk := fun σ H => D.bk (σ.set i none) H, rt := D.rt }
def sTryAs (C : Addr) (i : Nat) (tb : (St → XK) → TS) (ts : TS) : TS := fun D σ H => ∃ EE : St → XK, tb EE D σ H ∧ ∀ σ' cls H', EE σ' cls none H' → cls = .ref C ∧ ∀ a, H' a = none → ts (D.gone i) (σ'.set i (some (.ref a))) (upd H' a (ExcO a (.ref C)))
section
variable {X : Cx}
theorem ps_tryAs {x n : Str} {i : Nat} {C : Addr} {body suite : List Stmt} {b₀ : Stmt} {tb : (St → XK) → TS} {ts : TS} {np hpos pos : Pos} (hm : X.mg x = some (.ref C)) (hq : PySem.W.ktsIn X.K C "BaseException" = true) (hstk : X.stack = X.env :: X.outer) (hN : X.N.Nodup) (hi : X.N[i]? = some n) (hk : X.env.scope.names.lookup n = some .local)
    (hb : ∀ pins EE, PSs (X.tryx pins EE) body (tb EE)) (hs : ∀ a, PSs (X.mrk a) (b₀ :: suite) ts) (hg : Gl X x := by rfl) (hfr : X.env.frame = some X.env.locals := by rfl) (hd : (x == ("__debug__" : Str)) = false := by decide) (hex : X.ex = [] := by rfl) :
    PS X (.Try body [.ExceptHandler (some (.Name x np)) (some n) (b₀ :: suite) hpos] [] [] pos) (sTryAs C i tb ts) := by
  intro pins s σ H D I h
  obtain ⟨EE, h1, h2⟩ := h
  refine wpAny_Try_except (wpAny_mono (hb pins EE [] s σ H D (I.toTry EE) h1) (fun fl s1 q => ?_) fun e s1 q => ?_)
  · have q' := SP.ofTry q
    cases fl with
    | next => exact wpAny_execs_nil q'
    | brk => exact q'
    | cont => exact q'
    | ret u => exact q'
  · obtain ⟨p2, σ1, H1, s0, I1, a, cls, H', rfl, F, q⟩ := q
    obtain ⟨rfl, hts⟩ := h2 _ _ _ q
    obtain ⟨B, t, hfl, cov⟩ := F.fly
    have hfr1 : s1.heap.FunFrames B (X.pnd pins).stack := hfl.2.2.1
    obtain ⟨oe, vs, hoe, hoc, hod, _⟩ := hfl.first
    have new : ∀ b, (∃ o, s0.heap.get? b = some o) → b ≠ a := fun b hb z => by
      subst z
      by_cases hf : b ∈ frs X.stack
      · exact frs_data hfr1 b hf _ hoe _ hod
      · have := cov b oe hoe (.inr hb) hf
        rw [hfl.2.1] at this; cases this
    have hHa : H' a = none := by
      cases hz : H' a with
      | none => rfl
      | some u =>
        by_cases hf : a ∈ frs X.stack
        · exact absurd hod (frs_data hfr1 a hf _ hoe _)
        · have := cov a oe hoe (.inl (by rw [hz]; intro z; cases z)) hf
          rw [hfl.2.1] at this; cases this
    rw [hstk] at hfl
    refine wpAny_looks_onW (by rw [← hstk]; exact I.ok.frames) hfr hfl fun h4 hheld up4 => ?_
    refine wpAny_landsW hheld fun h5 hfl5 up5' => ?_
    have up5 := up4.trans up5'
    have J5 := I1.flown F.os F.bare F.un F.hok hfr1 cov hfl5.1 up5
    have K5 : Inv X pins σ1 H' { s1 with heap := h5 } := J5.ofPnd
    obtain ⟨nm, q', N', bs, bm, hdct, sn, sub, ab, col, dd, k0, k1, k2, k3, k5, newId, hC, hbase, hbT⟩ := PySem.W.kts_cls K5.kIn hq
    obtain ⟨ob, hob, hobc⟩ := hfl5.there
    have hmk : (X.A.mark (some (.ref a))).frames = X.A.frames := rfl
    refine wpAny_handleBy_cons (codeAny_handlers_test (ld_glob (X := X.mrk a) (K5.toMrk a hmk) hg hm ?_ hd)) (by intro q; cases q)
    refine wpAny_excMatches_sub_self hC hob hobc hbase (codeAny_handlers_suite_as ?_)
    refine lands_againW hfl5 fun h6 hfl6 up6 => ?_
    have J6 := I1.flown F.os F.bare F.un F.hok hfr1 cov hfl6.1 (up5.trans up6)
    have K6 : Inv X pins σ1 H' { s1 with heap := h6 } := J6.ofPnd
    obtain ⟨ob6, hob6, hobc6⟩ := hfl6.there
    have T6 : Inv X pins σ1 (upd H' a (ExcO a (.ref C))) { s1 with heap := h6 } := by
      refine K6.track hHa (fun o e => ?_) (fun z => ?_) (fun y c e => ?_) (fun p hp => ?_) ⟨⟨ob6, hob6, hobc6⟩, ⟨ob6, hob6⟩, fun g1 g2 ⟨o, e1, e2⟩ k => ⟨o, k _ e1, e2⟩⟩
      · obtain ⟨o1, e1⟩ := I1.base.there a o e (by show a ∉ X.ex; rw [hex]; simp)
        exact new a ⟨o1, e1⟩ rfl
      · obtain ⟨m, ⟨o, _, _, e, _⟩, _⟩ := I1.loc
        exact new _ ⟨o, e⟩ z.symm
      · obtain ⟨v, o, e1, _⟩ := I1.cell y c e
        exact new c ⟨o, e1⟩
      · exact new _ ⟨p.2, (I1.pin p (List.mem_append_left _ hp)).1⟩
    refine store_ok (X := X.mrk a) (T6.toMrk a hmk) hN hi (.inl hk) (v := .ref a) (u := .ref a) rfl (fun s7 K7 => ?_) (.inr hk)
    refine wpAny_mono (hs a pins _ _ _ (D.gone i) K7 (hts a hHa)) (fun fl s2 q => ?_) fun _ _ z => z.elim
    have q' := SP.ofMrk K6.ok q
    cases fl with
    | next => obtain ⟨σ', H2, I2, q2⟩ := q'; exact gone_ok I2 hN hi hk fun s3 I3 => ⟨_, H2, I3, q2⟩
    | brk => obtain ⟨σ', H2, I2, q2⟩ := q'; exact gone_ok I2 hN hi hk fun s3 I3 => ⟨_, H2, I3, q2⟩
    | cont => obtain ⟨σ', H2, I2, q2⟩ := q'; exact gone_ok I2 hN hi hk fun s3 I3 => ⟨_, H2, I3, q2⟩
    | ret u => obtain ⟨v, σ', H2, I2, r2, q2⟩ := q'; exact gone_ok I2 hN hi hk fun s3 I3 => ⟨v, _, H2, I3, r2, q2⟩
end
end L2
namespace TM
variable {α : Type}
mutual
def sz : Tree α → Nat
  | .node _ _ bs => 1 + szs bs
def szs : List (Tree α) → Nat
  | [] => 0
  | t :: r => sz t + szs r
end
mutual
def lv : Tree α → Nat
  | .node _ _ bs => 1 + lvs bs
def lvs : List (Tree α) → Nat
  | [] => 0
  | t :: r => max (lv t) (lvs r)
end
mutual
def pl : Tree α → List (List Int)
  | .node _ _ bs => [] :: pls 0 bs
def pls : Nat → List (Tree α) → List (List Int)
  | _, [] => []
  | i, t :: r => (pl t).map (List.cons (i : Int)) ++ pls (i + 1) r
end
theorem sz_bs (t : Tree α) : sz t = 1 + szs t.bs := by cases t; simp [sz, Tree.bs]
theorem lv_bs (t : Tree α) : lv t = 1 + lvs t.bs := by cases t; simp [lv, Tree.bs]
theorem szs_map : ∀ ts : List (Tree α), ((ts.map fun t => (sz t : Int)).sum) = (szs ts : Int)
  | [] => by simp [szs]
  | t :: r => by rw [List.map_cons, List.sum_cons, szs_map r]; simp [szs]
theorem sz_le {ts : List (Tree α)} {t : Tree α} (h : t ∈ ts) : sz t ≤ szs ts := by
  induction ts with
  | nil => cases h
  | cons u r ih =>
    simp only [szs]
    rcases List.mem_cons.mp h with rfl | h
    · omega
    · have := ih h; omega
theorem lv_le {ts : List (Tree α)} {t : Tree α} (h : t ∈ ts) : lv t ≤ lvs ts := by
  induction ts with
  | nil => cases h
  | cons u r ih =>
    simp only [lvs]
    rcases List.mem_cons.mp h with rfl | h
    · omega
    · have := ih h; omega
open HT (lexLt)
variable {R : Rows α} {K : Nat → List Int} {B : Nat → Tree α} {o0 : Tree α}
end TM
namespace L2
open PySem PySem.Spec PyProof.Rows
def compX (X : Cx) (N' : List Str) (scope : Scope) (cl : List (Str × Addr)) (C : Addr) (fp : List Addr) (s₀ : Shared) (H₀ : Hp) : Cx :=
  { X with N := N', s₀ := s₀, H₀ := H₀, env := compEnvC scope cl C X.env, outer := X.stack, ex := fp, fn := fun _ => false, pn := [], xe := fun _ _ => False }
def PF (X : Cx) (ifs : List Expr) (t : TT) : Prop :=
  ∀ (pins : List (Addr × Obj)) (s : Shared) (σ : St) (H : Hp) (Q : Bool → Hp → Prop), Inv X pins σ H s → t σ H Q →
    wpAny (model X.prog X.w) X.A (forIn ifs true fun c r => if r = true then do let ok ← isTrue c X.env (eval c X.env); pure (ForInStep.yield ok) else pure (ForInStep.yield r)) (TP X pins σ Q) X.xe s
theorem pf_nil {X : Cx} : PF X [] (fun _ H Q => Q true H) := by
  intro pins s σ H Q I h
  rw [List.forIn_nil]
  exact wpAny_pure ⟨H, I, h⟩
def tComp (wi : TI) (cap : List Nat) (tt : TT) (te : TE) : TE := fun σ H Q => wi σ H fun J H1 => ∀ acc, H1 acc = none → ∃ W : Nat → Nat → Hp → Prop, (∃ m, W 0 m (upd H1 acc (.lst []))) ∧ ∀ i m H2, W i m H2 →
  (J.stop i H2 ∧ Q (.ref acc) H2) ∨ (J.go i H2 ∧ ∀ x H3, J.yld i H2 x H3 → tt (some x :: cap.map fun j => (σ[j]?).getD none) H3 fun ok H4 => if ok = true then
    te (some x :: cap.map fun j => (σ[j]?).getD none) H4 (fun y H5 => ∃ ys, H5 acc = some (.lst ys) ∧ ys.length < sizeLine ∧ ∃ m', m' < m ∧ W (i + 1) m' (upd H5 acc (.lst (ys ++ [y]))))
    else ∃ m', m' < m ∧ W (i + 1) m' H4)
structure CompOk (X : Cx) (x : Str) (caps : List Str) (cap : List Nat) (scope : Scope) (cl : List (Str × Addr)) : Prop where
  clos : closureFor scope X.env = pure cl
  cell : ∀ y ∈ scope.names, y.2 ≠ .cell
  kind : scope.kind = .function
  names : ∀ y ∈ scope.names, y.2 = .local → scope.names.lookup y.1 = some .local
  lx : scope.names.lookup x = some .local
  nd : (x :: caps).Nodup
  from_ : ∀ y c, cl.lookup y = some c → X.env.cells.lookup y = some c
  has : ∀ y, ((relabel scope X.env).names.lookup y = some .cell ∨ (relabel scope X.env).names.lookup y = some .free) → ∃ c, cl.lookup y = some c
  len : cap.length = caps.length
  cps : ∀ (i : Nat) (y : Str), caps[i]? = some y → ∃ j, cap[i]? = some j ∧ X.N[j]? = some y ∧ X.env.scope.names.lookup y = some .cell ∧ (relabel scope X.env).names.lookup y = some .cell
structure OwnAt (X : Cx) (pins : List (Addr × Obj)) (H : Hp) (s : Shared) (C : Addr) : Prop where
  ns : ∃ m, s.heap.Ns C m
  free : H C = none
  loc : C ≠ X.env.locals
  above : X.s₀.heap.objs.size ≤ C
  cells : ∀ x c, X.env.cells.lookup x = some c → c ≠ C
  pins : ∀ p ∈ X.pn ++ pins, p.1 ≠ C
theorem comp_core {X : Cx} {elt iter : Expr} {x : Str} {px : Pos} {ifs : List Expr} {scope : Scope} {pos pos' : Pos} {wi : TI} {tt : TT} {te : TE} {cl : List (Str × Addr)} {caps : List Str} {cap : List Nat}
    (O : CompOk X x caps cap scope cl) (hc : X.calm = true) (hi : PI X (.Name x px) iter wi)
    (ht : ∀ C fp s₀ H₀, PF (compX X (x :: caps) scope cl C fp s₀ H₀) ifs tt) (he : ∀ C fp s₀ H₀, PE (compX X (x :: caps) scope cl C fp s₀ H₀) elt te)
    (hs : ∀ x, foldedSetIterable iter X.env x = pure x) {pins : List (Addr × Obj)} {s : Shared} {σ : St} {H : Hp} {Q : VK} {use : Option (Value → Sem Unit)} {QQ : Value → Shared → Prop} (I : Inv X pins σ H s)
    (h : tComp wi cap tt te σ H Q)
    (hfin : ∀ D C H' s', Inv X pins σ H' s' → OwnAt X pins H' s' C → Q (.ref D) H' → compPost (model X.prog X.w) X.A X.xe use QQ (.ref D) C (.ok .next) s') :
    wpAny (model X.prog X.w) X.A (comprehension (.ListComp elt [⟨.Name x px, iter, ifs, 0⟩] scope pos) scope X.env pos' (newList []) false (eval iter X.env) use) QQ X.xe s := by
  refine wpAny_comprehension_free rfl hs O.clos O.kind O.names (thn (hi pins s σ H _ I h) fun v s1 h1 => thn h1 fun itv s2 h2 => ?_)
  obtain ⟨it, fp, tn, J, H1, e, I2, T, t0, f2, hR⟩ := h2
  subst e
  refine wpAny_newObj_type (wpAny_newFunctionEnv O.cell (by intro y hy; simp at hy) (fun h₁ hns hsb => ?_) O.kind)
  have hacc : H1 s2.heap.objs.size = none := I2.fresh
  obtain ⟨W, ⟨m0, w0⟩, turn⟩ := hR s2.heap.objs.size hacc
  have I3 : Inv X pins σ (upd H1 s2.heap.objs.size (.lst [])) { s2 with heap := s2.heap.push { cls := .type "list", data := .seq ([] : List Value).toArray } } := I2.lnew (t' := s2.toks) (ys := []) (its := []) .nil (Nat.zero_le _)
  generalize hs3 : ({ s2 with heap := s2.heap.push { cls := .type "list", data := .seq ([] : List Value).toArray } } : Shared) = s3 at hns hsb I3 ⊢
  generalize hD : s2.heap.objs.size = D at I3 w0 turn hacc ⊢
  generalize hH3 : upd H1 D (.lst []) = H3 at I3 w0
  have keep3 : ∀ b o, s3.heap.get? b = some o → h₁.get? b = some o := fun b o e => (hsb.2 b (Nat.ne_of_lt (Heap.lt_size e))).trans (Heap.get?_push_of_some _ e)
  have hfp3 : ∀ b ∈ fp, H3 b = none := fun b hb => by
    rw [← hH3, upd_ne]
    · exact (f2 b hb).1
    · intro z
      obtain ⟨o, e, _⟩ := T.obj _ _ t0 b hb
      exact absurd (Heap.lt_size e) (by rw [z, hD]; exact Nat.lt_irrefl _)
  have hCfresh : H3 s3.heap.objs.size = none := I3.fresh
  have hCfp : ∀ b ∈ fp, b ≠ s3.heap.objs.size := fun b hb z => by
    obtain ⟨o, e, _⟩ := T.obj _ _ t0 b hb
    have h2 : s3.heap.objs.size = s2.heap.objs.size + 1 := by rw [← hs3]; exact Heap.size_push ..
    exact absurd (Heap.lt_size e) (by rw [z, h2]; exact Nat.not_lt.mpr (Nat.le_succ _))
  have t3 : tn 0 h₁ := T.keep _ _ _ t0 fun b hb o e => keep3 b o (by rw [← hs3]; exact Heap.get?_push_of_some _ e)
  have ok' : (compX X (x :: caps) scope cl s3.heap.objs.size fp s3 H3).Ok := by
    refine ⟨I3.ok.mod, O.kind, I3.ok.glob, I3.ok.blt, Nat.le_refl _, fun y z c e1 e2 => I3.ok.inj y z c (O.from_ y c e1) (O.from_ z c e2), fun y hy => O.has y hy, fun y c z _ => (nomatch z), I3.ok.hd, I3.ok.frames, .inl rfl, fun b hb => ⟨hCfp b hb, fun y c e => ?_⟩, I3.bs, Nat.le_trans I3.ok.bsz I3.sz, fun b o e hb => ?_, fun b hb z => ?_, I3.stack, I3.stkFree⟩
    · exact (f2 b hb).2.2.2.2.1 y c (O.from_ y c e)
    · rcases (f2 b hb).2.2.2.1 with q | q
      · exact I3.ok.noex b o e q
      · exact absurd (Nat.lt_of_lt_of_le (Heap.lt_size e) (Nat.le_trans I3.ok.bsz q)) (Nat.lt_irrefl _)
    · rcases List.mem_cons.mp (I3.stkSub b z) with q | q
      · exact (f2 b hb).2.1 q
      · exact (f2 b hb).2.2.1 q
  have I4 : Inv (compX X (x :: caps) scope cl s3.heap.objs.size fp s3 H3) [] (none :: cap.map fun j => (σ[j]?).getD none) H3 { s3 with heap := h₁, toks := s3.toks + ([] : List (Str × Value)).length } := by
    obtain ⟨m, hn, hl⟩ := id I3.loc
    refine ⟨ok', rfl, I3.bare, Un.kept keep3, ⟨_, hns, fun i y v e1 e2 e3 => ?_⟩, fun y c e => ?_, hCfresh, fun y c e => I3.freeC y c (O.from_ y c e), fun p hp => (nomatch hp), I3.hok.kept keep3, ?_⟩
    · cases i with
      | zero => simp at e2
      | succ i =>
        have e1' : caps[i]? = some y := by
          have e1'' : (x :: caps)[i + 1]? = some y := e1
          simpa using e1''
        obtain ⟨j, hj, hN, hk, hk'⟩ := O.cps i y e1'
        have e2' : (σ[j]?).getD none = some v := by simpa [hj] using e2
        have e2'' : σ[j]? = some (some v) := by
          cases q : σ[j]? with
          | none => rw [q] at e2'; cases e2'
          | some a => rw [q] at e2'; exact congrArg some e2'
        obtain ⟨u, r, l⟩ := hl j y v hN e2'' (.inr (.inl hk))
        refine ⟨u, r, ?_⟩
        rcases l with ⟨k, _⟩ | ⟨k, c, e, z⟩
        · have k' : X.env.scope.names.lookup y = some .local := k
          rw [hk] at k'; cases k'
        · obtain ⟨c', hc'⟩ := O.has y (.inl hk')
          have : c' = c := Option.some.inj ((O.from_ y c' hc').symm.trans e)
          subst this
          refine .inr ⟨.inl hk', c', hc', ?_⟩
          obtain ⟨o, ho, hd⟩ := z
          exact ⟨o, keep3 _ _ ho, hd⟩
    · obtain ⟨v, o, ho, hd⟩ := I3.cell y c (O.from_ y c e)
      exact ⟨v, o, keep3 _ _ ho, hd⟩
    · show (none :: cap.map _).length = (x :: caps).length
      simp [O.len]
  have fin : ∀ (H' : Hp) (σ' : St) (s' : Shared), Inv (compX X (x :: caps) scope cl s3.heap.objs.size fp s3 H3) [] σ' H' s' → Q (.ref D) H' →
      compPost (model X.prog X.w) X.A X.xe use QQ (.ref D) s3.heap.objs.size (.ok .next) s' := fun H' σ' s' I' q => by
    obtain ⟨m, hn, _⟩ := id I'.loc
    have hU : Un (frs X.stack) fp H3 H' s3.heap s'.heap := I'.base
    have hok2 : HOk X.prog X.w H' s'.heap := I'.hok
    have os' : s'.os = s3.os := I'.os
    have I6 : Inv X pins σ H' s' := I3.call' (ch := fp) os' hU hok2 I'.bare (fun b hb => ⟨(f2 b hb).2.2.2.1, (f2 b hb).2.1, (f2 b hb).2.2.2.2⟩)
    refine hfin D _ H' s' I6 ⟨⟨m, hn⟩, I'.free, Nat.ne_of_gt I3.lt, I3.sz, fun y c e z => ?_, fun p hp z => ?_⟩ q
    · obtain ⟨v, hv⟩ := I3.cell y c e
      exact absurd hv.lt (by rw [z]; exact Nat.lt_irrefl _)
    · exact absurd (Heap.lt_size (I3.pin p hp).1) (by rw [z]; exact Nat.lt_irrefl _)
  have stat : ∀ {H' : Hp}, (∀ b ∈ fp, H' b = none) → ∀ b ∈ fp, FpOk (compX X (x :: caps) scope cl s3.heap.objs.size fp s3 H3) [] H' b := fun hn b hb =>
    ⟨hn b hb, hCfp b hb, ok'.exfs b hb, .inl hb, fun y c e => (f2 b hb).2.2.2.2.1 y c (O.from_ y c e), fun p hp => (nomatch hp)⟩
  have loop : codeAny (model X.prog X.w) X.A (.compLoop (.ListComp elt [⟨.Name x px, iter, ifs, 0⟩] scope pos) 0 (.ref it) (.ref D) (compEnvC scope cl s3.heap.objs.size X.env))
      (compPost (model X.prog X.w) X.A X.xe use QQ (.ref D) s3.heap.objs.size) { s3 with heap := h₁, toks := s3.toks + ([] : List (Str × Value)).length } := by
    refine codeAny_loop rfl (fun n s' => ∃ i a H', Inv (compX X (x :: caps) scope cl s3.heap.objs.size fp s3 H3) [] (a :: cap.map fun j => (σ[j]?).getD none) H' s' ∧ tn i s'.heap ∧ (∀ b ∈ fp, H' b = none) ∧ W i n H') ?_ m0 ⟨0, none, H3, I4, t3, hfp3, w0⟩
    rintro n s5 ⟨i, a, H5, I5, st5, fr5, w5⟩
    show wpAny _ _ ((compTurn (.ListComp elt [⟨.Name x px, iter, ifs, 0⟩] scope pos) 0 (.ref it) (.ref D) (compEnvC scope cl s3.heap.objs.size X.env)).onRaise (fun x => do noteFrame x (compEnvC scope cl s3.heap.objs.size X.env); theTreesLotGoes x)) _ _ s5
    refine wpAny_noted ?_
    rw [compTurn_list]
    refine wpAny_bind (wpAny_standAt (wpAny_bind ?_))
    have bad : ∀ {M : Model} {A : Around} {α : Type} {t : Sem α} {P : α → Shared → Prop} {E' : Value → Shared → Prop} {s' : Shared}, wpAny M A t P (fun _ _ => False) s' → wpAny M A t P E' s' := fun h => wpAny_mono h (fun _ _ q => q) fun _ _ z => z.elim
    rcases turn i n H5 w5 with ⟨stop, qn⟩ | ⟨go, step⟩
    · refine bad (thn (T.done (compX X (x :: caps) scope cl s3.heap.objs.size fp s3 H3) rfl rfl rfl hc i [] s5 _ H5 (fun _ _ => False) I5 (stat fr5) st5 stop) fun r s6 ⟨hr, I6⟩ => ?_)
      subst hr
      exact wpAny_pure (fin H5 _ s6 I6 qn)
    · refine bad (thn (T.item (compX X (x :: caps) scope cl s3.heap.objs.size fp s3 H3) rfl rfl rfl hc i [] s5 _ H5 (fun _ _ => False) I5 (stat fr5) st5 go) fun r s6 ⟨u, hr, h6⟩ => ?_)
      subst hr
      refine wpAny_bind (bad (thn h6 fun _ s7 ⟨y, H7, I7, r7, y7, st7, fr7⟩ => ?_))
      have I7' := I7.pinned (stat fr7) (T.obj _ _ st7)
      have goal := step y H7 y7
      have hxl : Loc (compX X (x :: caps) scope cl s3.heap.objs.size fp s3 H3).env.scope x := .inl (lookup_relabel_local O.lx)
      refine wpAny_bind (wpAny_assign_Name (store_ok (i := 0) I7' O.nd rfl hxl r7 (fun s8 I8 => ?_) (.inr (lookup_relabel_local O.lx))))
      have I8' : Inv (compX X (x :: caps) scope cl s3.heap.objs.size fp s3 H3) ([] ++ pinsAt fp s7.heap) (some y :: cap.map fun j => (σ[j]?).getD none) H7 s8 := I8
      refine wpAny_bind (bad (thn (ht s3.heap.objs.size fp s3 H3 _ s8 _ H7 _ I8' goal) fun okb s9 ⟨H9, I9, q9⟩ => ?_))
      have again : ∀ {H10 : Hp} {s10 : Shared} {m' : Nat}, Inv (compX X (x :: caps) scope cl s3.heap.objs.size fp s3 H3) ([] ++ pinsAt fp s7.heap) (some y :: cap.map fun j => (σ[j]?).getD none) H10 s10 → m' < n → W (i + 1) m' H10 →
          ∃ m, m < n ∧ ∃ i a H', Inv (compX X (x :: caps) scope cl s3.heap.objs.size fp s3 H3) [] (a :: cap.map fun j => (σ[j]?).getD none) H' s10 ∧ tn i s10.heap ∧ (∀ b ∈ fp, H' b = none) ∧ W i m H' := fun {H10 s10 m'} I10 hm w10 => by
        refine ⟨m', hm, i + 1, some y, H10, I10.unpinned, T.keep _ _ _ st7 fun b hb o e => (I10.pin (b, o) (List.mem_append_right _ (List.mem_append_right _ (mem_pinsAt hb e)))).1, fun b hb => ?_, w10⟩
        obtain ⟨o, e, d⟩ := T.obj _ _ st7 b hb
        exact (I10.pin (b, o) (List.mem_append_right _ (List.mem_append_right _ (mem_pinsAt hb e)))).2.1
      cases okb with
      | false =>
        rw [if_neg Bool.false_ne_true] at q9
        obtain ⟨m', hm, w9⟩ := q9
        exact wpAny_pure ⟨rfl, again I9 hm w9⟩
      | true =>
        rw [if_pos rfl] at q9
        refine wpAny_bind (wpAny_bind (bad (thn (he s3.heap.objs.size fp s3 H3 _ s9 _ H9 _ I9 q9) fun yv s10 ⟨yy, H10, I10, r10, ys, hys, hlen, m', hm, w10⟩ => ?_)))
        refine wpAny_bind (bad (thn (mt_append (X := compX X (x :: caps) scope cl s3.heap.objs.size fp s3 H3) _ s10 _ H10 (.ref D) [yy] (.ref D) [yv] (fun _ H11 => W (i + 1) m' H11) I10 rfl (.cons r10 .nil) ⟨D, ys, yy, rfl, rfl, hys, hlen, w10⟩) fun _ s11 ⟨_, H11, I11, _, q11⟩ => ?_))
        exact wpAny_pure (wpAny_pure ⟨rfl, again I11 hm q11⟩)
  refine codeAny_compStart_list loop (T.self _ 0 _ _ _ t3 loop)
theorem OwnAt.go {X : Cx} {pins : List (Addr × Obj)} {σ : St} {H : Hp} {s : Shared} {C : Addr} {h' : Heap} (I : Inv X pins σ H s) (o : OwnAt X pins H s C) (hb : Heap.SameBut C s.heap h') : Inv X pins σ H { s with heap := h' } :=
  I.turned (t' := s.toks) (fun b u hb' e => (hb.2 b hb').trans e) o.free o.loc (.inr o.above) o.cells o.pins
theorem pe_lcomp {X : Cx} {elt iter : Expr} {x : Str} {px : Pos} {ifs : List Expr} {scope : Scope} {pos : Pos} {wi : TI} {tt : TT} {te : TE} {cl : List (Str × Addr)} {caps : List Str} {cap : List Nat}
    (O : CompOk X x caps cap scope cl) (hc : X.calm = true) (hi : PI X (.Name x px) iter wi)
    (ht : ∀ C fp s₀ H₀, PF (compX X (x :: caps) scope cl C fp s₀ H₀) ifs tt) (he : ∀ C fp s₀ H₀, PE (compX X (x :: caps) scope cl C fp s₀ H₀) elt te)
    (hs : ∀ x, foldedSetIterable iter X.env x = pure x := by intro _; rfl) :
    PE X (.ListComp elt [⟨.Name x px, iter, ifs, 0⟩] scope pos) (tComp wi cap tt te) := by
  intro pins s σ H Q I h
  rw [eval_ListComp]
  exact comp_core (use := none) O hc hi ht he hs I h fun D C H' s' I' o q => by
    obtain ⟨m, hn⟩ := o.ns
    exact ⟨m, hn, fun h' hb => ⟨.ref D, H', o.go I' hb, rfl, q⟩⟩
def compW (n : Nat) (Pv : Nat → List V → Hp → Prop) : Nat → Nat → Hp → Prop := fun i m H => m = n - i ∧ i ≤ n ∧ ∃ ys, Pv i ys H
def compN (n : Nat) (Pv : Nat → List V → Hp → Prop) (acc : Addr) (i m : Nat) : VK := fun y H5 => ∃ ys, H5 acc = some (.lst ys) ∧ ys.length < sizeLine ∧ ∃ m', m' < m ∧ compW n Pv (i + 1) m' (upd H5 acc (.lst (ys ++ [y])))
theorem comp_next {n : Nat} {Pv : Nat → List V → Hp → Prop} {acc : Addr} {i : Nat} {y : V} {H5 : Hp} {ys : List V} (hi : i < n) (hacc : H5 acc = some (.lst ys)) (hl : ys.length < 5000) (hP : Pv (i + 1) (ys ++ [y]) (upd H5 acc (.lst (ys ++ [y])))) : compN n Pv acc i (n - i) y H5 :=
  ⟨ys, hacc, Nat.lt_trans hl (by decide), n - (i + 1), by omega, rfl, hi, _, hP⟩
end L2
namespace L2
open PySem PySem.Spec PyProof.Rows
theorem lookup_mem {k : NameKind} {y : Str} : ∀ {l : List (Str × NameKind)}, l.lookup y = some k → ∃ z ∈ l, z.2 = k
  | [], h => by simp at h
  | (n, j) :: r, h => by
    cases hx : y == n with
    | true =>
      simp only [List.lookup_cons, hx] at h
      exact ⟨(n, j), List.mem_cons_self, by cases h; rfl⟩
    | false =>
      simp only [List.lookup_cons, hx] at h
      obtain ⟨z, h1, h2⟩ := lookup_mem h
      exact ⟨z, List.mem_cons_of_mem _ h1, h2⟩
theorem CompOk.plain {X : Cx} {x : Str} {scope : Scope} (hk : scope.kind = .function) (hn : ∀ z ∈ scope.names, z.2 ≠ .cell ∧ z.2 ≠ .free) (hl : ∀ y ∈ scope.names, y.2 = .local → scope.names.lookup y.1 = some .local) (hx : scope.names.lookup x = some .local) :
    CompOk X x [] [] scope [] := by
  have e : (relabel scope X.env).names = scope.names := map_eq_self fun z hz => by
    obtain ⟨n, k⟩ := z
    have : (k == NameKind.free) = false := by simpa using (hn _ hz).2
    simp [this]
  refine ⟨closureFor_none fun z hz => (hn z hz).2, fun z hz => (hn z hz).1, hk, hl, hx, by simp, fun y c h => (nomatch h), fun y hy => ?_, rfl, fun i y h => by simp at h⟩
  rw [e] at hy
  rcases hy with h | h
  · obtain ⟨z, h1, h2⟩ := lookup_mem h
    exact absurd h2 (hn z h1).1
  · obtain ⟨z, h1, h2⟩ := lookup_mem h
    exact absurd h2 (hn z h1).2
end L2
namespace L2
open PySem PySem.Spec PyProof.Rows
section
variable {X : Cx}
end
end L2
namespace L2
open PySem PySem.Spec PyProof.Rows
theorem vals_items : ∀ {ns : List Int} {us : List Value}, Vals (ns.map V.int) us → ∃ xs : List (Int × Tok), us = xs.map (fun p => Value.int p.1 p.2) ∧ xs.map (·.1) = ns
  | [], _, .nil => ⟨[], rfl, rfl⟩
  | n :: ns, _, .cons r rr => by
    obtain ⟨t, e⟩ := r
    obtain ⟨xs, e1, e2⟩ := vals_items rr
    exact ⟨(n, t) :: xs, by rw [e, e1]; rfl, by rw [List.map_cons, e2]⟩
theorem items_arr (xs : List (Int × Tok)) : intItems xs.toArray = (xs.map (fun p => Value.int p.1 p.2)).toArray := by
  simp [intItems]
theorem num_at (xs : List (Int × Tok)) (j : Nat) : numAt xs.toArray j = (xs.map (·.1)).getD j 0 := by rw [numAt_eq]
theorem pre_sum (xs : List (Int × Tok)) (j : Nat) : preSum (numAt xs.toArray) j = ((xs.map (·.1)).take j).sum := by rw [preSum_eq]
def Fits (ns : List Int) : Prop := (∀ n ∈ ns, 0 ≤ n) ∧ ns.sum ≤ 1000000000
theorem sum_nonneg : ∀ {ns : List Int}, (∀ n ∈ ns, 0 ≤ n) → 0 ≤ ns.sum
  | [], _ => by simp
  | n :: ns, h => by
    have h1 := h n List.mem_cons_self
    have h2 := sum_nonneg (ns := ns) fun m hm => h m (List.mem_cons_of_mem _ hm)
    rw [List.sum_cons]; omega
theorem Fits.le {ns : List Int} (h : Fits ns) (j : Nat) : 0 ≤ (ns.take j).sum ∧ (ns.take j).sum ≤ ns.sum := by
  have h1 := sum_nonneg (ns := ns.take j) fun m hm => h.1 m (List.mem_of_mem_take hm)
  have h2 := sum_nonneg (ns := ns.drop j) fun m hm => h.1 m (List.mem_of_mem_drop hm)
  have h3 : ns.sum = (ns.take j).sum + (ns.drop j).sum := by rw [← List.sum_append, List.take_append_drop]
  omega
section
variable {X : Cx}
theorem call_sum (hc : X.calm = true) : CallR X (.builtin "sum") (fun xs H Q => ∃ l ns, xs = [.ref l] ∧ SqL X.K H l (ns.map V.int) ∧ Fits ns ∧ Q (.int ns.sum) H) := by
  intro pins s σ H xs us Q I r h
  obtain ⟨l, ns, rfl, hl, hf, q⟩ := h
  cases r with
  | cons r rr =>
    cases rr
    obtain rfl : _ = Value.ref l := r
    obtain ⟨its, rv, p, _⟩ := I.list hl
    obtain ⟨ys, rfl, e2⟩ := vals_items rv
    have hL : s.heap.IsList l (intItems ys.toArray) := by rw [items_arr]; exact p.isList
    refine sum_intList (I.ok.hd hc) hL (fun j hj => ?_) fun h' tk t' hk => ⟨.int ns.sum, H, I.kept (t' := tk) hk, ⟨t', ?_⟩, q⟩
    · have hjl : j < ns.length := by rw [← e2]; simpa using hj
      have a := hf.le (j + 1)
      have b := hf.1 _ (List.getElem_mem hjl)
      have c := hf.le j
      have d : (ns.take (j + 1)).sum = (ns.take j).sum + ns[j] := by rw [List.take_add_one, List.getElem?_eq_getElem hjl, List.sum_append]; simp
      have e := hf.2
      rw [num_at, pre_sum, e2]
      have f : ns.getD j 0 = ns[j] := by simp [List.getD, List.getElem?_eq_getElem hjl]
      rw [f]
      exact ⟨⟨by omega, by omega⟩, ⟨by omega, by omega⟩⟩
    · rw [pre_sum, e2, List.take_of_length_le]
      rw [← e2]; simp
end
section
variable {prog : Program} {w : World} {A : Around} {R : Result → Shared → Prop} {I : Addr} {fp wr : List Addr} {n : Nat} {P : Nat → Value → Prop} {St : Nat → Heap → Prop}
end
section
variable {prog : Program} {w : World} {A : Around} {E : Value → Shared → Prop} {s : Shared}
end
end L2
namespace Srt
open PySem PySem.W PyProof.Rows
variable {α β : Type} {O : KeyOrd} {key : Nat → O.α} {n : Nat}
def Ok (O : KeyOrd) (key : Nat → O.α) (n : Nat) (Q : α → Prop) : KasT α → Prop
  | .ret a => Q a
  | .ask i j k => i < n ∧ j < n ∧ Ok O key n Q (k (O.blt (key i) (key j)))
variable (key) in
def kk (p : Array Nat) (i : Nat) : O.α := key (p.getD i 0)
end Srt
namespace L2
open PySem PySem.Spec PyProof.Rows PySem.W
section
variable {prog : Program} {w : World} {A : Around} {E : Value → Shared → Prop} {s : Shared}
end
section
variable {X : Cx}
end
end L2
namespace L2
open PySem PySem.Spec PyProof.Rows PySem.W
section
variable {prog : Program} {w : World} {A : Around} {E : Value → Shared → Prop} {s : Shared}
end
section
variable {prog : Program} {w : World} {A : Around} {E : Value → Shared → Prop} {s : Shared}
end
section
variable {X : Cx}
end
end L2
namespace L2
open PySem PySem.Spec PyProof.Rows
section
variable {prog : Program} {w : World} {A : Around} {E : Value → Shared → Prop} {s : Shared}
end
section
variable {X : Cx}
end
end L2
namespace L2
open PySem PySem.Spec PyProof.Rows PySem.W
section
variable {X : Cx}
end
theorem rd_strs {K : PySem.W.Frag} {H : Hp} : ∀ p : List Str, RdAll K H (p.map V.str) (p.map PyData.str)
  | [] => .nil
  | i :: r => .cons (.str i) (rd_strs r)
theorem lay_strs : ∀ p : List Str, (∀ x ∈ p, PyData.strOk x = true) → PyData.canLayAll0 (p.map PyData.str) = true
  | [], _ => by simp [PyData.canLayAll0]
  | i :: r, h => by simp only [List.map_cons, PyData.canLayAll0, PyData.canLay0, lay_strs r fun x hx => h x (List.mem_cons_of_mem _ hx), h i List.mem_cons_self, Bool.and_self]
section
variable {prog : Program} {w : World} {A : Around} {E : Value → Shared → Prop} {s : Shared}
end
section
variable {X : Cx}
end
end L2
namespace L2
open PySem PySem.Spec PyProof.Rows
section
variable {X : Cx} {pins : List (Addr × Obj)} {σ : St} {H : Hp} {s : Shared} {h' : Heap}
end
section
variable {X : Cx} {elts : List Expr} {k1 : Nat} {tpos : Pos}
end
end L2
namespace L2
open PySem PySem.Spec PyProof.Rows
section
variable {prog : Program} {w : World} {A : Around} {E : Value → Shared → Prop} {s : Shared} {it t : Addr} {i : Nat} {its : Array Value} {x : Value} {Q : Value → Shared → Prop}
end
section
variable {X : Cx} {elts : List Expr} {k1 : Nat} {tpos : Pos}
end
end L2
namespace L2
open PySem PySem.Spec PyProof.Rows
section
variable {X : Cx} {x : Str} {p pos : Pos} {e : Expr} {es : List Expr} {kws : List Keyword} {t tk : TA} {id : String} {ks : List Str} {r : List V → List V → Hp → VK → Prop}
theorem comp_tup {K : PySem.W.Frag} {a acc : Addr} {xs : List V} {tt : TT} {te : TE} {cs : List (Option V)} {H1 : Hp} {Q : Hp → Prop} (Pv : Nat → List V → Hp → Prop) (h0 : Pv 0 [] (upd H1 acc (.lst [])))
    (hl : ∀ i ys H, i ≤ xs.length → Pv i ys H → SqT K H a xs)
    (hs : ∀ i x ys H, i < xs.length → xs[i]? = some x → Pv i ys H → tt (some x :: cs) H fun ok H4 => if ok = true then te (some x :: cs) H4 (compN xs.length Pv acc i (xs.length - i)) else ∃ m', m' < xs.length - i ∧ compW xs.length Pv (i + 1) m' H4)
    (hd : ∀ ys H, Pv xs.length ys H → Q H) :
    ∃ W : Nat → Nat → Hp → Prop, (∃ m, W 0 m (upd H1 acc (.lst []))) ∧ ∀ i m H2, W i m H2 →
      ((Itt K a).stop i H2 ∧ Q H2) ∨ ((Itt K a).go i H2 ∧ ∀ x H3, (Itt K a).yld i H2 x H3 → tt (some x :: cs) H3 fun ok H4 => if ok = true then
        te (some x :: cs) H4 (fun y H5 => ∃ ys, H5 acc = some (.lst ys) ∧ ys.length < sizeLine ∧ ∃ m', m' < m ∧ W (i + 1) m' (upd H5 acc (.lst (ys ++ [y]))))
        else ∃ m', m' < m ∧ W (i + 1) m' H4) := by
  refine ⟨compW xs.length Pv, ⟨xs.length - 0, rfl, Nat.zero_le _, [], h0⟩, ?_⟩
  rintro i m H2 ⟨rfl, hi, ys, p⟩
  have hq := hl i ys H2 hi p
  by_cases h : i < xs.length
  · refine .inr ⟨⟨xs, xs[i], hq, List.getElem?_eq_getElem h⟩, ?_⟩
    rintro x H3 ⟨rfl, hx⟩
    exact hs i x ys _ h (hx xs hq) p
  · have e : i = xs.length := by omega
    subst e
    exact .inl ⟨⟨xs, hq, Nat.le_refl _⟩, hd ys H2 p⟩
end
end L2
namespace L2
open PySem PySem.Spec PyProof.Rows
structure CompG (X : Cx) (xs caps : List Str) (cap : List Nat) (scope : Scope) (cl : List (Str × Addr)) : Prop where
  clos : closureFor scope X.env = pure cl
  cell : ∀ y ∈ scope.names, y.2 ≠ .cell
  kind : scope.kind = .function
  names : ∀ y ∈ scope.names, y.2 = .local → scope.names.lookup y.1 = some .local
  lx : ∀ x ∈ xs, scope.names.lookup x = some .local
  nd : (xs ++ caps).Nodup
  from_ : ∀ y c, cl.lookup y = some c → X.env.cells.lookup y = some c
  has : ∀ y, ((relabel scope X.env).names.lookup y = some .cell ∨ (relabel scope X.env).names.lookup y = some .free) → ∃ c, cl.lookup y = some c
  len : cap.length = caps.length
  cps : ∀ (i : Nat) (y : Str), caps[i]? = some y → ∃ j, cap[i]? = some j ∧ X.N[j]? = some y ∧ X.env.scope.names.lookup y = some .cell ∧ (relabel scope X.env).names.lookup y = some .cell
def capV (cap : List Nat) (σ : St) : St := cap.map fun j => (σ[j]?).getD none
def tCompG (n : Nat) (wi : TI) (cap : List Nat) (g : TG) (tt : TT) (te : TE) : TE := fun σ H Q => wi σ H fun J H1 => ∀ acc, H1 acc = none → ∃ W : Nat → Nat → Hp → Prop, (∃ m, W 0 m (upd H1 acc (.lst []))) ∧ ∀ i m H2, W i m H2 →
  (J.stop i H2 ∧ Q (.ref acc) H2) ∨ (J.go i H2 ∧ ∀ x H3, J.yld i H2 x H3 → ∀ as : St, as.length = n → g x (as ++ capV cap σ) H3 fun σ4 H4 => (∃ bs : St, bs.length = n ∧ σ4 = bs ++ capV cap σ) ∧ tt σ4 H4 fun ok H5 => if ok = true then
    te σ4 H5 (fun y H6 => ∃ ys, H6 acc = some (.lst ys) ∧ ys.length < sizeLine ∧ ∃ m', m' < m ∧ W (i + 1) m' (upd H6 acc (.lst (ys ++ [y]))))
    else ∃ m', m' < m ∧ W (i + 1) m' H5)
theorem compG_core {X : Cx} {elt iter tg : Expr} {xs : List Str} {ifs : List Expr} {scope : Scope} {pos pos' : Pos} {wi : TI} {g : TG} {tt : TT} {te : TE} {cl : List (Str × Addr)} {caps : List Str} {cap : List Nat}
    (O : CompG X xs caps cap scope cl) (hc : X.calm = true) (hi : PI X tg iter wi) (hg : ∀ C fp s₀ H₀, PG (compX X (xs ++ caps) scope cl C fp s₀ H₀) tg g)
    (ht : ∀ C fp s₀ H₀, PF (compX X (xs ++ caps) scope cl C fp s₀ H₀) ifs tt) (he : ∀ C fp s₀ H₀, PE (compX X (xs ++ caps) scope cl C fp s₀ H₀) elt te)
    (hs : ∀ x, foldedSetIterable iter X.env x = pure x) {pins : List (Addr × Obj)} {s : Shared} {σ : St} {H : Hp} {Q : VK} {use : Option (Value → Sem Unit)} {QQ : Value → Shared → Prop} (I : Inv X pins σ H s)
    (h : tCompG xs.length wi cap g tt te σ H Q)
    (hfin : ∀ D C H' s', Inv X pins σ H' s' → OwnAt X pins H' s' C → Q (.ref D) H' → compPost (model X.prog X.w) X.A X.xe use QQ (.ref D) C (.ok .next) s') :
    wpAny (model X.prog X.w) X.A (comprehension (.ListComp elt [⟨tg, iter, ifs, 0⟩] scope pos) scope X.env pos' (newList []) false (eval iter X.env) use) QQ X.xe s := by
  refine wpAny_comprehension_free rfl hs O.clos O.kind O.names (thn (hi pins s σ H _ I h) fun v s1 h1 => thn h1 fun itv s2 h2 => ?_)
  obtain ⟨it, fp, tn, J, H1, e, I2, T, t0, f2, hR⟩ := h2
  subst e
  refine wpAny_newObj_type (wpAny_newFunctionEnv O.cell (by intro y hy; simp at hy) (fun h₁ hns hsb => ?_) O.kind)
  have hacc : H1 s2.heap.objs.size = none := I2.fresh
  obtain ⟨W, ⟨m0, w0⟩, turn⟩ := hR s2.heap.objs.size hacc
  have I3 : Inv X pins σ (upd H1 s2.heap.objs.size (.lst [])) { s2 with heap := s2.heap.push { cls := .type "list", data := .seq ([] : List Value).toArray } } := I2.lnew (t' := s2.toks) (ys := []) (its := []) .nil (Nat.zero_le _)
  generalize hs3 : ({ s2 with heap := s2.heap.push { cls := .type "list", data := .seq ([] : List Value).toArray } } : Shared) = s3 at hns hsb I3 ⊢
  generalize hD : s2.heap.objs.size = D at I3 w0 turn hacc ⊢
  generalize hH3 : upd H1 D (.lst []) = H3 at I3 w0
  have keep3 : ∀ b o, s3.heap.get? b = some o → h₁.get? b = some o := fun b o e => (hsb.2 b (Nat.ne_of_lt (Heap.lt_size e))).trans (Heap.get?_push_of_some _ e)
  have hfp3 : ∀ b ∈ fp, H3 b = none := fun b hb => by
    rw [← hH3, upd_ne]
    · exact (f2 b hb).1
    · intro z
      obtain ⟨o, e, _⟩ := T.obj _ _ t0 b hb
      exact absurd (Heap.lt_size e) (by rw [z, hD]; exact Nat.lt_irrefl _)
  have hCfresh : H3 s3.heap.objs.size = none := I3.fresh
  have hCfp : ∀ b ∈ fp, b ≠ s3.heap.objs.size := fun b hb z => by
    obtain ⟨o, e, _⟩ := T.obj _ _ t0 b hb
    have h2 : s3.heap.objs.size = s2.heap.objs.size + 1 := by rw [← hs3]; exact Heap.size_push ..
    exact absurd (Heap.lt_size e) (by rw [z, h2]; exact Nat.not_lt.mpr (Nat.le_succ _))
  have t3 : tn 0 h₁ := T.keep _ _ _ t0 fun b hb o e => keep3 b o (by rw [← hs3]; exact Heap.get?_push_of_some _ e)
  have ok' : (compX X (xs ++ caps) scope cl s3.heap.objs.size fp s3 H3).Ok := by
    refine ⟨I3.ok.mod, O.kind, I3.ok.glob, I3.ok.blt, Nat.le_refl _, fun y z c e1 e2 => I3.ok.inj y z c (O.from_ y c e1) (O.from_ z c e2), fun y hy => O.has y hy, fun y c z _ => (nomatch z), I3.ok.hd, I3.ok.frames, .inl rfl, fun b hb => ⟨hCfp b hb, fun y c e => ?_⟩, I3.bs, Nat.le_trans I3.ok.bsz I3.sz, fun b o e hb => ?_, fun b hb z => ?_, I3.stack, I3.stkFree⟩
    · exact (f2 b hb).2.2.2.2.1 y c (O.from_ y c e)
    · rcases (f2 b hb).2.2.2.1 with q | q
      · exact I3.ok.noex b o e q
      · exact absurd (Nat.lt_of_lt_of_le (Heap.lt_size e) (Nat.le_trans I3.ok.bsz q)) (Nat.lt_irrefl _)
    · rcases List.mem_cons.mp (I3.stkSub b z) with q | q
      · exact (f2 b hb).2.1 q
      · exact (f2 b hb).2.2.1 q
  have I4 : Inv (compX X (xs ++ caps) scope cl s3.heap.objs.size fp s3 H3) [] (List.replicate xs.length none ++ capV cap σ) H3 { s3 with heap := h₁, toks := s3.toks + ([] : List (Str × Value)).length } := by
    obtain ⟨m, hn, hl⟩ := id I3.loc
    refine ⟨ok', rfl, I3.bare, Un.kept keep3, ⟨_, hns, fun i y v e1 e2 e3 => ?_⟩, fun y c e => ?_, hCfresh, fun y c e => I3.freeC y c (O.from_ y c e), fun p hp => (nomatch hp), I3.hok.kept keep3, ?_⟩
    · by_cases hix : i < xs.length
      · rw [List.getElem?_append_left (by rw [List.length_replicate]; exact hix), List.getElem?_replicate, if_pos hix] at e2
        cases e2
      · have e1' : caps[i - xs.length]? = some y := by
          have e1'' : (xs ++ caps)[i]? = some y := e1
          rwa [List.getElem?_append_right (by omega)] at e1''
        obtain ⟨j, hj, hN, hk, hk'⟩ := O.cps _ y e1'
        have e2' : (σ[j]?).getD none = some v := by
          rw [List.getElem?_append_right (by rw [List.length_replicate]; omega), List.length_replicate] at e2
          unfold capV at e2
          simpa [hj] using e2
        have e2'' : σ[j]? = some (some v) := by
          cases q : σ[j]? with
          | none => rw [q] at e2'; cases e2'
          | some a => rw [q] at e2'; exact congrArg some e2'
        obtain ⟨u, r, l⟩ := hl j y v hN e2'' (.inr (.inl hk))
        refine ⟨u, r, ?_⟩
        rcases l with ⟨k, _⟩ | ⟨k, c, e, z⟩
        · have k' : X.env.scope.names.lookup y = some .local := k
          rw [hk] at k'; cases k'
        · obtain ⟨c', hc'⟩ := O.has y (.inl hk')
          have : c' = c := Option.some.inj ((O.from_ y c' hc').symm.trans e)
          subst this
          refine .inr ⟨.inl hk', c', hc', ?_⟩
          obtain ⟨o, ho, hd⟩ := z
          exact ⟨o, keep3 _ _ ho, hd⟩
    · obtain ⟨v, o, ho, hd⟩ := I3.cell y c (O.from_ y c e)
      exact ⟨v, o, keep3 _ _ ho, hd⟩
    · show (List.replicate xs.length none ++ capV cap σ).length = (xs ++ caps).length
      simp [capV, O.len]
  have fin : ∀ (H' : Hp) (σ' : St) (s' : Shared), Inv (compX X (xs ++ caps) scope cl s3.heap.objs.size fp s3 H3) [] σ' H' s' → Q (.ref D) H' →
      compPost (model X.prog X.w) X.A X.xe use QQ (.ref D) s3.heap.objs.size (.ok .next) s' := fun H' σ' s' I' q => by
    obtain ⟨m, hn, _⟩ := id I'.loc
    have hU : Un (frs X.stack) fp H3 H' s3.heap s'.heap := I'.base
    have hok2 : HOk X.prog X.w H' s'.heap := I'.hok
    have os' : s'.os = s3.os := I'.os
    have I6 : Inv X pins σ H' s' := I3.call' (ch := fp) os' hU hok2 I'.bare (fun b hb => ⟨(f2 b hb).2.2.2.1, (f2 b hb).2.1, (f2 b hb).2.2.2.2⟩)
    refine hfin D _ H' s' I6 ⟨⟨m, hn⟩, I'.free, Nat.ne_of_gt I3.lt, I3.sz, fun y c e z => ?_, fun p hp z => ?_⟩ q
    · obtain ⟨v, hv⟩ := I3.cell y c e
      exact absurd hv.lt (by rw [z]; exact Nat.lt_irrefl _)
    · exact absurd (Heap.lt_size (I3.pin p hp).1) (by rw [z]; exact Nat.lt_irrefl _)
  have stat : ∀ {H' : Hp}, (∀ b ∈ fp, H' b = none) → ∀ b ∈ fp, FpOk (compX X (xs ++ caps) scope cl s3.heap.objs.size fp s3 H3) [] H' b := fun hn b hb =>
    ⟨hn b hb, hCfp b hb, ok'.exfs b hb, .inl hb, fun y c e => (f2 b hb).2.2.2.2.1 y c (O.from_ y c e), fun p hp => (nomatch hp)⟩
  have loop : codeAny (model X.prog X.w) X.A (.compLoop (.ListComp elt [⟨tg, iter, ifs, 0⟩] scope pos) 0 (.ref it) (.ref D) (compEnvC scope cl s3.heap.objs.size X.env))
      (compPost (model X.prog X.w) X.A X.xe use QQ (.ref D) s3.heap.objs.size) { s3 with heap := h₁, toks := s3.toks + ([] : List (Str × Value)).length } := by
    refine codeAny_loop rfl (fun n s' => ∃ i as H', as.length = xs.length ∧ Inv (compX X (xs ++ caps) scope cl s3.heap.objs.size fp s3 H3) [] (as ++ capV cap σ) H' s' ∧ tn i s'.heap ∧ (∀ b ∈ fp, H' b = none) ∧ W i n H') ?_ m0 ⟨0, _, H3, List.length_replicate, I4, t3, hfp3, w0⟩
    rintro n s5 ⟨i, as, H5, has, I5, st5, fr5, w5⟩
    show wpAny _ _ ((compTurn (.ListComp elt [⟨tg, iter, ifs, 0⟩] scope pos) 0 (.ref it) (.ref D) (compEnvC scope cl s3.heap.objs.size X.env)).onRaise (fun x => do noteFrame x (compEnvC scope cl s3.heap.objs.size X.env); theTreesLotGoes x)) _ _ s5
    refine wpAny_noted ?_
    rw [compTurn_list]
    refine wpAny_bind (wpAny_standAt (wpAny_bind ?_))
    have bad : ∀ {M : Model} {A : Around} {α : Type} {t : Sem α} {P : α → Shared → Prop} {E' : Value → Shared → Prop} {s' : Shared}, wpAny M A t P (fun _ _ => False) s' → wpAny M A t P E' s' := fun h => wpAny_mono h (fun _ _ q => q) fun _ _ z => z.elim
    rcases turn i n H5 w5 with ⟨stop, qn⟩ | ⟨go, step⟩
    · refine bad (thn (T.done (compX X (xs ++ caps) scope cl s3.heap.objs.size fp s3 H3) rfl rfl rfl hc i [] s5 _ H5 (fun _ _ => False) I5 (stat fr5) st5 stop) fun r s6 ⟨hr, I6⟩ => ?_)
      subst hr
      exact wpAny_pure (fin H5 _ s6 I6 qn)
    · refine bad (thn (T.item (compX X (xs ++ caps) scope cl s3.heap.objs.size fp s3 H3) rfl rfl rfl hc i [] s5 _ H5 (fun _ _ => False) I5 (stat fr5) st5 go) fun r s6 ⟨u, hr, h6⟩ => ?_)
      subst hr
      refine wpAny_bind (bad (thn h6 fun _ s7 ⟨y, H7, I7, r7, y7, st7, fr7⟩ => ?_))
      have I7' := I7.pinned (stat fr7) (T.obj _ _ st7)
      have goal := step y H7 y7 as has
      refine wpAny_bind (bad (thn (hg s3.heap.objs.size fp s3 H3 _ s7 _ H7 y _ _ I7' r7 goal) fun _ s8 ⟨σ8, H8, I8, ⟨bs, hbs, eσ⟩, goal8⟩ => ?_))
      subst eσ
      refine wpAny_bind (bad (thn (ht s3.heap.objs.size fp s3 H3 _ s8 _ H8 _ I8 goal8) fun okb s9 ⟨H9, I9, q9⟩ => ?_))
      have again : ∀ {H10 : Hp} {s10 : Shared} {m' : Nat}, Inv (compX X (xs ++ caps) scope cl s3.heap.objs.size fp s3 H3) ([] ++ pinsAt fp s7.heap) (bs ++ capV cap σ) H10 s10 → m' < n → W (i + 1) m' H10 →
          ∃ m, m < n ∧ ∃ i as H', as.length = xs.length ∧ Inv (compX X (xs ++ caps) scope cl s3.heap.objs.size fp s3 H3) [] (as ++ capV cap σ) H' s10 ∧ tn i s10.heap ∧ (∀ b ∈ fp, H' b = none) ∧ W i m H' := fun {H10 s10 m'} I10 hm w10 => by
        refine ⟨m', hm, i + 1, bs, H10, hbs, I10.unpinned, T.keep _ _ _ st7 fun b hb o e => (I10.pin (b, o) (List.mem_append_right _ (List.mem_append_right _ (mem_pinsAt hb e)))).1, fun b hb => ?_, w10⟩
        obtain ⟨o, e, d⟩ := T.obj _ _ st7 b hb
        exact (I10.pin (b, o) (List.mem_append_right _ (List.mem_append_right _ (mem_pinsAt hb e)))).2.1
      cases okb with
      | false =>
        rw [if_neg Bool.false_ne_true] at q9
        obtain ⟨m', hm, w9⟩ := q9
        exact wpAny_pure ⟨rfl, again I9 hm w9⟩
      | true =>
        rw [if_pos rfl] at q9
        refine wpAny_bind (wpAny_bind (bad (thn (he s3.heap.objs.size fp s3 H3 _ s9 _ H9 _ I9 q9) fun yv s10 ⟨yy, H10, I10, r10, ys, hys, hlen, m', hm, w10⟩ => ?_)))
        refine wpAny_bind (bad (thn (mt_append (X := compX X (xs ++ caps) scope cl s3.heap.objs.size fp s3 H3) _ s10 _ H10 (.ref D) [yy] (.ref D) [yv] (fun _ H11 => W (i + 1) m' H11) I10 rfl (.cons r10 .nil) ⟨D, ys, yy, rfl, rfl, hys, hlen, w10⟩) fun _ s11 ⟨_, H11, I11, _, q11⟩ => ?_))
        exact wpAny_pure (wpAny_pure ⟨rfl, again I11 hm q11⟩)
  refine codeAny_compStart_list loop (T.self _ 0 _ _ _ t3 loop)
theorem ps_setG {X : Cx} {elt iter tg : Expr} {xs : List Str} {y : Str} {py : Pos} {ifs : List Expr} {scope : Scope} {pos spos : Pos} {wi : TI} {g : TG} {tt : TT} {te : TE} {cl : List (Str × Addr)} {caps : List Str} {cap : List Nat} {i : Nat}
    (O : CompG X xs caps cap scope cl) (hc : X.calm = true) (hi : PI X tg iter wi) (hg : ∀ C fp s₀ H₀, PG (compX X (xs ++ caps) scope cl C fp s₀ H₀) tg g)
    (ht : ∀ C fp s₀ H₀, PF (compX X (xs ++ caps) scope cl C fp s₀ H₀) ifs tt) (he : ∀ C fp s₀ H₀, PE (compX X (xs ++ caps) scope cl C fp s₀ H₀) elt te)
    (hN : X.N.Nodup) (hy : X.N[i]? = some y) (hl : X.env.scope.names.lookup y = some .local)
    (hsw : swapsWith (.ListComp elt [⟨tg, iter, ifs, 0⟩] scope pos) (some (.Name y py)) spos.line X.env = pure true := by rfl)
    (hs : ∀ x, foldedSetIterable iter X.env x = pure x := by intro _; rfl) :
    PS X (.Assign [.Name y py] (.ListComp elt [⟨tg, iter, ifs, 0⟩] scope pos) spos) (tAsg (tCompG xs.length wi cap g tt te) (gName i)) := by
  intro pins s σ H D I h
  rw [exec_Assign_Name_used _ _ _ _ hsw]
  refine wpAny_bind (wpAny_standAt (wpAny_bind ?_))
  show wpAny _ X.A (do let _ ← comprehension (.ListComp elt [⟨tg, iter, ifs, 0⟩] scope pos) scope X.env _ (newList []) false (eval iter X.env) (some (assign (.Name y py) X.env))) _ _ s
  refine wpAny_bind (thn (compG_core (use := some (assign (.Name y py) X.env)) (QQ := fun _ s' => SP X pins D .next s') O hc hi hg ht he hs I h fun Dd C H' s' I' o q => ?_) fun _ s' hq => wpAny_pure (wpAny_pure hq))
  obtain ⟨m, hn⟩ := o.ns
  show wpAny _ X.A (assign (.Name y py) X.env (.ref Dd)) _ _ s'
  refine wpAny_assign_Name (store_ok2 (v := .ref Dd) I' hN hy (.inl hl) rfl (fun s2 I2 sb => ?_) (.inr hl))
  obtain ⟨a, sb, ha⟩ := sb
  have hCa : C ≠ a := by
    rcases ha with z | z
    · rw [z]; exact o.loc
    · exact Ne.symm (o.cells y a z)
  have o2 : OwnAt X pins H' s2 C := ⟨⟨m, hn.sameBut sb hCa⟩, o.free, o.loc, o.above, o.cells, o.pins⟩
  refine ⟨m, hn.sameBut sb hCa, fun h' hb => ?_⟩
  exact ⟨_, H', o2.go I2 hb, q⟩
section
variable {X : Cx} {xs caps : List Str} {cap : List Nat} {scope : Scope} {cl : List (Str × Addr)}
theorem pg_c1 {x : Str} {px : Pos} (O : CompG X [x] caps cap scope cl) : ∀ C fp s₀ H₀, PG (compX X ([x] ++ caps) scope cl C fp s₀ H₀) (.Name x px) (gName 0) := fun C fp s₀ H₀ =>
  pg_name (X := compX X ([x] ++ caps) scope cl C fp s₀ H₀) (i := 0) O.nd rfl (.inl (lookup_relabel_local (O.lx x (by simp)))) (.inr (lookup_relabel_local (O.lx x (by simp))))
end
theorem lookup_in {k : NameKind} {y : Str} : ∀ {l : List (Str × NameKind)}, l.lookup y = some k → (y, k) ∈ l
  | [], h => by simp at h
  | (n, j) :: r, h => by
    cases hx : y == n with
    | true =>
      simp only [List.lookup_cons, hx] at h
      have : y = n := by simpa using hx
      cases h
      rw [this]; exact List.mem_cons_self
    | false =>
      simp only [List.lookup_cons, hx] at h
      exact List.mem_cons_of_mem _ (lookup_in h)
theorem lookupA_in {y : Str} {c : Addr} : ∀ {l : List (Str × Addr)}, l.lookup y = some c → (y, c) ∈ l
  | [], h => by simp at h
  | (n, j) :: r, h => by
    cases hx : y == n with
    | true =>
      simp only [List.lookup_cons, hx] at h
      have : y = n := by simpa using hx
      cases h
      rw [this]; exact List.mem_cons_self
    | false =>
      simp only [List.lookup_cons, hx] at h
      exact List.mem_cons_of_mem _ (lookupA_in h)
theorem in_lookupA {y : Str} {c : Addr} : ∀ {l : List (Str × Addr)}, (y, c) ∈ l → ∃ c', l.lookup y = some c'
  | [], h => by cases h
  | (n, j) :: r, h => by
    cases hx : y == n with
    | true => exact ⟨j, by simp only [List.lookup_cons, hx]⟩
    | false =>
      simp only [List.lookup_cons, hx]
      rcases List.mem_cons.mp h with z | z
      · have : y = n := congrArg Prod.fst z
        rw [this] at hx
        simp at hx
      · exact in_lookupA z
theorem relabel_free {env : Env} {y : Str} (hf : env.scope.kind = .function) (hy : env.kindOf y = some .cell) : ∀ {names : List (Str × NameKind)}, names.lookup y = some .free →
    (names.map fun (n, k) => if (k == NameKind.free && env.scope.kind == .function && env.kindOf n == some .cell) then (n, NameKind.cell) else (n, k)).lookup y = some .cell
  | [], h => by simp at h
  | (n, k) :: r, h => by
    show List.lookup y ((if (k == NameKind.free && env.scope.kind == .function && env.kindOf n == some .cell) = true then (n, NameKind.cell) else (n, k)) :: _) = _
    cases hx : y == n with
    | true =>
      simp only [List.lookup_cons, hx] at h
      have e : y = n := by simpa using hx
      cases h
      rw [← e, hf, hy]
      simp
    | false =>
      simp only [List.lookup_cons, hx] at h
      have ih := relabel_free hf hy h
      split
      · simp only [List.lookup_cons, hx]; exact ih
      · simp only [List.lookup_cons, hx]; exact ih
def frees (names : List (Str × NameKind)) : List Str := names.filterMap fun z => if z.2 == NameKind.free then some z.1 else none
theorem closure_go {env : Env} : ∀ (names : List (Str × NameKind)) (caps : List Str) (cs : List Addr) (acc : List (Str × Addr)), frees names = caps → caps.map (fun y => env.cells.lookup y) = cs.map some →
    (forIn names acc fun (x : Str × NameKind) (r : List (Str × Addr)) => (if (x.2 == NameKind.free) = true then do let a ← cellOf env x.1; pure (ForInStep.yield ((x.1, a) :: r)) else pure (ForInStep.yield r) : Sem (ForInStep (List (Str × Addr))))) = (pure ((caps.zip cs).reverse ++ acc) : Sem (List (Str × Addr)))
  | [], caps, cs, acc, h1, h2 => by
    have : caps = [] := h1.symm
    subst this
    simp
  | (n, k) :: r, caps, cs, acc, h1, h2 => by
    rw [List.forIn_cons]
    by_cases hk : (k == NameKind.free) = true
    · have e1 : caps = n :: frees r := by
        rw [← h1]; unfold frees
        rw [List.filterMap_cons]
        simp only [hk, if_true]
      subst e1
      cases cs with
      | nil => simp at h2
      | cons c cs =>
        simp only [List.map_cons, List.cons.injEq] at h2
        have hcell : cellOf env n = pure c := by unfold cellOf; rw [h2.1]
        simp only [hk, if_true, hcell, pure_bind]
        rw [closure_go r _ cs ((n, c) :: acc) rfl h2.2]
        simp
    · have e1 : caps = frees r := by
        rw [← h1]; unfold frees
        rw [List.filterMap_cons]
        simp only [hk]
        rfl
      subst e1
      simp only [hk, if_false, pure_bind]
      exact closure_go r _ cs acc rfl h2
theorem closureFor_many {env : Env} {scope : Scope} {caps : List Str} {cs : List Addr} (hf : frees scope.names = caps) (hc : caps.map (fun y => env.cells.lookup y) = cs.map some) : closureFor scope env = pure (caps.zip cs).reverse := by
  have h := closure_go (env := env) scope.names caps cs [] hf hc
  rw [List.append_nil] at h
  unfold closureFor
  simp only [bind_pure]
  exact h
theorem CompG.many {X : Cx} {xs caps : List Str} {cap : List Nat} {cs : List Addr} {scope : Scope} (hk : scope.kind = .function) (hf : X.env.scope.kind = .function) (hfr : frees scope.names = caps)
    (hnc : ∀ z ∈ scope.names, z.2 ≠ .cell) (hl : ∀ y ∈ scope.names, y.2 = .local → scope.names.lookup y.1 = some .local) (hlx : ∀ x ∈ xs, scope.names.lookup x = some .local) (hnd : (xs ++ caps).Nodup)
    (hfl : ∀ y ∈ caps, scope.names.lookup y = some .free) (hce : caps.map (fun y => X.env.scope.names.lookup y) = caps.map fun _ => some .cell) (hcs : caps.map (fun y => X.env.cells.lookup y) = cs.map some)
    (hN : cap.map (fun j => X.N[j]?) = caps.map some) : CompG X xs caps cap scope (caps.zip cs).reverse := by
  have hlen : caps.length = cs.length := by simpa using congrArg List.length hcs
  have at_cs : ∀ (i : Nat) (y : Str), caps[i]? = some y → ∃ c, cs[i]? = some c ∧ X.env.cells.lookup y = some c := fun i y h => by
    have e := congrArg (fun l => l[i]?) hcs
    simp only [List.getElem?_map, h] at e
    cases q : cs[i]? with
    | none => rw [q] at e; simp at e
    | some c => rw [q] at e; exact ⟨c, rfl, by simpa using e⟩
  refine ⟨closureFor_many hfr hcs, hnc, hk, hl, hlx, hnd, fun y c h => ?_, fun y h => ?_, ?_, fun i y h => ?_⟩
  · have hm := lookupA_in h
    rw [List.mem_reverse] at hm
    obtain ⟨i, hi, e⟩ := List.getElem_of_mem hm
    have hi1 : i < caps.length := by rw [List.length_zip] at hi; omega
    have hi2 : i < cs.length := by rw [List.length_zip] at hi; omega
    rw [List.getElem_zip] at e
    obtain ⟨c', e1, e2⟩ := at_cs i caps[i] (List.getElem?_eq_getElem hi1)
    have e3 : caps[i] = y := congrArg Prod.fst e
    have e4 : cs[i] = c := congrArg Prod.snd e
    rw [List.getElem?_eq_getElem hi2, e4] at e1
    cases e1
    rw [← e3]; exact e2
  · have hm : y ∈ caps := by
      have aux : ∀ k : NameKind, (k = .cell ∨ k = .free) → (relabel scope X.env).names.lookup y = some k → y ∈ caps := fun k hk h => by
        have h1 := lookup_in h
        obtain ⟨z, hz, e⟩ := List.mem_map.mp h1
        obtain ⟨n, kk⟩ := z
        have hfree : kk = .free ∧ n = y := by
          dsimp only at e
          split at e
          · rename_i q
            simp only [Bool.and_eq_true] at q
            exact ⟨by simpa using q.1.1, congrArg Prod.fst e⟩
          · have e2 : kk = k := congrArg Prod.snd e
            refine ⟨?_, congrArg Prod.fst e⟩
            rcases hk with z | z
            · exact absurd (e2.trans z) (hnc _ hz)
            · exact e2.trans z
        rw [← hfr]
        refine List.mem_filterMap.mpr ⟨(n, kk), hz, ?_⟩
        rw [hfree.1, hfree.2]; rfl
      rcases h with h | h
      · exact aux _ (.inl rfl) h
      · exact aux _ (.inr rfl) h
    obtain ⟨i, hi, e⟩ := List.getElem_of_mem hm
    have hi2 : i < cs.length := by omega
    refine in_lookupA (c := cs[i]) ?_
    rw [List.mem_reverse]
    have hiz : i < (caps.zip cs).length := by rw [List.length_zip]; omega
    have := List.getElem_mem hiz
    rw [List.getElem_zip, e] at this
    exact this
  · have := congrArg List.length hN
    simpa using this
  · have e := congrArg (fun l => l[i]?) hN
    simp only [List.getElem?_map, h] at e
    have hm := List.mem_of_getElem? h
    cases q : cap[i]? with
    | none => rw [q] at e; simp at e
    | some j =>
      rw [q] at e
      have hcell : X.env.scope.names.lookup y = some .cell := by
        have e2 := congrArg (fun l => l[i]?) hce
        simpa only [List.getElem?_map, h, Option.map_some, Option.some.injEq] using e2
      exact ⟨j, rfl, by simpa using e, hcell, relabel_free hf hcell (hfl y hm)⟩
theorem compG_drive {J : It} {n N : Nat} {cs : St} {g : TG} {tt : TT} {te : TE} {H1 : Hp} {acc : Addr} {Q : Hp → Prop} (Pv : Nat → List V → Hp → Prop) (h0 : Pv 0 [] (upd H1 acc (.lst [])))
    (hstop : ∀ ys H, Pv N ys H → J.stop N H ∧ Q H)
    (hstep : ∀ i ys H, i < N → Pv i ys H → J.go i H ∧ ∀ x H3, J.yld i H x H3 → ∀ as : St, as.length = n → g x (as ++ cs) H3 fun σ4 H4 => (∃ bs : St, bs.length = n ∧ σ4 = bs ++ cs) ∧ tt σ4 H4 fun ok H5 => if ok = true then te σ4 H5 (compN N Pv acc i (N - i)) else ∃ m', m' < N - i ∧ compW N Pv (i + 1) m' H5) :
    ∃ W : Nat → Nat → Hp → Prop, (∃ m, W 0 m (upd H1 acc (.lst []))) ∧ ∀ i m H2, W i m H2 →
      (J.stop i H2 ∧ Q H2) ∨ (J.go i H2 ∧ ∀ x H3, J.yld i H2 x H3 → ∀ as : St, as.length = n → g x (as ++ cs) H3 fun σ4 H4 => (∃ bs : St, bs.length = n ∧ σ4 = bs ++ cs) ∧ tt σ4 H4 fun ok H5 => if ok = true then
        te σ4 H5 (fun y H6 => ∃ ys, H6 acc = some (.lst ys) ∧ ys.length < sizeLine ∧ ∃ m', m' < m ∧ W (i + 1) m' (upd H6 acc (.lst (ys ++ [y]))))
        else ∃ m', m' < m ∧ W (i + 1) m' H5) := by
  refine ⟨compW N Pv, ⟨N - 0, rfl, Nat.zero_le _, [], h0⟩, ?_⟩
  rintro i m H2 ⟨rfl, hi, ys, p⟩
  by_cases h : i < N
  · exact .inr (hstep i ys H2 h p)
  · have e : i = N := by omega
    subst e
    exact .inl (hstop ys H2 p)
abbrev CKon (N : Nat) (Pv : Nat → List V → Hp → Prop) (acc : Addr) (i : Nat) (te : TE) (σ : St) : Bool → Hp → Prop := fun ok H5 => if ok = true then te σ H5 (compN N Pv acc i (N - i)) else ∃ m', m' < N - i ∧ compW N Pv (i + 1) m' H5
abbrev CGoal (J : It) (n : Nat) (cs : St) (g : TG) (tt : TT) (te : TE) (H1 : Hp) (acc : Addr) (Q : Hp → Prop) : Prop :=
  ∃ W : Nat → Nat → Hp → Prop, (∃ m, W 0 m (upd H1 acc (.lst []))) ∧ ∀ i m H2, W i m H2 →
      (J.stop i H2 ∧ Q H2) ∨ (J.go i H2 ∧ ∀ x H3, J.yld i H2 x H3 → ∀ as : St, as.length = n → g x (as ++ cs) H3 fun σ4 H4 => (∃ bs : St, bs.length = n ∧ σ4 = bs ++ cs) ∧ tt σ4 H4 fun ok H5 => if ok = true then
        te σ4 H5 (fun y H6 => ∃ ys, H6 acc = some (.lst ys) ∧ ys.length < sizeLine ∧ ∃ m', m' < m ∧ W (i + 1) m' (upd H6 acc (.lst (ys ++ [y]))))
        else ∃ m', m' < m ∧ W (i + 1) m' H5)
section
variable {K : PySem.W.Frag} {a b acc : Addr} {xs zs : List V} {tt : TT} {te : TE} {cs : St} {H1 : Hp} {Q : Hp → Prop}
theorem c1_list (Pv : Nat → List V → Hp → Prop) (h0 : Pv 0 [] (upd H1 acc (.lst []))) (hl : ∀ i ys H, i ≤ xs.length → Pv i ys H → SqL K H a xs)
    (hs : ∀ i x ys H, i < xs.length → xs[i]? = some x → Pv i ys H → tt (some x :: cs) H (CKon xs.length Pv acc i te (some x :: cs))) (hd : ∀ ys H, Pv xs.length ys H → Q H) : CGoal (Itl K a) 1 cs (gName 0) tt te H1 acc Q := by
  refine compG_drive Pv h0 (fun ys H p => ⟨⟨xs, hl _ _ _ (Nat.le_refl _) p, Nat.le_refl _⟩, hd ys H p⟩) fun i ys H hi p => ⟨⟨xs, xs[i], hl _ _ _ (Nat.le_of_lt hi) p, List.getElem?_eq_getElem hi⟩, ?_⟩
  rintro x H3 ⟨rfl, hx⟩ as has
  obtain ⟨a0, rfl⟩ : ∃ a0, as = [a0] := List.length_eq_one_iff.mp has
  exact ⟨⟨[some x], rfl, rfl⟩, hs i x ys _ hi (hx xs (hl _ _ _ (Nat.le_of_lt hi) p)) p⟩
end
end L2
namespace L2
open PySem PySem.Spec PyProof.Rows
section
variable {prog : Program} {w : World} {A : Around} {E : Value → Shared → Prop} {s : Shared}
end
section
variable {X : Cx} {elts : List Expr} {k1 : Nat} {tpos : Pos}
end
end L2
namespace K9
open PySem L2 TM
mutual
def td : Tree Str → PyData
  | .node n m bs => .tuple [.str n, .int m, .tuple (tds bs)]
def tds : List (Tree Str) → List PyData
  | [] => []
  | t :: r => td t :: tds r
end
mutual
theorem TrV.rd {K : PySem.W.Frag} {H : Hp} : ∀ {v : V} {t : Tree Str}, TrV K H v t → RdV K H v (td t)
  | _, _, .mk h1 h2 h3 _ => by
    simp only [td]
    exact .tup h1 (.cons (.str _) (.cons (.int _) (.cons (.tup h2 (TrAll.rd h3)) .nil)))
theorem TrAll.rd {K : PySem.W.Frag} {H : Hp} : ∀ {vs : List V} {ts : List (Tree Str)}, TrAll K H vs ts → RdAll K H vs (tds ts)
  | _, _, .nil => by simp only [tds]; exact .nil
  | _, _, .cons h t => by simp only [tds]; exact .cons (TrV.rd h) (TrAll.rd t)
end
def LayT (t : Tree Str) : Prop := (td t).canLay0 = true
theorem lay_tds : ∀ ts : List (Tree Str), (∀ t ∈ ts, LayT t) → PyData.canLayAll0 (tds ts) = true
  | [], _ => by simp [tds, PyData.canLayAll0]
  | t :: r, h => by
    have h1 : (td t).canLay0 = true := h t List.mem_cons_self
    simp only [tds, PyData.canLayAll0, h1, lay_tds r fun u hu => h u (List.mem_cons_of_mem _ hu), Bool.and_self]
theorem LayT.node {n : Str} {m : Int} {ts : List (Tree Str)} (hn : PyData.strOk n = true) (h : ∀ t ∈ ts, LayT t) : LayT (.node n m ts) := by
  unfold LayT
  simp only [td, PyData.canLay0, PyData.canLayAll0, hn, lay_tds ts h, Bool.and_self]
theorem tr_open {K : PySem.W.Frag} {H : Hp} {v : V} {t : Tree Str} (h : TrV K H v t) : ∃ a b vs name mark, v = .ref a ∧ t = .node name mark t.bs ∧ SqT K H a [.str name, .int mark, .ref b] ∧ SqT K H b vs ∧ TrAll K H vs t.bs ∧ vs.length ≤ 1000 := by
  cases h with
  | mk h1 h2 h3 h4 => exact ⟨_, _, _, _, _, rfl, rfl, h1, h2, h3, h4⟩
end K9
namespace L2
open PySem
end L2
namespace K6
open PySem L2 K3 TM
structure Nm (w : List Nat) : Prop where
  ne : w ≠ []
  len : w.length ≤ 8
  all : ∀ c ∈ w, c ∈ letL
theorem ah_drop {ws : List (List Nat)} {n : Nat} {w : List Nat} {r : List (List Nat)} (h : ws.drop n = w :: r) : ah ws n = w ∧ n < ws.length ∧ ws.drop (n + 1) = r ∧ w ∈ ws := by
  have hn : n < ws.length := by
    rcases Nat.lt_or_ge n ws.length with q | q
    · exact q
    · rw [List.drop_eq_nil_of_le q] at h; cases h
  rw [List.drop_eq_getElem_cons hn] at h
  injection h with h1 h2
  refine ⟨?_, hn, h2, ?_⟩
  · unfold ah; rw [List.getElem?_eq_getElem hn, h1]; rfl
  · rw [← h1]; exact List.getElem_mem _
theorem drop_app {ws a r : List (List Nat)} {n : Nat} (h : ws.drop n = a ++ r) : ws.drop (n + a.length) = r := by
  rw [← List.drop_drop, h, List.drop_left]
def SXs (Ts : List Addr) (r : Addr) (H H' : Hp) : Prop := ∀ b u, b ∉ Ts → b ≠ r → H b = some u → H' b = some u
theorem SXs.refl (Ts : List Addr) (r : Addr) (H : Hp) : SXs Ts r H H := fun _ _ _ _ e => e
theorem SXs.of {Ts : List Addr} {r : Addr} {H H' : Hp} (g : Same H H') : SXs Ts r H H' := fun b u _ _ e => g b u e
theorem SXs.ofT {Ts : List Addr} {T r : Addr} {H H' : Hp} (hT : T ∈ Ts) (g : SameX T H H') : SXs Ts r H H' := fun b u n _ e => g b u (fun z => n (z ▸ hT)) e
theorem SXs.ofR {Ts : List Addr} {r : Addr} {H H' : Hp} (g : SameX r H H') : SXs Ts r H H' := fun b u _ n e => g b u n e
theorem SXs.trans {Ts : List Addr} {r : Addr} {H H1 H2 : Hp} (a : SXs Ts r H H1) (b : SXs Ts r H1 H2) : SXs Ts r H H2 := fun c u n m e => b c u n m (a c u n m e)
structure TRs (C : Addr) (Ts : List Addr) (r : Addr) (H : Hp) : Prop where
  tb : ∀ T ∈ Ts, ∃ ps, H T = some (.tbl ps)
  ins : ∃ dx fs, H r = some (.ins C dx fs)
section
variable {C r : Addr} {Ts : List Addr} {H H' : Hp} {K : PySem.W.Frag}
theorem TRs.ne {b : Addr} {u : HO} (h : TRs C Ts r H) (e : H b = some u) (n1 : ∀ ps, u ≠ .tbl ps) (n2 : ∀ C dx fs, u ≠ .ins C dx fs) : b ∉ Ts ∧ b ≠ r := by
  obtain ⟨dx, fs, hr⟩ := h.ins
  refine ⟨fun z => ?_, fun z => by rw [z, hr] at e; exact n2 C dx fs (Option.some.inj e).symm⟩
  obtain ⟨ps, hT⟩ := h.tb b z
  rw [hT] at e; exact n1 ps (Option.some.inj e).symm
theorem TRs.keep {b : Addr} {u : HO} (h : TRs C Ts r H) (g : SXs Ts r H H') (e : H b = some u) (n1 : ∀ ps, u ≠ .tbl ps) (n2 : ∀ C dx fs, u ≠ .ins C dx fs) : H' b = some u := g b u (h.ne e n1 n2).1 (h.ne e n1 n2).2 e
theorem TRs.seqT {a : Addr} {xs : List V} (h : TRs C Ts r H) (g : SXs Ts r H H') (q : SqT K H a xs) : SqT K H' a xs := by
  rcases q with (q | ⟨o, q⟩) | q
  · exact .inl (.inl (h.keep g q (fun _ z => nomatch z) (fun _ _ _ z => nomatch z)))
  · exact .inl (.inr ⟨o, h.keep g q (fun _ z => nomatch z) (fun _ _ _ z => nomatch z)⟩)
  · exact .inr q
theorem TRs.lst {a : Addr} {xs : List V} (h : TRs C Ts r H) (g : SXs Ts r H H') (q : H a = some (.lst xs)) : H' a = some (.lst xs) := h.keep g q (fun _ z => nomatch z) (fun _ _ _ z => nomatch z)
theorem TRs.lam {f : Addr} {e : Expr} {cl : List (Str × Addr)} (h : TRs C Ts r H) (g : SXs Ts r H H') (q : LamAtC H f e cl) : LamAtC H' f e cl := by
  obtain ⟨qu, pm, c, ctv, h1, h2⟩ := q.ex
  exact ⟨qu, pm, c, ctv, h.keep g h1 (fun _ z => nomatch z) (fun _ _ _ z => nomatch z), h.keep g h2 (fun _ z => nomatch z) (fun _ _ _ z => nomatch z)⟩
end
structure ZOk (Ts : List Addr) (Z : Hp → Prop) : Prop where
  tb : ∀ H, Z H → ∀ T ∈ Ts, ∃ ps, H T = some (.tbl ps)
  sm : ∀ H H', Same H H' → Z H → Z H'
  ins : ∀ H H' r C dx fs, H r = some (.ins C dx fs) → SameX r H H' → Z H → Z H'
  lst : ∀ H a xs ys, H a = some (.lst xs) → Z H → Z (upd H a (.lst ys))
structure Rp (C : Addr) (Ts : List Addr) {α : Type} (Rv : (Addr → Prop) → Hp → V → α → Prop) : Prop where
  sx : ∀ ok H H' r v x, TRs C Ts r H → SXs Ts r H H' → Rv ok H v x → Rv ok H' v x
  pu : ∀ (ok : Addr → Prop) a xs ys H v x, (∀ b, ok b → b ≠ a) → H a = some (.lst xs) → Rv ok H v x → Rv ok (upd H a (.lst ys)) v x
  ex : ∀ ok H v x, Rv ok H v x → Rv (fun b => ok b ∧ H b ≠ none) H v x
  wk : ∀ (ok ok' : Addr → Prop) H v x, (∀ b, ok b → ok' b) → Rv ok H v x → Rv ok' H v x
inductive RL {α : Type} (Rv : (Addr → Prop) → Hp → V → α → Prop) (ok : Addr → Prop) (H : Hp) : List V → List α → Prop where
  | nil : RL Rv ok H [] []
  | cons {v : V} {vs : List V} {x : α} {xs : List α} : Rv ok H v x → RL Rv ok H vs xs → RL Rv ok H (v :: vs) (x :: xs)
theorem RL.imp {α : Type} {Rv : (Addr → Prop) → Hp → V → α → Prop} {ok ok' : Addr → Prop} {H H' : Hp} (k : ∀ v x, Rv ok H v x → Rv ok' H' v x) {vs : List V} {xs : List α} (h : RL Rv ok H vs xs) : RL Rv ok' H' vs xs := by
  induction h with
  | nil => exact .nil
  | cons a r ih => exact .cons (k _ _ a) ih
theorem RL.app {α : Type} {Rv : (Addr → Prop) → Hp → V → α → Prop} {ok : Addr → Prop} {H : Hp} {vs ws : List V} {xs ys : List α} (h : RL Rv ok H vs xs) (h2 : RL Rv ok H ws ys) : RL Rv ok H (vs ++ ws) (xs ++ ys) := by
  induction h with
  | nil => exact h2
  | cons a r ih => exact .cons a ih
theorem RdAt.trs {C r l : Addr} {Ts : List Addr} {Z : Hp → Prop} {H : Hp} {ws : List (List Nat)} {n : Nat} (h : RdAt C H r l ws n) (zo : ZOk Ts Z) (z : Z H) : TRs C Ts r H := by
  obtain ⟨dx, hx⟩ := h.ins
  exact ⟨zo.tb H z, dx, _, hx⟩
theorem tbs_ins {H H' : Hp} {T r C dx : Addr} {fs : List (Str × V)} {pos : Pos} {qual : Str} (hr : H r = some (.ins C dx fs)) (g : SameX r H H') (h : TbS H T pos qual) : TbS H' T pos qual := by
  rcases h with q | ⟨c, q, q2⟩
  · exact .inl (g _ _ (ne_of q hr (by intro z; cases z)) q)
  · exact .inr ⟨c, g _ _ (ne_of q hr (by intro z; cases z)) q, g _ _ (ne_of q2 hr (by intro z; cases z)) q2⟩
theorem tbs_lst {H : Hp} {T a : Addr} {xs ys : List V} {pos : Pos} {qual : Str} (ha : H a = some (.lst xs)) (h : TbS H T pos qual) : TbS (upd H a (.lst ys)) T pos qual := by
  rcases h with q | ⟨c, q, q2⟩
  · exact .inl (by rw [upd_ne (ne_of q ha (by intro z; cases z))]; exact q)
  · exact .inr ⟨c, by rw [upd_ne (ne_of q ha (by intro z; cases z))]; exact q, by rw [upd_ne (ne_of q2 ha (by intro z; cases z))]; exact q2⟩
theorem sx_free {C r l b : Addr} {Ts : List Addr} {Z : Hp → Prop} {H H' : Hp} {ws : List (List Nat)} {m : Nat} (zo : ZOk Ts Z) (x : SXs Ts r H H') (h2 : Z H') (h3 : RdAt C H' r l ws m) (h4 : H' b = none) : H b = none := by
  cases e : H b with
  | none => rfl
  | some u =>
    by_cases c1 : b ∈ Ts
    · obtain ⟨ps, h⟩ := zo.tb H' h2 b c1
      rw [h4] at h; cases h
    · by_cases c2 : b = r
      · obtain ⟨dx, h⟩ := h3.ins
        rw [← c2, h4] at h; cases h
      · have := x b u c1 c2 e
        rw [h4] at this; cases this
end K6
namespace K6
open PySem L2 K3 TM
structure Rs (K : PySem.W.Frag) (mg : Str → Option Value) (x : Str) (N : Addr) : Prop where
  hm : mg x = some (.ref N)
  hq : PySem.W.excIn K N mroV "ValueError.__new__" = true
def spTakeN (C N : Addr) : Sp := fun vs H Q E => ∃ (r l : Addr) (ws : List (List Nat)) (n : Nat), vs = [.ref r] ∧ RdAt C H r l ws n ∧ n ≤ ws.length ∧ (ah ws n).length ≤ 100 ∧ (beg (ah ws n) letL = true → ∀ H', SameX r H H' → RdAt C H' r l ws (n + 1) → Q (.str (S (ah ws n))) H') ∧ (beg (ah ws n) letL = false → E (.ref N) none H)
def spTakeI (C N : Addr) : Sp := fun vs H Q E => ∃ (r l : Addr) (ws : List (List Nat)) (n : Nat), vs = [.ref r] ∧ RdAt C H r l ws n ∧ n ≤ ws.length ∧ (ah ws n).length ≤ 100 ∧ (beg (ah ws n) numL = true → ∃ i : Int, intText? (S (ah ws n)) = some i ∧ ∀ H', SameX r H H' → RdAt C H' r l ws (n + 1) → Q (.int i) H') ∧ (beg (ah ws n) numL = false → E (.ref N) none H)
def spEnd (C N : Addr) : Sp := fun vs H Q E => ∃ (r l : Addr) (ws : List (List Nat)) (n : Nat), vs = [.ref r] ∧ RdAt C H r l ws n ∧ n ≤ ws.length ∧ (∀ w ∈ ws, w ≠ [] ∧ (reprText (S w)).length ≤ 1000) ∧ (n = ws.length → Q .non H) ∧ (n < ws.length → E (.ref N) none H)
section
variable {P : Program} {w : World} {K : PySem.W.Frag} {mg : Str → Option Value} {base : Heap} {f : Addr} {fd : FuncData} {C N : Addr}
theorem ok_takeName (F : Fun K "take_name" "Reader.take_name" sTakeName f fd) (R : Rs K mg "NoText" N) (T : RdT K mg C) (MN : Mt P w K mg base C 2 "at_name" ["self"] (spAt C letL)) (MW : Mt P w K mg base C 2 "take_word" ["self"] (spTakeW C)) : FnOk P w K mg base (CX1 P w) 3 f fd ["self"] (spTakeN C N) := by
  refine Fun.okX F scTakeName (fun vs H Q E h => ?_) (fun cdv A outer s H vs Q E hr h => ?_)
  · obtain ⟨r, l, ws, n, rfl, _⟩ := h
    rfl
  obtain ⟨r, l, ws, n, rfl, hR, hn, hw, q1, q2⟩ := h
  refine ⟨_, (pss_cons (ps_if (pt_not (pt_val (pe_mt0 MN T.cl hr (pv 0)))) (pss_one (ps_raise R.hm R.hq PySem.F.excBase_ValueError (by decide) (pa_cons (pe_str) pa_nil))) pss_nil)
    (pss_one (ps_ret (pe_mt0 MW T.cl hr (pv 0))))), ?_⟩
  obtain ⟨dx, hx⟩ := hR.ins
  refine ⟨_, rfl, r, dx, _, rfl, hx, rfl, r, l, ws, n, rfl, hR, hn, hw, _, rfl, ?_⟩
  cases hb : beg (ah ws n) letL with
  | true => exact iteF ⟨_, rfl, r, dx, _, rfl, hx, rfl, r, l, ws, n, rfl, hR, hn, q1 hb⟩
  | false => exact iteT ⟨(by show 1 ≤ sizeLine; decide), q2 hb⟩
theorem ok_takeNum (F : Fun K "take_number" "Reader.take_number" sTakeNum f fd) (R : Rs K mg "NoText" N) (G : Gm mg) (T : RdT K mg C) (MN : Mt P w K mg base C 2 "at_number" ["self"] (spAt C numL)) (MW : Mt P w K mg base C 2 "take_word" ["self"] (spTakeW C)) : FnOk P w K mg base (CX1 P w) 3 f fd ["self"] (spTakeI C N) := by
  refine Fun.okX F scTakeNum (fun vs H Q E h => ?_) (fun cdv A outer s H vs Q E hr h => ?_)
  · obtain ⟨r, l, ws, n, rfl, _⟩ := h
    rfl
  obtain ⟨r, l, ws, n, rfl, hR, hn, hw, q1, q2⟩ := h
  refine ⟨_, (pss_cons (ps_if (pt_not (pt_val (pe_mt0 MN T.cl hr (pv 0)))) (pss_one (ps_raise R.hm R.hq PySem.F.excBase_ValueError (by decide) (pa_cons (pe_str) pa_nil))) pss_nil)
    (pss_one (ps_ret (pe_callTy call_intS rfl G.int PyProof.Rows.boot_int (pa_cons (pe_mt0 MW T.cl hr (pv 0)) pa_nil))))), ?_⟩
  obtain ⟨dx, hx⟩ := hR.ins
  refine ⟨_, rfl, r, dx, _, rfl, hx, rfl, r, l, ws, n, rfl, hR, hn, hw, _, rfl, ?_⟩
  cases hb : beg (ah ws n) numL with
  | true =>
    obtain ⟨i, hi, q⟩ := q1 hb
    exact iteF ⟨_, rfl, r, dx, _, rfl, hx, rfl, r, l, ws, n, rfl, hR, hn, fun H' g' hR' => ⟨_, i, rfl, hi, (by rw [S_len]; omega), q H' g' hR'⟩⟩
  | false => exact iteT ⟨(by show 1 ≤ sizeLine; decide), q2 hb⟩
theorem ok_needEnd (F : Fun K "need_end" "Reader.need_end" sNeedEnd f fd) (R : Rs K mg "NoText" N) (T : RdT K mg C) (MA : Mt P w K mg base C 1 "ahead" ["self"] (spAhead C)) : FnOk P w K mg base (CX1 P w) 2 f fd ["self"] (spEnd C N) := by
  refine Fun.okX F scNeedEnd (fun vs H Q E h => ?_) (fun cdv A outer s H vs Q E hr h => ?_)
  · obtain ⟨r, l, ws, n, rfl, _⟩ := h
    rfl
  obtain ⟨r, l, ws, n, rfl, hR, hn, hw, q1, q2⟩ := h
  refine ⟨_, (pss_cons (ps_set (i := 1) scNeedEnd.nd rfl (Or.inl rfl) (pe_mt0 MA T.cl hr (pv 0)))
    (pss_one (ps_if (pt_cmpR op_ne (pv 1) pe_str (nomark _)) (pss_one (ps_raise R.hm R.hq PySem.F.excBase_ValueError (by decide) (pa_cons (pe_join2 (pe_frep (pv 1)) pe_str) pa_nil))) pss_nil))), ?_⟩
  obtain ⟨dx, hx⟩ := hR.ins
  refine ⟨_, rfl, r, dx, _, rfl, hx, rfl, r, l, ws, n, rfl, hR, hn, _, rfl, rfl, _, rfl, ?_⟩
  by_cases h : n = ws.length
  · have e : ah ws n = [] := by unfold ah; rw [List.getElem?_eq_none (by omega)]; rfl
    refine iteNS ?_ (q1 h)
    rw [e, none_eq]
  · have hlt : n < ws.length := by omega
    have e : ah ws n = ws[n] := by unfold ah; rw [List.getElem?_eq_getElem hlt]; rfl
    obtain ⟨h1, h2⟩ := hw ws[n] (List.getElem_mem hlt)
    have e2 : decide (V.str (S (ah ws n)) = V.str (Str.ofString "")) = false := decide_eq_false (by rw [none_eq, e]; exact str_ne h1)
    rw [e2, e]
    exact iteT ⟨_, rfl, S ws[n], rfl, line_of (by omega), _, rfl, h2, _, rfl, by decide +kernel, (by show 1 ≤ sizeLine; decide), q2 hlt⟩
end
end K6
namespace K6
open PySem L2 K3 TM
structure Gd {α : Type} (ws : List (List Nat)) (p : Nat → Option (α × Nat)) : Prop where
  on : ∀ m x m', p m = some (x, m') → m < m' ∧ m' ≤ ws.length
def loopP {α : Type} (ws : List (List Nat)) (p : Nat → Option (α × Nat)) : Nat → Nat → Option (List α × Nat)
  | 0, _ => none
  | f + 1, m => if ah ws m = [41] then some ([], m + 1) else match p m with
    | none => none
    | some (x, m') => (loopP ws p f m').map fun q => (x :: q.1, q.2)
def inbP {α : Type} (ws : List (List Nat)) (p : Nat → Option (α × Nat)) (m : Nat) : Option (List α × Nat) :=
  if ah ws m = [40] then match p (m + 1) with
    | none => none
    | some (x, m') => (loopP ws p (ws.length + 1) m').map fun q => (x :: q.1, q.2)
  else some ([], m)
theorem loop_fuel {α : Type} {ws : List (List Nat)} {p : Nat → Option (α × Nat)} (g : Gd ws p) : ∀ (f f' m : Nat), ws.length < f + m → ws.length < f' + m → m ≤ ws.length → loopP ws p f m = loopP ws p f' m
  | 0, f', m, h, _, hm => by omega
  | f + 1, 0, m, _, h, hm => by omega
  | f + 1, f' + 1, m, h1, h2, hm => by
    unfold loopP
    split
    · rfl
    · cases q : p m with
      | none => rfl
      | some y =>
        obtain ⟨x, m'⟩ := y
        obtain ⟨a, b⟩ := g.on m x m' q
        simp only []
        rw [loop_fuel g f f' m' (by omega) (by omega) b]
theorem ah_lt {ws : List (List Nat)} {m : Nat} {w : List Nat} (h : ah ws m = w) (hw : w ≠ []) : m < ws.length := by
  rcases Nat.lt_or_ge m ws.length with q | q
  · exact q
  · unfold ah at h
    rw [List.getElem?_eq_none q] at h
    exact absurd h.symm hw
theorem loop_gd {α : Type} {ws : List (List Nat)} {p : Nat → Option (α × Nat)} (g : Gd ws p) : ∀ (f m : Nat) (x : List α) (m' : Nat), loopP ws p f m = some (x, m') → m < m' ∧ m' ≤ ws.length
  | 0, m, x, m', h => by cases h
  | f + 1, m, x, m', h => by
    unfold loopP at h
    split at h
    · rename_i h41
      cases h
      exact ⟨Nat.lt_succ_self _, ah_lt h41 (by decide)⟩
    · cases q : p m with
      | none => rw [q] at h; cases h
      | some y =>
        obtain ⟨x0, m0⟩ := y
        obtain ⟨a, b⟩ := g.on m x0 m0 q
        rw [q] at h
        simp only [Option.map_eq_some_iff] at h
        obtain ⟨⟨xs, m2⟩, h1, h2⟩ := h
        cases h2
        obtain ⟨c, d⟩ := loop_gd g f m0 xs m2 h1
        exact ⟨by omega, d⟩
theorem inb_gd {α : Type} {ws : List (List Nat)} {p : Nat → Option (α × Nat)} (g : Gd ws p) {m : Nat} (hm : m ≤ ws.length) {x : List α} {m' : Nat} (h : inbP ws p m = some (x, m')) : m ≤ m' ∧ m' ≤ ws.length := by
  unfold inbP at h
  split at h
  · cases q : p (m + 1) with
    | none => rw [q] at h; cases h
    | some y =>
      obtain ⟨x0, m0⟩ := y
      obtain ⟨a, b⟩ := g.on _ x0 m0 q
      rw [q] at h
      simp only [Option.map_eq_some_iff] at h
      obtain ⟨⟨xs, m2⟩, h1, h2⟩ := h
      cases h2
      obtain ⟨c, d⟩ := loop_gd g _ m0 xs m2 h1
      exact ⟨by omega, d⟩
  · cases h
    exact ⟨Nat.le_refl _, hm⟩
def spItX {α : Type} (C : Addr) (Ts : List Addr) (Z : Hp → Prop) (r l : Addr) (ws : List (List Nat)) (Rv : (Addr → Prop) → Hp → V → α → Prop) (p : Nat → Option (α × Nat)) (N : Addr) : Sp := fun vs H Q E => ∃ (m : Nat), vs = [] ∧ RdAt C H r l ws m ∧ m ≤ ws.length ∧ Z H ∧
  (∀ x m', p m = some (x, m') → ∀ (v : V) (H' : Hp), SXs Ts r H H' → RdAt C H' r l ws m' → Rv (fun b => H b = none) H' v x → Z H' → Q v H') ∧
  (p m = none → ∀ H', SXs Ts r H H' → Z H' → E (.ref N) none H')
def spInX {α : Type} (P : Program) (w : World) (K : PySem.W.Frag) (mg : Str → Option Value) (C : Addr) (Ts : List Addr) (Z : Hp → Prop) (Rv : (Addr → Prop) → Hp → V → α → Prop) (N : Addr) (k : Nat) (g : Heap) : Sp := fun vs H Q E => ∃ (r l L : Addr) (ws : List (List Nat)) (p : Nat → Option (α × Nat)) (n : Nat) (e : Expr) (cl : List (Str × Addr)), vs = [.ref r, .ref L] ∧ RdAt C H r l ws n ∧ n ≤ ws.length ∧ ws.length ≤ 1000 ∧ Gd ws p ∧ LamAtC H L e cl ∧ CalX P w K mg g k e cl (spItX C Ts Z r l ws Rv p N) ∧ Z H ∧
  (∀ xs m', inbP ws p n = some (xs, m') → ∀ (b : Addr) (vs : List V) (H' : Hp), SXs Ts r H H' → RdAt C H' r l ws m' → SqT K H' b vs → vs.length ≤ 1000 → RL Rv (fun c => H c = none) H' vs xs → Z H' → Q (.ref b) H') ∧
  (inbP ws p n = none → ∀ H', SXs Ts r H H' → Z H' → E (.ref N) none H')
section
variable {P : Program} {w : World} {K : PySem.W.Frag} {mg : Str → Option Value} {base : Heap} {f : Addr} {fd : FuncData} {C N : Addr} {Ts : List Addr} {Z : Hp → Prop} {α : Type} {Rv : (Addr → Prop) → Hp → V → α → Prop}
theorem scInB : FnScope ["self", "take_one", "taken"] ["self", "take_one"] (defScope sInB) := ⟨rfl, rfl, rfl, by decide +kernel, rfl, by decide +kernel, by decide +kernel⟩
theorem ok_inX {k : Nat} (zo : ZOk Ts Z) (ro : Rp C Ts Rv) (F : Fun K "in_brackets" "Reader.in_brackets" sInB f fd) (G : Gm mg) (TT : RdT K mg C) (MP : Mt P w K mg base C 2 "passed" ["self", "sign"] (spPassed C)) : FnOk P w K mg base (CX1 P w) (k + 3) f fd ["self", "take_one"] (spInX P w K mg C Ts Z Rv N (k + 2) base) := by
  refine Fun.okX F scInB (fun vs H Q E h => ?_) (fun cdv A outer s H vs Q E hr h => ?_)
  · obtain ⟨r, l, L, ws, p, n, e, cl, rfl, _⟩ := h
    rfl
  obtain ⟨r, l, L, ws, p, n, e, cl, rfl, hR, hn, h5k, hg, hL, hC, hZ, q1, q2⟩ := h
  refine ⟨_, (pss_cons (ps_set (i := 2) scInB.nd rfl (Or.inl rfl) (pe_lst pa_nil))
    (pss_cons (ps_cut (ps_if (pt_val (pe_mt MP TT.cl hr (pv 0) (pa_cons (pe_str) pa_nil) (by omega))) (pss_cons (ps_expr (pe_bm PySem.F.plainAttrs_list PySem.F.slot_list_append PySem.F.type_list_append mt_append (pv 2) (pa_cons (pe_callX0 (EE := fun _ => E) (i := 1) hC hr (passE fun _ _ h => h)) pa_nil)))
    (pss_one (ps_while PassesOwn.leaving (pt_not (pt_val (pe_mt MP TT.cl hr (pv 0) (pa_cons (pe_str) pa_nil) (by omega)))) (pss_one (ps_expr (pe_bm PySem.F.plainAttrs_list PySem.F.slot_list_append PySem.F.type_list_append mt_append (pv 2) (pa_cons (pe_callX0 (EE := fun _ => E) (i := 1) hC hr (passE fun _ _ h => h)) pa_nil))))))) pss_nil))
    (pss_one (ps_ret (pe_callTy call_tuple_of rfl G.tup PyProof.Rows.boot_tuple (pa_cons (pv 2) pa_nil)))))), ?_⟩
  have e40 : S [40] = Str.ofString "(" := by decide +kernel
  have e41 : S [41] = Str.ofString ")" := by decide +kernel
  refine ⟨(by show 0 ≤ sizeLine; decide), fun lt hlt => ?_⟩
  have s1 := same_new hlt (.lst [])
  have f1 : upd H lt (.lst []) lt = some (.lst []) := upd_same
  have hR1 := hR.same s1
  have hZ1 := zo.sm _ _ s1 hZ
  have hL1 := hL.same s1
  generalize upd H lt (.lst []) = H1 at s1 f1 hR1 hZ1 hL1
  have nel : l ≠ lt := fun z => by have h1 := hR.fl; rw [z, hlt] at h1; cases h1
  have neR : r ≠ lt := fun z => by
    obtain ⟨dx, h1⟩ := hR.ins
    rw [z, hlt] at h1; cases h1
  have growR : ∀ {H' : Hp} {ys' : List V} {p : Nat}, RdAt C H' r l ws p → RdAt C (upd H' lt (.lst ys')) r l ws p := fun {H' ys' p} h2 => by
    obtain ⟨⟨dx, h5⟩, h6⟩ := h2
    exact ⟨⟨dx, by rw [upd_ne neR]; exact h5⟩, by rw [upd_ne nel]; exact h6⟩
  have growL : ∀ {H' : Hp} {ys ys' : List V}, H' lt = some (.lst ys) → LamAtC H' L e cl → LamAtC (upd H' lt (.lst ys')) L e cl := fun {H' ys ys'} h1 h4 => by
    obtain ⟨qu, pm, c, ctv, h5, h6⟩ := h4.ex
    exact ⟨qu, pm, c, ctv, by rw [upd_ne (ne_of h5 h1 (by intro z; cases z))]; exact h5, by rw [upd_ne (ne_of h6 h1 (by intro z; cases z))]; exact h6⟩
  refine ⟨fun σ' H' => ∃ (ys : List V) (xs : List α) (m' : Nat), σ' = [some (.ref r), some (.ref L), some (.ref lt)] ∧ inbP ws p n = some (xs, m') ∧ H' lt = some (.lst ys) ∧ SXs Ts r H H' ∧ RdAt C H' r l ws m' ∧ ys.length ≤ 1000 ∧ RL Rv (fun c => H c = none ∧ c ≠ lt) H' ys xs ∧ Z H', ?_, ?_⟩
  case refine_2 =>
    rintro σ H2 ⟨ys, xs, m', rfl, hin, hy, x2, hR2, hyl, ht2, hZ2⟩
    refine ⟨_, rfl, lt, ys, rfl, .inl ⟨SqL.of hy, fun tp htp => ?_⟩⟩
    have s3 := same_new htp (.tup ys)
    have tr2 := hR2.trs zo hZ2
    exact q1 xs m' hin tp ys _ (x2.trans (SXs.of s3)) (hR2.same s3) (SqT.of upd_same) hyl (ht2.imp fun v x h => ro.wk _ _ _ _ _ (fun b hb => hb.1) (ro.sx _ _ _ r v x tr2 (SXs.of s3) h)) (zo.sm _ _ s3 hZ2)
  obtain ⟨dx, hx⟩ := hR1.ins
  refine ⟨_, rfl, r, dx, _, rfl, hx, rfl, r, l, ws, n, [40], (by rw [e40]; rfl), hR1, hn, fun z => ?_, fun z H2 g2 hR2 => ⟨_, rfl, iteT ?_⟩⟩
  · exact ⟨_, rfl, iteF ⟨[], [], n, rfl, by rw [inbP, if_neg z], f1, SXs.of s1, hR1, Nat.zero_le _, .nil, hZ1⟩⟩
  have hn1 : n + 1 ≤ ws.length := ah_lt z (by decide)
  have tr1 := hR1.trs zo hZ1
  have x2 : SXs Ts r H1 H2 := SXs.ofR g2
  have f2 := tr1.lst x2 f1
  have hZ2 := zo.ins _ _ r C dx _ hx g2 hZ1
  have hL2 := tr1.lam x2 hL1
  have tr2 := hR2.trs zo hZ2
  have x02 := (SXs.of s1 (Ts := Ts) (r := r)).trans x2
  refine ⟨_, rfl, .inl ⟨rfl, _, SqL.of f2⟩, L, rfl, hL2, n + 1, rfl, hR2, hn1, hZ2, fun x0 m0 hp0 v H3 x3 hR3 rv3 hZ3 => ?_, fun hp0 H3 x3 hZ3 => q2 (by rw [inbP, if_pos z, hp0]) H3 (x02.trans x3) hZ3⟩
  obtain ⟨hm0, hm0'⟩ := hg.on _ _ _ hp0
  have f3 := tr2.lst x3 f2
  have hL3 := tr2.lam x3 hL2
  refine ⟨lt, [], v, rfl, rfl, f3, (by show 0 < sizeLine; decide), ?_⟩
  have rv3' : Rv (fun c => H c = none ∧ c ≠ lt) (upd H3 lt (.lst ([] ++ [v]))) v x0 := ro.pu _ lt [] _ H3 v x0 (fun b hb => hb.2) f3 (ro.wk _ _ _ _ _ (fun b hb => ⟨sx_free zo x02 hZ2 hR2 hb, fun z => by rw [z, f2] at hb; cases hb⟩) rv3)
  have hR4 := growR (ys' := [] ++ [v]) hR3
  have hZ4 := zo.lst _ lt [] ([] ++ [v]) f3 hZ3
  have hL4 := growL (ys' := [] ++ [v]) f3 hL3
  have x14 : SXs Ts r H (upd H3 lt (.lst ([] ++ [v]))) := fun c u n1 n2 e => by
    rw [upd_ne (ne_of_none e hlt)]
    exact x3 c u n1 n2 (x02 c u n1 n2 e)
  have f4 : upd H3 lt (.lst ([] ++ [v])) lt = some (.lst ([] ++ [v])) := upd_same
  have hst : inbP ws p n = (loopP ws p (ws.length + 1) m0).map fun q => ([x0] ++ q.1, q.2) := by rw [inbP, if_pos z, hp0]; rfl
  generalize upd H3 lt (.lst ([] ++ [v])) = H4 at hR4 hZ4 hL4 x14 rv3' f4
  refine ⟨fun m σ' H' => ∃ (ys : List V) (dn : List α) (p0 : Nat), σ' = [some (.ref r), some (.ref L), some (.ref lt)] ∧ ws.length - p0 = m ∧ H' lt = some (.lst ys) ∧ SXs Ts r H H' ∧ RdAt C H' r l ws p0 ∧ p0 ≤ ws.length ∧ ys.length ≤ p0 ∧ inbP ws p n = ((loopP ws p (ws.length + 1) p0).map fun q => (dn ++ q.1, q.2)) ∧ RL Rv (fun c => H c = none ∧ c ≠ lt) H' ys dn ∧ Z H' ∧ LamAtC H' L e cl,
    ⟨_, [] ++ [v], [x0], m0, rfl, rfl, f4, x14, hR4, hm0', (by show 1 ≤ m0; omega), hst, .cons rv3' .nil, hZ4, hL4⟩, ?_⟩
  rintro m σ H5 ⟨ys, dn, p0, rfl, hm, f5, x5, hR5, hp5, hyl, hres, rl5, hZ5, hL5⟩
  obtain ⟨dx5, hx5⟩ := hR5.ins
  have tr5 := hR5.trs zo hZ5
  refine ⟨_, rfl, r, dx5, _, rfl, hx5, rfl, r, l, ws, p0, [41], (by rw [e41]; rfl), hR5, hp5, fun z => ?_, fun z H6 g6 hR6 => ⟨_, rfl, iteF ?_⟩⟩
  · refine ⟨_, rfl, iteT ⟨fun σ' H' => ∃ m', m' < m ∧ ∃ (ys : List V) (dn : List α) (p0 : Nat), σ' = [some (.ref r), some (.ref L), some (.ref lt)] ∧ ws.length - p0 = m' ∧ H' lt = some (.lst ys) ∧ SXs Ts r H H' ∧ RdAt C H' r l ws p0 ∧ p0 ≤ ws.length ∧ ys.length ≤ p0 ∧ inbP ws p n = ((loopP ws p (ws.length + 1) p0).map fun q => (dn ++ q.1, q.2)) ∧ RL Rv (fun c => H c = none ∧ c ≠ lt) H' ys dn ∧ Z H' ∧ LamAtC H' L e cl, fun σ' H' h => h, ?_⟩⟩
    have hun : loopP ws p (ws.length + 1) p0 = match p p0 with
        | none => none
        | some (x, m') => (loopP ws p ws.length m').map fun q => (x :: q.1, q.2) := by
      rw [loopP, if_neg z]
    refine ⟨_, rfl, .inl ⟨rfl, _, SqL.of f5⟩, L, rfl, hL5, p0, rfl, hR5, hp5, hZ5, fun x6 m6 hp6 v6 H6 x6' hR6 rv6 hZ6 => ?_, fun hp6 H6 x6 hZ6 => q2 (by rw [hres, hun, hp6]; rfl) H6 (x5.trans x6) hZ6⟩
    obtain ⟨hlt6, hle6⟩ := hg.on _ _ _ hp6
    have f6 := tr5.lst x6' f5
    have hL6 := tr5.lam x6' hL5
    refine ⟨lt, ys, v6, rfl, rfl, f6, Nat.lt_of_lt_of_le (show ys.length < 5001 by omega) (by decide), ?_⟩
    have rv6' : Rv (fun c => H c = none ∧ c ≠ lt) H6 v6 x6 := ro.wk _ _ _ _ _ (fun b hb => ⟨sx_free zo x5 hZ5 hR5 hb, fun z => by rw [z, f5] at hb; cases hb⟩) rv6
    have rl6 : RL Rv (fun c => H c = none ∧ c ≠ lt) H6 ys dn := rl5.imp fun v x h => ro.sx _ _ _ r v x tr5 x6' h
    have hgp : ∀ v x, Rv (fun c => H c = none ∧ c ≠ lt) H6 v x → Rv (fun c => H c = none ∧ c ≠ lt) (upd H6 lt (.lst (ys ++ [v6]))) v x := fun v x h => ro.pu _ lt ys _ H6 v x (fun b hb => hb.2) f6 h
    refine ⟨ws.length - m6, ?_, ys ++ [v6], dn ++ [x6], m6, rfl, rfl, upd_same, fun c u n1 n2 e => ?_, growR hR6, hle6, ?_, ?_, (rl6.imp hgp).app (.cons (hgp _ _ rv6') .nil), zo.lst _ lt ys _ f6 hZ6, growL f6 hL6⟩
    · omega
    · rw [upd_ne (ne_of_none e hlt)]
      exact x6' c u n1 n2 (x5 c u n1 n2 e)
    · rw [List.length_append, List.length_singleton]; omega
    · rw [hres, hun, hp6]
      show Option.map _ (Option.map _ (loopP ws p ws.length m6)) = _
      rw [Option.map_map, loop_fuel hg ws.length (ws.length + 1) m6 (by omega) (by omega) hle6]
      congr 1
      funext q
      simp
  · have x6 : SXs Ts r H5 H6 := SXs.ofR g6
    have hlp : loopP ws p (ws.length + 1) p0 = some ([], p0 + 1) := by rw [loopP, if_pos z]
    rw [hlp] at hres
    have hZ6 := zo.ins _ _ r C dx5 _ hx5 g6 hZ5
    refine ⟨ys, dn ++ [], p0 + 1, rfl, hres, tr5.lst x6 f5, x5.trans x6, hR6, by omega, ?_, hZ6⟩
    rw [List.append_nil]
    exact rl5.imp fun v x h => ro.sx _ _ _ r v x tr5 x6 h
end
end K6
namespace K6
open PySem L2 K3 TM
def eltOf (e : Expr) (i : Nat) : Expr := match e with
  | .Tuple es _ _ => es.getD i e
  | _ => e
abbrev eL : Expr := argOf (eltOf (retOf sTreeF) 2) 0
abbrev qL : Str := (PyProof.Rows.envOfC "tree_from" (defScope sTreeF) 0 0 .none).qual ++ "<lambda>"
abbrev pL : Pos := lamPos eL
structure WsOk (ws : List (List Nat)) : Prop where
  len : ws.length ≤ 1000
  w61 : ∀ w ∈ ws, w.length ≤ 61
  num : ∀ w ∈ ws, beg w numL = true → ∃ i, intText? (S w) = some i
def mkP (ws : List (List Nat)) (m : Nat) : Int × Nat := if beg (ah ws m) numL = true then ((intText? (S (ah ws m))).getD 0, m + 1) else (0, m)
def treeP (ws : List (List Nat)) : Nat → Nat → Option (Tree Str × Nat)
  | 0, _ => none
  | n + 1, m => if beg (ah ws m) letL = true then (inbP ws (treeP ws n) (mkP ws (m + 1)).2).map fun q => (.node (S (ah ws m)) (mkP ws (m + 1)).1 q.1, q.2) else none
theorem beg_ne {w sg : List Nat} (h : beg w sg = true) : w ≠ [] := by
  cases w with
  | nil => cases h
  | cons c r => simp
theorem mkP_le {ws : List (List Nat)} {m : Nat} (h : m ≤ ws.length) : m ≤ (mkP ws m).2 ∧ (mkP ws m).2 ≤ ws.length := by
  unfold mkP
  split
  · rename_i hb
    exact ⟨Nat.le_succ _, ah_lt rfl (beg_ne hb)⟩
  · exact ⟨Nat.le_refl _, h⟩
theorem tree_gd (ws : List (List Nat)) : ∀ n, Gd ws (treeP ws n)
  | 0 => ⟨fun m x m' h => by cases h⟩
  | n + 1 => ⟨fun m x m' h => by
    unfold treeP at h
    split at h
    · rename_i hb
      have hm := ah_lt (ws := ws) (m := m) rfl (beg_ne hb)
      obtain ⟨h1, h2⟩ := mkP_le (ws := ws) (m := m + 1) hm
      simp only [Option.map_eq_some_iff] at h
      obtain ⟨⟨xs, m2⟩, h3, h4⟩ := h
      cases h4
      obtain ⟨a, b⟩ := inb_gd (tree_gd ws n) h2 h3
      exact ⟨by omega, b⟩
    · cases h⟩
def Z1 (T : Addr) (H : Hp) : Prop := TbS H T pL qL
theorem z1_ok (T : Addr) : ZOk [T] (Z1 T) := by
  refine ⟨fun H z U hU => ?_, fun H H' g z => z.same g, fun H H' r C dx fs hr g z => tbs_ins hr g z, fun H a xs ys ha z => tbs_lst ha z⟩
  obtain rfl := List.mem_singleton.mp hU
  exact z.at
def RvT (K : PySem.W.Frag) (_ : Addr → Prop) (H : Hp) (v : V) (t : Tree Str) : Prop := TrV K H v t
theorem sq_put {K : PySem.W.Frag} {H : Hp} {a d : Addr} {xs ys : List V} {o : HO} (h : SqT K H a xs) (hd : H d = some (.lst ys)) : SqT K (upd H d o) a xs := by
  rcases h with (h | ⟨ob, h⟩) | h
  · exact .inl (.inl (by rw [upd_ne (ne_of h hd (by intro z; cases z))]; exact h))
  · exact .inl (.inr ⟨ob, by rw [upd_ne (ne_of h hd (by intro z; cases z))]; exact h⟩)
  · exact .inr h
theorem rpT (K : PySem.W.Frag) (C : Addr) (Ts : List Addr) : Rp C Ts (RvT K) :=
  ⟨fun _ _ _ _ _ _ t g h => TrV.mono (fun _ _ => t.seqT g) h, fun _ _ _ _ _ _ _ _ ha h => TrV.mono (fun _ _ q => sq_put q ha) h, fun _ _ _ _ h => h, fun _ _ _ _ _ _ h => h⟩
theorem rl_trees {K : PySem.W.Frag} {ok : Addr → Prop} {H : Hp} {vs : List V} {ts : List (Tree Str)} (h : RL (RvT K) ok H vs ts) : TrAll K H vs ts := by
  induction h with
  | nil => exact .nil
  | cons a r ih => exact .cons a ih
def spTreeF (K : PySem.W.Frag) (C T N : Addr) (n : Nat) : Sp := fun vs H Q E => ∃ (r l : Addr) (ws : List (List Nat)) (m : Nat), vs = [.ref r, .int (n : Int)] ∧ RdAt C H r l ws m ∧ WsOk ws ∧ m ≤ ws.length ∧ Z1 T H ∧
  (∀ t m', treeP ws n m = some (t, m') → ∀ (v : V) (H' : Hp), SXs [T] r H H' → RdAt C H' r l ws m' → TrV K H' v t → Z1 T H' → Q v H') ∧
  (treeP ws n m = none → ∀ H', SXs [T] r H H' → Z1 T H' → E (.ref N) none H')
structure Gm2 (mg : Str → Option Value) : Prop where
  lv : ∃ t, mg "MOST_LEVELS" = some (.int 40 t)
  nm : ∃ t, mg "MOST_NAMES" = some (.int 200 t)
theorem ah_len {ws : List (List Nat)} (hW : ∀ w ∈ ws, w.length ≤ 61) (n : Nat) : (ah ws n).length ≤ 100 := by
  unfold ah
  cases q : ws[n]? with
  | none => simp
  | some w => have := hW w (List.mem_of_getElem? q); simp; omega
theorem ah_mem {ws : List (List Nat)} {m : Nat} (h : ah ws m ≠ []) : ah ws m ∈ ws := by
  unfold ah at h ⊢
  cases q : ws[m]? with
  | none => rw [q] at h; exact absurd rfl h
  | some w => exact List.mem_of_getElem? q
section
variable {P : Program} {w : World} {K : PySem.W.Frag} {mg : Str → Option Value} {base : Heap} {f : Addr} {fd : FuncData} {C T N c : Addr}
theorem scTreeF : FnScope ["reader", "room", "name", "mark"] ["reader", "room"] (defScope sTreeF) := ⟨rfl, rfl, rfl, by decide +kernel, rfl, by decide +kernel, by decide +kernel⟩
theorem lam_free : ∀ y ∈ (lamScope eL).names, y.2 ≠ NameKind.cell ∧ y.2 ≠ NameKind.local := by decide +kernel
theorem lam_two : ∀ y ∈ (lamScope eL).names, y.2 = NameKind.free → y.1 = Str.ofString "reader" ∨ y.1 = Str.ofString "room" := by decide +kernel
theorem ne_rr : Str.ofString "reader" ≠ Str.ofString "room" := by decide +kernel
theorem ok_treeF0 {k : Nat} (F : Fun K "tree_from" "tree_from" sTreeF f fd) (R : Rs K mg "NoText" N) (G : Gm2 mg) : FnOk P w K mg base (CX1 P w) (k + 1) f fd ["reader", "room"] (spTreeF K C T N 0) := by
  obtain ⟨tl, hl⟩ := G.lv
  refine Fun.okX F scTreeF (fun vs H Q E h => ?_) (fun cdv A outer s H vs Q E hr h => ?_)
  · obtain ⟨r, l, ws, m, rfl, _⟩ := h
    rfl
  obtain ⟨r, l, ws, m, rfl, hR, hW, hm, tb, q1, q2⟩ := h
  refine ⟨_, pss_cons (ps_if (pt_cmpR op_eq (pv 1) pe_int (nomark _)) (pss_one (ps_raise R.hm R.hq PySem.F.excBase_ValueError (by decide) (pa_cons (pe_join3 pe_str (pe_fint (pe_glob (v := .int 40) rfl hl ⟨_, rfl⟩)) pe_str) pa_nil))) pss_nil) pss_never, ?_⟩
  exact ⟨_, rfl, rfl, _, rfl, iteP rfl ⟨_, rfl, by decide +kernel, 40, rfl, by decide +kernel, _, rfl, by decide +kernel, _, rfl, by decide +kernel, (by show 1 ≤ sizeLine; decide), q2 rfl H (SXs.refl _ _ _) tb⟩⟩
theorem ok_treeF {n : Nat} {fI : Addr} {fdI : FuncData} (F : Fun K "tree_from" "tree_from" sTreeF f fd) (hn : PySem.W.nsIn K mainGlobals "tree_from" = some (some (.ref f))) (hTb : PySem.W.tabIn K "tree_from" = some (c, T)) (hC : PySem.W.codeHdIn K c T = true) (hB : BtAt mg base) (TT : RdT K mg C)
    (MN : MtX P w K mg base C 3 "take_name" ["self"] (spTakeN C N)) (MA : Mt P w K mg base C 2 "at_number" ["self"] (spAt C numL)) (MI : MtX P w K mg base C 3 "take_number" ["self"] (spTakeI C N)) (mI : Meth K C "in_brackets" fI) (bI : Binds K fdI ["self", "take_one"] [])
    (FI : ∀ g : Heap, FnOk P w K mg g (CX1 P w) (3 * n + 3 + 3) fI fdI ["self", "take_one"] (spInX P w K mg C [T] (Z1 T) (RvT K) N (3 * n + 3 + 2) g))
    (R : ∀ g : Heap, BtAt mg g → FnX P w K mg g (3 * n + 4) "tree_from" ["reader", "room"] (spTreeF K C T N n)) : FnOk P w K mg base (CX1 P w) (3 * n + 7) f fd ["reader", "room"] (spTreeF K C T N (n + 1)) := by
  refine Fun.okXC F hn hTb scTreeF (fun vs H Q E h => ?_) (fun A outer s H vs Q E hr h => ?_)
  · obtain ⟨r, l, ws, m, rfl, _⟩ := h
    rfl
  obtain ⟨r, l, ws, m, rfl, hR, hW, hm, tb, q1, q2⟩ := h
  refine ⟨_, (pss_cons (ps_if (pt_cmpR op_eq (pv 1) pe_int (nomark _)) pss_never pss_nil)
    (pss_cons (ps_set (i := 2) scTreeF.nd rfl (Or.inl rfl) (pe_mtX0 (EE := fun _ => E) MN TT.cl hr (passE fun _ _ h => h) (pv 0) (by omega)))
    (pss_cons (ps_cut (ps_set (i := 3) scTreeF.nd rfl (Or.inl rfl) (pe_ifExp (pt_val (pe_mt0 MA TT.cl hr (pv 0) (by omega))) (pe_mtX0 (EE := fun _ => E) MI TT.cl hr (passE fun _ _ h => h) (pv 0) (by omega)) pe_int)))
    (pss_one (ps_ret (pe_tup (pa_cons (pv 2) (pa_cons (pv 3) (pa_cons (pe_methBX (EE := fun _ => E) (pv 0) TT.cl mI (fun g _ => FI g) hr bI (passE fun _ _ h => h) (fun _ => rfl) (pa_cons (pe_lamC (c := c) (T := T) rfl hC hB) pa_nil)) pa_nil))))))))), ?_⟩
  have zo := z1_ok T
  obtain ⟨dx, hx⟩ := hR.ins
  refine ⟨_, rfl, rfl, _, rfl, iteN (fun z => ?_) ?_⟩
  · have : ((n + 1 : Nat) : Int) = 0 := V.int.inj z
    omega
  refine ⟨_, rfl, r, dx, _, rfl, hx, rfl, r, l, ws, m, rfl, hR, hm, ah_len hW.w61 m, fun hb H1 g1 hR1 => ?_, fun hb => q2 (by rw [treeP, hb]; rfl) H (SXs.refl _ _ _) tb⟩
  have hm1 : m + 1 ≤ ws.length := ah_lt rfl (beg_ne hb)
  have tr0 := hR.trs zo tb
  have tb1 : Z1 T H1 := zo.ins _ _ r C dx _ hx g1 tb
  have x1 : SXs [T] r H H1 := SXs.ofR g1
  obtain ⟨dx1, hx1⟩ := hR1.ins
  have hun : treeP ws (n + 1) m = (inbP ws (treeP ws n) (mkP ws (m + 1)).2).map fun q => (.node (S (ah ws m)) (mkP ws (m + 1)).1 q.1, q.2) := by rw [treeP, if_pos hb]
  rw [hun] at q1 q2
  obtain ⟨hk1, hk2⟩ := mkP_le (ws := ws) (m := m + 1) hm1
  refine ⟨fun σ' H' => σ' = [some (.ref r), some (.int ((n + 1 : Nat) : Int)), some (.str (S (ah ws m))), some (.int (mkP ws (m + 1)).1)] ∧ SXs [T] r H H' ∧ RdAt C H' r l ws (mkP ws (m + 1)).2 ∧ Z1 T H', ?_, ?_⟩
  · refine ⟨_, rfl, r, dx1, _, rfl, hx1, rfl, r, l, ws, m + 1, rfl, hR1, hm1, ah_len hW.w61 _, _, rfl, ?_⟩
    cases hbn : beg (ah ws (m + 1)) numL with
    | true =>
      obtain ⟨i, hi⟩ := hW.num _ (ah_mem (beg_ne hbn)) hbn
      have em : mkP ws (m + 1) = (i, m + 2) := by rw [mkP, if_pos hbn, hi]; rfl
      rw [em]
      refine iteT ⟨_, rfl, r, dx1, _, rfl, hx1, rfl, r, l, ws, m + 1, rfl, hR1, hm1, ah_len hW.w61 _, fun _ => ⟨i, hi, fun H2 g2 hR2 => ?_⟩, fun z => absurd (hbn.symm.trans z) (by decide)⟩
      exact ⟨rfl, x1.trans (SXs.ofR g2), hR2, zo.ins _ _ r C dx1 _ hx1 g2 tb1⟩
    | false =>
      have em : mkP ws (m + 1) = (0, m + 1) := by rw [mkP, if_neg (by rw [hbn]; decide)]
      rw [em]
      exact iteF ⟨rfl, x1, hR1, tb1⟩
  generalize mkP ws (m + 1) = mp at hk1 hk2 q1 q2
  rintro σ H3 ⟨rfl, x3, hR3, tb3⟩
  obtain ⟨dx3, hx3⟩ := hR3.ins
  refine ⟨_, rfl, _, rfl, _, rfl, r, dx3, _, rfl, hx3, rfl, tb3, fun L H4 x4 hL0 hL4 tb4 g hs hc => ?_⟩
  obtain ⟨ps, hps⟩ := tb3.at
  have nr : r ≠ T := fun z => by rw [z, hps] at hx3; cases hx3
  have nl : l ≠ T := fun z => by have h := hR3.fl; rw [z, hps] at h; cases h
  have hR4 : RdAt C H4 r l ws mp.2 := ⟨⟨dx3, x4 _ _ nr hx3⟩, x4 _ _ nl hR3.fl⟩
  have x34 : SXs [T] r H H4 := x3.trans (SXs.ofT List.mem_cons_self x4)
  obtain ⟨c1, u1, e1, i1, v1⟩ := hc 0 "reader" (.ref r) rfl rfl rfl
  obtain ⟨c2, u2, e2, i2, v2⟩ := hc 1 "room" (.int ((n + 1 : Nat) : Int)) rfl rfl rfl
  refine ⟨r, l, L, ws, treeP ws n, mp.2, eL, _, rfl, hR4, hk2, hW.len, tree_gd ws n, hL4, ?_, tb4, fun ts m' hin b vs H5 x5 hR5 sq5 hvl rl5 tb5 => ⟨(by show 3 ≤ sizeLine; decide), fun tp htp => ?_⟩, fun hin H5 x5 tb5 => q2 (by rw [hin]; rfl) H5 (x34.trans x5) tb5⟩
  · obtain rfl : s.heap.objs.size + 1 = c1 := Option.some.inj e1
    obtain rfl : s.heap.objs.size + 1 + 1 = c2 := Option.some.inj e2
    have hcl := ClAt.two ne_rr (Nat.ne_of_lt (Nat.lt_succ_self _)) i1 i2 v1 v2
    refine lam_runX (k := 3 * n + 4) (N := ["reader", "room"]) (vs := [.ref r, .int ((n + 1 : Nat) : Int)]) rfl rfl rfl lam_free (fun x hx => ?_) hcl (fun _ _ _ _ => rfl) (fun qual' f' c' A' outer' s' H' Q' E' hr' h' => ?_)
    · rcases lam_two _ (PySem.mem_of_lookup hx) rfl with z | z
      · have z' : x = Str.ofString "reader" := z
        rw [z']
        obtain ⟨c0, u0, e0, _⟩ := hcl.val 0 (Str.ofString "reader") (.ref r) rfl rfl
        exact ⟨c0, e0⟩
      · have z' : x = Str.ofString "room" := z
        rw [z']
        obtain ⟨c0, u0, e0, _⟩ := hcl.val 1 (Str.ofString "room") (.int ((n + 1 : Nat) : Int)) rfl rfl
        exact ⟨c0, e0⟩
    · obtain ⟨m', _, hR', hm', tb', q1', q2'⟩ := h'
      refine ⟨_, pe_fnX (EE := fun _ => E') (R g (hB.sub hs)) hr' passL (pa_cons (pv 0) (pa_cons (pe_op op_sub (pv 1) pe_int) pa_nil)) (Nat.le_refl _), ?_⟩
      have en : ((n + 1 : Nat) : Int) - 1 = (n : Int) := by omega
      refine ⟨_, rfl, _, rfl, _, _, rfl, rfl, ?_⟩
      refine ⟨r, l, ws, m', (by show [V.ref r, V.int (((n + 1 : Nat) : Int) - 1)] = _; rw [en]), hR', hW, hm', tb', q1', q2'⟩
  · have s6 := same_new htp (.tup [.str (S (ah ws m)), .int mp.1, .ref b])
    exact q1 _ m' (by rw [hin]; rfl) _ _ (x34.trans (x5.trans (SXs.of s6))) (hR5.same s6) (.mk (SqT.of upd_same) (s6.seqT sq5) (TrAll.mono (fun _ _ h => s6.seqT h) (rl_trees rl5)) hvl) (zo.sm _ _ s6 tb5)
structure RdM (P : Program) (w : World) (K : PySem.W.Frag) (mg : Str → Option Value) (C N : Addr) : Prop where
  tn : ∀ base : Heap, MtX P w K mg base C 3 "take_name" ["self"] (spTakeN C N)
  an : ∀ base : Heap, Mt P w K mg base C 2 "at_number" ["self"] (spAt C numL)
  ti : ∀ base : Heap, MtX P w K mg base C 3 "take_number" ["self"] (spTakeI C N)
  en : ∀ base : Heap, MtX P w K mg base C 2 "need_end" ["self"] (spEnd C N)
  ib : ∃ (fI : Addr) (fdI : FuncData), Meth K C "in_brackets" fI ∧ Binds K fdI ["self", "take_one"] [] ∧ ∀ (T : Addr) (k : Nat) (g : Heap), FnOk P w K mg g (CX1 P w) (k + 3) fI fdI ["self", "take_one"] (spInX P w K mg C [T] (Z1 T) (RvT K) N (k + 2) g)
theorem all_treeF (F : Fun K "tree_from" "tree_from" sTreeF f fd) (Rx : Rs K mg "NoText" N) (G : Gm2 mg) (hn : PySem.W.nsIn K mainGlobals "tree_from" = some (some (.ref f))) (hTb : PySem.W.tabIn K "tree_from" = some (c, T)) (hC : PySem.W.codeHdIn K c T = true) (TT : RdT K mg C) (M : RdM P w K mg C N) (hb : Binds K fd ["reader", "room"] []) (hm : mg "tree_from" = some (.ref f)) : ∀ (n : Nat) (g : Heap), BtAt mg g → FnOk P w K mg g (CX1 P w) (3 * n + 4) f fd ["reader", "room"] (spTreeF K C T N n)
  | 0, _, _ => ok_treeF0 F Rx G
  | n + 1, g, hB => by
    obtain ⟨fI, fdI, mI, bI, FI⟩ := M.ib
    exact ok_treeF F hn hTb hC hB TT (M.tn g) (M.an g) (M.ti g) mI bI (fun g => FI T (3 * n + 3) g) fun g' hB' => ⟨⟨f, fd, all_treeF F Rx G hn hTb hC TT M hb hm n g' hB', hb, F.kp, hm⟩⟩
end
end K6
namespace L2
open PySem PySem.Builtin PySem.Builtin.Str
theorem fold_le {q : Nat} : ∀ (l : List Nat) (n : Nat), (∀ c ∈ l, (reprChar q c).length ≤ 2) → l.foldl (fun n c => n + (reprChar q c).length) n ≤ n + 2 * l.length
  | [], n, _ => by simp
  | c :: r, n, h => by
    have h1 := h c List.mem_cons_self
    have h2 := fold_le r (n + (reprChar q c).length) fun d hd => h d (List.mem_cons_of_mem _ hd)
    simp only [List.foldl_cons, List.length_cons]
    omega
theorem rep_len {x : PySem.Str} (h : ∀ c ∈ x.cps.toList, ∀ q, (reprChar q c).length ≤ 2) : (reprText x).length ≤ 2 * x.length + 2 := by
  have h1 := foldl_repr_eq (reprQuote x) x.cps.toList #[reprQuote x] 0
  have h2 := fold_le (q := reprQuote x) x.cps.toList 0 fun c hc => h c hc _
  show ((x.cps.foldl (fun out c => out ++ (reprChar (reprQuote x) c).toArray) #[reprQuote x]).push (reprQuote x)).size ≤ 2 * x.cps.size + 2
  rw [Array.size_push, ← Array.foldl_toList]
  have e1 : (#[reprQuote x] : Array Nat).size = 1 := rfl
  have e2 : x.cps.toList.length = x.cps.size := Array.length_toList
  omega
theorem rep_char {c : Nat} (h : Unicode.isPrintable c = true) (q : Nat) : (reprChar q c).length ≤ 2 := by
  unfold reprChar
  dsimp only
  split
  · simp
  split
  · simp
  split
  · simp
  split
  · simp
  simp [h]
end L2
namespace K6
open PySem L2 K3 TM
theorem tr_open {K : PySem.W.Frag} {H : Hp} {v : V} {t : TM.Tree Str} (h : TrV K H v t) : ∃ a b vs name mark, v = .ref a ∧ t = .node name mark t.bs ∧ SqT K H a [.str name, .int mark, .ref b] ∧ SqT K H b vs ∧ TrAll K H vs t.bs ∧ vs.length ≤ 1000 := by
  cases h with
  | mk h1 h2 h3 h4 => exact ⟨_, _, _, _, _, rfl, rfl, h1, h2, h3, h4⟩
def spSize (K : PySem.W.Frag) (n : Nat) : Sp := fun vs H Q _ => ∃ (v : V) (t : Tree Str), vs = [v] ∧ TrV K H v t ∧ lv t ≤ n ∧ sz t ≤ 1000 ∧ ∀ H', Same H H' → Q (.int (sz t : Int)) H'
theorem prt : ∀ c ∈ letL ++ figL ++ sgnL ++ [45], Unicode.isPrintable c = true := by decide +kernel
theorem word_chars {w : List Nat} (h : Word w) : ∀ c ∈ w, c ∈ letL ++ figL ++ sgnL ++ [45] := by
  intro c hc
  simp only [List.mem_append]
  cases h with
  | sign h => obtain rfl := List.mem_singleton.mp hc; exact .inl (.inr h)
  | name h1 h2 h3 => exact .inl (.inl (.inl (h3 c hc)))
  | num h => exact .inl (.inl (.inr (h.all c hc)))
  | neg h hn =>
    rcases List.mem_cons.mp hc with rfl | hc
    · exact .inr List.mem_cons_self
    · exact .inl (.inl (.inr (h.all c hc)))
theorem word_rep {w : List Nat} (h : Word w) : (reprText (S w)).length ≤ 1000 := by
  have := rep_len (x := S w) fun c hc q => rep_char (prt c (word_chars h c (by rw [S_list] at hc; exact hc))) q
  have h2 := h.len
  rw [S_len] at this
  omega
theorem fig_dig : ∀ c ∈ figL, 48 ≤ c ∧ c ≤ 57 := by decide
theorem num_no : ∀ c ∈ letL ++ sgnL, c ∉ numL := by decide
theorem word_num {w : List Nat} (h : Word w) (hb : beg w numL = true) : ∃ i, intText? (S w) = some i := by
  cases h with
  | @sign c h =>
    have : c ∈ numL := of_decide_eq_true hb
    exact absurd this (num_no c (List.mem_append_right _ h))
  | name h1 h2 h3 =>
    cases w with
    | nil => exact absurd rfl h1
    | cons c r =>
      have : c ∈ numL := of_decide_eq_true hb
      exact absurd this (num_no c (List.mem_append_left _ (h3 c List.mem_cons_self)))
  | num h => exact ⟨_, intText_digits (x := S w) (by rw [S_list]; exact fun c hc => fig_dig c (h.all c hc)) (by rw [S_list]; exact h.ne) (by rw [S_len]; have := h.len; omega)⟩
  | @neg v h hn => exact ⟨_, intText_neg (x := S (45 :: v)) (cs := v) (S_list _) (fun c hc => fig_dig c (h.all c hc)) h.ne (by rw [S_len]; have := h.len; simp only [List.length_cons]; omega)⟩
theorem loop_by {α : Type} {ws : List (List Nat)} {p : Nat → Option (α × Nat)} {Pr : α → Prop} {sz : α → Nat} (h : ∀ m x m', p m = some (x, m') → Pr x ∧ sz x + m ≤ m') : ∀ (f m : Nat) (xs : List α) (m' : Nat), loopP ws p f m = some (xs, m') → (∀ x ∈ xs, Pr x) ∧ (xs.map sz).sum + m ≤ m'
  | 0, m, xs, m', e => by cases e
  | f + 1, m, xs, m', e => by
    unfold loopP at e
    split at e
    · cases e
      exact ⟨fun x hx => (nomatch hx), by simp⟩
    · cases q : p m with
      | none => rw [q] at e; cases e
      | some y =>
        obtain ⟨x0, m0⟩ := y
        obtain ⟨a, b⟩ := h m x0 m0 q
        rw [q] at e
        simp only [Option.map_eq_some_iff] at e
        obtain ⟨⟨xs2, m2⟩, h1, h2⟩ := e
        cases h2
        obtain ⟨c, d⟩ := loop_by h f m0 xs2 m2 h1
        refine ⟨fun x hx => ?_, by dsimp only; rw [List.map_cons, List.sum_cons]; omega⟩
        rcases List.mem_cons.mp hx with rfl | hx
        · exact a
        · exact c x hx
theorem inb_by {α : Type} {ws : List (List Nat)} {p : Nat → Option (α × Nat)} {Pr : α → Prop} {sz : α → Nat} (h : ∀ m x m', p m = some (x, m') → Pr x ∧ sz x + m ≤ m') {m : Nat} {xs : List α} {m' : Nat} (e : inbP ws p m = some (xs, m')) : (∀ x ∈ xs, Pr x) ∧ (xs.map sz).sum + m ≤ m' := by
  unfold inbP at e
  split at e
  · cases q : p (m + 1) with
    | none => rw [q] at e; cases e
    | some y =>
      obtain ⟨x0, m0⟩ := y
      obtain ⟨a, b⟩ := h _ x0 m0 q
      rw [q] at e
      simp only [Option.map_eq_some_iff] at e
      obtain ⟨⟨xs2, m2⟩, h1, h2⟩ := e
      cases h2
      obtain ⟨c, d⟩ := loop_by h _ m0 xs2 m2 h1
      refine ⟨fun x hx => ?_, by dsimp only; rw [List.map_cons, List.sum_cons]; omega⟩
      rcases List.mem_cons.mp hx with rfl | hx
      · exact a
      · exact c x hx
  · cases e
    exact ⟨fun x hx => (nomatch hx), by simp⟩
theorem lvs_all {n : Nat} : ∀ {ts : List (Tree Str)}, (∀ t ∈ ts, lv t ≤ n) → lvs ts ≤ n
  | [], _ => by rw [lvs]; omega
  | t :: r, h => by
    have h1 := h t List.mem_cons_self
    have h2 := lvs_all fun u hu => h u (List.mem_cons_of_mem _ hu)
    rw [lvs]; omega
theorem szs_sum : ∀ ts : List (Tree Str), szs ts = (ts.map sz).sum
  | [] => by rw [szs]; rfl
  | t :: r => by rw [szs, szs_sum r, List.map_cons, List.sum_cons]
theorem tree_by (ws : List (List Nat)) : ∀ n m t m', treeP ws n m = some (t, m') → lv t ≤ n ∧ sz t + m ≤ m'
  | 0, m, t, m', h => by cases h
  | n + 1, m, t, m', h => by
    unfold treeP at h
    split at h
    · rename_i hb
      have hm := ah_lt (ws := ws) (m := m) rfl (beg_ne hb)
      obtain ⟨h1, h2⟩ := mkP_le (ws := ws) (m := m + 1) hm
      simp only [Option.map_eq_some_iff] at h
      obtain ⟨⟨xs, m2⟩, h3, h4⟩ := h
      cases h4
      obtain ⟨a, b⟩ := inb_by (Pr := fun t => lv t ≤ n) (sz := sz) (fun m x m' => tree_by ws n m x m') h3
      dsimp only
      rw [lv, sz, szs_sum]
      have := lvs_all a
      exact ⟨by omega, by omega⟩
    · cases h
def readP (ws : List (List Nat)) : Option (Tree Str) := match treeP ws 40 0 with
  | none => none
  | some (t, m) => if m = ws.length ∧ sz t ≤ 200 then some t else none
def SXT (Ts : List Addr) (H H' : Hp) : Prop := ∀ b u, b ∉ Ts → H b = some u → H' b = some u
theorem SXT.trans {Ts : List Addr} {H H1 H2 : Hp} (a : SXT Ts H H1) (b : SXT Ts H1 H2) : SXT Ts H H2 := fun c u n e => b c u n (a c u n e)
theorem SXT.of {Ts : List Addr} {H H' : Hp} (g : Same H H') : SXT Ts H H' := fun b u _ e => g b u e
def spRead (K : PySem.W.Frag) (T N : Addr) : Sp := fun vs H Q E => ∃ (z : List Nat) (ws : List (List Nat)), vs = [.str (S z)] ∧ z.length ≤ 9000 ∧ Writ z ws ∧ ws.length ≤ 1000 ∧ Z1 T H ∧
  (∀ t, readP ws = some t → ∀ (v : V) (H' : Hp), SXT [T] H H' → TrV K H' v t → Z1 T H' → Q v H') ∧ (readP ws = none → ∀ H', SXT [T] H H' → Z1 T H' → E (.ref N) none H')
section
variable {P : Program} {w : World} {K : PySem.W.Frag} {mg : Str → Option Value} {base : Heap} {f : Addr} {fd : FuncData} {C T N : Addr}
theorem scSize : FnScope ["tree"] ["tree"] (defScope sSize) := ⟨rfl, rfl, rfl, by decide +kernel, rfl, by decide +kernel, by decide +kernel⟩
theorem ok_size {n : Nat} (F : Fun K "size" "size" sSize f fd) (G : Gm mg) (R : Fn P w K mg base n "size" ["tree"] (spSize K n)) : FnOk P w K mg base CX0 (n + 1) f fd ["tree"] (spSize K (n + 1)) := by
  refine F.ok scSize (fun vs H Q E h => ?_) (fun cdv A outer s H vs Q E hr h => ?_)
  · obtain ⟨v, t, rfl, _⟩ := h
    rfl
  obtain ⟨v, t, rfl, ht, hlv, hsz, q⟩ := h
  refine ⟨_, (pss_one (ps_ret (pe_op op_add pe_int (pe_callB (call_sum rfl) rfl G.sum PyProof.Rows.boot_sum (pa_cons (pe_lcomp (CompOk.plain rfl (by decide +kernel) (by decide +kernel) (by decide +kernel)) rfl (pi_tup (pe_ix ix_tup (pv 0) pe_int (fun _ _ => rfl))) (fun _ _ _ _ => pf_nil) (fun _ _ _ _ => pe_fn R hr (pa_cons (pv 0) pa_nil) (Nat.le_refl _))) pa_nil))))), ?_⟩
  obtain ⟨a, b, bs, name, mark, rfl, et, h1, h2, h3, hbl⟩ := tr_open ht
  have hlen := h3.length
  rw [lv_bs] at hlv
  rw [sz_bs] at hsz q
  refine ⟨_, rfl, a, _, 2, _, rfl, rfl, h1, rfl, b, rfl, ⟨_, h2⟩, fun acc hacc => ?_⟩
  refine comp_tup (K := K) (xs := bs) (tt := fun _ H Q => Q true H) (te := tCall (spSize K n) [] E0 (tCons (tVar 0) tNil)) (cs := []) (fun i ys H' => H' acc = some (.lst ys) ∧ Same H H' ∧ ys = ((t.bs.take i).map fun u => (sz u : Int)).map V.int)
    ⟨upd_same, same_new hacc _, rfl⟩ ?_ ?_ ?_
  · rintro i ys H' _ ⟨_, g, _⟩
    exact g.seqT h2
  · rintro i x ys H' hi hx ⟨hya, g, rfl⟩
    obtain ⟨c, hc⟩ : ∃ c, t.bs[i]? = some c := ⟨_, List.getElem?_eq_getElem (by omega)⟩
    obtain ⟨cv, hcv, hct⟩ := h3.get hc
    obtain rfl : cv = x := Option.some.inj (hcv.symm.trans hx)
    have hm := List.mem_of_getElem? hc
    have a1 := lv_le hm
    have a2 := sz_le hm
    refine iteT ⟨_, rfl, cv, c, rfl, hct.mono fun _ _ => g.seqT, by omega, by omega, fun H4 g4 => ?_⟩
    refine comp_next hi (g4 _ _ hya) (by rw [List.length_map, List.length_map, List.length_take]; omega) ⟨upd_same, fun x u e => ?_, ?_⟩
    · rw [upd_ne (ne_of_none e hacc)]; exact g4 _ _ (g _ _ e)
    · rw [List.take_add_one, hc]; simp
  rintro ys H1 ⟨hya, g, rfl⟩
  have et2 : t.bs.take bs.length = t.bs := List.take_of_length_le (by omega)
  rw [et2] at hya
  refine ⟨acc, _, rfl, SqL.of hya, ⟨fun m hm => ?_, ?_⟩, _, _, rfl, rfl, ?_⟩
  · obtain ⟨u, _, rfl⟩ := List.mem_map.mp hm
    omega
  · rw [szs_map]; omega
  · rw [szs_map]
    exact q H1 g
theorem none_size : FnOk P w K mg base CX0 0 f fd ["tree"] (spSize K 0) := by
  have no : ∀ vs H Q E, ¬ spSize K 0 vs H Q E := fun vs H Q E h => by
    obtain ⟨v, t, _, _, h0, _⟩ := h
    rw [lv_bs] at h0; omega
  exact ⟨fun vs H Q E h => absurd h (no vs H Q E), fun A outer s H args us vs Q E _ _ _ _ h => absurd h (no vs H Q E)⟩
theorem all_size (F : Fun K "size" "size" sSize f fd) (G : Gm mg) (hb : Binds K fd ["tree"] []) (hm : mg "size" = some (.ref f)) : ∀ n : Nat, FnOk P w K mg base CX0 n f fd ["tree"] (spSize K n)
  | 0 => none_size
  | n + 1 => ok_size F G ⟨f, fd, all_size F G hb hm n, hb, F.kp, hm⟩
theorem scRead : FnScope ["text", "reader", "tree"] ["text"] (defScope sRead) := ⟨rfl, rfl, rfl, by decide +kernel, rfl, by decide +kernel, by decide +kernel⟩
theorem ok_read {fI : Addr} {fdI : FuncData} (F : Fun K "read_tree" "read_tree" sRead f fd) (R : Rs K mg "NoText" N) (G : Gm2 mg) (TT : RdT K mg C) (mkI : Mk K C fI) (FI : FnOk P w K mg base CX0 6 fI fdI ["self", "text"] (spInit C)) (bI : Binds K fdI ["self", "text"] []) (ME : MtX P w K mg base C 2 "need_end" ["self"] (spEnd C N)) (RT : FnX P w K mg base 124 "tree_from" ["reader", "room"] (spTreeF K C T N 40)) (RS : Fn P w K mg base 40 "size" ["tree"] (spSize K 40)) : FnOk P w K mg base (CX1 P w) 125 f fd ["text"] (spRead K T N) := by
  obtain ⟨tl, hl⟩ := G.lv
  obtain ⟨tn, hn⟩ := G.nm
  refine Fun.okX F scRead (fun vs H Q E h => ?_) (fun cdv A outer s H vs Q E hr h => ?_)
  · obtain ⟨z, ws, rfl, _⟩ := h
    rfl
  obtain ⟨z, ws, rfl, hz, hw, h1k, tb, q1, q2⟩ := h
  have hr7 : Room 7 _ := hr.mono (by decide)
  refine ⟨_, (pss_cons (ps_set (i := 1) scRead.nd rfl (Or.inl rfl) (pe_make mkI FI hr7 rfl TT.mgC bI .nil pass0 (pa_cons (pv 0) pa_nil)))
    (pss_cons (ps_set (i := 2) scRead.nd rfl (Or.inl rfl) (pe_fnX (EE := fun _ => E) RT hr (passE fun _ _ h => h) (pa_cons (pv 1) (pa_cons (pe_glob (v := .int 40) rfl hl ⟨_, rfl⟩) pa_nil))))
    (pss_cons (ps_expr (pe_mtX0 (EE := fun _ => E) ME TT.cl hr (passE fun _ _ h => h) (pv 1)))
    (pss_cons (ps_if (pt_cmpR op_gt (pe_fn RS hr (pa_cons (pv 2) pa_nil)) (pe_glob (v := .int 200) rfl hn ⟨_, rfl⟩) (nomark _)) (pss_one (ps_raise R.hm R.hq PySem.F.excBase_ValueError (by decide) (pa_cons (pe_join3 pe_str (pe_fint (pe_glob (v := .int 200) rfl hn ⟨_, rfl⟩)) pe_str) pa_nil))) pss_nil)
    (pss_one (ps_ret (pv 2))))))), ?_⟩
  have hW : WsOk ws := ⟨h1k, fun u hu => (hw.words u hu).len, fun u hu hb => word_num (hw.words u hu) hb⟩
  have zo := z1_ok T
  refine ⟨_, rfl, fun r dx hr0 hdx0 hne => ?_⟩
  have s1 : Same H (upd (upd H dx (.own r)) r (.ins C dx [])) := fun b u e => by rw [upd_ne (ne_of_none e hr0), upd_ne (ne_of_none e hdx0)]; exact e
  have hx1 : upd (upd H dx (.own r)) r (.ins C dx []) r = some (.ins C dx []) := upd_same
  generalize upd (upd H dx (.own r)) r (.ins C dx []) = H1 at s1 hx1
  refine ⟨r, dx, z, ws, rfl, hx1, hz, hw, fun l H2 g2 hR2 => ⟨rfl, ?_⟩⟩
  have tb2 : Z1 T H2 := zo.ins _ _ r C dx _ hx1 g2 (zo.sm _ _ s1 tb)
  have x2 : SXT [T] H H2 := fun b u n e => g2 _ _ (ne_of_none e hr0) (s1 _ _ e)
  have x0 : ∀ {H3 : Hp}, SXs [T] r H2 H3 → SXT [T] H H3 := fun {H3} x b u n e => x _ _ n (ne_of_none e hr0) (x2 _ _ n e)
  refine ⟨_, rfl, r, l, ws, 0, rfl, hR2, hW, Nat.zero_le _, tb2, fun t m ht v H3 x3 hR3 tv3 tb3 => ?_, fun ht H3 x3 tb3 => q2 (by rw [readP, ht]) H3 (x0 x3) tb3⟩
  obtain ⟨hlv, hsz⟩ := tree_by ws 40 0 t m ht
  obtain ⟨_, hm⟩ := (tree_gd ws 40).on _ _ _ ht
  obtain ⟨dx3, hx3⟩ := hR3.ins
  refine ⟨_, rfl, r, dx3, _, rfl, hx3, rfl, r, l, ws, m, rfl, hR3, hm, fun u hu => ⟨(hw.words u hu).ne, word_rep (hw.words u hu)⟩, fun hme => ?_, fun hlt => q2 (by rw [readP, ht]; simp only []; rw [if_neg (by omega)]) H3 (x0 x3) tb3⟩
  refine ⟨_, rfl, v, t, rfl, tv3, hlv, by omega, fun H4 g4 => ?_⟩
  by_cases h2 : sz t ≤ 200
  · exact ⟨_, _, rfl, rfl, _, rfl, iteN (by omega) ⟨_, rfl, q1 t (by rw [readP, ht]; simp only []; rw [if_pos ⟨hme, h2⟩]) v H4 ((x0 x3).trans (SXT.of g4)) (tv3.mono fun _ _ => g4.seqT) (zo.sm _ _ g4 tb3)⟩⟩
  · exact ⟨_, _, rfl, rfl, _, rfl, iteP (by omega) ⟨_, rfl, by decide +kernel, 200, rfl, by decide +kernel, _, rfl, by decide +kernel, _, rfl, by decide +kernel, (by show 1 ≤ sizeLine; decide), q2 (by rw [readP, ht]; simp only []; rw [if_neg (by omega)]) H4 ((x0 x3).trans (SXT.of g4)) (zo.sm _ _ g4 tb3)⟩⟩
end
end K6
namespace K6
open PySem L2 K3 TM
abbrev Hd := Str × Int
def finR : List Hd → List (Tree Str) → Option (Tree Str)
  | [], [t] => some t
  | _, _ => none
def downR (k : List Hd → List (Tree Str) → List (List (Tree Str)) → Option (Tree Str)) : List Hd → List (Tree Str) → List (List (Tree Str)) → Option (Tree Str)
  | h :: hs', p :: P', Q :: R' => k hs' (Q ++ [.node h.1 h.2 (p :: P')]) R'
  | _, _, _ => none
def run (ws : List (List Nat)) : Nat → List Hd → List (Tree Str) → List (List (Tree Str)) → Nat → Option (Tree Str)
  | 0, _, _, _, _ => none
  | f + 1, hs, P, R, m =>
    if m < ws.length then
      if beg (ah ws m) letL = true then
        if ah ws (mkP ws (m + 1)).2 = [40] then run ws f ((S (ah ws m), (mkP ws (m + 1)).1) :: hs) [] (P :: R) ((mkP ws (m + 1)).2 + 1)
        else run ws f hs (P ++ [.node (S (ah ws m)) (mkP ws (m + 1)).1 []]) R (mkP ws (m + 1)).2
      else if ah ws m = [41] then downR (fun a b c => run ws f a b c (m + 1)) hs P R
      else none
    else finR hs P
theorem run_fuel (ws : List (List Nat)) : ∀ (f f' : Nat) (hs : List Hd) (P : List (Tree Str)) (R : List (List (Tree Str))) (m : Nat), ws.length < f + m → ws.length < f' + m → m ≤ ws.length → run ws f hs P R m = run ws f' hs P R m
  | 0, f', hs, P, R, m, h, _, hm => by omega
  | f + 1, 0, hs, P, R, m, _, h, hm => by omega
  | f + 1, f' + 1, hs, P, R, m, h1, h2, hm => by
    unfold run
    split
    · rename_i hlt
      split
      · rename_i hb
        obtain ⟨k1, k2⟩ := mkP_le (ws := ws) (m := m + 1) hlt
        split
        · rename_i h40
          have := ah_lt h40 (by decide)
          exact run_fuel ws f f' _ _ _ _ (by omega) (by omega) (by omega)
        · exact run_fuel ws f f' _ _ _ _ (by omega) (by omega) k2
      · split
        · cases hs with
          | nil => rfl
          | cons h hs =>
            cases P with
            | nil => rfl
            | cons p P =>
              cases R with
              | nil => rfl
              | cons Q R => exact run_fuel ws f f' _ _ _ _ (by omega) (by omega) (by omega)
        · rfl
    · rfl
def R0 (ws : List (List Nat)) (hs : List Hd) (P : List (Tree Str)) (R : List (List (Tree Str))) (m : Nat) : Option (Tree Str) := run ws (ws.length + 1) hs P R m
section
variable {ws : List (List Nat)} {hs : List Hd} {P : List (Tree Str)} {R : List (List (Tree Str))} {m : Nat}
theorem R0_up (h : m < ws.length) (hb : beg (ah ws m) letL = true) (h4 : ah ws (mkP ws (m + 1)).2 = [40]) : R0 ws hs P R m = R0 ws ((S (ah ws m), (mkP ws (m + 1)).1) :: hs) [] (P :: R) ((mkP ws (m + 1)).2 + 1) := by
  obtain ⟨k1, k2⟩ := mkP_le (ws := ws) (m := m + 1) h
  have := ah_lt h4 (by decide)
  unfold R0
  rw [run, if_pos h, if_pos hb, if_pos h4]
  exact run_fuel ws _ _ _ _ _ _ (by omega) (by omega) (by omega)
theorem R0_leaf (h : m < ws.length) (hb : beg (ah ws m) letL = true) (h4 : ah ws (mkP ws (m + 1)).2 ≠ [40]) : R0 ws hs P R m = R0 ws hs (P ++ [.node (S (ah ws m)) (mkP ws (m + 1)).1 []]) R (mkP ws (m + 1)).2 := by
  obtain ⟨k1, k2⟩ := mkP_le (ws := ws) (m := m + 1) h
  unfold R0
  rw [run, if_pos h, if_pos hb, if_neg h4]
  exact run_fuel ws _ _ _ _ _ _ (by omega) (by omega) (by omega)
theorem let41 : beg [41] letL = false := by decide
theorem R0_down {h : Hd} {p : Tree Str} {Q : List (Tree Str)} (hm : ah ws m = [41]) : R0 ws (h :: hs) (p :: P) (Q :: R) m = R0 ws hs (Q ++ [.node h.1 h.2 (p :: P)]) R (m + 1) := by
  have hlt := ah_lt hm (by decide)
  unfold R0
  rw [run, if_pos hlt, if_neg (by rw [hm, let41]; decide), if_pos hm]
  exact run_fuel ws _ _ _ _ _ _ (by omega) (by omega) (by omega)
theorem R0_no (h : m < ws.length) (hb : beg (ah ws m) letL = false) (h4 : ah ws m = [41] → hs = [] ∨ P = [] ∨ R = []) : R0 ws hs P R m = none := by
  unfold R0
  rw [run, if_pos h, if_neg (by rw [hb]; decide)]
  split
  · rename_i h41
    rcases h4 h41 with rfl | rfl | rfl
    · rfl
    · cases hs <;> rfl
    · cases hs with
      | nil => rfl
      | cons h hs => cases P <;> rfl
  · rfl
theorem R0_end (h : ¬ m < ws.length) : R0 ws hs P R m = finR hs P := by
  unfold R0
  rw [run, if_neg h]
end
def Stk (ws : List (List Nat)) (hs : List Hd) (P : List (Tree Str)) (R : List (List (Tree Str))) (m : Nat) : Prop := R.length = hs.length ∧ (match R.getLast? with
  | none => 1 ≤ P.length ∧ (m < ws.length ∨ 2 ≤ P.length)
  | some B => 1 ≤ B.length)
theorem getLast_cons {α : Type} (a : α) (l : List α) : (a :: l).getLast? = some ((l.getLast?).getD a) := by
  cases l with
  | nil => rfl
  | cons b l => rw [List.getLast?_cons_cons]; cases e : (b :: l).getLast? with
    | none => simp at e
    | some c => rfl
theorem stk_none (ws : List (List Nat)) : ∀ (f : Nat) (hs : List Hd) (P : List (Tree Str)) (R : List (List (Tree Str))) (m : Nat), Stk ws hs P R m → run ws f hs P R m = none
  | 0, _, _, _, _, _ => rfl
  | f + 1, hs, P, R, m, h => by
    obtain ⟨hl, h⟩ := h
    unfold run
    split
    · rename_i hlt
      split
      · rename_i hb
        split
        · refine stk_none ws f _ _ _ _ ⟨by simp [hl], ?_⟩
          rw [getLast_cons]
          cases e : R.getLast? with
          | none => rw [e] at h; exact h.1
          | some B => rw [e] at h; exact h
        · refine stk_none ws f _ _ _ _ ⟨hl, ?_⟩
          cases e : R.getLast? with
          | none => rw [e] at h; exact ⟨by rw [List.length_append]; omega, .inr (by rw [List.length_append, List.length_singleton]; omega)⟩
          | some B => rw [e] at h; exact h
      · split
        · cases hs with
          | nil => rfl
          | cons hd hs =>
            cases P with
            | nil => rfl
            | cons p P =>
              cases R with
              | nil => rfl
              | cons Q R =>
                refine stk_none ws f _ _ _ _ ⟨by simpa using hl, ?_⟩
                rw [getLast_cons] at h
                cases e : R.getLast? with
                | none =>
                  rw [e] at h
                  have h' : 1 ≤ Q.length := h
                  exact ⟨by rw [List.length_append]; omega, .inr (by rw [List.length_append, List.length_singleton]; omega)⟩
                | some B => rw [e] at h; exact h
        · rfl
    · rename_i hlt
      cases hs with
      | nil =>
        have : R = [] := List.length_eq_zero_iff.mp (by simpa using hl)
        subst this
        obtain ⟨h1, h2⟩ := h
        have h3 : 2 ≤ P.length := by omega
        match P, h3 with
        | a :: b :: r, _ => rfl
      | cons hd hs => cases P <;> rfl
def cnt (ws : List (List Nat)) (m : Nat) : Nat := ((ws.drop m).filter fun w => beg w letL).length
theorem cnt_le {ws : List (List Nat)} {m m' : Nat} (h : m ≤ m') : cnt ws m' ≤ cnt ws m := by
  unfold cnt
  obtain ⟨d, rfl⟩ : ∃ d, m' = m + d := ⟨m' - m, by omega⟩
  rw [← List.drop_drop]
  exact (List.Sublist.filter _ (List.drop_sublist _ _)).length_le
theorem cnt_nm {ws : List (List Nat)} {m : Nat} (h : m < ws.length) (hb : beg (ah ws m) letL = true) : cnt ws (m + 1) + 1 = cnt ws m := by
  unfold cnt
  rw [List.drop_eq_getElem_cons h, List.filter_cons, if_pos (by
    have e : ah ws m = ws[m] := by unfold ah; rw [List.getElem?_eq_getElem h]; rfl
    rw [← e]; exact hb)]
  rfl
structure Same2 (ws : List (List Nat)) (n : Nat) : Prop where
  yes : ∀ m P R hs t m', cnt ws m < n → treeP ws n m = some (t, m') → R0 ws hs P R m = R0 ws hs (P ++ [t]) R m'
  no : ∀ m P R hs, m ≤ ws.length → cnt ws m < n → (hs ≠ [] ∨ P = []) → (ah ws m = [41] → P = [] ∨ hs = []) → treeP ws n m = none → R0 ws hs P R m = none
theorem loop_same {ws : List (List Nat)} {n : Nat} (h : Same2 ws n) : ∀ (f m : Nat) (p : Tree Str) (P Q : List (Tree Str)) (R : List (List (Tree Str))) (hd : Hd) (hs : List Hd), m ≤ ws.length → ws.length < f + m → cnt ws m < n →
    (∀ xs m', loopP ws (treeP ws n) f m = some (xs, m') → R0 ws (hd :: hs) (p :: P) (Q :: R) m = R0 ws hs (Q ++ [.node hd.1 hd.2 (p :: P ++ xs)]) R m') ∧ (loopP ws (treeP ws n) f m = none → R0 ws (hd :: hs) (p :: P) (Q :: R) m = none)
  | 0, m, p, P, Q, R, hd, hs, h1, h2, h3 => by omega
  | f + 1, m, p, P, Q, R, hd, hs, h1, h2, h3 => by
    unfold loopP
    by_cases h41 : ah ws m = [41]
    · rw [if_pos h41]
      refine ⟨fun xs m' e => ?_, fun e => (by cases e)⟩
      cases e
      rw [R0_down h41, List.append_nil]
    · rw [if_neg h41]
      cases q : treeP ws n m with
      | none => exact ⟨fun xs m' e => (by cases e), fun _ => h.no m _ _ _ h1 h3 (.inl (by simp)) (fun z => absurd z h41) q⟩
      | some y =>
        obtain ⟨x, m0⟩ := y
        obtain ⟨a, b⟩ := (tree_gd ws n).on _ _ _ q
        have e1 := h.yes m (p :: P) (Q :: R) (hd :: hs) x m0 h3 q
        obtain ⟨i1, i2⟩ := loop_same h f m0 p (P ++ [x]) Q R hd hs b (by omega) (Nat.lt_of_le_of_lt (cnt_le (Nat.le_of_lt a)) h3)
        refine ⟨fun xs m' e => ?_, fun e => ?_⟩
        · simp only [Option.map_eq_some_iff] at e
          obtain ⟨⟨xs2, m2⟩, h4, h5⟩ := e
          cases h5
          rw [e1]
          show R0 ws (hd :: hs) (p :: (P ++ [x])) (Q :: R) m0 = _
          rw [i1 _ _ h4]
          simp
        · simp only [Option.map_eq_none_iff] at e
          rw [e1]
          exact i2 e
theorem same_all (ws : List (List Nat)) : ∀ n, Same2 ws n
  | 0 => ⟨fun m P R hs t m' h e => (by cases e), fun m P R hs h1 h2 => (by omega)⟩
  | n + 1 => by
    have ih := same_all ws n
    refine ⟨fun m P R hs t m' hr e => ?_, fun m P R hs hm hr h1 h2 e => ?_⟩
    · unfold treeP at e
      split at e
      · rename_i hb
        have hlt := ah_lt (ws := ws) (m := m) rfl (beg_ne hb)
        obtain ⟨k1, k2⟩ := mkP_le (ws := ws) (m := m + 1) hlt
        have hcn := cnt_nm hlt hb
        have hcl : ∀ m', m + 1 ≤ m' → cnt ws m' < n := fun m' h => by have := cnt_le (ws := ws) h; omega
        simp only [Option.map_eq_some_iff] at e
        obtain ⟨⟨xs, m2⟩, h3, h4⟩ := e
        cases h4
        dsimp only
        unfold inbP at h3
        by_cases h40 : ah ws (mkP ws (m + 1)).2 = [40]
        · rw [if_pos h40] at h3
          rw [R0_up hlt hb h40]
          cases q : treeP ws n ((mkP ws (m + 1)).2 + 1) with
          | none => rw [q] at h3; cases h3
          | some y =>
            obtain ⟨x0, m0⟩ := y
            rw [q] at h3
            obtain ⟨a, b⟩ := (tree_gd ws n).on _ _ _ q
            simp only [Option.map_eq_some_iff] at h3
            obtain ⟨⟨xs2, m3⟩, h5, h6⟩ := h3
            cases h6
            rw [ih.yes _ [] (P :: R) _ x0 m0 (hcl _ (by omega)) q]
            exact (loop_same ih (ws.length + 1) m0 x0 [] P R _ hs b (by omega) (hcl _ (by omega))).1 _ _ h5
        · rw [if_neg h40] at h3
          cases h3
          exact R0_leaf hlt hb h40
      · cases e
    · unfold treeP at e
      by_cases hb : beg (ah ws m) letL = true
      · rw [if_pos hb] at e
        have hlt := ah_lt (ws := ws) (m := m) rfl (beg_ne hb)
        obtain ⟨k1, k2⟩ := mkP_le (ws := ws) (m := m + 1) hlt
        have hcn := cnt_nm hlt hb
        have hcl : ∀ m', m + 1 ≤ m' → cnt ws m' < n := fun m' h => by have := cnt_le (ws := ws) h; omega
        simp only [Option.map_eq_none_iff] at e
        unfold inbP at e
        by_cases h40 : ah ws (mkP ws (m + 1)).2 = [40]
        · rw [if_pos h40] at e
          have hl40 := ah_lt h40 (by decide)
          rw [R0_up hlt hb h40]
          cases q : treeP ws n ((mkP ws (m + 1)).2 + 1) with
          | none => exact ih.no _ _ _ _ hl40 (hcl _ (by omega)) (.inr rfl) (fun _ => .inl rfl) q
          | some y =>
            obtain ⟨x0, m0⟩ := y
            rw [q] at e
            obtain ⟨a, b⟩ := (tree_gd ws n).on _ _ _ q
            simp only [Option.map_eq_none_iff] at e
            rw [ih.yes _ [] (P :: R) _ x0 m0 (hcl _ (by omega)) q]
            exact (loop_same ih (ws.length + 1) m0 x0 [] P R _ hs b (by omega) (hcl _ (by omega))).2 e
        · rw [if_neg h40] at e
          cases e
      · have hb' : beg (ah ws m) letL = false := by simpa using hb
        rcases Nat.lt_or_ge m ws.length with hlt | hge
        · refine R0_no hlt hb' fun z => ?_
          rcases h2 z with z | z
          · exact .inr (.inl z)
          · exact .inl z
        · rw [R0_end (Nat.not_lt.mpr hge)]
          rcases h1 with h1 | h1
          · cases hs with
            | nil => exact absurd rfl h1
            | cons a b => rfl
          · subst h1
            cases hs <;> rfl
theorem run_read {ws : List (List Nat)} (h : cnt ws 0 < 40) (h2 : ws.length ≤ 200) : R0 ws [] [] [] 0 = readP ws := by
  have hs := same_all ws 40
  unfold readP
  cases q : treeP ws 40 0 with
  | none => exact hs.no 0 _ _ _ (Nat.zero_le _) h (.inr rfl) (fun _ => .inl rfl) q
  | some y =>
    obtain ⟨t, m⟩ := y
    obtain ⟨a, b⟩ := (tree_gd ws 40).on _ _ _ q
    obtain ⟨_, hsz⟩ := tree_by ws 40 0 t m q
    simp only []
    rw [hs.yes 0 [] [] [] t m h q]
    by_cases e : m = ws.length
    · rw [if_pos ⟨e, by omega⟩, R0_end (by omega)]; rfl
    · rw [if_neg (by omega)]
      exact stk_none ws _ _ _ _ _ ⟨rfl, by show 1 ≤ [t].length ∧ (m < ws.length ∨ 2 ≤ [t].length); exact ⟨by simp, .inl (by omega)⟩⟩
end K6
namespace L2
open PySem PySem.Spec PyProof.Rows
section
variable {prog : Program} {w : World} {A : Around} {E : Value → Shared → Prop} {s : Shared}
end
section
variable {X : Cx} {e : Expr} {te : TE} {p pos p2 pos2 : Pos}
end
end L2
namespace L2
open PySem PySem.Spec PyProof.Rows
theorem noFill_tuple_mul : fillsNumberSlot (.type "tuple") "mul" = pure false :=
  PySem.fillsNumberSlot_seq (id := "tuple.__mul__") (r := some (.builtin "tuple.__rmul__")) F.slot_tuple_mul.lookup (by decide +kernel) F.slot_tuple_rmul.lookup (by decide +kernel)
theorem repeat_tuple : seqRepeat? (.type "tuple") = pure (some (.builtin "tuple.__mul__")) := by
  unfold seqRepeat?
  rw [PySem.seqSlot_of (T := "tuple") (name := "__mul__") (id := "tuple.__mul__") F.slot_tuple_mul.lookup (by decide +kernel), PySem.seqSlot_of (T := "tuple") (name := "__rmul__") (id := "tuple.__rmul__") F.slot_tuple_rmul.lookup (by decide +kernel)]
  rfl
theorem int_rmul_tuple (a : Int) (t : Tok) (l : Addr) (items : Array Value) (n : Nat) (dd : Option Addr) (sl : Array (Option Value)) :
    Meets (Builtin.«int.__rmul__» ⟨[.int a t, .ref l], []⟩) (fun _ R s => s.heap.get? l = some { cls := .type "tuple", dict := dd, data := .seq items n, slots := sl } ∧ R (.ok (.ret Value.notImplemented)) s) :=
  .of_wp fun prog w A R s h => by obtain ⟨hp, g, d, tk, os⟩ := s; obtain ⟨hl, h⟩ := h; wp_walk; exact ⟨_, rfl, h⟩
theorem tuple_mulW (l : Addr) (items : Array Value) (n : Nat) (dd : Option Addr) (sl : Array (Option Value)) (x : Int) (u : Tok) (h0 : items.isEmpty = false) (h1 : -(2 ^ 63) ≤ x) (h2 : x < 2 ^ 63) (h3 : items.size * x.toNat ≤ sizeLine) :
    Meets (Builtin.«tuple.__mul__» ⟨[.ref l, .int x u], []⟩) (fun _ R s => s.heap.get? l = some { cls := .type "tuple", dict := dd, data := .seq items n, slots := sl } ∧ (x = 1 → R (.ok (.ret (.ref l))) s) ∧ (x ≠ 1 → R (.ok (.ret (Value.ref s.heap.objs.size))) { s with heap := s.heap.push { cls := Value.type "tuple", data := Data.seq (List.foldl (fun x1 x2 => x1 ++ x2) #[] (List.replicate x.toNat items)) } })) :=
  .of_wp fun prog w A R s h => by
    obtain ⟨hp, g, d, tk, os⟩ := s; obtain ⟨hl, ha, hb⟩ := h
    have c1 : ¬ (decide (x < -2 ^ 63) || decide (x ≥ 2 ^ 63)) = true := by
      rw [decide_eq_false (by omega), decide_eq_false (by omega)]; decide
    have hi : items.isEmpty = false := h0
    by_cases x1 : x = 1
    · subst x1
      have c2 : (items.isEmpty || (1 : Int) == 1) = true := by simp
      wp_walk
      exact ⟨_, rfl, ha rfl⟩
    · have c2 : ¬ (items.isEmpty || x == 1) = true := by rw [hi]; simpa using x1
      by_cases x0 : x ≤ 0
      · have c3 : (decide (x ≤ 0) || items.isEmpty) = true := by rw [decide_eq_true x0]; rfl
        have e : x.toNat = 0 := by omega
        have hb' := hb x1
        rw [e] at hb'
        wp_walk
        rw [if_neg c1]
        wp_walk
        exact ⟨_, rfl, hb'⟩
      · have c3 : ¬ (decide (x ≤ 0) || items.isEmpty) = true := by rw [decide_eq_false x0, hi]; decide
        have hl24 : sizeLine = 16777216 := by decide
        obtain ⟨y, rfl⟩ : ∃ y : Nat, x = (y : Int) := ⟨x.toNat, by omega⟩
        have hy : items.size * y ≤ 16777216 := by rw [← hl24]; exact h3
        have hyy : (items.size : Int) * (y : Int) = ((items.size * y : Nat) : Int) := by simp
        have c4 : ¬ (items.size : Int) * (y : Int) > (2 ^ 63 - 1) / 8 := by rw [hyy]; omega
        have c5 : ¬ Builtin.Tuple.tupleTooMany ((items.size : Int) * (y : Int)) = true := by rw [hyy]; unfold Builtin.Tuple.tupleTooMany; simp; omega
        wp_walk
        rw [if_neg c1]
        wp_walk
        rw [if_neg c3]
        dsimp only
        rw [if_neg c4, if_neg c5]
        have hsz : (List.foldl (fun x1 x2 => x1 ++ x2) #[] (List.replicate ((y : Int)).toNat items)).size ≤ sizeLine := by
          have f0 : ∀ (m : Nat) (acc : Array Value), (List.foldl (fun x1 x2 => x1 ++ x2) acc (List.replicate m items)).size = acc.size + m * items.size := fun m => by
            induction m with
            | zero => intro acc; simp
            | succ m ih => intro acc; rw [List.replicate_succ, List.foldl_cons, ih, Array.size_append, Nat.succ_mul]; omega
          rw [f0, Int.toNat_natCast, hl24, Nat.mul_comm]
          simpa using hy
        have hb' := hb x1
        wp_walk
        rw [if_neg (Nat.not_lt.mpr hsz)]
        wp_walk
        exact ⟨_, rfl, hb'⟩
def rRepT (K : PySem.W.Frag) : R2 := fun x y H Q => ∃ l k xs, x = .ref l ∧ y = .int k ∧ SqT K H l xs ∧ xs ≠ [] ∧ -(2 ^ 63) ≤ k ∧ k < 2 ^ 63 ∧ xs.length * k.toNat ≤ sizeLine ∧
  (k = 1 → Q (.ref l) H) ∧ (k ≠ 1 → ∀ p, H p = none → Q (.ref p) (upd H p (.tup (List.replicate k.toNat xs).flatten)))
section
variable {X : Cx}
theorem op_repT : OpR X (binaryOp .Mult) (rRepT X.K) := by
  intro pins s σ H x y v u Q I rx ry h
  obtain ⟨l, k, xs, rfl, rfl, hH, hne, h1, h2, hz, q1, q2⟩ := h
  cases rx
  obtain ⟨t, rfl⟩ := ry
  obtain ⟨its, r, pl, _⟩ := I.tuple hH
  obtain ⟨⟨oc, od, oda, osl⟩, ho, hc, n, hd⟩ := pl
  simp only at hc hd
  subst hc; subst hd
  have hl := r.length
  have h0 : its.toArray.isEmpty = false := by
    cases its with
    | nil => exact absurd (r.nil_iff.mp rfl) hne
    | cons a b => rfl
  have hnew : List.foldl (fun x1 x2 => x1 ++ x2) #[] (List.replicate k.toNat its.toArray) = (List.replicate k.toNat its).flatten.toArray := by
    have := foldl_rep its k.toNat []
    rw [List.nil_append] at this
    exact this
  refine wpAny_binaryOp_repeat_ref (T := "tuple") (U := "int") (by decide) ⟨_, ho, rfl⟩ (fun s' => typeIs_int s' k t) noFill_tuple_mul F.fills_int_mul F.slot_int_rmul repeat_tuple F.slot_int_index.lookup
    (call_meets F.slot_int_rmul (typeIs_int s k t) F.entry_int_rmul (F.args_int_rmul_2 _ _) (int_rmul_tuple k t l its.toArray n od osl)
      ⟨ho, rfl, ⟨_, ho, rfl⟩, call_meets F.slot_tuple_mul ⟨_, ho, rfl⟩ F.entry_tuple_mul (F.args_tuple_mul_2 _ _) (tuple_mulW l its.toArray n od osl k t h0 h1 h2 (by rw [List.size_toArray, ← hl]; exact hz)) ⟨ho, fun e => ⟨.ref l, H, I, rfl, q1 e⟩, fun e => ?_⟩⟩)
  rw [hnew]
  exact ⟨.ref s.heap.objs.size, _, I.laid (t' := s.toks) (o := .tup (List.replicate k.toNat xs).flatten) (fun b ob q => Heap.get?_push_of_some _ q) (Nat.le_refl _) ⟨by rw [len_rep, Nat.mul_comm]; exact hz, _, r.rep k.toNat, IsTup.new _ _⟩, rfl, q2 e _ (I.hok.fresh (Nat.le_refl _))⟩
theorem foldl_txt (z : List Nat) : ∀ (k : Nat) (acc : List Nat), List.foldl (fun x1 x2 => x1 ++ x2) acc.toArray (List.replicate k (S z).cps) = (acc ++ (List.replicate k z).flatten).toArray
  | 0, acc => by simp
  | k + 1, acc => by
    have e : acc.toArray ++ (S z).cps = (acc ++ z).toArray := by simp [S]
    rw [List.replicate_succ, List.foldl_cons, e, foldl_txt z k (acc ++ z), List.replicate_succ]
    simp
theorem op_mul_txt : OpR X (binaryOp .Mult) (fun x y H Q => ∃ (z : List Nat) (n : Nat), x = .str (S z) ∧ y = .int (n : Int) ∧ z ≠ [] ∧ z.length ≤ 100 ∧ n ≤ 1000 ∧ Q (.str (S (List.replicate n z).flatten)) H) := by
  intro pins s σ H x y v u Q I rx ry h
  obtain ⟨z, n, rfl, rfl, hz, h1, h2, q⟩ := h
  obtain ⟨t, rfl⟩ := rx
  obtain ⟨t', rfl⟩ := ry
  have hl : (S z).length = z.length := S_len _
  have hzl := List.length_pos_iff.mpr hz
  have hmul : z.length * n ≤ 100 * 1000 := Nat.mul_le_mul h1 h2
  refine P.mul_str ?_ (fun _ _ => ?_) (fun _ _ => ?_) ?_
  · rw [decide_eq_false (by omega), decide_eq_false (by omega)]; rfl
  · rename_i hp _
    rw [hl]
    have hn1 : (1 : Int) ≤ (n : Int) := by omega
    have : (z.length : Int) ≤ (2 ^ 63 - 1) / (n : Int) := (Int.le_ediv_iff_mul_le (by omega)).mpr (by
      have : (z.length : Int) * (n : Int) = ((z.length * n : Nat) : Int) := by simp
      rw [this]; omega)
    omega
  · rw [hl]
    unfold Builtin.Str.tooLong
    simp only [decide_eq_false_iff_not]
    rw [sizeLine_eq]
    show ¬ z.length * ((n : Int)).toNat > _
    rw [Int.toNat_natCast]
    omega
  · by_cases h0 : n = 0
    · subst h0
      rw [if_pos (by decide)]
      exact ⟨by decide, .str (S []), H, I.tok _, ⟨_, rfl⟩, q⟩
    · rw [if_neg (by omega)]
      by_cases hn : n = 1
      · subst hn
        rw [if_pos (by simp)]
        refine ⟨.str (S z), H, I, ⟨_, rfl⟩, ?_⟩
        simpa using q
      · rw [if_neg (by rw [hl]; simp [hz]; omega)]
        have e := foldl_txt z n []
        rw [List.nil_append] at e
        refine ⟨?_, .str _, H, I.tok _, ⟨_, rfl⟩, ?_⟩
        · rw [Int.toNat_natCast, e]; show ((List.replicate n z).flatten).toArray.size ≤ _
          rw [List.size_toArray, len_rep, sizeLine_eq, Nat.mul_comm]; omega
        · rw [Int.toNat_natCast, e]; exact q
end
end L2
namespace K6
open PySem L2 K3 TM
inductive WK : List Nat → Prop where
  | nm {w : List Nat} : Nm w → WK w
  | num {m : Int} : m.natAbs < 10 ^ 60 → WK (sh m)
  | op : WK [40]
  | cl : WK [41]
theorem WK.word {w : List Nat} (h : WK w) : Word w := by
  cases h with
  | nm h => exact .name h.ne h.len h.all
  | num h => exact sh_word h
  | op => exact .sign (by decide)
  | cl => exact .sign (by decide)
theorem WK.ne {w : List Nat} (h : WK w) : w ≠ [] := h.word.ne
theorem WK.len {w : List Nat} (h : WK w) : w.length ≤ 61 := h.word.len
theorem str_sh (i : Int) : Str.ofString (toString i) = S (sh i) := by
  cases i with
  | ofNat n =>
    show Str.ofString (toString ((n : Nat) : Int)) = _
    rw [← S_self (Str.ofString (toString ((n : Nat) : Int))), PySem.W.KIN.signs_num]
    unfold sh
    rw [if_neg (by show ¬ ((n : Nat) : Int) < 0; omega)]
    rfl
  | negSucc n =>
    rw [← S_self (Str.ofString (toString (Int.negSucc n))), PyProof.Rows.signs_ofString]
    have e : toString (Int.negSucc n) = "-" ++ Nat.repr (n + 1) := rfl
    rw [e, String.toList_append, List.map_append, Nat.toList_repr]
    unfold sh
    rw [if_pos (by omega)]
    rfl
theorem log_sh {i : Int} (h : i.natAbs < 10 ^ 60) : i.natAbs.log2 < 1920 := log_small (Nat.lt_trans h (by decide))
theorem two_at {x y : V} (n : Int) : ∃ v, (v = x ∨ v = y) ∧ atI [x, y] (n % 2) = some v := by
  have h0 : 0 ≤ n % 2 := Int.emod_nonneg _ (by decide)
  have h1 : n % 2 < 2 := Int.emod_lt_of_pos _ (by decide)
  rcases (show n % 2 = 0 ∨ n % 2 = 1 by omega) with h | h
  · exact ⟨x, .inl rfl, by rw [h]; rfl⟩
  · exact ⟨y, .inr rfl, by rw [h]; rfl⟩
def spCell (K : PySem.W.Frag) : Sp := fun vs H Q _ => ∃ (a : Addr) (ns : List Int) (k : Nat), vs = [.ref a, .int k] ∧ SqL K H a (ns.map V.int) ∧ ∀ c : Int, Q (.int c) H
def spWordBy : Sp := fun vs H Q _ => ∃ c : Int, vs = [.int c] ∧ ∀ (w : List Nat) (H' : Hp), Same H H' → WK w → Q (.str (S w)) H'
theorem letL_at {i : Nat} (h : i < 26) : ∃ c, letL[i]? = some c ∧ c ∈ letL := ⟨letL[i]'h, List.getElem?_eq_getElem h, List.getElem_mem _⟩
theorem rep_one (c : Nat) : ∀ n : Nat, (List.replicate n [c]).flatten = List.replicate n c
  | 0 => rfl
  | n + 1 => by rw [List.replicate_succ, List.flatten_cons, rep_one c n, List.replicate_succ]; rfl
section
variable {P : Program} {w : World} {K : PySem.W.Frag} {mg : Str → Option Value} {base : Heap} {f : Addr} {fd : FuncData}
theorem scCell : FnScope ["_law_script", "_law_k"] ["_law_script", "_law_k"] (defScope sCell) := ⟨rfl, rfl, rfl, by decide +kernel, rfl, by decide +kernel, by decide +kernel⟩
theorem ok_cell (F : Fun K "_law_cell_at" "_law_cell_at" sCell f fd) (G : Gm mg) : FnOk P w K mg base CX0 1 f fd ["_law_script", "_law_k"] (spCell K) := by
  refine F.ok scCell (fun vs H Q E h => ?_) (fun cdv A outer s H vs Q E hr h => ?_)
  · obtain ⟨a, ns, k, rfl, _⟩ := h
    rfl
  obtain ⟨a, ns, k, rfl, hS, q⟩ := h
  refine ⟨_, pss_cons (ps_if (pt_cmpR op_lt (pv 1) (pe_callB call_len_seq rfl G.len PySem.boot_len (pa_cons (pv 0) pa_nil)) (nomark _)) (pss_one (ps_ret (pe_ix ix_list (pv 0) (pv 1) (fun _ _ => rfl)))) pss_nil)
    (pss_one (ps_ret pe_int)), ?_⟩
  refine ⟨_, rfl, _, rfl, a, _, rfl, .inl hS, _, _, rfl, rfl, _, rfl, ite2 (fun c => ?_) (fun c => ?_)⟩
  · have c' : (k : Int) < (((ns.map V.int).length : Nat) : Int) := of_decide_eq_true c
    rw [List.length_map] at c'
    have hk : k < ns.length := by omega
    exact ⟨_, rfl, _, rfl, a, _, k, .int ns[k], rfl, rfl, hS, atI_nat (by rw [List.getElem?_map, List.getElem?_eq_getElem hk]; rfl), q _⟩
  · exact q 0
theorem scWordBy : FnScope ["_law_cell", "_law_number"] ["_law_cell"] (defScope sWordBy) := ⟨rfl, rfl, rfl, by decide +kernel, rfl, by decide +kernel, by decide +kernel⟩
theorem ok_wordBy (F : Fun K "_law_word_by" "_law_word_by" sWordBy f fd) (G : Gm mg) : FnOk P w K mg base CX0 1 f fd ["_law_cell"] spWordBy := by
  refine F.ok scWordBy (fun vs H Q E h => ?_) (fun cdv A outer s H vs Q E hr h => ?_)
  · obtain ⟨c, rfl, _⟩ := h
    rfl
  obtain ⟨c, rfl, q⟩ := h
  refine ⟨_, (pss_cons (ps_set (i := 1) scWordBy.nd rfl (Or.inl rfl) (pe_op op_mod (pv 0) (pe_op op_pow pe_int pe_int)))
    (pss_cons (ps_if (pt_cmpR op_eq (pe_op op_mod (pv 1) pe_int) pe_int (nomark _)) (pss_one (ps_ret (pe_op op_mul_txt (pe_ix ix_str pe_str (pe_op op_mod (pe_op op_fdiv (pv 1) pe_int) pe_int) (fun _ _ => rfl)) (pe_ix ix_list (pe_lst (pa_cons (pe_int) (pa_cons (pe_int) pa_nil))) (pe_op op_mod (pe_op op_fdiv (pv 1) pe_int) pe_int) (fun _ _ => rfl))))) pss_nil)
    (pss_cons (ps_if (pt_cmpR op_eq (pe_op op_mod (pv 1) pe_int) pe_int (nomark _)) (pss_one (ps_ret (pe_callTy call_str_int rfl G.str PyProof.Rows.boot_str (pa_cons (pe_op op_mul (pe_op op_mod (pe_op op_fdiv (pv 1) pe_int) (pe_op op_pow pe_int pe_int)) (pe_ix ix_list (pe_lst (pa_cons (pe_int) (pa_cons (pe_un un_neg pe_int) pa_nil))) (pe_op op_mod (pe_op op_fdiv (pv 1) pe_int) pe_int) (fun _ _ => rfl))) pa_nil)))) pss_nil)
    (pss_one (ps_ret (pe_ix ix_str pe_str (pe_op op_mod (pe_op op_fdiv (pv 1) pe_int) pe_int) (fun _ _ => rfl))))))), ?_⟩
  refine ⟨_, rfl, _, _, rfl, rfl, ⟨by decide, by decide, by decide⟩, _, _, rfl, rfl, (by show (0 : Int) < 10 ^ 64; decide), ?_⟩
  dsimp only
  have hn0 : 0 ≤ c % 10 ^ Int.toNat 64 := Int.emod_nonneg _ (by decide)
  generalize c % 10 ^ Int.toNat 64 = n at hn0
  refine ⟨_, rfl, _, _, rfl, rfl, (by show (0 : Int) < 4; decide), rfl, _, rfl, ite2 (fun g1 => ?_) (fun g1 => ?_)⟩
  · obtain ⟨i, hi, hi26⟩ : ∃ i : Nat, n / 4 % 26 = (i : Int) ∧ i < 26 := by
      have x0 : 0 ≤ n / 4 % 26 := Int.emod_nonneg _ (by decide)
      have x1 : n / 4 % 26 < 26 := Int.emod_lt_of_pos _ (by decide)
      exact ⟨_, (Int.toNat_of_nonneg x0).symm, by omega⟩
    obtain ⟨ch, hch, hcm⟩ := letL_at hi26
    obtain ⟨v, hv, hat⟩ := two_at (x := V.int 1) (y := V.int 8) (n / 104)
    have hat1 : atI LETS.cps.toList (n / 4 % 26) = some ch := by rw [hi, let_cps]; exact atI_nat hch
    refine ⟨_, rfl, _, _, rfl, rfl, ⟨(by show (0 : Int) < 4; decide), (by show (4 : Int) < 1073741824; decide)⟩, _, _, rfl, rfl, (by show (0 : Int) < 26; decide), LETS, _, ch, rfl, rfl, (by rw [let_eq, S_len]; exact line_of (by decide)), hat1, (by show 2 ≤ sizeLine; decide), fun l2 hl2 => ?_⟩
    have s2 := same_new hl2 (.lst [.int 1, .int 8])
    refine ⟨_, rfl, _, _, rfl, rfl, ⟨(by show (0 : Int) < 104; decide), (by show (104 : Int) < 1073741824; decide)⟩, _, _, rfl, rfl, (by show (0 : Int) < 2; decide), l2, _, _, v, rfl, rfl, SqL.of upd_same, hat, ?_⟩
    have hw : ∀ k : Nat, (k = 1 ∨ k = 8) → WK (List.replicate k [ch]).flatten := fun k hk => by
      rw [rep_one]
      refine .nm ⟨fun z => ?_, by rw [List.length_replicate]; omega, fun x hx => ?_⟩
      · have := congrArg List.length z
        rw [List.length_replicate] at this
        have e0 : ([] : List Nat).length = 0 := rfl
        omega
      · rw [(List.mem_replicate.mp hx).2]; exact hcm
    rcases hv with rfl | rfl
    · exact ⟨[ch], 1, rfl, rfl, by simp, by simp, by decide, q _ _ s2 (hw 1 (.inl rfl))⟩
    · exact ⟨[ch], 8, rfl, rfl, by simp, by simp, by decide, q _ _ s2 (hw 8 (.inr rfl))⟩
  refine ⟨_, rfl, _, _, rfl, rfl, (by show (0 : Int) < 4; decide), rfl, _, rfl, ite2 (fun g2 => ?_) (fun g2 => ?_)⟩
  · obtain ⟨v, hv, hat⟩ := two_at (x := V.int 1) (y := V.int (-1)) (n / 8)
    have x0 : 0 ≤ n / 4 % 10 ^ 60 := Int.emod_nonneg _ (by decide)
    have x1 : n / 4 % 10 ^ 60 < 10 ^ 60 := Int.emod_lt_of_pos _ (by decide)
    refine ⟨_, rfl, _, _, rfl, rfl, ⟨(by show (0 : Int) < 4; decide), (by show (4 : Int) < 1073741824; decide)⟩, _, _, rfl, rfl, ⟨by decide, by decide, by decide⟩, _, _, rfl, rfl, (by show (0 : Int) < 10 ^ 60; decide), _, rfl, (by show 2 ≤ sizeLine; decide), fun l2 hl2 => ?_⟩
    have s2 := same_new hl2 (.lst [.int 1, .int (-1)])
    refine ⟨_, rfl, _, _, rfl, rfl, ⟨(by show (0 : Int) < 8; decide), (by show (8 : Int) < 1073741824; decide)⟩, _, _, rfl, rfl, (by show (0 : Int) < 2; decide), l2, _, _, v, rfl, rfl, SqL.of upd_same, hat, ?_⟩
    have ep : (10 : Int) ^ Int.toNat 60 = 10 ^ 60 := rfl
    have hcase : ∀ i : Int, i.natAbs < 10 ^ 60 → Q (.str (toString i)) (upd H l2 (.lst [.int 1, .int (-1)])) := fun i hi => by
      have := q (sh i) _ s2 (.num hi)
      rw [← str_sh] at this; exact this
    generalize hy : n / 4 % 10 ^ 60 = y at x0 x1
    rcases hv with rfl | rfl
    · refine ⟨_, _, rfl, rfl, .inr ⟨by decide, by decide⟩, _, rfl, ?_, ?_⟩
      · show (n / 4 % 10 ^ 60 * 1).natAbs.log2 < 1920
        rw [hy, Int.mul_one]; exact log_sh (by omega)
      · show Q (.str (toString (n / 4 % 10 ^ 60 * 1))) _
        rw [hy, Int.mul_one]; exact hcase y (by omega)
    · refine ⟨_, _, rfl, rfl, .inr ⟨by decide, by decide⟩, _, rfl, ?_, ?_⟩
      · show (n / 4 % 10 ^ 60 * -1).natAbs.log2 < 1920
        rw [hy]; exact log_sh (by omega)
      · show Q (.str (toString (n / 4 % 10 ^ 60 * -1))) _
        rw [hy]; exact hcase _ (by omega)
  · obtain ⟨ch, hch, hat⟩ : ∃ ch, (ch = 40 ∨ ch = 41) ∧ atI (Str.ofString "()").cps.toList (n / 4 % 2) = some ch := by
      have h0 : 0 ≤ n / 4 % 2 := Int.emod_nonneg _ (by decide)
      have h1 : n / 4 % 2 < 2 := Int.emod_lt_of_pos _ (by decide)
      rcases (show n / 4 % 2 = 0 ∨ n / 4 % 2 = 1 by omega) with h | h
      · exact ⟨40, .inl rfl, by rw [h]; decide +kernel⟩
      · exact ⟨41, .inr rfl, by rw [h]; decide +kernel⟩
    refine ⟨_, rfl, _, _, rfl, rfl, ⟨(by show (0 : Int) < 4; decide), (by show (4 : Int) < 1073741824; decide)⟩, _, _, rfl, rfl, (by show (0 : Int) < 2; decide), _, _, ch, rfl, rfl, (by decide +kernel), hat, ?_⟩
    rcases hch with rfl | rfl
    · exact q [40] H (Same.refl _) .op
    · exact q [41] H (Same.refl _) .cl
end
end K6
namespace K6
open PySem L2 K3 TM K9
structure Wt (c : List Nat → Nat) (A B : Nat) : Prop where
  nm : ∀ w, Nm w → c w ≤ A
  num : ∀ m, c (sh m) ≤ B
  op : c [40] ≤ B
  cl : c [41] ≤ B
def mu (c : List Nat → Nat) (ws : List (List Nat)) : Nat := (ws.map c).sum
theorem mu_app (c : List Nat → Nat) (a b : List (List Nat)) : mu c (a ++ b) = mu c a + mu c b := by
  unfold mu; rw [List.map_append, List.sum_append]
def isN (w : List Nat) : Nat := if beg w letL = true then 1 else 0
theorem mu_len (ws : List (List Nat)) : mu (fun _ => 1) ws = ws.length := by
  unfold mu
  induction ws with
  | nil => rfl
  | cons a r ih => rw [List.map_cons, List.sum_cons, ih, List.length_cons]; omega
theorem mu_isN (ws : List (List Nat)) : mu isN ws = cnt ws 0 := by
  unfold mu cnt
  rw [List.drop_zero]
  induction ws with
  | nil => rfl
  | cons a r ih =>
    rw [List.map_cons, List.sum_cons, ih, List.filter_cons]
    unfold isN
    split
    · rw [List.length_cons]; omega
    · omega
theorem fig_no : ∀ c ∈ figL ++ [45], c ∉ letL := by decide
theorem wt_len : Wt (fun _ => 1) 1 1 := ⟨fun _ _ => Nat.le_refl _, fun _ => Nat.le_refl _, Nat.le_refl _, Nat.le_refl _⟩
theorem sh_beg (m : Int) : beg (sh m) letL = false := by
  obtain ⟨c, r, e, h⟩ := sh_head m
  rw [e]
  refine decide_eq_false (fig_no c ?_)
  rcases h with h | h
  · exact List.mem_append_left _ h
  · rw [h]; exact List.mem_append_right _ List.mem_cons_self
theorem wt_isN : Wt isN 1 0 := ⟨fun w _ => by unfold isN; split <;> omega, fun m => by unfold isN; rw [sh_beg]; decide, by decide, by decide⟩
structure RowOk (ws : List (List Nat)) (n : Nat) : Prop where
  wk : ∀ w ∈ ws, WK w
  len : ws.length ≤ 4 * n
  nm : cnt ws 0 ≤ n
theorem sum_set : ∀ (l : List Nat) (i : Nat) (h : i < l.length) (v : Nat), (l.set i v).sum + l[i] = l.sum + v
  | a :: r, 0, _, v => by simp; omega
  | a :: r, i + 1, h, v => by
    have := sum_set r i (by simpa using h) v
    simp; omega
structure BL (H : Hp) (lb lu : Addr) (as : List Addr) (bs : List (List (List Nat))) : Prop where
  len : as.length = bs.length
  top : H lb = some (.lst (as.map V.ref))
  at_ : ∀ (j : Nat) (h : j < as.length) (h' : j < bs.length), H as[j] = some (.lst (W bs[j]))
  ne : ∀ a ∈ as, a ≠ lb ∧ a ≠ lu
  wk : ∀ b ∈ bs, ∀ w ∈ b, WK w
theorem BL.same {H H' : Hp} {lb lu : Addr} {as : List Addr} {bs : List (List (List Nat))} (g : Same H H') (h : BL H lb lu as bs) : BL H' lb lu as bs := ⟨h.len, g _ _ h.top, fun j a b => g _ _ (h.at_ j a b), h.ne, h.wk⟩
theorem BL.put {H : Hp} {lb lu p : Addr} {as : List Addr} {bs : List (List (List Nat))} {o : HO} (h : BL H lb lu as bs) (h1 : lb ≠ p) (h2 : ∀ a ∈ as, a ≠ p) : BL (upd H p o) lb lu as bs := ⟨h.len, by rw [upd_ne h1]; exact h.top, fun j a b => by rw [upd_ne (h2 _ (List.getElem_mem a))]; exact h.at_ j a b, h.ne, h.wk⟩
theorem BL.set {H : Hp} {lb lu l : Addr} {as : List Addr} {bs : List (List (List Nat))} {b : List (List Nat)} {j : Nat} (h : BL H lb lu as bs) (hj : j < as.length) (hl : H l = some (.lst (W b))) (n1 : l ≠ lb) (n2 : l ≠ lu) (hw : ∀ w ∈ b, WK w) : BL (upd H lb (.lst ((as.map V.ref).set j (.ref l)))) lb lu (as.set j l) (bs.set j b) := by
  refine ⟨by simp [h.len], by rw [upd_same, List.map_set], fun i h1 h2 => ?_, fun a ha => ?_, fun c hc => ?_⟩
  · rw [List.length_set] at h1 h2
    by_cases e : j = i
    · subst e
      rw [List.getElem_set_self, List.getElem_set_self, upd_ne n1]; exact hl
    · rw [List.getElem_set_ne e, List.getElem_set_ne e, upd_ne (h.ne _ (List.getElem_mem h1)).1]; exact h.at_ i h1 h2
  · rcases List.mem_or_eq_of_mem_set ha with ha | rfl
    · exact h.ne a ha
    · exact ⟨n1, n2⟩
  · rcases List.mem_or_eq_of_mem_set hc with hc | rfl
    · exact h.wk c hc
    · exact hw
def spTreeW (K : PySem.W.Frag) : Sp := fun vs H Q _ => ∃ (a : Addr) (ns : List Int), vs = [.ref a] ∧ SqL K H a (ns.map V.int) ∧ ns.length ≤ 30 ∧ ∀ (l : Addr) (H' : Hp) (ws : List (List Nat)), Same H H' → H' l = some (.lst (W ws)) → RowOk ws ns.length → Q (.ref l) H'
structure Gm3 (mg : Str → Option Value) : Prop where
  mx : mg "max" = none
theorem eqv_lnil (ss : List Str) : PyData.eqv (.list (ss.map PyData.str)) (.list []) = ss.isEmpty := by
  cases ss <;> simp [PyData.eqv, PyData.eqvAll]
theorem ok_low {u : List Nat} (h : ∀ c ∈ u, c < 128) : PyData.strOk (S u) = true := by
  unfold PyData.strOk
  rw [Array.all_eq_true_iff_forall_mem]
  intro c hc
  have : c ∈ u := by simpa [S] using hc
  have := h c this
  simp; omega
theorem low_all : ∀ c ∈ letL ++ figL ++ sgnL ++ [45], c < 128 := by decide
theorem WK.str {w : List Nat} (h : WK w) : PyData.strOk (S w) = true := ok_low fun c hc => low_all c (word_chars h.word c hc)
theorem W_strs (ws : List (List Nat)) : W ws = (ws.map S).map V.str := by unfold W; rw [List.map_map]; rfl
section
variable {P : Program} {w : World} {K : PySem.W.Frag} {mg : Str → Option Value} {base : Heap} {f : Addr} {fd : FuncData}
theorem scTreeW : FnScope ["_law_cells", "_law_ups", "_law_below", "_law_cell", "_law_number", "_law_row", "_law_k"] ["_law_cells"] (defScope sTreeW) := ⟨rfl, rfl, rfl, by decide +kernel, rfl, by decide +kernel, by decide +kernel⟩
theorem ok_treeW (F : Fun K "_law_tree_words" "_law_tree_words" sTreeW f fd) (G : Gm mg) (G3 : Gm3 mg) : FnOk P w K mg base CX0 1 f fd ["_law_cells"] (spTreeW K) := by
  refine F.ok scTreeW (fun vs H Q E h => ?_) (fun cdv A outer s H vs Q E hr h => ?_)
  · obtain ⟨a, ns, rfl, _⟩ := h
    rfl
  obtain ⟨a, ns, rfl, hs, h30, q⟩ := h
  refine ⟨_, (pss_cons (ps_set (i := 1) scTreeW.nd rfl (Or.inl rfl) (pe_lst pa_nil))
    (pss_cons (ps_setG (i := 2) (CompG.many (xs := ["_law_cell"]) (caps := []) (cap := []) (cs := []) rfl rfl (by decide +kernel) (by decide +kernel) (by decide +kernel) (by decide +kernel) (by decide +kernel) (by decide +kernel) rfl rfl rfl) rfl (pi_list (pv 0)) (pg_c1 (CompG.many (xs := ["_law_cell"]) (caps := []) (cap := []) (cs := []) rfl rfl (by decide +kernel) (by decide +kernel) (by decide +kernel) (by decide +kernel) (by decide +kernel) (by decide +kernel) rfl rfl rfl)) (fun _ _ _ _ => pf_nil) (fun _ _ _ _ => pe_lst pa_nil) scTreeW.nd rfl rfl)
    (pss_cons (ps_for PassesOwn.never rfl (pi_list (pv 0)) (pg_name (i := 3) scTreeW.nd rfl (Or.inl rfl)) (pss_cons (ps_set (i := 4) scTreeW.nd rfl (Or.inl rfl) (pe_op op_mod (pv 3) (pe_op op_pow pe_int pe_int)))
    (pss_one (ps_expr (pe_bm PySem.F.plainAttrs_list PySem.F.slot_list_append PySem.F.type_list_append mt_append (pv 1) (pa_cons (pe_op op_mod (pe_op op_fdiv (pv 4) pe_int) (pe_callB (call_max2 rfl) rfl G3.mx PyProof.Rows.boot_max (pa_cons (pe_int) (pa_cons (pe_callB call_len_seq rfl G.len PySem.boot_len (pa_cons (pv 1) pa_nil)) pa_nil)))) pa_nil))))))
    (pss_cons (ps_set (i := 5) scTreeW.nd rfl (Or.inl rfl) (pe_lst pa_nil))
    (pss_cons (ps_for PassesOwn.never rfl (pi_rangeD rfl G.rng (pa_cons (pe_op op_sub (pe_callB call_len_seq rfl G.len PySem.boot_len (pa_cons (pv 0) pa_nil)) pe_int) (pa_cons (pe_un un_neg pe_int) (pa_cons (pe_un un_neg pe_int) pa_nil)))) (pg_name (i := 6) scTreeW.nd rfl (Or.inl rfl)) (pss_cons (ps_set (i := 4) scTreeW.nd rfl (Or.inl rfl) (pe_op op_mod (pe_ix ix_list (pv 0) (pv 6) (fun _ _ => rfl)) (pe_op op_pow pe_int pe_int)))
    (pss_cons (ps_set (i := 5) scTreeW.nd rfl (Or.inl rfl) (pe_lst (pa_cons (pe_ix ix_str pe_str (pe_op op_mod (pv 4) pe_int) (fun _ _ => rfl)) pa_nil)))
    (pss_cons (ps_cut (ps_if (pt_cmpR op_eq (pe_op op_mod (pe_op op_fdiv (pv 4) pe_int) pe_int) pe_int (nomark _)) (pss_one (ps_expr (pe_bm PySem.F.plainAttrs_list PySem.F.slot_list_append PySem.F.type_list_append mt_append (pv 5) (pa_cons (pe_callTy call_str_int rfl G.str PyProof.Rows.boot_str (pa_cons (pe_op op_sub (pe_op op_mod (pe_op op_fdiv (pv 4) pe_int) pe_int) pe_int) pa_nil)) pa_nil)))) pss_nil))
    (pss_cons (ps_cut (ps_if (pt_cmpR op_neD (pe_ix ix_list (pv 2) (pv 6) (fun _ _ => rfl)) (pe_lst pa_nil) (nomark _)) (pss_one (ps_set (i := 5) scTreeW.nd rfl (Or.inl rfl) (pe_op op_catL (pe_op op_catL (pe_op op_catL (pv 5) (pe_lst (pa_cons (pe_str) pa_nil))) (pe_ix ix_list (pv 2) (pv 6) (fun _ _ => rfl))) (pe_lst (pa_cons (pe_str) pa_nil))))) pss_nil))
    (pss_one (ps_asg (pe_op op_catL (pv 5) (pe_ix ix_list (pv 2) (pe_ix ix_list (pv 1) (pv 6) (fun _ _ => rfl)) (fun _ _ => rfl))) (pg_sub (pv 2) (pe_ix ix_list (pv 1) (pv 6) (fun _ _ => rfl)) set_list))))))))
    (pss_one (ps_ret (pv 5)))))))), ?_⟩
  have room : ∀ m : Nat, m ≤ 64 → (A.deeper (PyProof.Rows.envOfC "_law_tree_words" (defScope sTreeW) s.heap.objs.size f cdv)).units + m < cLine := fun m hm => by have := hr.units; omega
  have e40 : Str.ofString "(" = S [40] := by decide +kernel
  have e41 : Str.ofString ")" = S [41] := by decide +kernel
  have Wl : ∀ ws : List (List Nat), (W ws).length = ws.length := fun ws => List.length_map ..
  refine ⟨(by show 0 ≤ sizeLine; decide), fun lu hlu => ?_⟩
  have s1 := same_new hlu (.lst [])
  have b1 : upd H lu (.lst []) lu = some (.lst []) := upd_same
  generalize upd H lu (.lst []) = H1 at s1 b1
  refine ⟨_, rfl, a, rfl, ⟨_, s1.seq hs⟩, fun lb hlb => ?_⟩
  have hlb0 : H lb = none := by
    cases e : H lb with
    | none => rfl
    | some u => rw [s1 _ _ e] at hlb; cases hlb
  have nbu : lu ≠ lb := fun z => by rw [z, hlb] at b1; cases b1
  refine c1_list (K := K) (xs := ns.map V.int) (cs := []) (tt := fun _ H Q => Q true H) (fun j ys H' => ∃ as : List Addr, as.length = j ∧ ys = as.map V.ref ∧ Same H1 H' ∧ BL H' lb lu as (List.replicate j []))
    ⟨[], rfl, rfl, same_new hlb _, ⟨rfl, upd_same, fun j h => (nomatch h), fun b hb => (nomatch hb), fun b hb => (nomatch hb)⟩⟩ ?_ ?_ ?_
  · rintro j ys H' _ ⟨_, _, _, g, _⟩
    exact (s1.trans g).seq hs
  · rintro j x ys H' hj hx ⟨as, hal, rfl, g, hB⟩
    refine iteT ⟨(by show 0 ≤ sizeLine; decide), fun l0 hl0 => ?_⟩
    have s2 := same_new hl0 (.lst [])
    have b2 : upd H' l0 (.lst []) l0 = some (.lst []) := upd_same
    generalize upd H' l0 (.lst []) = H2 at s2 b2 ⊢
    rw [List.length_map] at hj
    have hb2 := s2 _ _ hB.top
    rw [List.length_map]
    have nb : l0 ≠ lb := fun z => by rw [z, hB.top] at hl0; cases hl0
    have nu : l0 ≠ lu := fun z => by rw [z, g _ _ b1] at hl0; cases hl0
    refine comp_next hj hb2 (by rw [List.length_map]; omega) ⟨as ++ [l0], by simp [hal], by simp, fun c u e => ?_, ⟨?_, by rw [upd_same]; simp, ?_, ?_, ?_⟩⟩
    · rw [upd_ne (ne_of_none e hlb)]; exact s2 _ _ (g _ _ e)
    · simp [hal]
    · intro i h1 h2
      by_cases hi : i < as.length
      · rw [List.getElem_append_left hi, List.getElem_replicate, upd_ne (hB.ne _ (List.getElem_mem hi)).1]
        have := s2 _ _ (hB.at_ i hi (by simp; omega))
        rw [List.getElem_replicate] at this; exact this
      · have e1 : i = as.length := by simp at h1; omega
        subst e1
        rw [List.getElem_append_right (Nat.le_refl _), List.getElem_replicate]
        simp only [Nat.sub_self, List.getElem_cons_zero]
        rw [upd_ne nb]; exact b2
    · intro a ha
      rcases List.mem_append.mp ha with ha | ha
      · exact hB.ne a ha
      · obtain rfl := List.mem_singleton.mp ha; exact ⟨nb, nu⟩
    · intro b hb w hw
      rw [(List.mem_replicate.mp hb).2] at hw; cases hw
  rintro ys H2 ⟨as, hal, rfl, g2, hB2⟩
  rw [List.length_map] at hal hB2
  have hu2 := g2 _ _ b1
  refine ⟨_, rfl, a, rfl, ⟨_, (s1.trans g2).seq hs⟩, ?_⟩
  refine for_list (K := K) (xs := ns.map V.int) (fun i σ H' => ∃ (us : List Nat) (c3 c4 : Option V), σ = [some (.ref a), some (.ref lu), some (.ref lb), c3, c4, none, none] ∧ Same H H' ∧ H' lu = some (.lst (us.map fun (u : Nat) => V.int (u : Int))) ∧ us.length = i ∧ (∀ (k : Nat) (h : k < us.length), us[k] < max 1 k) ∧ BL H' lb lu as (List.replicate ns.length []))
    ⟨[], none, none, rfl, s1.trans g2, hu2, rfl, fun k h => (nomatch h), hB2⟩ ?_ ?_ ?_
  · rintro i σ H' _ ⟨_, _, _, _, g, _⟩
    exact g.seq hs
  · rintro i x σ H' hx ⟨us, c3, c4, rfl, g, hu, hul, hum, hB⟩
    have hi : i < ns.length := by have := (List.getElem?_eq_some_iff.mp hx).1; rw [List.length_map] at this; exact this
    obtain rfl : x = .int ns[i] := by
      rw [List.getElem?_map, List.getElem?_eq_getElem hi] at hx
      exact (Option.some.inj hx).symm
    refine ⟨_, rfl, _, _, rfl, rfl, ⟨by decide, by decide, by decide⟩, _, _, rfl, rfl, (by show (0 : Int) < 10 ^ 30; decide), ?_⟩
    dsimp only
    generalize ns[i] % 10 ^ Int.toNat 30 = n
    have hml : (if (((us.map fun (u : Nat) => V.int (u : Int)).length : Nat) : Int) > 1 then (((us.map fun (u : Nat) => V.int (u : Int)).length : Nat) : Int) else 1) = ((max 1 us.length : Nat) : Int) := by
      rw [List.length_map]; split <;> omega
    refine ⟨_, rfl, .inl ⟨rfl, _, SqL.of hu⟩, _, rfl, _, _, rfl, rfl, ⟨(by show (0 : Int) < 7; decide), (by show (7 : Int) < 1073741824; decide)⟩, _, rfl, lu, _, rfl, .inl (SqL.of hu), _, _, rfl, _, _, rfl, rfl, ?_, ?_⟩
    · rw [hml]; show (0 : Int) < _; omega
    rw [hml]
    obtain ⟨u, hu1, hu2⟩ : ∃ u : Nat, n / 7 % ((max 1 us.length : Nat) : Int) = (u : Int) ∧ u < max 1 us.length := by
      have z0 : 0 ≤ n / 7 % ((max 1 us.length : Nat) : Int) := Int.emod_nonneg _ (by omega)
      have z1 : n / 7 % ((max 1 us.length : Nat) : Int) < ((max 1 us.length : Nat) : Int) := Int.emod_lt_of_pos _ (by omega)
      exact ⟨_, (Int.toNat_of_nonneg z0).symm, by omega⟩
    refine ⟨lu, _, _, rfl, rfl, hu, (by rw [List.length_map]; exact Nat.lt_of_lt_of_le (show us.length < 5001 by omega) (show 5001 ≤ sizeLine by decide)), us ++ [u], _, _, rfl, fun c w e => ?_, ?_, by simp [hul], fun k hk => ?_, hB.put nbu.symm fun b hb => (hB.ne b hb).2⟩
    · rw [upd_ne (ne_of_none e hlu)]; exact g _ _ e
    · rw [upd_same]
      dsimp only
      rw [hu1]; simp
    · by_cases h : k < us.length
      · rw [List.getElem_append_left h]; exact hum k h
      · have e1 : k = us.length := by simp at hk; omega
        subst e1
        rw [List.getElem_append_right (Nat.le_refl _)]
        simpa using hu2
  rintro σ H3 ⟨us, c3, c4, rfl, g3, hu3, hul, hum, hB3⟩
  rw [List.length_map] at hul
  refine ⟨(by show 0 ≤ sizeLine; decide), fun l5 hl5 => ?_⟩
  have s4 := same_new hl5 (.lst [])
  have b4 : upd H3 l5 (.lst []) l5 = some (.lst []) := upd_same
  generalize upd H3 l5 (.lst []) = H4 at s4 b4
  have hcnt : ((ns.length : Int) - 1 - -1).toNat = ns.length := by omega
  refine ⟨_, rfl, a, _, rfl, .inl ((g3.trans s4).seq hs), _, _, rfl, rfl, _, rfl, _, rfl, (ns.length : Int) - 1, -1, (by rw [List.length_map]), ⟨by omega, by omega, by omega, by omega⟩, ?_⟩
  rw [hcnt]
  refine for_rangeD (hi := (ns.length : Int) - 1) (n := ns.length) (fun i σ H' => ∃ (as : List Addr) (bs : List (List (List Nat))) (lr : Addr) (ws : List (List Nat)) (c3 c4 c6 : Option V), σ = [some (.ref a), some (.ref lu), some (.ref lb), c3, c4, some (.ref lr), c6] ∧ Same H H' ∧ H' lu = some (.lst (us.map fun (u : Nat) => V.int (u : Int))) ∧ BL H' lb lu as bs ∧ bs.length = ns.length ∧ H' lr = some (.lst (W ws)) ∧ (∀ w ∈ ws, WK w) ∧
      (∀ c A B, Wt c A B → ((bs.take (ns.length - i)).map (mu c)).sum ≤ (A + 3 * B) * i ∧ mu c ws ≤ (A + 3 * B) * i))
    ⟨as, List.replicate ns.length [], l5, [], c3, c4, none, rfl, g3.trans s4, s4 _ _ hu3, hB3.same s4, by simp, b4, fun w hw => (nomatch hw), fun c A B hw => ⟨?_, Nat.zero_le _⟩⟩ ?_ ?_
  · have : ∀ n : Nat, ((List.replicate n ([] : List (List Nat))).map (mu c)).sum = 0 := fun n => by
      induction n with
      | zero => rfl
      | succ n ih => rw [List.replicate_succ, List.map_cons, List.sum_cons, ih]; rfl
    rw [List.take_replicate, this]; exact Nat.zero_le _
  · rintro i σ H5 hi ⟨as, bs, lr, ws, c3, c4, c6, rfl, g5, hu5, hB5, hbl, hlr, hwk, hmu⟩
    obtain ⟨k, hk⟩ : ∃ k : Nat, ns.length - i = k + 1 := ⟨ns.length - i - 1, by omega⟩
    have hkn : k < ns.length := by omega
    have eki : (ns.length : Int) - 1 - (i : Int) = (k : Int) := by omega
    rw [eki]
    have hka : k < as.length := by rw [hB5.len]; omega
    have hku : k < us.length := by omega
    refine ⟨_, rfl, _, rfl, a, _, _, _, rfl, rfl, g5.seq hs, atI_nat (by rw [List.getElem?_map, List.getElem?_eq_getElem hkn]; rfl), _, _, rfl, rfl, ⟨by decide, by decide, by decide⟩, _, _, rfl, rfl, (by show (0 : Int) < 10 ^ 30; decide), ?_⟩
    dsimp only
    have hn0 : 0 ≤ ns[k] % 10 ^ Int.toNat 30 := Int.emod_nonneg _ (by decide)
    generalize ns[k] % 10 ^ Int.toNat 30 = n at hn0
    obtain ⟨y, hy, hy26⟩ : ∃ y : Nat, n % 26 = (y : Int) ∧ y < 26 := by
      have x0 : 0 ≤ n % 26 := Int.emod_nonneg _ (by decide)
      have x1 : n % 26 < 26 := Int.emod_lt_of_pos _ (by decide)
      exact ⟨_, (Int.toNat_of_nonneg x0).symm, by omega⟩
    obtain ⟨ch, hch, hcm⟩ := letL_at hy26
    have hat1 : atI LETS.cps.toList (n % 26) = some ch := by rw [hy, let_cps]; exact atI_nat hch
    refine ⟨_, rfl, _, _, rfl, rfl, (by show (0 : Int) < 26; decide), LETS, _, ch, rfl, rfl, (by rw [let_eq, S_len]; exact line_of (by decide)), hat1, (by show 1 ≤ sizeLine; decide), fun l6 hl6 => ?_⟩
    have s6 := same_new hl6 (.lst (W [[ch]]))
    have b6 : upd H5 l6 (.lst (W [[ch]])) l6 = some (.lst (W [[ch]])) := upd_same
    have hchN : Nm [ch] := ⟨by simp, by simp, fun c hc => by rw [List.mem_singleton.mp hc]; exact hcm⟩
    have n6b : l6 ≠ lb := fun z => by rw [z, hB5.top] at hl6; cases hl6
    have n6u : l6 ≠ lu := fun z => by rw [z, hu5] at hl6; cases hl6
    have n6a : ∀ b ∈ as, b ≠ l6 := fun b hb z => by
      obtain ⟨j, hj, rfl⟩ := List.mem_iff_getElem.mp hb
      have := hB5.at_ j hj (by rw [← hB5.len]; exact hj)
      rw [z, hl6] at this; cases this
    refine ⟨fun σ' H' => ∃ (r : List (List Nat)), σ' = [some (.ref a), some (.ref lu), some (.ref lb), c3, some (.int n), some (.ref l6), some (.int (k : Int))] ∧ Same H H' ∧ H' lu = some (.lst (us.map fun (u : Nat) => V.int (u : Int))) ∧ BL H' lb lu as bs ∧ H' l6 = some (.lst (W r)) ∧ (∀ w ∈ r, WK w) ∧ r.length ≤ 2 ∧ ∀ c A B, Wt c A B → mu c r ≤ A + B, ?_, ?_⟩
    · refine ⟨_, rfl, _, _, rfl, rfl, ⟨(by show (0 : Int) < 26; decide), (by show (26 : Int) < 1073741824; decide)⟩, _, _, rfl, rfl, (by show (0 : Int) < 2; decide), rfl, _, rfl, ite2 (fun _ => ?_) (fun _ => ?_)⟩
      · have hm : (n / 52 % 1999 - 999).natAbs < 10 ^ 60 := by
          have x0 : 0 ≤ n / 52 % 1999 := Int.emod_nonneg _ (by decide)
          have x1 : n / 52 % 1999 < 1999 := Int.emod_lt_of_pos _ (by decide)
          omega
        refine ⟨_, rfl, .inl ⟨rfl, _, SqL.of b6⟩, _, rfl, _, _, rfl, rfl, ⟨(by show (0 : Int) < 52; decide), (by show (52 : Int) < 1073741824; decide)⟩, _, _, rfl, rfl, (by show (0 : Int) < 1999; decide), _, _, rfl, rfl, _, rfl, log_sh hm, l6, _, _, rfl, rfl, b6, (by show 1 < sizeLine; decide), ?_⟩
        refine ⟨[[ch], sh (n / 52 % 1999 - 999)], rfl, fun c u e => ?_, ?_, ?_, ?_, fun w hw => ?_, by simp, fun c A B hw => ?_⟩
        · have e6 := s6 _ _ (g5 _ _ e)
          rw [upd_ne (ne_of_none (g5 _ _ e) hl6)]; exact e6
        · rw [upd_ne n6u.symm]; exact s6 _ _ hu5
        · exact (hB5.same s6).put n6b.symm n6a
        · rw [upd_same]
          show some (HO.lst ([V.str (S [ch])] ++ [V.str (Str.ofString (toString (n / 52 % 1999 - 999)))])) = _
          rw [str_sh]; rfl
        · rcases List.mem_cons.mp hw with rfl | hw
          · exact .nm hchN
          · obtain rfl := List.mem_singleton.mp hw; exact .num hm
        · have h1 := hw.nm _ hchN
          have h2 := hw.num (n / 52 % 1999 - 999)
          show c [ch] + (c (sh (n / 52 % 1999 - 999)) + 0) ≤ A + B
          omega
      · refine ⟨[[ch]], rfl, g5.trans s6, s6 _ _ hu5, hB5.same s6, b6, fun w hw => ?_, by simp, fun c A B hw => ?_⟩
        · obtain rfl := List.mem_singleton.mp hw; exact .nm hchN
        · have h1 := hw.nm _ hchN
          show c [ch] + 0 ≤ A + B
          omega
    rintro σ' H6 ⟨r, rfl, g6, hu6, hB6, hr6, hrw, hrl, hrm⟩
    have hkb : k < bs.length := by omega
    have hatB : atI (as.map V.ref) (k : Int) = some (.ref as[k]) := atI_nat (by rw [List.getElem?_map, List.getElem?_eq_getElem hka]; rfl)
    have hbk := hB6.at_ k hka hkb
    have hbw := hB5.wk bs[k] (List.getElem_mem hkb)
    have hbLen : bs[k].length ≤ 120 := by
      have h1 := (hmu (fun _ => 1) 1 1 wt_len).1
      rw [hk] at h1
      have h2 : (bs.take (k + 1)) = bs.take k ++ [bs[k]] := by rw [List.take_add_one, List.getElem?_eq_getElem hkb]; rfl
      rw [h2, List.map_append, List.sum_append] at h1
      have h3 : ([bs[k]].map (mu fun _ => 1)).sum = bs[k].length := by simp [mu_len]
      omega
    refine ⟨fun σ' H' => ∃ (l7 : Addr) (r7 : List (List Nat)), σ' = [some (.ref a), some (.ref lu), some (.ref lb), c3, some (.int n), some (.ref l7), some (.int (k : Int))] ∧ Same H H' ∧ H' lu = some (.lst (us.map fun (u : Nat) => V.int (u : Int))) ∧ BL H' lb lu as bs ∧ l7 ≠ lb ∧ H' l7 = some (.lst (W r7)) ∧ (∀ w ∈ r7, WK w) ∧ r7.length ≤ 200 ∧ ∀ c A B, Wt c A B → mu c r7 ≤ A + 3 * B + mu c bs[k], ?_, ?_⟩
    · refine ⟨_, rfl, _, rfl, lb, _, _, _, rfl, rfl, SqL.of hB6.top, hatB, (by show 0 ≤ sizeLine; decide), fun ln hln => ?_⟩
      have s7 := same_new hln (.lst [])
      have b7 : upd H6 ln (.lst []) ln = some (.lst []) := upd_same
      generalize upd H6 ln (.lst []) = H7 at s7 b7 ⊢
      have lay1 : (PyData.list ((bs[k].map S).map PyData.str)).canLay0 = true := by simp only [PyData.canLay0]; exact lay_strs _ fun x hx => by obtain ⟨u, hu, rfl⟩ := List.mem_map.mp hx; exact (hbw u hu).str
      refine ⟨.list ((bs[k].map S).map PyData.str), .list [], .lst (SqL.of (s7 _ _ hbk)) (by rw [W_strs]; exact rd_strs _), .lst (SqL.of b7) .nil, lay1, by simp [PyData.canLay0, PyData.canLayAll0], room _ (Nat.le_trans (Nat.min_le_right _ _) (by simp [PyData.depth, PyData.depthAll])), _, rfl, ?_⟩
      rw [if_pos rfl, eqv_lnil]
      by_cases he : bs[k] = []
      · have e1 : (!(bs[k].map S).isEmpty) = false := by rw [he]; rfl
        rw [e1]
        exact iteF ⟨l6, r, rfl, g6.trans s7, s7 _ _ hu6, hB6.same s7, n6b, s7 _ _ hr6, hrw, by omega, fun c A B hw => by have := hrm c A B hw; omega⟩
      · have e1 : (!(bs[k].map S).isEmpty) = true := by
          cases h : bs[k] with
          | nil => exact absurd h he
          | cons a b => rfl
        rw [e1]
        refine iteT ⟨_, rfl, (by show 1 ≤ sizeLine; decide), fun l8 hl8 => ?_⟩
        rw [e40]
        have s8 := same_new hl8 (.lst (W [[40]]))
        have b8 : upd H7 l8 (.lst (W [[40]])) l8 = some (.lst (W [[40]])) := upd_same
        change rCatL K (.ref l6) (.ref l8) (upd H7 l8 (.lst (W [[40]]))) _
        generalize upd H7 l8 (.lst (W [[40]])) = H8 at s8 b8 ⊢
        have hr8 := s8 _ _ (s7 _ _ hr6)
        refine ⟨l6, l8, _, _, rfl, rfl, SqL.of hr8, SqL.of b8, (by rw [Wl, Wl]; exact line_of (by simp; omega)), fun l9 hl9 => ?_⟩
        rw [← W_app]
        have s9 := same_new hl9 (.lst (W (r ++ [[40]])))
        have b9 : upd H8 l9 (.lst (W (r ++ [[40]]))) l9 = some (.lst (W (r ++ [[40]]))) := upd_same
        generalize upd H8 l9 (.lst (W (r ++ [[40]]))) = H9 at s9 b9 ⊢
        have g9 := s7.trans (s8.trans s9)
        refine ⟨_, rfl, _, rfl, lb, _, _, _, rfl, rfl, SqL.of (g9 _ _ hB6.top), hatB, l9, as[k], _, _, rfl, rfl, SqL.of b9, SqL.of (g9 _ _ hbk), (by rw [Wl, Wl]; exact line_of (by simp; omega)), fun la hla => ?_⟩
        rw [← W_app]
        have sa := same_new hla (.lst (W (r ++ [[40]] ++ bs[k])))
        have ba : upd H9 la (.lst (W (r ++ [[40]] ++ bs[k]))) la = some (.lst (W (r ++ [[40]] ++ bs[k]))) := upd_same
        generalize upd H9 la (.lst (W (r ++ [[40]] ++ bs[k]))) = Ha at sa ba ⊢
        refine ⟨(by show 1 ≤ sizeLine; decide), fun lc hlc => ?_⟩
        rw [e41]
        have sc := same_new hlc (.lst (W [[41]]))
        have bc : upd Ha lc (.lst (W [[41]])) lc = some (.lst (W [[41]])) := upd_same
        change rCatL K (.ref la) (.ref lc) (upd Ha lc (.lst (W [[41]]))) _
        generalize upd Ha lc (.lst (W [[41]])) = Hc at sc bc ⊢
        refine ⟨la, lc, _, _, rfl, rfl, SqL.of (sc _ _ ba), SqL.of bc, (by rw [Wl, Wl]; exact line_of (by simp; omega)), fun ld hld => ?_⟩
        rw [← W_app]
        have sd := same_new hld (.lst (W (r ++ [[40]] ++ bs[k] ++ [[41]])))
        have gd := g9.trans (sa.trans (sc.trans sd))
        refine ⟨ld, r ++ [[40]] ++ bs[k] ++ [[41]], rfl, g6.trans gd, gd _ _ hu6, hB6.same gd, (fun z => by rw [z, (g9.trans (sa.trans sc)) _ _ hB6.top] at hld; cases hld), upd_same, fun w hw => ?_, by simp; omega, fun c A B hw => ?_⟩
        · simp only [List.mem_append, List.mem_singleton] at hw
          rcases hw with ((hw | rfl) | hw) | rfl
          · exact hrw w hw
          · exact .op
          · exact hbw w hw
          · exact .cl
        · have h1 := hrm c A B hw
          rw [mu_app, mu_app, mu_app]
          have h2 : mu c [[40]] = c [40] := by simp [mu]
          have h3 : mu c [[41]] = c [41] := by simp [mu]
          have h4 := hw.op
          have h5 := hw.cl
          omega
    rintro σ' H7 ⟨l7, r7, rfl, g7, hu7, hB7, n7b, hr7, hrw7, hrl7, hrm7⟩
    have hatU : atI (us.map fun (u : Nat) => V.int (u : Int)) (k : Int) = some (.int (us[k] : Int)) := atI_nat (by rw [List.getElem?_map, List.getElem?_eq_getElem hku]; rfl)
    have humk := hum k hku
    have hua : us[k] < as.length := by omega
    have hub : us[k] < bs.length := by omega
    have hatB2 : atI (as.map V.ref) (us[k] : Int) = some (.ref as[us[k]]) := atI_nat (by rw [List.getElem?_map, List.getElem?_eq_getElem hua]; rfl)
    have hbu := hB7.at_ us[k] hua hub
    have hbw2 := hB5.wk bs[us[k]] (List.getElem_mem hub)
    have hbLen2 : bs[us[k]].length ≤ 120 := by
      have h1 := (hmu (fun _ => 1) 1 1 wt_len).1
      rw [hk] at h1
      have hm : bs[us[k]] ∈ bs.take (k + 1) := List.mem_take_iff_getElem.mpr ⟨us[k], by omega, rfl⟩
      have h2 : mu (fun _ => 1) bs[us[k]] ≤ ((bs.take (k + 1)).map (mu fun _ => 1)).sum := by
        have : ∀ (l : List Nat) (a : Nat), a ∈ l → a ≤ l.sum := fun l a h => by
          induction l with
          | nil => cases h
          | cons b r ih =>
            rw [List.sum_cons]
            rcases List.mem_cons.mp h with rfl | h
            · omega
            · have := ih h; omega
        exact this _ _ (List.mem_map_of_mem hm)
      rw [mu_len] at h2
      omega
    refine ⟨_, rfl, _, rfl, _, rfl, _, rfl, lu, _, _, _, rfl, rfl, SqL.of hu7, hatU, lb, _, _, _, rfl, rfl, SqL.of hB7.top, hatB2, l7, as[us[k]], _, _, rfl, rfl, SqL.of hr7, SqL.of hbu, (by rw [Wl, Wl]; exact line_of (by omega)), fun l8 hl8 => ?_⟩
    rw [← W_app]
    have s8 := same_new hl8 (.lst (W (r7 ++ bs[us[k]])))
    have b8 : upd H7 l8 (.lst (W (r7 ++ bs[us[k]]))) l8 = some (.lst (W (r7 ++ bs[us[k]]))) := upd_same
    have n8b : l8 ≠ lb := fun z => by rw [z, hB7.top] at hl8; cases hl8
    have n8u : l8 ≠ lu := fun z => by rw [z, hu7] at hl8; cases hl8
    generalize upd H7 l8 (.lst (W (r7 ++ bs[us[k]]))) = H8 at s8 b8 ⊢
    have hB8 := hB7.same s8
    refine ⟨_, rfl, _, rfl, _, rfl, lu, _, _, _, rfl, rfl, SqL.of (s8 _ _ hu7), hatU, lb, _, _, us[k], rfl, rfl, hB8.top, L2.ixN_nat (by rw [List.length_map]; exact hua), ?_⟩
    refine ⟨as.set us[k] l8, bs.set us[k] (r7 ++ bs[us[k]]), l7, r7, _, _, _, rfl, fun c u e => ?_, ?_, hB8.set hua b8 n8b n8u (fun w hw => ?_), by simp [hbl], ?_, hrw7, fun c A B hw => ?_⟩
    · rw [upd_ne (ne_of_none e hlb0)]; exact s8 _ _ (g7 _ _ e)
    · rw [upd_ne nbu]; exact s8 _ _ hu7
    · rcases List.mem_append.mp hw with hw | hw
      · exact hrw7 w hw
      · exact hbw2 w hw
    · rw [upd_ne n7b]; exact s8 _ _ hr7
    · have h1 := (hmu c A B hw).1
      have h2 := hrm7 c A B hw
      rw [hk] at h1
      have h3 : (bs.take (k + 1)) = bs.take k ++ [bs[k]] := by rw [List.take_add_one, List.getElem?_eq_getElem hkb]; rfl
      rw [h3, List.map_append, List.sum_append] at h1
      have h4 : ([bs[k]].map (mu c)).sum = mu c bs[k] := by simp
      rw [h4] at h1
      have ek : ns.length - (i + 1) = k := by omega
      have em : (A + 3 * B) * (i + 1) = (A + 3 * B) * i + (A + 3 * B) := Nat.mul_succ _ _
      refine ⟨?_, by omega⟩
      rw [ek]
      cases k with
      | zero => exact Nat.zero_le _
      | succ k =>
        have hu : us[k + 1] < k + 1 := by omega
        rw [List.take_set, List.map_set]
        have hl : us[k + 1] < ((bs.take (k + 1)).map (mu c)).length := by rw [List.length_map, List.length_take]; omega
        have h5 := sum_set ((bs.take (k + 1)).map (mu c)) us[k + 1] hl (mu c (r7 ++ bs[us[k + 1]]))
        have h6 : ((bs.take (k + 1)).map (mu c))[us[k + 1]] = mu c bs[us[k + 1]] := by rw [List.getElem_map, List.getElem_take]
        rw [h6] at h5
        rw [mu_app] at h5 ⊢
        omega
  · rintro σ H5 ⟨as, bs, lr, ws, c3, c4, c6, rfl, g5, hu5, hB5, hbl, hlr, hwk, hmu⟩
    refine ⟨_, rfl, q lr H5 ws g5 hlr ⟨hwk, ?_, ?_⟩⟩
    · have := (hmu (fun _ => 1) 1 1 wt_len).2
      rw [mu_len] at this; omega
    · have := (hmu isN 1 0 wt_isN).2
      rw [mu_isN] at this; omega
end
end K6
namespace K6
open PySem L2 K3 TM K9
theorem mu_split (c : List Nat → Nat) (l : List (List Nat)) (y : Nat) : mu c (l.take y) + mu c (l.drop y) = mu c l := by
  rw [← mu_app, List.take_append_drop]
theorem mu_one (c : List Nat → Nat) (w : List Nat) : mu c [w] = c w := by simp [mu]
structure Row1 (ws rs : List (List Nat)) : Prop where
  wk : ∀ w ∈ rs, WK w
  mu : ∀ c : List Nat → Nat, (∀ w, c w ≤ 1) → K6.mu c rs ≤ K6.mu c ws + 1
theorem cutW (ws : List (List Nat)) (a b : Nat) : cutV (W ws) (some (a : Int)) (some (b : Int)) = W ((ws.drop (min a ws.length)).take (min b ws.length - min a ws.length)) := by
  unfold cutV W
  rw [HT.sIx_nat, HT.sIx_nat, List.length_map, List.map_take, List.map_drop]
theorem mu_drop_get (c : List Nat → Nat) {ws : List (List Nat)} {t : Nat} (h : t < ws.length) : mu c (ws.drop t) = c ws[t] + mu c (ws.drop (t + 1)) := by
  rw [List.drop_eq_getElem_cons h]
  show (List.map c _).sum = _
  rw [List.map_cons, List.sum_cons]; rfl
def spSpoilt (K : PySem.W.Frag) : Sp := fun vs H Q _ => ∃ (l : Addr) (ws : List (List Nat)) (way th : Int) (u : List Nat), vs = [.ref l, .int way, .int th, .str (S u)] ∧ SqL K H l (W ws) ∧ (∀ w ∈ ws, WK w) ∧ WK u ∧ ws.length ≤ 200 ∧ ∀ (l' : Addr) (H' : Hp) (rs : List (List Nat)), Same H H' → SqL K H' l' (W rs) → Row1 ws rs → Q (.ref l') H'
section
variable {P : Program} {w : World} {K : PySem.W.Frag} {mg : Str → Option Value} {base : Heap} {f : Addr} {fd : FuncData}
theorem scSpoilt : FnScope ["_law_row", "_law_way", "_law_there", "_law_word", "_law_after"] ["_law_row", "_law_way", "_law_there", "_law_word"] (defScope sSpoilt) := ⟨rfl, rfl, rfl, by decide +kernel, rfl, by decide +kernel, by decide +kernel⟩
theorem ok_spoilt (F : Fun K "_law_spoilt" "_law_spoilt" sSpoilt f fd) (G : Gm mg) : FnOk P w K mg base CX0 1 f fd ["_law_row", "_law_way", "_law_there", "_law_word"] (spSpoilt K) := by
  refine F.ok scSpoilt (fun vs H Q E h => ?_) (fun cdv A outer s H vs Q E hr h => ?_)
  · obtain ⟨l, ws, way, th, u, rfl, _⟩ := h
    rfl
  obtain ⟨l, ws, way, th, u, rfl, hl, hw, hu, h200, q⟩ := h
  refine ⟨_, (pss_cons (ps_if (PW.pt (pw_or (pt_cmpR op_eqD (pv 0) (pe_lst pa_nil) (nomark _)) (pw_or1 (pt_cmpR op_eq (pv 1) pe_int (nomark _))))) (pss_one (ps_ret (pv 0))) pss_nil)
    (pss_cons (ps_set (i := 2) scSpoilt.nd rfl (Or.inl rfl) (pe_op op_mod (pv 2) (pe_callB call_len_seq rfl G.len PySem.boot_len (pa_cons (pv 0) pa_nil))))
    (pss_cons (ps_if (pt_cmpR op_eq (pv 1) pe_int (nomark _)) (pss_one (ps_ret (pe_op op_catL (pe_slice sl_list (pv 0) po_none (po_some (pv 2))) (pe_slice sl_list (pv 0) (po_some (pe_op op_add (pv 2) pe_int)) po_none)))) pss_nil)
    (pss_cons (ps_if (pt_cmpR op_eq (pv 1) pe_int (nomark _)) (pss_one (ps_ret (pe_op op_catL (pe_op op_catL (pe_slice sl_list (pv 0) po_none (po_some (pv 2))) (pe_lst (pa_cons (pv 3) pa_nil))) (pe_slice sl_list (pv 0) (po_some (pv 2)) po_none)))) pss_nil)
    (pss_cons (ps_if (pt_cmpR op_eq (pv 1) pe_int (nomark _)) (pss_one (ps_ret (pe_op op_catL (pe_op op_catL (pe_slice sl_list (pv 0) po_none (po_some (pv 2))) (pe_lst (pa_cons (pe_ix ix_list (pv 0) (pv 2) (fun _ _ => rfl)) pa_nil))) (pe_slice sl_list (pv 0) (po_some (pv 2)) po_none)))) pss_nil)
    (pss_cons (ps_set (i := 4) scSpoilt.nd rfl (Or.inl rfl) (pe_op op_catL (pe_slice sl_list (pv 0) (po_some (pe_op op_add (pv 2) pe_int)) (po_some (pe_op op_add (pv 2) pe_int))) (pe_lst (pa_cons (pe_ix ix_list (pv 0) (pv 2) (fun _ _ => rfl)) pa_nil))))
    (pss_one (ps_ret (pe_op op_catL (pe_op op_catL (pe_slice sl_list (pv 0) po_none (po_some (pv 2))) (pv 4)) (pe_slice sl_list (pv 0) (po_some (pe_op op_add (pv 2) pe_int)) po_none)))))))))), ?_⟩
  have room : ∀ m : Nat, m ≤ 64 → (A.deeper (PyProof.Rows.envOfC "_law_spoilt" (defScope sSpoilt) s.heap.objs.size f cdv)).units + m < cLine := fun m hm => by have := hr.units; omega
  have Wl : ∀ ws : List (List Nat), (W ws).length = ws.length := fun ws => List.length_map ..
  have Wt : ∀ (ws : List (List Nat)) (t : Nat), cutV (W ws) none (some (t : Int)) = W (ws.take t) := fun ws t => by rw [L2.cutTo]; exact List.map_take.symm
  have Wd : ∀ (ws : List (List Nat)) (t : Nat), cutV (W ws) (some (t : Int)) none = W (ws.drop t) := fun ws t => by rw [L2.cutFrom]; exact List.map_drop.symm
  have lay1 : (PyData.list ((ws.map S).map PyData.str)).canLay0 = true := by simp only [PyData.canLay0]; exact lay_strs _ fun x hx => by obtain ⟨u, hu, rfl⟩ := List.mem_map.mp hx; exact (hw u hu).str
  refine ⟨_, rfl, (by show 0 ≤ sizeLine; decide), fun ln hln => ?_⟩
  have s1 := same_new hln (.lst [])
  have b1 : upd H ln (.lst []) ln = some (.lst []) := upd_same
  generalize upd H ln (.lst []) = H1 at s1 b1 ⊢
  have hl1 := s1.seq hl
  refine ⟨.list ((ws.map S).map PyData.str), .list [], .lst hl1 (by rw [W_strs]; exact rd_strs _), .lst (SqL.of b1) .nil, lay1, by simp [PyData.canLay0, PyData.canLayAll0], room _ (Nat.le_trans (Nat.min_le_right _ _) (by simp [PyData.depth, PyData.depthAll])), _, rfl, ?_⟩
  rw [if_neg Bool.false_ne_true, eqv_lnil]
  have keep : Q (.ref l) H1 := q l H1 ws s1 hl1 ⟨hw, fun c _ => by omega⟩
  by_cases he : ws = []
  · have e1 : (ws.map S).isEmpty = true := by rw [he]; rfl
    rw [e1]
    exact iteT ⟨_, rfl, keep⟩
  have e1 : (ws.map S).isEmpty = false := by
    cases h : ws with
    | nil => exact absurd h he
    | cons a b => rfl
  rw [e1]
  refine iteF ⟨_, rfl, rfl, _, rfl, ite2 (fun _ => ⟨_, rfl, keep⟩) (fun _ => ?_)⟩
  have hpos := List.length_pos_iff.mpr he
  refine ⟨_, rfl, _, rfl, l, _, rfl, .inl hl1, _, _, rfl, rfl, (by rw [Wl]; show (0 : Int) < (ws.length : Int); omega), ?_⟩
  rw [Wl]
  obtain ⟨t, ht, htl⟩ : ∃ t : Nat, th % (ws.length : Int) = (t : Int) ∧ t < ws.length := by
    have z0 : 0 ≤ th % (ws.length : Int) := Int.emod_nonneg _ (by omega)
    have z1 : th % (ws.length : Int) < (ws.length : Int) := Int.emod_lt_of_pos _ (by omega)
    exact ⟨_, (Int.toNat_of_nonneg z0).symm, by omega⟩
  dsimp only
  rw [ht]
  have et1 : (t : Int) + 1 = ((t + 1 : Nat) : Int) := by omega
  have et2 : (t : Int) + 2 = ((t + 2 : Nat) : Int) := by omega
  have hat : atI (W ws) (t : Int) = some (.str (S ws[t])) := atI_nat (by unfold W; rw [List.getElem?_map, List.getElem?_eq_getElem htl]; rfl)
  have hmt : ∀ c : List Nat → Nat, mu c (ws.take t) + (c ws[t] + mu c (ws.drop (t + 1))) = mu c ws := fun c => by rw [← mu_drop_get c htl]; exact mu_split c ws t
  have hmd : ∀ c : List Nat → Nat, mu c (ws.drop t) = c ws[t] + mu c (ws.drop (t + 1)) := fun c => mu_drop_get c htl
  have wkt : ∀ x ∈ ws.take t, WK x := fun x hx => hw x (List.mem_of_mem_take hx)
  have wkd : ∀ n, ∀ x ∈ ws.drop n, WK x := fun n x hx => hw x (List.mem_of_mem_drop hx)
  have tl : (ws.take t).length ≤ 200 := by rw [List.length_take]; omega
  have dl : ∀ n, (ws.drop n).length ≤ 200 := fun n => by rw [List.length_drop]; omega
  refine ⟨_, rfl, rfl, _, rfl, ite2 (fun _ => ?_) (fun _ => ?_)⟩
  · -- left out
    refine ⟨_, rfl, _, rfl, _, rfl, l, _, rfl, hl1, fun p2 hp2 => ?_⟩
    rw [Wt]
    have s2 := same_new hp2 (.lst (W (ws.take t)))
    have b2 : upd H1 p2 (.lst (W (ws.take t))) p2 = some (.lst (W (ws.take t))) := upd_same
    generalize upd H1 p2 (.lst (W (ws.take t))) = H2 at s2 b2 ⊢
    refine ⟨_, rfl, _, rfl, _, _, rfl, rfl, _, rfl, l, _, rfl, s2.seq hl1, fun p3 hp3 => ?_⟩
    rw [et1, Wd]
    have s3 := same_new hp3 (.lst (W (ws.drop (t + 1))))
    have b3 : upd H2 p3 (.lst (W (ws.drop (t + 1)))) p3 = some (.lst (W (ws.drop (t + 1)))) := upd_same
    generalize upd H2 p3 (.lst (W (ws.drop (t + 1)))) = H3 at s3 b3 ⊢
    have hdl := dl (t + 1)
    refine ⟨p2, p3, _, _, rfl, rfl, SqL.of (s3 _ _ b2), SqL.of b3, (by rw [Wl, Wl]; exact line_of (by omega)), fun p4 hp4 => ?_⟩
    rw [← W_app]
    refine q p4 _ (ws.take t ++ ws.drop (t + 1)) (s1.trans (s2.trans (s3.trans (same_new hp4 _)))) (SqL.of upd_same) ⟨fun x hx => ?_, fun c hc => ?_⟩
    · rcases List.mem_append.mp hx with hx | hx
      · exact wkt x hx
      · exact wkd _ x hx
    · have := hmt c
      rw [mu_app]; omega
  refine ⟨_, rfl, rfl, _, rfl, ite2 (fun _ => ?_) (fun _ => ?_)⟩
  · -- put in
    refine ⟨_, rfl, _, rfl, _, rfl, l, _, rfl, hl1, fun p2 hp2 => ?_⟩
    rw [Wt]
    have s2 := same_new hp2 (.lst (W (ws.take t)))
    have b2 : upd H1 p2 (.lst (W (ws.take t))) p2 = some (.lst (W (ws.take t))) := upd_same
    generalize upd H1 p2 (.lst (W (ws.take t))) = H2 at s2 b2 ⊢
    refine ⟨_, rfl, (by show 1 ≤ sizeLine; decide), fun p3 hp3 => ?_⟩
    have s3 := same_new hp3 (.lst (W [u]))
    have b3 : upd H2 p3 (.lst (W [u])) p3 = some (.lst (W [u])) := upd_same
    change rCatL K (.ref p2) (.ref p3) (upd H2 p3 (.lst (W [u]))) _
    generalize upd H2 p3 (.lst (W [u])) = H3 at s3 b3 ⊢
    refine ⟨p2, p3, _, _, rfl, rfl, SqL.of (s3 _ _ b2), SqL.of b3, (by rw [Wl, Wl]; exact line_of (by simp only [List.length_singleton]; omega)), fun p4 hp4 => ?_⟩
    rw [← W_app]
    have s4 := same_new hp4 (.lst (W (ws.take t ++ [u])))
    have b4 : upd H3 p4 (.lst (W (ws.take t ++ [u]))) p4 = some (.lst (W (ws.take t ++ [u]))) := upd_same
    generalize upd H3 p4 (.lst (W (ws.take t ++ [u]))) = H4 at s4 b4 ⊢
    refine ⟨_, rfl, _, rfl, _, rfl, l, _, rfl, (s2.trans (s3.trans s4)).seq hl1, fun p5 hp5 => ?_⟩
    rw [Wd]
    have s5 := same_new hp5 (.lst (W (ws.drop t)))
    have b5 : upd H4 p5 (.lst (W (ws.drop t))) p5 = some (.lst (W (ws.drop t))) := upd_same
    generalize upd H4 p5 (.lst (W (ws.drop t))) = H5 at s5 b5 ⊢
    have hdl := dl t
    refine ⟨p4, p5, _, _, rfl, rfl, SqL.of (s5 _ _ b4), SqL.of b5, (by rw [Wl, Wl]; exact line_of (by rw [List.length_append, List.length_singleton]; omega)), fun p6 hp6 => ?_⟩
    rw [← W_app]
    refine q p6 _ (ws.take t ++ [u] ++ ws.drop t) (s1.trans (s2.trans (s3.trans (s4.trans (s5.trans (same_new hp6 _)))))) (SqL.of upd_same) ⟨fun x hx => ?_, fun c hc => ?_⟩
    · simp only [List.mem_append, List.mem_singleton] at hx
      rcases hx with (hx | rfl) | hx
      · exact wkt x hx
      · exact hu
      · exact wkd _ x hx
    · have h1 := hmt c
      have h2 := hmd c
      have h3 := hc u
      rw [mu_app, mu_app, mu_one]; omega
  refine ⟨_, rfl, rfl, _, rfl, ite2 (fun _ => ?_) (fun _ => ?_)⟩
  · -- doubled
    refine ⟨_, rfl, _, rfl, _, rfl, l, _, rfl, hl1, fun p2 hp2 => ?_⟩
    rw [Wt]
    have s2 := same_new hp2 (.lst (W (ws.take t)))
    have b2 : upd H1 p2 (.lst (W (ws.take t))) p2 = some (.lst (W (ws.take t))) := upd_same
    generalize upd H1 p2 (.lst (W (ws.take t))) = H2 at s2 b2 ⊢
    refine ⟨_, rfl, _, rfl, l, _, _, _, rfl, rfl, s2.seq hl1, hat, (by show 1 ≤ sizeLine; decide), fun p3 hp3 => ?_⟩
    have s3 := same_new hp3 (.lst (W [ws[t]]))
    have b3 : upd H2 p3 (.lst (W [ws[t]])) p3 = some (.lst (W [ws[t]])) := upd_same
    change rCatL K (.ref p2) (.ref p3) (upd H2 p3 (.lst (W [ws[t]]))) _
    generalize upd H2 p3 (.lst (W [ws[t]])) = H3 at s3 b3 ⊢
    refine ⟨p2, p3, _, _, rfl, rfl, SqL.of (s3 _ _ b2), SqL.of b3, (by rw [Wl, Wl]; exact line_of (by simp only [List.length_singleton]; omega)), fun p4 hp4 => ?_⟩
    rw [← W_app]
    have s4 := same_new hp4 (.lst (W (ws.take t ++ [ws[t]])))
    have b4 : upd H3 p4 (.lst (W (ws.take t ++ [ws[t]]))) p4 = some (.lst (W (ws.take t ++ [ws[t]]))) := upd_same
    generalize upd H3 p4 (.lst (W (ws.take t ++ [ws[t]]))) = H4 at s4 b4 ⊢
    refine ⟨_, rfl, _, rfl, _, rfl, l, _, rfl, (s2.trans (s3.trans s4)).seq hl1, fun p5 hp5 => ?_⟩
    rw [Wd]
    have s5 := same_new hp5 (.lst (W (ws.drop t)))
    have b5 : upd H4 p5 (.lst (W (ws.drop t))) p5 = some (.lst (W (ws.drop t))) := upd_same
    generalize upd H4 p5 (.lst (W (ws.drop t))) = H5 at s5 b5 ⊢
    have hdl := dl t
    refine ⟨p4, p5, _, _, rfl, rfl, SqL.of (s5 _ _ b4), SqL.of b5, (by rw [Wl, Wl]; exact line_of (by rw [List.length_append, List.length_singleton]; omega)), fun p6 hp6 => ?_⟩
    rw [← W_app]
    refine q p6 _ (ws.take t ++ [ws[t]] ++ ws.drop t) (s1.trans (s2.trans (s3.trans (s4.trans (s5.trans (same_new hp6 _)))))) (SqL.of upd_same) ⟨fun x hx => ?_, fun c hc => ?_⟩
    · simp only [List.mem_append, List.mem_singleton] at hx
      rcases hx with (hx | rfl) | hx
      · exact wkt x hx
      · exact hw _ (List.getElem_mem htl)
      · exact wkd _ x hx
    · have h1 := hmt c
      have h2 := hmd c
      have h3 := hc ws[t]
      rw [mu_app, mu_app, mu_one]; omega
  refine ⟨_, rfl, _, rfl, _, _, rfl, rfl, _, rfl, _, rfl, _, _, rfl, rfl, _, rfl, l, _, rfl, hl1, fun p2 hp2 => ?_⟩
  rw [et1, et2, cutW]
  have hcut : ∃ y, (ws.drop (min (t + 1) ws.length)).take (min (t + 2) ws.length - min (t + 1) ws.length) = (ws.drop (t + 1)).take y ∧ y ≤ 1 ∧ (ws.drop (t + 1)).drop y = ws.drop (t + 2) := by
    refine ⟨1, ?_, Nat.le_refl _, by rw [List.drop_drop]⟩
    rw [Nat.min_eq_left (show t + 1 ≤ ws.length by omega)]
    by_cases h : t + 2 ≤ ws.length
    · rw [Nat.min_eq_left h, show t + 2 - (t + 1) = 1 by omega]
    · rw [List.drop_of_length_le (by omega)]; simp
  obtain ⟨y, ey, hy1, hyd⟩ := hcut
  rw [ey]
  have s2 := same_new hp2 (.lst (W ((ws.drop (t + 1)).take y)))
  have b2 : upd H1 p2 (.lst (W ((ws.drop (t + 1)).take y))) p2 = some (.lst (W ((ws.drop (t + 1)).take y))) := upd_same
  generalize upd H1 p2 (.lst (W ((ws.drop (t + 1)).take y))) = H2 at s2 b2 ⊢
  refine ⟨_, rfl, _, rfl, l, _, _, _, rfl, rfl, s2.seq hl1, hat, (by show 1 ≤ sizeLine; decide), fun p3 hp3 => ?_⟩
  have s3 := same_new hp3 (.lst (W [ws[t]]))
  have b3 : upd H2 p3 (.lst (W [ws[t]])) p3 = some (.lst (W [ws[t]])) := upd_same
  change rCatL K (.ref p2) (.ref p3) (upd H2 p3 (.lst (W [ws[t]]))) _
  generalize upd H2 p3 (.lst (W [ws[t]])) = H3 at s3 b3 ⊢
  have hyl : ((ws.drop (t + 1)).take y).length ≤ 1 := by rw [List.length_take]; omega
  refine ⟨p2, p3, _, _, rfl, rfl, SqL.of (s3 _ _ b2), SqL.of b3, (by rw [Wl, Wl]; exact line_of (by simp only [List.length_singleton]; omega)), fun p4 hp4 => ?_⟩
  rw [← W_app]
  have s4 := same_new hp4 (.lst (W ((ws.drop (t + 1)).take y ++ [ws[t]])))
  have b4 : upd H3 p4 (.lst (W ((ws.drop (t + 1)).take y ++ [ws[t]]))) p4 = some (.lst (W ((ws.drop (t + 1)).take y ++ [ws[t]]))) := upd_same
  generalize upd H3 p4 (.lst (W ((ws.drop (t + 1)).take y ++ [ws[t]]))) = H4 at s4 b4 ⊢
  refine ⟨_, rfl, _, rfl, _, rfl, l, _, rfl, (s2.trans (s3.trans s4)).seq hl1, fun p5 hp5 => ?_⟩
  rw [Wt]
  have s5 := same_new hp5 (.lst (W (ws.take t)))
  have b5 : upd H4 p5 (.lst (W (ws.take t))) p5 = some (.lst (W (ws.take t))) := upd_same
  generalize upd H4 p5 (.lst (W (ws.take t))) = H5 at s5 b5 ⊢
  refine ⟨_, rfl, p5, p4, _, _, rfl, rfl, SqL.of b5, SqL.of (s5 _ _ b4), (by rw [Wl, Wl]; exact line_of (by rw [List.length_append, List.length_singleton]; omega)), fun p6 hp6 => ?_⟩
  rw [← W_app]
  generalize hmid : (ws.drop (t + 1)).take y ++ [ws[t]] = mid at hp6 ⊢
  have s6 := same_new hp6 (.lst (W (ws.take t ++ mid)))
  have b6 : upd H5 p6 (.lst (W (ws.take t ++ mid))) p6 = some (.lst (W (ws.take t ++ mid))) := upd_same
  generalize upd H5 p6 (.lst (W (ws.take t ++ mid))) = H6 at s6 b6 ⊢
  refine ⟨_, rfl, _, rfl, _, _, rfl, rfl, _, rfl, l, _, rfl, (s2.trans (s3.trans (s4.trans (s5.trans s6)))).seq hl1, fun p7 hp7 => ?_⟩
  rw [et2, Wd]
  have s7 := same_new hp7 (.lst (W (ws.drop (t + 2))))
  have b7 : upd H6 p7 (.lst (W (ws.drop (t + 2)))) p7 = some (.lst (W (ws.drop (t + 2)))) := upd_same
  generalize upd H6 p7 (.lst (W (ws.drop (t + 2)))) = H7 at s7 b7 ⊢
  have hdl := dl (t + 2)
  have hml : mid.length ≤ 2 := by rw [← hmid, List.length_append, List.length_singleton]; omega
  refine ⟨p6, p7, _, _, rfl, rfl, SqL.of (s7 _ _ b6), SqL.of b7, (by rw [Wl, Wl]; exact line_of (by rw [List.length_append]; omega)), fun p8 hp8 => ?_⟩
  rw [← W_app]
  refine q p8 _ (ws.take t ++ mid ++ ws.drop (t + 2)) (s1.trans (s2.trans (s3.trans (s4.trans (s5.trans (s6.trans (s7.trans (same_new hp8 _)))))))) (SqL.of upd_same) ⟨fun x hx => ?_, fun c hc => ?_⟩
  · rw [← hmid] at hx
    simp only [List.mem_append, List.mem_singleton] at hx
    rcases hx with (hx | hx | rfl) | hx
    · exact wkt x hx
    · exact wkd _ x (List.mem_of_mem_take hx)
    · exact hw _ (List.getElem_mem htl)
    · exact wkd _ x hx
  · have h1 := hmt c
    have h2 := mu_split c (ws.drop (t + 1)) y
    rw [hyd] at h2
    rw [← hmid, mu_app, mu_app, mu_app, mu_one]; omega
end
end K6
namespace K6
open PySem L2 K3 TM K9
inductive HsAt (K : PySem.W.Frag) (H : Hp) : List Addr → List Hd → Prop where
  | nil : HsAt K H [] []
  | cons {a : Addr} {as : List Addr} {h : Hd} {hs : List Hd} : SqT K H a [.str h.1, .int h.2] → PyData.strOk h.1 = true → HsAt K H as hs → HsAt K H (a :: as) (h :: hs)
inductive PsAt (K : PySem.W.Frag) (H0 H : Hp) (lh lp : Addr) (n : Nat) : List Addr → List (List (Tree Str)) → Prop where
  | nil : PsAt K H0 H lh lp n [] []
  | cons {a : Addr} {as : List Addr} {vs : List V} {P : List (Tree Str)} {Ps : List (List (Tree Str))} : H a = some (.lst vs) → TrAll K H vs P → vs.length ≤ n → (∀ t ∈ P, LayT t) → a ∉ as → a ≠ lh → a ≠ lp → H0 a = none → PsAt K H0 H lh lp n as Ps → PsAt K H0 H lh lp n (a :: as) (P :: Ps)
section
variable {K : PySem.W.Frag} {H0 H H' : Hp} {lh lp : Addr} {n n' : Nat} {as : List Addr} {hs : List Hd} {Ps : List (List (Tree Str))}
theorem HsAt.mono (k : ∀ a xs, SqT K H a xs → SqT K H' a xs) (h : HsAt K H as hs) : HsAt K H' as hs := by
  induction h with
  | nil => exact .nil
  | cons a b c ih => exact .cons (k _ _ a) b ih
theorem PsAt.mono (k : ∀ a xs, SqT K H a xs → SqT K H' a xs) (g : ∀ a ∈ as, ∀ u, H a = some u → H' a = some u) (hn : n ≤ n') (h : PsAt K H0 H lh lp n as Ps) : PsAt K H0 H' lh lp n' as Ps := by
  induction h with
  | nil => exact .nil
  | cons a b c d e f i j r ih => exact .cons (g _ List.mem_cons_self _ a) (TrAll.mono k b) (Nat.le_trans c hn) d e f i j (ih fun x hx => g x (List.mem_cons_of_mem _ hx))
theorem PsAt.len (h : PsAt K H0 H lh lp n as Ps) : as.length = Ps.length := by
  induction h with
  | nil => rfl
  | cons a b c d e f i j r ih => rw [List.length_cons, List.length_cons, ih]
theorem HsAt.len (h : HsAt K H as hs) : as.length = hs.length := by
  induction h with
  | nil => rfl
  | cons a b c ih => rw [List.length_cons, List.length_cons, ih]
theorem PsAt.fr (h : PsAt K H0 H lh lp n as Ps) : ∀ a ∈ as, H0 a = none ∧ a ≠ lh ∧ a ≠ lp ∧ ∃ vs, H a = some (.lst vs) := by
  induction h with
  | nil => intro a ha; cases ha
  | cons a b c d e f i j r ih =>
    intro x hx
    rcases List.mem_cons.mp hx with rfl | hx
    · exact ⟨j, f, i, _, a⟩
    · exact ih x hx
end
structure MS (K : PySem.W.Frag) (H0 H : Hp) (lh lp : Addr) (hs : List Hd) (Ps : List (List (Tree Str))) (m : Nat) : Prop where
  ex : ∃ ha pa : List Addr, H lh = some (.lst (ha.reverse.map V.ref)) ∧ H lp = some (.lst (pa.reverse.map V.ref)) ∧ HsAt K H ha hs ∧ PsAt K H0 H lh lp m pa Ps
  ne : lh ≠ lp
  n1 : H0 lh = none
  n2 : H0 lp = none
  sm : Same H0 H
  two : Ps.length = hs.length + 1
  few : hs.length ≤ m
theorem MS.same {K : PySem.W.Frag} {H0 H H' : Hp} {lh lp : Addr} {hs : List Hd} {Ps : List (List (Tree Str))} {m m' : Nat} (h : MS K H0 H lh lp hs Ps m) (g : Same H H') (hm : m ≤ m') : MS K H0 H' lh lp hs Ps m' := by
  obtain ⟨ha, pa, h1, h2, h3, h4⟩ := h.ex
  exact ⟨⟨ha, pa, g _ _ h1, g _ _ h2, h3.mono fun _ _ => g.seqT, h4.mono (fun _ _ => g.seqT) (fun a _ u e => g _ _ e) hm⟩, h.ne, h.n1, h.n2, h.sm.trans g, h.two, Nat.le_trans h.few hm⟩
theorem at_last {α : Type} (xs : List α) (x : α) : atI (xs ++ [x]) (-1) = some x := by
  unfold atI ixN
  rw [if_neg (by decide), if_pos (by rw [List.length_append, List.length_singleton]; omega)]
  have e : ((-1 : Int) + ((xs ++ [x]).length : Int)).toNat = xs.length := by rw [List.length_append, List.length_singleton]; omega
  rw [e]
  simp
theorem at_last' {α : Type} {xs : List α} {x : α} (h : xs.getLast? = some x) : atI xs (-1) = some x := by
  have hne : xs ≠ [] := fun z => by rw [z] at h; cases h
  rw [← List.dropLast_concat_getLast hne, at_last]
  rw [List.getLast?_eq_some_getLast hne] at h
  exact h
theorem MS.app {K : PySem.W.Frag} {H0 H : Hp} {lh lp : Addr} {hs : List Hd} {P : List (Tree Str)} {R : List (List (Tree Str))} {m : Nat} (h : MS K H0 H lh lp hs (P :: R) m) : ∃ (p : Addr) (pr : List Addr) (vs : List V), H lp = some (.lst (pr ++ [p] |>.map V.ref)) ∧ H p = some (.lst vs) ∧ TrAll K H vs P ∧ vs.length ≤ m ∧ (∀ t ∈ P, LayT t) ∧ ∀ (H1 : Hp) (v : V) (t : Tree Str) (m' : Nat), Same H H1 → TrV K H1 v t → LayT t → m + 1 ≤ m' → MS K H0 (upd H1 p (.lst (vs ++ [v]))) lh lp hs ((P ++ [t]) :: R) m' := by
  obtain ⟨ha, pa, h1, h2, h3, h4⟩ := h.ex
  cases h4 with
  | @cons p as vs _ _ a b c d e f i j r =>
    refine ⟨p, as.reverse, vs, by rw [h2]; simp, a, b, c, d, fun H1 v t m' g tv tl hm => ?_⟩
    have a1 := g _ _ a
    have up : ∀ x xs, SqT K H x xs → SqT K (upd H1 p (.lst (vs ++ [v]))) x xs := fun x xs q => sq_put (g.seqT q) a1
    refine ⟨⟨ha, p :: as, by rw [upd_ne f.symm]; exact g _ _ h1, by rw [upd_ne i.symm]; exact g _ _ h2, h3.mono up, .cons upd_same ((TrAll.mono up b).append (.cons (TrV.mono (fun _ _ q => sq_put q a1) tv) .nil)) (by rw [List.length_append, List.length_singleton]; omega) (fun x hx => ?_) e f i j ?_⟩, h.ne, h.n1, h.n2, fun x u q => ?_, by have := h.two; simpa using this, by have := h.few; omega⟩
    · rcases List.mem_append.mp hx with hx | hx
      · exact d x hx
      · obtain rfl := List.mem_singleton.mp hx; exact tl
    · refine r.mono up (fun x hx u q => ?_) (by omega)
      rw [upd_ne (show x ≠ p from fun z => e (z ▸ hx))]; exact g _ _ q
    · rw [upd_ne (ne_of_none q j)]; exact g _ _ (h.sm _ _ q)
theorem MS.up {K : PySem.W.Frag} {H0 H H1 : Hp} {lh lp t l : Addr} {hs : List Hd} {Ps : List (List (Tree Str))} {m : Nat} {hd : Hd} (h : MS K H0 H lh lp hs Ps m) (g : Same H H1) (ht : SqT K H1 t [.str hd.1, .int hd.2]) (ho : PyData.strOk hd.1 = true) (hl : H1 l = some (.lst [])) (hl0 : H l = none) :
    ∃ (ha pa : List V), H1 lh = some (.lst ha) ∧ ha.length ≤ hs.length ∧ pa.length ≤ Ps.length ∧ H1 lp = some (.lst pa) ∧ MS K H0 (upd (upd H1 lh (.lst (ha ++ [.ref t]))) lp (.lst (pa ++ [.ref l]))) lh lp (hd :: hs) ([] :: Ps) (m + 1) := by
  obtain ⟨ha, pa, h1, h2, h3, h4⟩ := h.ex
  have a1 := g _ _ h1
  have a2 := g _ _ h2
  have nl1 : l ≠ lh := fun z => by rw [z, h1] at hl0; cases hl0
  have nl2 : l ≠ lp := fun z => by rw [z, h2] at hl0; cases hl0
  have a3 : upd H1 lh (.lst (ha.reverse.map V.ref ++ [.ref t])) lp = some (.lst (pa.reverse.map V.ref)) := by rw [upd_ne h.ne.symm]; exact a2
  have up : ∀ x xs, SqT K H1 x xs → SqT K (upd (upd H1 lh (.lst (ha.reverse.map V.ref ++ [.ref t]))) lp (.lst (pa.reverse.map V.ref ++ [.ref l]))) x xs := fun x xs q => sq_put (sq_put q a1) a3
  have fr := h4.fr
  refine ⟨_, _, a1, by simp [h3.len], by simp [h4.len], a2, ⟨⟨t :: ha, l :: pa, by rw [upd_ne h.ne, upd_same]; simp, by rw [upd_same]; simp, .cons (up _ _ ht) ho (h3.mono fun _ _ q => up _ _ (g.seqT q)), .cons (by rw [upd_ne nl2, upd_ne nl1]; exact hl) .nil (Nat.zero_le _) (fun x hx => (nomatch hx)) (fun z => ?_) nl1 nl2 ?_ (h4.mono (fun _ _ q => up _ _ (g.seqT q)) (fun x hx u q => ?_) (Nat.le_succ _))⟩, h.ne, h.n1, h.n2, fun x u q => ?_, by have := h.two; simp; omega, by have := h.few; simp; omega⟩⟩
  · obtain ⟨_, _, _, vs, q⟩ := fr l z
    rw [hl0] at q; cases q
  · cases q : H0 l with
    | none => rfl
    | some u => rw [h.sm _ _ q] at hl0; cases hl0
  · obtain ⟨_, n1, n2, _⟩ := fr x hx
    rw [upd_ne n2, upd_ne n1]; exact g _ _ q
  · rw [upd_ne (ne_of_none q h.n2), upd_ne (ne_of_none q h.n1)]; exact g _ _ (h.sm _ _ q)
theorem MS.down {K : PySem.W.Frag} {H0 H : Hp} {lh lp : Addr} {hd : Hd} {hs : List Hd} {P : List (Tree Str)} {R : List (List (Tree Str))} {m : Nat} (h : MS K H0 H lh lp (hd :: hs) (P :: R) m) :
    ∃ (t p : Addr) (ha pa : List V) (vs : List V), H lp = some (.lst (pa ++ [.ref p])) ∧ H lh = some (.lst (ha ++ [.ref t])) ∧ H p = some (.lst vs) ∧ p ≠ lh ∧ p ≠ lp ∧ TrAll K H vs P ∧ vs.length ≤ m ∧ (∀ t ∈ P, LayT t) ∧ SqT K H t [.str hd.1, .int hd.2] ∧ PyData.strOk hd.1 = true ∧ MS K H0 (upd (upd H lp (.lst pa)) lh (.lst ha)) lh lp hs R m := by
  obtain ⟨ha, pa, h1, h2, h3, h4⟩ := h.ex
  cases h3 with
  | @cons t as _ _ b1 b2 b3 =>
    cases h4 with
    | @cons p ps vs _ _ a b c d e f i j r =>
      have a3 : upd H lp (.lst (ps.reverse.map V.ref)) lh = some (.lst ((t :: as).reverse.map V.ref)) := by rw [upd_ne h.ne]; exact h1
      have up : ∀ x xs, SqT K H x xs → SqT K (upd (upd H lp (.lst (ps.reverse.map V.ref))) lh (.lst (as.reverse.map V.ref))) x xs := fun x xs q => sq_put (sq_put q h2) a3
      have fr := r.fr
      refine ⟨t, p, as.reverse.map V.ref, ps.reverse.map V.ref, vs, by rw [h2]; simp, by rw [h1]; simp, a, f, i, b, c, d, b1, b2, ⟨⟨as, ps, upd_same, by rw [upd_ne h.ne.symm, upd_same], b3.mono up, r.mono up (fun x hx u q => ?_) (Nat.le_refl _)⟩, h.ne, h.n1, h.n2, fun x u q => ?_, by have := h.two; simpa using this, by have := h.few; simp at this; omega⟩⟩
      · obtain ⟨_, n1, n2, _⟩ := fr x hx
        rw [upd_ne n1, upd_ne n2]; exact q
      · rw [upd_ne (ne_of_none q h.n1), upd_ne (ne_of_none q h.n2)]; exact h.sm _ _ q
end K6
namespace K6
open PySem L2 K3 TM K9
def spTree (K : PySem.W.Frag) : Sp := fun vs H Q _ => ∃ (l : Addr) (ws : List (List Nat)), vs = [.ref l] ∧ SqL K H l (W ws) ∧ (∀ w ∈ ws, WK w) ∧ ws.length ≤ 200 ∧
  (∀ t, R0 ws [] [] [] 0 = some t → ∀ (v : V) (H' : Hp), Same H H' → TrV K H' v t → LayT t → Q v H') ∧ (R0 ws [] [] [] 0 = none → ∀ H', Same H H' → Q .non H')
theorem WK.first {w : List Nat} (h : WK w) : ∃ c r, w = c :: r ∧ beg w letL = decide (c ∈ letL) := by
  cases e : w with
  | nil => exact absurd e h.ne
  | cons c r => exact ⟨c, r, rfl, rfl⟩
theorem let_fig : ∀ c ∈ letL, c ∉ figL ∧ c ∉ numL := by decide
theorem WK.last {w : List Nat} (h : WK w) : ∃ c, w.getLast? = some c ∧ decide (c ∈ figL) = beg w numL := by
  cases h with
  | @nm _ h =>
    have hl := List.getLast?_eq_some_getLast h.ne
    refine ⟨_, hl, ?_⟩
    have h1 := h.all _ (List.getLast_mem h.ne)
    rw [decide_eq_false (let_fig _ h1).1]
    cases w with
    | nil => exact absurd rfl h.ne
    | cons c r => exact (decide_eq_false (let_fig _ (h.all c List.mem_cons_self)).2).symm
  | @num m hm =>
    obtain ⟨a, h1, h2⟩ := sh_last m
    refine ⟨a, h1, ?_⟩
    rw [decide_eq_true h2]
    obtain ⟨c, r, e, h3⟩ := sh_head m
    rw [e]
    refine (decide_eq_true ?_).symm
    rcases h3 with h3 | h3
    · exact List.mem_append_left _ h3
    · rw [h3]; exact List.mem_append_right _ List.mem_cons_self
  | op => exact ⟨40, rfl, by decide⟩
  | cl => exact ⟨41, rfl, by decide⟩
theorem WK.val {w : List Nat} (h : WK w) (hb : beg w numL = true) : ∃ i, intText? (S w) = some i := word_num h.word hb
theorem eqv_tsnil (ts : List (Tree Str)) : PyData.eqv (.list (tds ts)) (.list []) = ts.isEmpty := by
  cases ts <;> simp [tds, PyData.eqv, PyData.eqvAll]
def hdd (h : Hd) : PyData := .tuple [.str h.1, .int h.2]
theorem eqv_hsnil (hs : List PyData) : PyData.eqv (.list hs) (.list []) = hs.isEmpty := by
  cases hs <;> simp [PyData.eqv, PyData.eqvAll]
theorem rd_hs {K : PySem.W.Frag} {H : Hp} {as : List Addr} {hs : List Hd} (h : HsAt K H as hs) : RdAll K H (as.map V.ref) (hs.map hdd) := by
  induction h with
  | nil => exact .nil
  | cons a b c ih => exact .cons (.tup a (.cons (.str _) (.cons (.int _) .nil))) ih
theorem rdAll_app {K : PySem.W.Frag} {H : Hp} : ∀ {vs us : List V} {ds es : List PyData}, RdAll K H vs ds → RdAll K H us es → RdAll K H (vs ++ us) (ds ++ es)
  | _, _, _, _, .nil, h => h
  | _, _, _, _, .cons a b, h => .cons a (rdAll_app b h)
theorem rdAll_rev {K : PySem.W.Frag} {H : Hp} : ∀ {vs : List V} {ds : List PyData}, RdAll K H vs ds → RdAll K H vs.reverse ds.reverse
  | _, _, .nil => .nil
  | _, _, .cons a b => by rw [List.reverse_cons, List.reverse_cons]; exact rdAll_app (rdAll_rev b) (.cons a .nil)
theorem lay_all : ∀ {ds : List PyData}, (∀ d ∈ ds, d.canLay0 = true) → PyData.canLayAll0 ds = true
  | [], _ => by simp [PyData.canLayAll0]
  | d :: r, h => by
    simp only [PyData.canLayAll0, h d List.mem_cons_self, lay_all fun x hx => h x (List.mem_cons_of_mem _ hx), Bool.and_self]
theorem HsAt.lay {K : PySem.W.Frag} {H : Hp} {as : List Addr} {hs : List Hd} (h : HsAt K H as hs) : ∀ d ∈ hs.map hdd, d.canLay0 = true := by
  induction h with
  | nil => intro d hd; cases hd
  | cons a b c ih =>
    intro d hd
    rcases List.mem_cons.mp hd with rfl | hd
    · simp [hdd, PyData.canLay0, PyData.canLayAll0, b]
    · exact ih d hd
theorem upd_comm {H : Hp} {a b : Addr} {x y : HO} (h : a ≠ b) : upd (upd H a x) b y = upd (upd H b y) a x := by
  funext c
  unfold upd
  by_cases h1 : c = a <;> by_cases h2 : c = b <;> simp_all
section
variable {P : Program} {w : World} {K : PySem.W.Frag} {mg : Str → Option Value} {base : Heap} {f : Addr} {fd : FuncData}
theorem scTree : FnScope ["_law_row", "_law_heads", "_law_parts", "_law_k", "_law_mark", "_law_name", "_law_branches", "_law_head"] ["_law_row"] (defScope sTree) := ⟨rfl, rfl, rfl, by decide +kernel, rfl, by decide +kernel, by decide +kernel⟩
theorem ok_tree (F : Fun K "_law_tree" "_law_tree" sTree f fd) (G : Gm mg) : FnOk P w K mg base CX0 1 f fd ["_law_row"] (spTree K) := by
  refine F.ok scTree (fun vs H Q E h => ?_) (fun cdv A outer s H vs Q E hr h => ?_)
  · obtain ⟨l, ws, rfl, _⟩ := h
    rfl
  obtain ⟨l, ws, rfl, hl, hw, h200, q1, q2⟩ := h
  refine ⟨_, (pss_cons (ps_set (i := 1) scTree.nd rfl (Or.inl rfl) (pe_lst pa_nil))
    (pss_cons (ps_set (i := 2) scTree.nd rfl (Or.inl rfl) (pe_lst (pa_cons (pe_lst pa_nil) pa_nil)))
    (pss_cons (ps_set (i := 3) scTree.nd rfl (Or.inl rfl) pe_int)
    (pss_cons (ps_while PassesOwn.never (pt_cmpR op_lt (pv 3) (pe_callB call_len_seq rfl G.len PySem.boot_len (pa_cons (pv 0) pa_nil)) (nomark _)) (pss_one (ps_if (pt_cmpR op_in_one (pe_ix ix_str (pe_ix ix_list (pv 0) (pv 3) (fun _ _ => rfl)) pe_int (fun _ _ => rfl)) pe_str rfl) (pss_cons (ps_set (i := 4) scTree.nd rfl (Or.inl rfl) pe_int)
    (pss_cons (ps_set (i := 5) scTree.nd rfl (Or.inl rfl) (pe_ix ix_list (pv 0) (pv 3) (fun _ _ => rfl)))
    (pss_cons (ps_set (i := 3) scTree.nd rfl (Or.inl rfl) (pe_op op_add (pv 3) pe_int))
    (pss_cons (ps_cut (ps_if (PW.pt (pw_and (pt_cmpR op_lt (pv 3) (pe_callB call_len_seq rfl G.len PySem.boot_len (pa_cons (pv 0) pa_nil)) (nomark _)) (pw_and1 (pt_cmpR op_in_one (pe_ix ix_str (pe_ix ix_list (pv 0) (pv 3) (fun _ _ => rfl)) (pe_un un_neg pe_int) (fun _ _ => rfl)) pe_str rfl)))) (pss_cons (ps_set (i := 4) scTree.nd rfl (Or.inl rfl) (pe_callTy call_intS rfl G.int PyProof.Rows.boot_int (pa_cons (pe_ix ix_list (pv 0) (pv 3) (fun _ _ => rfl)) pa_nil)))
    (pss_one (ps_set (i := 3) scTree.nd rfl (Or.inl rfl) (pe_op op_add (pv 3) pe_int)))) pss_nil))
    (pss_one (ps_if (PW.pt (pw_and (pt_cmpR op_lt (pv 3) (pe_callB call_len_seq rfl G.len PySem.boot_len (pa_cons (pv 0) pa_nil)) (nomark _)) (pw_and1 (pt_cmpR op_eq (pe_ix ix_list (pv 0) (pv 3) (fun _ _ => rfl)) pe_str (nomark _))))) (pss_cons (ps_expr (pe_bm PySem.F.plainAttrs_list PySem.F.slot_list_append PySem.F.type_list_append mt_append (pv 1) (pa_cons ((pe_tup (pa_cons (pv 5) (pa_cons (pv 4) pa_nil)))) pa_nil)))
    (pss_cons (ps_expr (pe_bm PySem.F.plainAttrs_list PySem.F.slot_list_append PySem.F.type_list_append mt_append (pv 2) (pa_cons (pe_lst pa_nil) pa_nil)))
    (pss_one (ps_set (i := 3) scTree.nd rfl (Or.inl rfl) (pe_op op_add (pv 3) pe_int)))))
          (pss_one (ps_expr (pe_bm PySem.F.plainAttrs_list PySem.F.slot_list_append PySem.F.type_list_append mt_append (pe_ix ix_list (pv 2) (pe_un un_neg pe_int) (fun _ _ => rfl)) (pa_cons ((pe_tup (pa_cons (pv 5) (pa_cons (pv 4) (pa_cons (pe_tup pa_nil) pa_nil))))) pa_nil))))))))))
      (pss_one (ps_if (PW.pt (pw_and (pt_cmpR op_eq (pe_ix ix_list (pv 0) (pv 3) (fun _ _ => rfl)) pe_str (nomark _)) (pw_and (pt_cmpR op_neD (pv 1) (pe_lst pa_nil) (nomark _)) (pw_and1 (pt_cmpR op_neD (pe_ix ix_list (pv 2) (pe_un un_neg pe_int) (fun _ _ => rfl)) (pe_lst pa_nil) (nomark _)))))) (pss_cons (ps_set (i := 6) scTree.nd rfl (Or.inl rfl) (pe_bm0 PySem.F.plainAttrs_list PySem.F.slot_list_pop PySem.F.type_list_pop mt_pop (pv 2)))
    (pss_cons (ps_set (i := 7) scTree.nd rfl (Or.inl rfl) (pe_bm0 PySem.F.plainAttrs_list PySem.F.slot_list_pop PySem.F.type_list_pop mt_pop (pv 1)))
    (pss_cons (ps_expr (pe_bm PySem.F.plainAttrs_list PySem.F.slot_list_append PySem.F.type_list_append mt_append (pe_ix ix_list (pv 2) (pe_un un_neg pe_int) (fun _ _ => rfl)) (pa_cons ((pe_tup (pa_cons (pe_ix ix_tup (pv 7) pe_int (fun _ _ => rfl)) (pa_cons (pe_ix ix_tup (pv 7) pe_int (fun _ _ => rfl)) (pa_cons (pe_callTy call_tuple_of rfl G.tup PyProof.Rows.boot_tuple (pa_cons (pv 6) pa_nil)) pa_nil))))) pa_nil)))
    (pss_one (ps_set (i := 3) scTree.nd rfl (Or.inl rfl) (pe_op op_add (pv 3) pe_int)))))) (pss_one (ps_ret pe_non)))))))
    (pss_cons (ps_if (PW.pt (pw_or (pt_cmpR op_neD (pv 1) (pe_lst pa_nil) (nomark _)) (pw_or1 (pt_cmpR op_ne (pe_callB call_len_seq rfl G.len PySem.boot_len (pa_cons (pe_ix ix_list (pv 2) pe_int (fun _ _ => rfl)) pa_nil)) pe_int (nomark _))))) (pss_one (ps_ret pe_non)) pss_nil)
    (pss_one (ps_ret (pe_ix ix_list (pe_ix ix_list (pv 2) pe_int (fun _ _ => rfl)) pe_int (fun _ _ => rfl))))))))), ?_⟩
  have room : ∀ m : Nat, m ≤ 64 → (A.deeper (PyProof.Rows.envOfC "_law_tree" (defScope sTree) s.heap.objs.size f cdv)).units + m < cLine := fun m hm => by have := hr.units; omega
  have Wl : (W ws).length = ws.length := List.length_map ..
  have e40 : Str.ofString "(" = S [40] := by decide +kernel
  have e41 : Str.ofString ")" = S [41] := by decide +kernel
  have eA : ∀ m, m < ws.length → ∃ u, ws[m]? = some u ∧ ah ws m = u ∧ WK u := fun m h => ⟨ws[m], List.getElem?_eq_getElem h, by unfold ah; rw [List.getElem?_eq_getElem h]; rfl, hw _ (List.getElem_mem h)⟩
  have at_ : ∀ m, m < ws.length → atI (W ws) (m : Int) = some (.str (S (ah ws m))) := fun m h => atI_nat (ah_at h)
  refine ⟨(by show 0 ≤ sizeLine; decide), fun lh hlh => ?_⟩
  have s1 := same_new hlh (.lst [])
  have b1 : upd H lh (.lst []) lh = some (.lst []) := upd_same
  generalize upd H lh (.lst []) = H1 at s1 b1
  refine ⟨(by show 0 ≤ sizeLine; decide), fun l0 hl0 => ?_⟩
  have s2 := same_new hl0 (.lst [])
  have b2 : upd H1 l0 (.lst []) l0 = some (.lst []) := upd_same
  generalize upd H1 l0 (.lst []) = H2 at s2 b2
  refine ⟨(by show 1 ≤ sizeLine; decide), fun lp hlp => ?_⟩
  have s3 := same_new hlp (.lst [.ref l0])
  have b3 : upd H2 lp (.lst [.ref l0]) lp = some (.lst [.ref l0]) := upd_same
  generalize upd H2 lp (.lst [.ref l0]) = H3 at s3 b3
  have fr1 : ∀ a, H1 a = none → H a = none := fun a e => by
    cases q : H a with
    | none => rfl
    | some u => rw [s1 _ _ q] at e; cases e
  have fr2 : ∀ a, H2 a = none → H1 a = none := fun a e => by
    cases q : H1 a with
    | none => rfl
    | some u => rw [s2 _ _ q] at e; cases e
  have ms0 : MS K H H3 lh lp [] [[]] 0 := ⟨⟨[], [l0], s3 _ _ (s2 _ _ b1), b3, .nil, .cons (s3 _ _ b2) .nil (Nat.le_refl _) (fun t ht => (nomatch ht)) (by simp) (fun z => by rw [z, b1] at hl0; cases hl0) (fun z => by rw [z] at b2; rw [b2] at hlp; cases hlp) (fr1 _ hl0) .nil⟩, (fun z => by rw [← z, s2 _ _ b1] at hlp; cases hlp), hlh, fr1 _ (fr2 _ hlp), s1.trans (s2.trans s3), rfl, Nat.le_refl _⟩
  refine ⟨fun m σ' H' => ∃ (hs : List Hd) (Pt : List (Tree Str)) (Rt : List (List (Tree Str))) (k : Nat) (c4 c5 c6 c7 : Option V), σ' = [some (.ref l), some (.ref lh), some (.ref lp), some (.int (k : Int)), c4, c5, c6, c7] ∧ ws.length - k = m ∧ k ≤ ws.length ∧ MS K H H' lh lp hs (Pt :: Rt) k ∧ R0 ws [] [] [] 0 = R0 ws hs Pt Rt k,
    ⟨_, [], [], [], 0, none, none, none, none, rfl, rfl, Nat.zero_le _, ms0, rfl⟩, ?_⟩
  rintro m σ H4 ⟨hs, Pt, Rt, k, c4, c5, c6, c7, rfl, hm, hk, hM, hres⟩
  have hl4 := hM.sm.seq hl
  refine ⟨_, rfl, _, rfl, l, _, rfl, .inl hl4, _, _, rfl, rfl, _, rfl, ?_⟩
  rw [Wl]
  by_cases hlt' : ¬ k < ws.length
  · -- the end
    refine iteN (by omega) ?_
    rw [R0_end hlt'] at hres
    obtain ⟨ha, pa, h1, h2, h3, h4⟩ := hM.ex
    refine ⟨_, rfl, (by show 0 ≤ sizeLine; decide), fun ln hln => ?_⟩
    have s5 := same_new hln (.lst [])
    have b5 : upd H4 ln (.lst []) ln = some (.lst []) := upd_same
    generalize upd H4 ln (.lst []) = H5 at s5 b5 ⊢
    have hrd := rdAll_rev (rd_hs (h3.mono fun _ _ => s5.seqT))
    have hlay : PyData.canLayAll0 (hs.map hdd).reverse = true := lay_all fun d hd => h3.lay d (List.mem_reverse.mp hd)
    rw [← List.map_reverse] at hrd
    refine ⟨.list (hs.map hdd).reverse, .list [], .lst (SqL.of (s5 _ _ h1)) hrd, .lst (SqL.of b5) .nil, by simp only [PyData.canLay0]; exact hlay, by simp [PyData.canLay0, PyData.canLayAll0], room _ (Nat.le_trans (Nat.min_le_right _ _) (by simp [PyData.depth, PyData.depthAll])), _, rfl, ?_⟩
    rw [if_pos rfl, eqv_hsnil]
    have hsm := hM.sm.trans s5
    cases hs with
    | cons hd hs =>
      have e : (!((hd :: hs).map hdd).reverse.isEmpty) = true := by simp
      rw [e]
      exact iteT (q2 hres H5 hsm)
    | nil =>
      have e : (!(([] : List Hd).map hdd).reverse.isEmpty) = false := rfl
      rw [e]
      have hR : Rt = [] := by have := hM.two; simpa using this
      subst hR
      cases h4 with
      | @cons p as vs _ _ a b c d e f i j r =>
        cases r
        have b' := s5 _ _ a
        have htop := s5 _ _ h2
        refine iteF ⟨_, rfl, lp, _, 0, .ref p, rfl, rfl, SqL.of htop, rfl, p, _, rfl, .inl (SqL.of b'), rfl, _, rfl, ?_⟩
        have hvl := b.length
        match Pt, hres, b, d, hvl with
        | [], hres, b, d, hvl =>
          have : decide (V.int (vs.length : Int) = V.int 1) = false := decide_eq_false (fun z => by injection z with z; have h0 : vs.length = 0 := hvl; omega)
          rw [this]
          exact iteT (q2 hres H5 hsm)
        | [t], hres, b, d, hvl =>
          have : decide (V.int (vs.length : Int) = V.int 1) = true := decide_eq_true (by rw [hvl]; rfl)
          rw [this]
          cases b with
          | @cons v vs' _ _ tv rest =>
            cases rest
            exact iteF ⟨_, rfl, lp, _, 0, .ref p, rfl, rfl, SqL.of htop, rfl, p, _, 0, v, rfl, rfl, SqL.of b', rfl, q1 t hres v H5 hsm (TrV.mono (fun _ _ => s5.seqT) tv) (d t List.mem_cons_self)⟩
        | t :: u :: r, hres, b, d, hvl =>
          have : decide (V.int (vs.length : Int) = V.int 1) = false := decide_eq_false (fun z => by injection z with z; have h0 : vs.length = r.length + 1 + 1 := hvl; omega)
          rw [this]
          exact iteT (q2 hres H5 hsm)
  have hlt : k < ws.length := Classical.not_not.mp hlt'
  refine iteP (by omega) ⟨fun σ' H' => ∃ m', m' < m ∧ ∃ (hs : List Hd) (Pt : List (Tree Str)) (Rt : List (List (Tree Str))) (k : Nat) (c4 c5 c6 c7 : Option V), σ' = [some (.ref l), some (.ref lh), some (.ref lp), some (.int (k : Int)), c4, c5, c6, c7] ∧ ws.length - k = m' ∧ k ≤ ws.length ∧ MS K H H' lh lp hs (Pt :: Rt) k ∧ R0 ws [] [] [] 0 = R0 ws hs Pt Rt k, fun σ' H' h => h, ?_⟩
  obtain ⟨u, hu, hua, huw⟩ := eA k hlt
  obtain ⟨c, r, hcr, hcb⟩ := huw.first
  have hul := huw.len
  refine ⟨_, rfl, _, rfl, l, _, _, _, rfl, rfl, hl4, at_ k hlt, S (ah ws k), 0, c, rfl, rfl, (by rw [S_len, hua]; exact line_of (by omega)), (by rw [hua, hcr]; exact atS (k := 0) rfl), c, _, rfl, rfl, _, rfl, ?_⟩
  have elet : decide (c ∈ LETS.cps.toList) = beg (ah ws k) letL := by rw [let_cps, hua, hcb]
  rw [show (Str.ofString "abcdefghijklmnopqrstuvwxyz").cps.toList = LETS.cps.toList from rfl, elet]
  cases hb : beg (ah ws k) letL with
  | true =>
    have hk1 : k + 1 ≤ ws.length := hlt
    have ek1 : (k : Int) + 1 = ((k + 1 : Nat) : Int) := by omega
    refine iteT ?_
    refine ⟨_, rfl, _, rfl, l, _, _, _, rfl, rfl, hl4, at_ k hlt, _, rfl, _, _, rfl, rfl, ?_⟩
    dsimp only
    rw [ek1]
    obtain ⟨kp1, kp2⟩ := mkP_le (ws := ws) (m := k + 1) hk1
    refine ⟨fun σ' H' => σ' = [some (.ref l), some (.ref lh), some (.ref lp), some (.int ((mkP ws (k + 1)).2 : Int)), some (.int (mkP ws (k + 1)).1), some (.str (S (ah ws k))), c6, c7] ∧ H4 = H', ?_, ?_⟩
    · refine ⟨_, rfl, _, rfl, l, _, rfl, .inl hl4, _, _, rfl, rfl, _, rfl, ?_⟩
      rw [Wl]
      by_cases hlt2 : k + 1 < ws.length
      · refine iteP (by omega) ?_
        obtain ⟨u2, hu2, hua2, huw2⟩ := eA (k + 1) hlt2
        obtain ⟨c2, hc2, hcb2⟩ := huw2.last
        have hul2 := huw2.len
        refine ⟨_, rfl, _, rfl, l, _, _, _, rfl, rfl, hl4, at_ (k + 1) hlt2, _, rfl, S (ah ws (k + 1)), -1, c2, rfl, rfl, (by rw [S_len, hua2]; exact line_of (by omega)), (by rw [S_list, hua2]; exact at_last' hc2), c2, _, rfl, rfl, _, rfl, ?_⟩
        have efig : decide (c2 ∈ FIGS.cps.toList) = beg (ah ws (k + 1)) numL := by rw [fig_cps, hua2, hcb2]
        rw [show (Str.ofString "0123456789").cps.toList = FIGS.cps.toList from rfl, efig]
        cases hb2 : beg (ah ws (k + 1)) numL with
        | true =>
          obtain ⟨i, hi⟩ := huw2.val (by rw [← hua2]; exact hb2)
          have em : mkP ws (k + 1) = (i, k + 2) := by rw [mkP, if_pos hb2, hua2, hi]; rfl
          rw [em]
          refine iteT ⟨_, rfl, _, rfl, l, _, _, _, rfl, rfl, hl4, at_ (k + 1) hlt2, _, i, rfl, (by rw [hua2]; exact hi), (by rw [S_len, hua2]; omega), _, rfl, _, _, rfl, rfl, ?_, rfl⟩
          show [some (V.ref l), some (V.ref lh), some (V.ref lp), some (V.int (((k + 1 : Nat) : Int) + 1)), some (V.int i), some (V.str (S (ah ws k))), c6, c7] = _
          rw [show ((k + 1 : Nat) : Int) + 1 = ((k + 2 : Nat) : Int) by omega]
        | false =>
          have em : mkP ws (k + 1) = (0, k + 1) := by rw [mkP, if_neg (by rw [hb2]; decide)]
          rw [em]
          exact iteF ⟨rfl, rfl⟩
      · have ee : ah ws (k + 1) = [] := by unfold ah; rw [List.getElem?_eq_none (by omega)]; rfl
        have em : mkP ws (k + 1) = (0, k + 1) := by rw [mkP, if_neg (by rw [ee]; decide)]
        rw [em]
        exact iteN (by omega) ⟨rfl, rfl⟩
    rintro σ' H' ⟨rfl, rfl⟩
    generalize hmk : mkP ws (k + 1) = mp at kp1 kp2
    have hstr : PyData.strOk (S (ah ws k)) = true := by rw [hua]; exact huw.str
    refine ⟨_, rfl, _, rfl, l, _, rfl, .inl hl4, _, _, rfl, rfl, _, rfl, ?_⟩
    rw [Wl]
    have leaf : ah ws mp.2 ≠ [40] → ∃ (p : Addr) (pr : List Addr) (vs : List V), H4 lp = some (.lst (pr ++ [p] |>.map V.ref)) ∧ H4 p = some (.lst vs) ∧ vs.length ≤ k ∧ ∀ (H1 : Hp) (v : V), Same H4 H1 → TrV K H1 v (.node (S (ah ws k)) mp.1 []) → ∃ m', m' < m ∧ ∃ (hs : List Hd) (Pt : List (Tree Str)) (Rt : List (List (Tree Str))) (k' : Nat) (c4 c5 c6' c7' : Option V), [some (V.ref l), some (V.ref lh), some (V.ref lp), some (V.int (mp.2 : Int)), some (V.int mp.1), some (V.str (S (ah ws k))), c6, c7] = [some (V.ref l), some (V.ref lh), some (V.ref lp), some (V.int (k' : Int)), c4, c5, c6', c7'] ∧ ws.length - k' = m' ∧ k' ≤ ws.length ∧ MS K H (upd H1 p (.lst (vs ++ [v]))) lh lp hs (Pt :: Rt) k' ∧ R0 ws [] [] [] 0 = R0 ws hs Pt Rt k' := fun h40 => by
      obtain ⟨p, pr, vs, a1, a2, a3, a4, a5, a6⟩ := hM.app
      refine ⟨p, pr, vs, a1, a2, a4, fun H1 v g tv => ⟨ws.length - mp.2, by omega, hs, Pt ++ [.node (S (ah ws k)) mp.1 []], Rt, mp.2, _, _, _, _, rfl, rfl, kp2, a6 H1 v _ mp.2 g tv (LayT.node (ts := []) hstr fun t ht => (nomatch ht)) (by omega), ?_⟩⟩
      rw [hres]
      have := R0_leaf (hs := hs) (P := Pt) (R := Rt) hlt hb (by rw [hmk]; exact h40)
      rw [hmk] at this; exact this
    have leafGo : ah ws mp.2 ≠ [40] → tBM K "list" rAppend (tOp (rIxL K) (tVar 2) (tUn (rU fun i => V.int (-i)) (tC (V.int 1)))) (tCons (tTup (tCons (tVar 5) (tCons (tVar 4) (tCons (tTup tNil) tNil)))) tNil) [some (V.ref l), some (V.ref lh), some (V.ref lp), some (V.int (mp.2 : Int)), some (V.int mp.1), some (V.str (S (ah ws k))), c6, c7] H4 fun _ H' => ∃ m', m' < m ∧ ∃ (hs : List Hd) (Pt : List (Tree Str)) (Rt : List (List (Tree Str))) (k' : Nat) (c4 c5 c6' c7' : Option V), [some (V.ref l), some (V.ref lh), some (V.ref lp), some (V.int (mp.2 : Int)), some (V.int mp.1), some (V.str (S (ah ws k))), c6, c7] = [some (V.ref l), some (V.ref lh), some (V.ref lp), some (V.int (k' : Int)), c4, c5, c6', c7'] ∧ ws.length - k' = m' ∧ k' ≤ ws.length ∧ MS K H H' lh lp hs (Pt :: Rt) k' ∧ R0 ws [] [] [] 0 = R0 ws hs Pt Rt k' := fun h40 => by
      obtain ⟨p, pr, vs, a1, a2, a4, a6⟩ := leaf h40
      refine ⟨_, rfl, _, rfl, lp, _, -1, .ref p, rfl, rfl, SqL.of a1, (by rw [List.map_append]; exact at_last _ _), .inl ⟨rfl, _, SqL.of a2⟩, _, rfl, _, rfl, (by show 0 ≤ sizeLine; decide), fun t0 ht0 => ⟨(by show 3 ≤ sizeLine; decide), fun t1 ht1 => ?_⟩⟩
      have g0 := same_new ht0 (.tup [])
      have d0 : upd H4 t0 (.tup []) t0 = some (.tup []) := upd_same
      generalize upd H4 t0 (.tup []) = X0 at g0 d0 ht1 ⊢
      have g1 := same_new ht1 (.tup [.str (S (ah ws k)), .int mp.1, .ref t0])
      have d1 : upd X0 t1 (.tup [.str (S (ah ws k)), .int mp.1, .ref t0]) t1 = some (.tup [.str (S (ah ws k)), .int mp.1, .ref t0]) := upd_same
      generalize upd X0 t1 (.tup [.str (S (ah ws k)), .int mp.1, .ref t0]) = X1 at g1 d1 ⊢
      have g01 := g0.trans g1
      exact ⟨p, vs, .ref t1, rfl, rfl, g01 _ _ a2, Nat.lt_of_lt_of_le (show vs.length < 5001 by omega) (show 5001 ≤ sizeLine by decide), a6 X1 (.ref t1) g01 (.mk (SqT.of d1) (SqT.of (g1 _ _ d0)) .nil (Nat.zero_le _))⟩
    by_cases hlt3 : mp.2 < ws.length
    · refine iteP (by omega) ⟨_, rfl, _, rfl, l, _, _, _, rfl, rfl, hl4, at_ mp.2 hlt3, rfl, _, rfl, ?_⟩
      rw [e40]
      by_cases h40 : ah ws mp.2 = [40]
      · refine iteP (by rw [h40]) ?_
        obtain ⟨ha0, pa0, h1, h2, h3, h4⟩ := hM.ex
        have hh3 := h3.len
        have hh4 := h4.len
        have htw := hM.two
        have hfw := hM.few
        refine ⟨_, rfl, .inl ⟨rfl, _, SqL.of h1⟩, _, rfl, _, rfl, (by show 2 ≤ sizeLine; decide), fun t1 ht1 => ?_⟩
        have g1 := same_new ht1 (.tup [.str (S (ah ws k)), .int mp.1])
        have d1 : upd H4 t1 (.tup [.str (S (ah ws k)), .int mp.1]) t1 = some (.tup [.str (S (ah ws k)), .int mp.1]) := upd_same
        generalize upd H4 t1 (.tup [.str (S (ah ws k)), .int mp.1]) = X1 at g1 d1 ⊢
        refine ⟨lh, _, .ref t1, rfl, rfl, g1 _ _ h1, Nat.lt_of_lt_of_le (show _ < 5001 by rw [List.length_map, List.length_reverse]; omega) (show 5001 ≤ sizeLine by decide), ?_⟩
        have e2 : upd X1 lh (.lst (ha0.reverse.map V.ref ++ [.ref t1])) lp = some (.lst (pa0.reverse.map V.ref)) := by rw [upd_ne hM.ne.symm]; exact g1 _ _ h2
        refine ⟨_, rfl, .inl ⟨rfl, _, SqL.of e2⟩, (by show 0 ≤ sizeLine; decide), fun l2 hl2 => ?_⟩
        have nlh : l2 ≠ lh := fun z => by rw [z, upd_same] at hl2; cases hl2
        have hl2' : X1 l2 = none := by rw [upd_ne nlh] at hl2; exact hl2
        have hl24 : H4 l2 = none := by
          cases q : H4 l2 with
          | none => rfl
          | some u => rw [g1 _ _ q] at hl2'; cases hl2'
        rw [upd_comm nlh.symm]
        have g2 := same_new hl2' (.lst [])
        have d2 : upd X1 l2 (.lst []) l2 = some (.lst []) := upd_same
        generalize upd X1 l2 (.lst []) = X2 at g2 d2 ⊢
        obtain ⟨ha1, pa1, u1, u2, u3, u4, u5⟩ := hM.up (hd := (S (ah ws k), mp.1)) (g1.trans g2) (SqT.of (g2 _ _ d1)) hstr d2 hl24
        obtain rfl : ha1 = ha0.reverse.map V.ref := by
          have := (g1.trans g2) _ _ h1
          rw [u1] at this; injection this with this; injection this
        obtain rfl : pa1 = pa0.reverse.map V.ref := by
          have := (g1.trans g2) _ _ h2
          rw [u4] at this; injection this with this; injection this
        have e3 : upd X2 lh (.lst (ha0.reverse.map V.ref ++ [.ref t1])) lp = some (.lst (pa0.reverse.map V.ref)) := by rw [upd_ne hM.ne.symm]; exact u4
        refine ⟨lp, _, .ref l2, rfl, rfl, e3, Nat.lt_of_lt_of_le (show _ < 5001 by rw [List.length_map, List.length_reverse]; omega) (show 5001 ≤ sizeLine by decide), ?_⟩
        refine ⟨_, rfl, _, _, rfl, rfl, ?_⟩
        refine ⟨ws.length - (mp.2 + 1), by omega, (S (ah ws k), mp.1) :: hs, [], Pt :: Rt, mp.2 + 1, some (.int mp.1), some (.str (S (ah ws k))), c6, c7, ?_, rfl, hlt3, ?_, ?_⟩
        · show [some (V.ref l), some (V.ref lh), some (V.ref lp), some (V.int ((mp.2 : Int) + 1)), some (V.int mp.1), some (V.str (S (ah ws k))), c6, c7] = _
          rw [show (mp.2 : Int) + 1 = ((mp.2 + 1 : Nat) : Int) by omega]
        · exact u5.same (Same.refl _) (by omega)
        · rw [hres]
          have := R0_up (hs := hs) (P := Pt) (R := Rt) hlt hb (by rw [hmk]; exact h40)
          rw [hmk] at this; exact this
      · exact iteN (fun z => h40 (S_inj (by injection z))) (leafGo h40)
    · have ee : ah ws mp.2 = [] := by unfold ah; rw [List.getElem?_eq_none (by omega)]; rfl
      exact iteN (by omega) (leafGo (by rw [ee]; decide))
  | false =>
    refine iteF ?_
    refine ⟨_, rfl, _, rfl, l, _, _, _, rfl, rfl, hl4, at_ k hlt, rfl, _, rfl, ?_⟩
    rw [e41]
    by_cases h41 : ah ws k = [41]
    · refine iteP (by rw [h41]) ?_
      obtain ⟨ha, pa, h1, h2, h3, h4⟩ := hM.ex
      refine ⟨_, rfl, (by show 0 ≤ sizeLine; decide), fun ln hln => ?_⟩
      have s5 := same_new hln (.lst [])
      have b5 : upd H4 ln (.lst []) ln = some (.lst []) := upd_same
      generalize upd H4 ln (.lst []) = H5 at s5 b5 ⊢
      have hrd := rdAll_rev (rd_hs (h3.mono fun _ _ => s5.seqT))
      have hlay : PyData.canLayAll0 (hs.map hdd).reverse = true := lay_all fun d hd => h3.lay d (List.mem_reverse.mp hd)
      rw [← List.map_reverse] at hrd
      refine ⟨.list (hs.map hdd).reverse, .list [], .lst (SqL.of (s5 _ _ h1)) hrd, .lst (SqL.of b5) .nil, by simp only [PyData.canLay0]; exact hlay, by simp [PyData.canLay0, PyData.canLayAll0], room _ (Nat.le_trans (Nat.min_le_right _ _) (by simp [PyData.depth, PyData.depthAll])), _, rfl, ?_⟩
      rw [if_pos rfl, eqv_hsnil]
      have hM5 := hM.same s5 (Nat.le_refl _)
      cases hs with
      | nil =>
        have e : (!(([] : List Hd).map hdd).reverse.isEmpty) = false := rfl
        rw [e]
        exact iteF (q2 (by rw [hres]; exact R0_no hlt hb fun _ => .inl rfl) H5 hM5.sm)
      | cons hd hs =>
      have e : (!((hd :: hs).map hdd).reverse.isEmpty) = true := by simp
      rw [e]
      obtain ⟨t, p, ha1, pa1, vs, m1, m2, m3, m4, m5, m6, m7, m8, m9, m10, m11⟩ := hM5.down
      refine iteT ⟨_, rfl, _, rfl, lp, _, -1, .ref p, rfl, rfl, SqL.of m1, at_last _ _, (by show 0 ≤ sizeLine; decide), fun ln2 hln2 => ?_⟩
      have s6 := same_new hln2 (.lst [])
      have b6 : upd H5 ln2 (.lst []) ln2 = some (.lst []) := upd_same
      generalize upd H5 ln2 (.lst []) = H6 at s6 b6 ⊢
      have lay6 : (PyData.list (tds Pt)).canLay0 = true := by simp only [PyData.canLay0]; exact lay_tds _ m8
      refine ⟨.list (tds Pt), .list [], .lst (SqL.of (s6 _ _ m3)) (TrAll.rd (TrAll.mono (fun _ _ => s6.seqT) m6)), .lst (SqL.of b6) .nil, lay6, by simp [PyData.canLay0, PyData.canLayAll0], room _ (Nat.le_trans (Nat.min_le_right _ _) (by simp [PyData.depth, PyData.depthAll])), _, rfl, ?_⟩
      rw [if_pos rfl, eqv_tsnil]
      have hM6 := hM5.same s6 (Nat.le_refl _)
      cases Pt with
      | nil => exact iteF (q2 (by rw [hres]; exact R0_no hlt hb fun _ => .inr (.inl rfl)) H6 hM6.sm)
      | cons p0 P0 =>
      have hR : ∃ Q0 R1, Rt = Q0 :: R1 := by
        have := hM.two
        cases Rt with
        | nil => simp at this
        | cons a b => exact ⟨a, b, rfl⟩
      obtain ⟨Q0, R1, rfl⟩ := hR
      clear m1 m2 m3 m4 m5 m6 m7 m8 m9 m10 m11 h1 h2 h3 h4
      obtain ⟨t, p, ha1, pa1, vs, m1, m2, m3, m4, m5, m6, m7, m8, m9, m10, m11⟩ := hM6.down
      refine iteT ?_
      have getl : ∀ (xs : List V) (x : V), (xs ++ [x])[(xs ++ [x]).length - 1]? = some x := fun xs x => by simp
      refine ⟨_, rfl, .inl ⟨rfl, _, SqL.of m1⟩, lp, _, _, rfl, rfl, m1, getl _ _, ?_⟩
      rw [List.dropLast_concat]
      have m2' : upd H6 lp (.lst pa1) lh = some (.lst (ha1 ++ [.ref t])) := by rw [upd_ne hM.ne]; exact m2
      refine ⟨_, rfl, .inl ⟨rfl, _, SqL.of m2'⟩, lh, _, _, rfl, rfl, m2', getl _ _, ?_⟩
      rw [List.dropLast_concat]
      obtain ⟨p2, pr2, vs2, n1, n2, n3, n4, n5, n6⟩ := m11.app
      have up : ∀ x xs, SqT K H6 x xs → SqT K (upd (upd H6 lp (.lst pa1)) lh (.lst ha1)) x xs := fun x xs q => sq_put (sq_put q m1) m2'
      have m3' : upd (upd H6 lp (.lst pa1)) lh (.lst ha1) p = some (.lst vs) := by rw [upd_ne m4, upd_ne m5]; exact m3
      have m6' := TrAll.mono up m6
      have m9' := up _ _ m9
      generalize upd (upd H6 lp (.lst pa1)) lh (.lst ha1) = H7 at n1 n2 n3 n6 m3' m6' m9' ⊢
      refine ⟨_, rfl, _, rfl, lp, _, -1, .ref p2, rfl, rfl, SqL.of n1, (by rw [List.map_append]; exact at_last _ _), .inl ⟨rfl, _, SqL.of n2⟩, _, rfl, t, _, 0, _, rfl, rfl, m9', rfl, _, rfl, t, _, 1, _, rfl, rfl, m9', rfl, _, rfl, p, vs, rfl, .inl ⟨SqL.of m3', fun tb htb => ?_⟩⟩
      have g8 := same_new htb (.tup vs)
      have d8 : upd H7 tb (.tup vs) tb = some (.tup vs) := upd_same
      generalize upd H7 tb (.tup vs) = H8 at g8 d8 ⊢
      refine ⟨(by show 3 ≤ sizeLine; decide), fun tt htt => ?_⟩
      have g9 := same_new htt (.tup [.str hd.1, .int hd.2, .ref tb])
      have d9 : upd H8 tt (.tup [.str hd.1, .int hd.2, .ref tb]) tt = some (.tup [.str hd.1, .int hd.2, .ref tb]) := upd_same
      generalize upd H8 tt (.tup [.str hd.1, .int hd.2, .ref tb]) = H9 at g9 d9 ⊢
      have g89 := g8.trans g9
      refine ⟨p2, vs2, .ref tt, rfl, rfl, g89 _ _ n2, Nat.lt_of_lt_of_le (show vs2.length < 5001 by omega) (show 5001 ≤ sizeLine by decide), ?_⟩
      refine ⟨_, rfl, _, _, rfl, rfl, ?_⟩
      refine ⟨ws.length - (k + 1), by omega, hs, Q0 ++ [.node hd.1 hd.2 (p0 :: P0)], R1, k + 1, c4, c5, some (.ref p), some (.ref t), ?_, rfl, hlt, n6 H9 (.ref tt) _ (k + 1) g89 (.mk (SqT.of d9) (SqT.of (g9 _ _ d8)) (TrAll.mono (fun _ _ => g89.seqT) m6') (by omega)) (LayT.node m10 m8) (Nat.le_refl _), ?_⟩
      · show [some (V.ref l), some (V.ref lh), some (V.ref lp), some (V.int ((k : Int) + 1)), c4, c5, some (V.ref p), some (V.ref t)] = _
        rw [show (k : Int) + 1 = ((k + 1 : Nat) : Int) by omega]
      · rw [hres]
        exact R0_down h41
    · refine iteN (fun z => h41 (S_inj (by injection z))) (q2 ?_ H4 hM.sm)
      rw [hres]
      exact R0_no hlt hb fun z => absurd z h41
end
end K6
namespace L2
open PySem PySem.Spec PyProof.Rows PySem.W
theorem exc_ans {K : Frag} {a : Addr} {t c : Value} (e : kitOne K t c = some true) : Answers (fun s => K.In s.heap ∧ ∃ ob, s.heap.get? a = some ob ∧ ob.cls = t) (.ref a) c true := by
  intro dep tk prog w A R s hs
  obtain ⟨h0, g, d, tt, os⟩ := s
  obtain ⟨⟨X, ob, hob, hcl⟩, hq⟩ := hs
  have LT : Looks (model prog w) h0 (typeOf (.ref a)) t := hcl ▸ (Looks.ld hob).andThen .now
  unfold kitOne at e
  unfold Builtin.«isinstance.nested»
  refine wpAny_bind (LT.at ?_)
  by_cases q : (t == c) = true
  · rw [if_pos q]
    first
      | ((repeat lk); exact hq tt)
      | exact wpAny_bind (wpAny_rule (hq tt))
      | exact wpAny_bind (wpAny_rule (wpAny_pure (hq tt)))
  · rw [if_neg q] at e
    rw [if_neg q]
    obtain ⟨hty, his, hsub⟩ := kit_cls (M := model prog w) X e
    have LI : Looks (model prog w) h0 (isInstance (.ref a) c) true := LT.andThen hsub
    refine wpAny_bind (hty.at ?_)
    rw [if_pos (by decide)]
    k_delta "plainIsInstance"
    refine wpAny_bind (wpAny_bind (his.at ?_))
    simp only [Bool.not_true, Bool.false_eq_true, if_false]
    refine wpAny_bind (LI.at ?_)
    first
      | exact wpAny_pure (wpAny_pure (hq tt))
      | (simp only [if_true]; first | exact wpAny_pure (wpAny_pure (hq tt)) | exact wpAny_pure (hq tt) | exact wpAny_bind (wpAny_pure (wpAny_pure (hq tt))))
def clsOf : V → Option Value
  | .ref C => some (.ref C)
  | .ty T => some (.type T)
  | _ => none
theorem relV_cls {v : V} {u c : Value} (r : RelV v u) (h : clsOf v = some c) : u = c := by
  cases v with
  | ref C => cases h; exact r
  | ty T => cases h; exact r
  | _ => cases h
abbrev rIsX (K : Frag) : List V → Hp → VK → Prop := fun xs H Q => ∃ a t v c, xs = [.ref a, v] ∧ H a = some (ExcO a t) ∧ clsOf v = some c ∧ kitOne K t c = some true ∧ Q (.bl true) H
section
variable {X : Cx}
theorem call_isinstX : CallR X (.builtin "isinstance") (rIsX X.K) := by
  intro pins s σ H xs us Q I r h
  obtain ⟨a, t, v, c, rfl, ha, hc, e, q⟩ := h
  obtain ⟨u, c', rfl, rx, rc⟩ := vals2 r
  cases (show u = Value.ref a from rx)
  cases relV_cls rc hc
  have hob : ∃ ob, s.heap.get? a = some ob ∧ ob.cls = t := (I.hok a _ ha).1
  exact call_isinstance (S := fun _ R s => (X.K.In s.heap ∧ ∃ ob, s.heap.get? a = some ob ∧ ob.cls = t) ∧ ∀ tk, R (.ok (.ret (.bool true))) { s with toks := tk })
    (fun prog w A R s hs => isinstance_outer (exc_ans e 0 _ prog w A R s hs) (fun z => nomatch z)) ⟨⟨I.kIn, hob⟩, fun tk => ⟨.bl true, H, I.tok tk, rfl, q⟩⟩
end
end L2
namespace K6
open PySem L2 K3 TM K9
abbrev sTld : Str := Str.ofString "told"
abbrev sRef : Str := Str.ofString "refused"
def spTold (K : PySem.W.Frag) (T : Addr) : Sp := fun vs H Q _ => ∃ (z : List Nat) (ws : List (List Nat)), vs = [.str (S z)] ∧ z.length ≤ 9000 ∧ Writ z ws ∧ ws.length ≤ 1000 ∧ Z1 T H ∧
  (∀ t, readP ws = some t → ∀ (a : Addr) (v : V) (H' : Hp), SXT [T] H H' → SqT K H' a [.str sTld, v] → TrV K H' v t → Z1 T H' → Q (.ref a) H') ∧ (readP ws = none → ∀ (a : Addr) (H' : Hp), SXT [T] H H' → SqT K H' a [.str sRef, .bl true] → Z1 T H' → Q (.ref a) H')
section
variable {P : Program} {w : World} {K : PySem.W.Frag} {mg : Str → Option Value} {base : Heap} {f : Addr} {fd : FuncData} {T N CT : Addr}
theorem scTold : FnScope ["_law_text", "_law_error", "_law_found", "e"] ["_law_text"] (defScope sTold) := ⟨rfl, rfl, rfl, by decide +kernel, rfl, by decide +kernel, by decide +kernel⟩
theorem ok_told (F : Fun K "_law_told" "_law_told" sTold f fd) (G : Gm mg) (hve : mg "ValueError" = none) (R : Rs K mg "NoText" N) (hTE : mg "TurnError" = some (.ref CT)) (hq : PySem.W.ktsIn K N "BaseException" = true) (i1 : PySem.W.kitOne K (.ref N) (.ref CT) = some true) (i2 : PySem.W.kitOne K (.ref N) (.type "ValueError") = some true)
    (RR : FnX P w K mg base 125 "read_tree" ["text"] (spRead K T N)) : FnOk P w K mg base CX0 126 f fd ["_law_text"] (spTold K T) := by
  refine F.ok scTold (fun vs H Q E h => ?_) (fun cdv A outer s H vs Q E hr h => ?_)
  · obtain ⟨z, ws, rfl, _⟩ := h
    rfl
  obtain ⟨z, ws, rfl, hz, hw, h1k, tb, q1, q2⟩ := h
  refine ⟨_, (pss_cons (ps_set (i := 1) scTold.nd rfl (Or.inl rfl) pe_non)
    (pss_cons (ps_set (i := 2) scTold.nd rfl (Or.inl rfl) pe_non)
    (pss_cons (ps_cut (ps_tryAs (i := 3) R.hm hq rfl scTold.nd rfl rfl
      (fun pins EE => pss_one (ps_set (i := 2) scTold.nd rfl (Or.inl rfl) (pe_fnX (EE := EE) RR hr passT (pa_cons (pv 0) pa_nil))))
      (fun a => pss_one (ps_set (i := 1) scTold.nd rfl (Or.inl rfl) (pv 3)))))
    (pss_cons (ps_if (pt_cmpR op_isN (pv 1) pe_non (nomark _)) (pss_one (ps_ret (pe_tup (pa_cons (pe_str) (pa_cons (pv 2) pa_nil))))) pss_nil)
    (pss_one (ps_ret (pe_tup (pa_cons (pe_str) (pa_cons (pe_and (pe_callB (r := rIsX K) call_isinstX rfl G.isi PyProof.Rows.boot_isinstance (pa_cons (pv 1) (pa_cons (pe_glob (v := .ref CT) rfl hTE rfl) pa_nil))) (pe_one (pe_callB (r := rIsX K) call_isinstX rfl G.isi PyProof.Rows.boot_isinstance (pa_cons (pv 1) (pa_cons (pe_bltn (v := .ty "ValueError") rfl hve (by decide +kernel) rfl) pa_nil))))) pa_nil))))))))), ?_⟩
  have zo := z1_ok T
  refine ⟨fun σ' H' => SXT [T] H H' ∧ Z1 T H' ∧ ((∃ (v : V) (t : Tree Str), readP ws = some t ∧ TrV K H' v t ∧ σ' = [some (.str (S z)), some .non, some v, none]) ∨ (∃ a : Addr, readP ws = none ∧ H' a = some (ExcO a (.ref N)) ∧ σ' = [some (.str (S z)), some (.ref a), some .non, none])), ?_, ?_⟩
  · refine ⟨fun σ' cls _ H' => cls = .ref N ∧ readP ws = none ∧ σ' = [some (.str (S z)), some .non, some .non, none] ∧ SXT [T] H H' ∧ Z1 T H', ?_, ?_⟩
    · exact ⟨_, rfl, z, ws, rfl, hz, hw, h1k, tb, fun t ht v H' x tv tb' => ⟨x, tb', .inl ⟨v, t, ht, tv, rfl⟩⟩, fun ht H' x tb' => ⟨rfl, ht, rfl, x, tb'⟩⟩
    · rintro σ' cls H' ⟨rfl, hn, rfl, x, tb'⟩
      refine ⟨rfl, fun a ha => ?_⟩
      have ga := same_new ha (ExcO a (.ref N))
      exact ⟨_, rfl, x.trans (SXT.of ga), zo.sm _ _ ga tb', .inr ⟨a, hn, upd_same, rfl⟩⟩
  rintro σ' H1 ⟨x1, tb1, ⟨v, t, ht, tv, rfl⟩ | ⟨a, hn, ha, rfl⟩⟩
  · refine ⟨_, rfl, rfl, _, rfl, iteP rfl ⟨_, rfl, (by show 2 ≤ sizeLine; decide), fun p hp => ?_⟩⟩
    have g := same_new hp (.tup [.str sTld, v])
    exact q1 t ht p v _ (x1.trans (SXT.of g)) (SqT.of upd_same) (TrV.mono (fun _ _ => g.seqT) tv) (zo.sm _ _ g tb1)
  · refine ⟨_, rfl, rfl, _, rfl, iteN (fun z => by cases z) ?_⟩
    refine ⟨_, rfl, a, .ref N, .ref CT, .ref CT, rfl, ha, rfl, i1, _, rfl, iteT ⟨_, rfl, a, .ref N, .ty "ValueError", .type "ValueError", rfl, ha, rfl, i2, (by show 2 ≤ sizeLine; decide), fun p hp => ?_⟩⟩
    have g := same_new hp (.tup [.str sRef, .bl true])
    exact q2 hn p _ (x1.trans (SXT.of g)) (SqT.of upd_same) (zo.sm _ _ g tb1)
end
end K6
namespace K6
open PySem L2 K3 TM K9
mutual
def tokT : Tree Str → List (List Nat)
  | .node n _ [] => [n.cps.toList]
  | .node n _ (b :: bs) => n.cps.toList :: [40] :: (tokT b ++ (tokTs bs ++ [[41]]))
def tokTs : List (Tree Str) → List (List Nat)
  | [] => []
  | t :: r => tokT t ++ tokTs r
end
mutual
inductive Pl : Tree Str → Prop where
  | mk {w : List Nat} {bs : List (Tree Str)} : Nm w → PlA bs → Pl (.node (S w) 0 bs)
inductive PlA : List (Tree Str) → Prop where
  | nil : PlA []
  | cons {t : Tree Str} {r : List (Tree Str)} : Pl t → PlA r → PlA (t :: r)
end
def Fl (rest : List (List Nat)) : Prop := ∀ w, rest[0]? = some w → beg w numL = false ∧ w ≠ [40]
theorem Fl.nil : Fl [] := fun w h => by simp at h
theorem Fl.cl (r : List (List Nat)) : Fl ([41] :: r) := fun w h => by
  have e : [41] = w := by simpa using h
  subst e; exact ⟨by decide, by decide⟩
theorem let_n : ∀ c ∈ letL, c ∉ numL ∧ c ≠ 40 ∧ c ≠ 41 := by decide
theorem Nm.begs {w : List Nat} (h : Nm w) : beg w letL = true ∧ beg w numL = false ∧ w ≠ [40] ∧ w ≠ [41] := by
  cases w with
  | nil => exact absurd rfl h.ne
  | cons c r =>
    have hc := h.all c List.mem_cons_self
    refine ⟨decide_eq_true hc, decide_eq_false (let_n c hc).1, fun z => ?_, fun z => ?_⟩
    · injection z with z1 z2; exact (let_n c hc).2.1 z1
    · injection z with z1 z2; exact (let_n c hc).2.2 z1
theorem Fl.nm {w : List Nat} (h : Nm w) (r : List (List Nat)) : Fl (w :: r) := fun u e => by
  have : w = u := by simpa using e
  subst this; exact ⟨h.begs.2.1, h.begs.2.2.1⟩
theorem Pl.head {t : Tree Str} (h : Pl t) : ∃ w r, tokT t = w :: r ∧ Nm w := by
  cases h with
  | @mk w bs h1 h2 =>
    cases bs with
    | nil => exact ⟨w, [], by rw [tokT, S_list], h1⟩
    | cons b bs => exact ⟨w, _, by rw [tokT, S_list], h1⟩
theorem PlA.fl {ts : List (Tree Str)} (h : PlA ts) (r : List (List Nat)) : Fl (tokTs ts ++ [41] :: r) := by
  cases h with
  | nil => rw [tokTs]; exact Fl.cl r
  | @cons t ts h1 h2 =>
    obtain ⟨w, q, e, hw⟩ := h1.head
    rw [tokTs, e]; exact Fl.nm hw _
theorem ah_of {ws : List (List Nat)} {m : Nat} {w : List Nat} {r : List (List Nat)} (h : ws.drop m = w :: r) : ah ws m = w ∧ m < ws.length ∧ ws.drop (m + 1) = r := by
  obtain ⟨h1, h2, h3, _⟩ := ah_drop h
  exact ⟨h1, h2, h3⟩
theorem ah_rest {ws rest : List (List Nat)} {m : Nat} (h : ws.drop m = rest) (hf : Fl rest) : beg (ah ws m) numL = false ∧ ah ws m ≠ [40] := by
  cases rest with
  | nil =>
    have e : ah ws m = [] := by
      unfold ah
      rw [List.getElem?_eq_none (List.drop_eq_nil_iff.mp h)]; rfl
    rw [e]; exact ⟨rfl, by decide⟩
  | cons w r =>
    rw [(ah_of h).1]; exact hf w rfl
structure TkOk (ws : List (List Nat)) (n : Nat) : Prop where
  go : ∀ (t : Tree Str) (m : Nat) (rest : List (List Nat)), Pl t → ws.drop m = tokT t ++ rest → Fl rest → treeP ws n m = if lv t ≤ n then some (t, m + (tokT t).length) else none
theorem lvs_cons (t : Tree Str) (r : List (Tree Str)) : lvs (t :: r) = max (lv t) (lvs r) := by rw [lvs]
theorem tk_loop {ws : List (List Nat)} {n : Nat} (h : TkOk ws n) : ∀ (ts : List (Tree Str)) (f m : Nat) (rest : List (List Nat)), PlA ts → ws.drop m = tokTs ts ++ [41] :: rest → ws.length < f + m → loopP ws (treeP ws n) f m = if lvs ts ≤ n then some (ts, m + (tokTs ts).length + 1) else none
  | [], f, m, rest, hp, hd, hf => by
    obtain ⟨h1, h2, _⟩ := ah_of (show ws.drop m = [41] :: rest by rw [hd, tokTs]; rfl)
    cases f with
    | zero => omega
    | succ f =>
      rw [loopP, if_pos h1, lvs, if_pos (Nat.zero_le _), tokTs]; rfl
  | t :: r, f, m, rest, hp, hd, hf => by
    cases hp with
    | cons hp1 hp2 =>
      have hd' : ws.drop m = tokT t ++ (tokTs r ++ [41] :: rest) := by rw [hd, tokTs, List.append_assoc]
      obtain ⟨w, q, e, hw⟩ := hp1.head
      have hd2 := hd'
      rw [e] at hd2
      obtain ⟨h1, h2, _⟩ := ah_of hd2
      cases f with
      | zero => omega
      | succ f =>
        have hg := h.go t m _ hp1 hd' (hp2.fl rest)
        have hlen := congrArg List.length hd'
        rw [List.length_drop, List.length_append] at hlen
        have hpos : 0 < (tokT t).length := by rw [e]; simp
        rw [loopP, if_neg (by rw [h1]; exact hw.begs.2.2.2), hg, lvs_cons]
        by_cases hl : lv t ≤ n
        · rw [if_pos hl]
          have hdr : ws.drop (m + (tokT t).length) = tokTs r ++ [41] :: rest := drop_app hd'
          have ih := tk_loop h r f (m + (tokT t).length) rest hp2 hdr (by omega)
          simp only []
          rw [ih]
          by_cases hr : lvs r ≤ n
          · rw [if_pos hr, if_pos (by omega)]
            simp only [Option.map_some]
            rw [tokTs, List.length_append]
            congr 2; omega
          · rw [if_neg hr, if_neg (by omega)]; rfl
        · rw [if_neg hl, if_neg (by omega)]
theorem tk_all (ws : List (List Nat)) : ∀ n, TkOk ws n
  | 0 => ⟨fun t m rest hp hd hf => by
    rw [treeP, if_neg (by rw [lv_bs]; omega)]⟩
  | n + 1 => by
    have ih := tk_all ws n
    refine ⟨fun t m rest hp hd hf => ?_⟩
    cases hp with
    | @mk w bs hw hb =>
      have hle : lv (.node (S w) 0 bs) = 1 + lvs bs := by rw [lv]
      cases hb with
      | nil =>
        have hd0 : ws.drop m = w :: rest := by rw [hd, tokT, S_list]; rfl
        obtain ⟨h1, h2, h3⟩ := ah_of hd0
        obtain ⟨r1, r2⟩ := ah_rest h3 hf
        have em : mkP ws (m + 1) = (0, m + 1) := by rw [mkP, if_neg (by rw [r1]; decide)]
        rw [treeP, h1, if_pos hw.begs.1, em, inbP, if_neg r2, hle, if_pos (by rw [lvs]; omega)]
        rw [tokT]; rfl
      | @cons b bs hb1 hb2 =>
        have hd0 : ws.drop m = w :: ([40] :: (tokT b ++ (tokTs bs ++ [41] :: rest))) := by rw [hd, tokT, S_list]; simp
        obtain ⟨h1, h2, h3⟩ := ah_of hd0
        obtain ⟨g1, g2, g3⟩ := ah_of h3
        have em : mkP ws (m + 1) = (0, m + 1) := by rw [mkP, if_neg (by rw [g1]; decide)]
        have hg := ih.go b (m + 1 + 1) _ hb1 g3 (hb2.fl rest)
        have hlen := congrArg List.length g3
        rw [List.length_drop, List.length_append] at hlen
        rw [treeP, h1, if_pos hw.begs.1, em, inbP, if_pos g1, hg, hle, lvs_cons]
        by_cases hl : lv b ≤ n
        · rw [if_pos hl]
          have hdr : ws.drop (m + 1 + 1 + (tokT b).length) = tokTs bs ++ [41] :: rest := drop_app g3
          have il := tk_loop ih bs (ws.length + 1) (m + 1 + 1 + (tokT b).length) rest hb2 hdr (by omega)
          simp only []
          rw [il]
          by_cases hr : lvs bs ≤ n
          · rw [if_pos hr, if_pos (by omega)]
            simp only [Option.map_some]
            rw [tokT]
            simp only [List.length_cons, List.length_append, List.length_nil]
            congr 2; omega
          · rw [if_neg hr, if_neg (by omega)]; rfl
        · rw [if_neg hl, if_neg (by omega)]; rfl
theorem read_tok {t : Tree Str} (hp : Pl t) : readP (tokT t) = if lv t ≤ 40 ∧ sz t ≤ 200 then some t else none := by
  have h := (tk_all (tokT t) 40).go t 0 [] hp (by simp) Fl.nil
  unfold readP
  rw [h]
  by_cases hl : lv t ≤ 40
  · rw [if_pos hl]
    simp only [Nat.zero_add]
    by_cases hs : sz t ≤ 200
    · rw [if_pos ⟨trivial, hs⟩, if_pos ⟨hl, hs⟩]
    · rw [if_neg (fun z => hs z.2), if_neg (fun z => hs z.2)]
  · rw [if_neg hl, if_neg (fun z => hl z.1)]
def leafB : Tree Str := .node (S [98]) 0 []
def nest : Nat → Nat → Tree Str
  | 0, w => .node (S [97]) 0 (List.replicate w leafB)
  | d + 1, w => .node (S [97]) 0 [nest d w]
theorem nm1 {c : Nat} (h : c ∈ letL) : Nm [c] := ⟨by simp, by simp, fun x hx => by rw [List.mem_singleton.mp hx]; exact h⟩
theorem pl_leaf : Pl leafB := .mk (nm1 (by decide)) .nil
theorem plA_rep : ∀ n : Nat, PlA (List.replicate n leafB)
  | 0 => .nil
  | n + 1 => .cons pl_leaf (plA_rep n)
theorem pl_nest : ∀ d w, Pl (nest d w)
  | 0, w => .mk (nm1 (by decide)) (plA_rep w)
  | d + 1, w => .mk (nm1 (by decide)) (.cons (pl_nest d w) .nil)
theorem lvs_rep : ∀ n : Nat, lvs (List.replicate n leafB) = if 0 < n then 1 else 0
  | 0 => by simp [lvs]
  | n + 1 => by
    rw [List.replicate_succ, lvs_cons, lvs_rep n]
    have : lv leafB = 1 := by rw [leafB, lv, lvs]
    rw [this, if_pos (Nat.succ_pos n)]
    split <;> omega
theorem szs_rep : ∀ n : Nat, szs (List.replicate n leafB) = n
  | 0 => by simp [szs]
  | n + 1 => by
    rw [List.replicate_succ, szs, szs_rep n]
    have : sz leafB = 1 := by rw [leafB, sz, szs]
    rw [this]; omega
theorem lv_nest : ∀ d w, lv (nest d w) = d + 1 + if 0 < w then 1 else 0
  | 0, w => by rw [nest, lv, lvs_rep]; try omega
  | d + 1, w => by rw [nest, lv, lvs_cons, lvs, lv_nest d w]; try omega
theorem sz_nest : ∀ d w, sz (nest d w) = d + 1 + w
  | 0, w => by rw [nest, sz, szs_rep]; try omega
  | d + 1, w => by rw [nest, sz, szs, szs, sz_nest d w]; try omega
theorem lay_leaf : LayT leafB := LayT.node (ts := []) (ok_low (by decide)) fun t ht => (nomatch ht)
theorem lay_nest : ∀ d w, LayT (nest d w)
  | 0, w => LayT.node (ok_low (by decide)) fun t ht => by rw [(List.mem_replicate.mp ht).2]; exact lay_leaf
  | d + 1, w => LayT.node (ok_low (by decide)) fun t ht => by rw [List.mem_singleton.mp ht]; exact lay_nest d w
def En (rest : List Nat) : Prop := ∀ c, rest[0]? = some c → c ∉ letL
theorem En.nil : En [] := fun c h => by simp at h
theorem En.cons {c : Nat} {r : List Nat} (h : c ∉ letL) : En (c :: r) := fun d e => by
  have : c = d := by simpa using e
  rw [← this]; exact h
def WrT (x : List Nat) (a : List (List Nat)) : Prop := ∀ rest ws, Writ rest ws → En rest → Writ (x ++ rest) (a ++ ws)
theorem nofig : ∀ c ∈ letL, c ∉ figL := by decide
theorem wr_nm {w : List Nat} (h : Nm w) : WrT w [w] := fun rest ws hw he => .word (.name h.ne h.len h.all) (fun a b ha hb => by
  have hla : a ∈ letL := h.all a (List.mem_of_getLast? ha)
  exact ⟨fun z => he b hb z.2, fun z => nofig a hla z.1⟩) hw
theorem sgn_no : ∀ c ∈ sgnL, c ∉ letL ∧ c ∉ figL := by decide
theorem wr_sg {c : Nat} (hc : c ∈ sgnL) {rest : List Nat} {ws : List (List Nat)} (h : Writ rest ws) : Writ (c :: rest) ([c] :: ws) := .word (w := [c]) (.sign hc) (fun a b ha hb => by
  have : c = a := by simpa using ha
  subst this
  exact ⟨fun z => (sgn_no c hc).1 z.1, fun z => (sgn_no c hc).2 z.1⟩) h
def gl (sep : List Nat) : List (List Nat) → List Nat
  | [] => []
  | x :: r => x ++ r.flatMap fun y => sep ++ y
theorem gl_fold (sep : List Nat) : ∀ (r : List (List Nat)) (acc : List Nat), (r.map S).foldl (fun a p => a ++ (S sep).cps ++ p.cps) acc.toArray = (acc ++ r.flatMap fun y => sep ++ y).toArray
  | [], acc => by simp
  | y :: r, acc => by
    rw [List.map_cons, List.foldl_cons]
    have e : acc.toArray ++ (S sep).cps ++ (S y).cps = (acc ++ (sep ++ y)).toArray := by
      apply Array.toList_inj.mp
      simp [S]
    rw [e, gl_fold sep r]
    simp [List.flatMap_cons]
theorem join_S (sep : List Nat) (xs : List (List Nat)) : Txt.join (S sep) (xs.map S) = S (gl sep xs) := by
  show Builtin.Str.glued (S sep) (xs.map S) = _
  unfold Builtin.Str.glued
  cases xs with
  | nil => rfl
  | cons x r =>
    have := gl_fold sep r x
    show (⟨((r.map S).foldl (fun a p => a ++ (S sep).cps ++ p.cps) (S x).cps)⟩ : Str) = _
    rw [show (S x).cps = x.toArray from rfl, this]
    rfl
theorem gl_two (sep x y : List Nat) (r : List (List Nat)) : gl sep (x :: y :: r) = x ++ (sep ++ gl sep (y :: r)) := by
  simp [gl, List.flatMap_cons, List.append_assoc]
theorem gl_bound (sep : List Nat) (m : Nat) : ∀ xs : List (List Nat), (∀ x ∈ xs, x.length ≤ m) → (gl sep xs).length ≤ xs.length * (m + sep.length)
  | [], _ => by simp [gl]
  | [x], h => by
    have := h x List.mem_cons_self
    simp [gl]; omega
  | x :: y :: r, h => by
    have h1 := h x List.mem_cons_self
    have h2 := gl_bound sep m (y :: r) fun z hz => h z (List.mem_cons_of_mem _ hz)
    rw [gl_two, List.length_append, List.length_append]
    simp only [List.length_cons] at h2 ⊢
    rw [Nat.succ_mul (r.length + 1)]
    omega
theorem writ_gl : ∀ (ws : List (List Nat)), (∀ w ∈ ws, Word w) → Writ (gl [32] ws) ws
  | [], _ => .nil
  | [w], h => by
    have e : gl [32] [w] = w ++ [] := by simp [gl]
    rw [e]; exact .word (h w List.mem_cons_self) (Sep.nil w) .nil
  | w :: u :: r, h => by
    rw [gl_two]
    exact .word (h w List.mem_cons_self) (Sep.blank _ _) (.blank (writ_gl (u :: r) fun x hx => h x (List.mem_cons_of_mem _ hx)))
theorem wr_gl : ∀ (b : List Nat) (bs : List (List Nat)), (∀ x ∈ b :: bs, Nm x) → WrT (gl [32] (b :: bs)) (b :: bs)
  | b, [], h => by
    have : gl [32] [b] = b := by simp [gl]
    rw [this]; exact wr_nm (h b List.mem_cons_self)
  | b, c :: bs, h => fun rest ws hw he => by
    rw [gl_two, List.append_assoc]
    have ih := wr_gl c bs (fun x hx => h x (List.mem_cons_of_mem _ hx)) rest ws hw he
    exact wr_nm (h b List.mem_cons_self) _ _ (.blank ih) (En.cons (by decide))
def coreT (w : Nat) : List Nat := if 0 < w then [97] ++ [40] ++ gl [32] (List.replicate w [98]) ++ [41] else [97]
def nestT (d w : Nat) : List Nat := (List.replicate d [97, 40]).flatten ++ coreT w ++ (List.replicate d [41]).flatten
theorem tok_rep : ∀ n : Nat, tokTs (List.replicate n leafB) = List.replicate n [98]
  | 0 => by rw [List.replicate_zero, List.replicate_zero, tokTs]
  | n + 1 => by
    rw [List.replicate_succ, tokTs, tok_rep n, List.replicate_succ]
    have : tokT leafB = [[98]] := by rw [leafB, tokT, S_list]
    rw [this]; rfl
theorem wr_core (w : Nat) : WrT (coreT w) (tokT (nest 0 w)) := fun rest ws hw he => by
  unfold coreT
  cases w with
  | zero =>
    rw [if_neg (by omega), nest, List.replicate_zero, tokT, S_list]
    exact wr_nm (nm1 (by decide)) _ _ hw he
  | succ w =>
    have e0 : tokT (nest 0 (w + 1)) = [97] :: [40] :: (tokT leafB ++ (tokTs (List.replicate w leafB) ++ [[41]])) := by rw [nest, List.replicate_succ, tokT, S_list]
    rw [if_pos (Nat.succ_pos w), e0]
    have e1 : [97] ++ [40] ++ gl [32] (List.replicate (w + 1) [98]) ++ [41] ++ rest = [97] ++ (40 :: (gl [32] ([98] :: List.replicate w [98]) ++ (41 :: rest))) := by simp [List.replicate_succ]
    have e2 : ([97] :: [40] :: (tokT leafB ++ (tokTs (List.replicate w leafB) ++ [[41]]))) ++ ws = [[97]] ++ ([40] :: (([98] :: List.replicate w [98]) ++ ([41] :: ws))) := by
      rw [tok_rep]
      have : tokT leafB = [[98]] := by rw [leafB, tokT, S_list]
      rw [this]; simp
    rw [e1, e2]
    refine wr_nm (nm1 (by decide)) _ _ (wr_sg (by decide) (wr_gl [98] _ (fun x hx => ?_) _ _ (wr_sg (by decide) hw) (En.cons (by decide)))) (En.cons (by decide))
    rcases List.mem_cons.mp hx with rfl | hx
    · exact nm1 (by decide)
    · rw [(List.mem_replicate.mp hx).2]; exact nm1 (by decide)
theorem rep_end {α : Type} (x : List α) : ∀ n : Nat, (List.replicate (n + 1) x).flatten = (List.replicate n x).flatten ++ x
  | 0 => by simp
  | n + 1 => by
    have ih := rep_end x n
    rw [List.replicate_succ (n := n + 1), List.flatten_cons, ih, ← List.append_assoc, ← List.flatten_cons, ← List.replicate_succ, ih]
theorem nestT_succ (d w : Nat) : nestT (d + 1) w = 97 :: 40 :: (nestT d w ++ [41]) := by
  unfold nestT
  rw [rep_end [41] d, List.replicate_succ, List.flatten_cons]
  simp
theorem wr_nest : ∀ d w, WrT (nestT d w) (tokT (nest d w))
  | 0, w => by
    have e : nestT 0 w = coreT w := by simp [nestT]
    rw [e]; exact wr_core w
  | d + 1, w => fun rest ws hw he => by
    rw [nestT_succ]
    have e1 : (97 :: 40 :: (nestT d w ++ [41])) ++ rest = [97] ++ (40 :: (nestT d w ++ (41 :: rest))) := by simp
    have e2 : tokT (nest (d + 1) w) ++ ws = [[97]] ++ ([40] :: (tokT (nest d w) ++ ([41] :: ws))) := by
      rw [nest, tokT, S_list, tokTs]; simp
    rw [e1, e2]
    exact wr_nm (nm1 (by decide)) _ _ (wr_sg (by decide) (wr_nest d w _ _ (wr_sg (by decide) hw) (En.cons (by decide)))) (En.cons (by decide))
theorem writ_nest (d w : Nat) : Writ (nestT d w) (tokT (nest d w)) := by
  have := wr_nest d w [] [] .nil En.nil
  simpa using this
theorem core_len (w : Nat) (h : w ≤ 209) : (coreT w).length ≤ 500 := by
  unfold coreT
  split
  · have := gl_bound [32] 1 (List.replicate w [98]) fun x hx => by rw [(List.mem_replicate.mp hx).2]; simp
    rw [List.length_replicate] at this
    have e : [32].length = 1 := rfl
    simp only [List.length_append, List.length_cons, List.length_nil] at this ⊢
    omega
  · simp
theorem flat_len {α : Type} (x : List α) : ∀ n : Nat, (List.replicate n x).flatten.length = n * x.length
  | 0 => by simp
  | n + 1 => by rw [List.replicate_succ, List.flatten_cons, List.length_append, flat_len x n, Nat.succ_mul]; omega
theorem nestT_len {d w : Nat} (hd : d ≤ 42) (hw : w ≤ 209) : (nestT d w).length ≤ 700 := by
  have := core_len w hw
  unfold nestT
  rw [List.length_append, List.length_append, flat_len, flat_len]
  simp only [List.length_cons, List.length_nil]
  omega
end K6
namespace L2
open PySem PySem.Spec PyProof.Rows
structure WS (X : Cx) (ss : List Stmt) (t : TS) : Prop where
  h : PSs X ss t
structure W1 (X : Cx) (st : Stmt) (t : TS) : Prop where
  h : PS X st t
structure WE (X : Cx) (e : Expr) (t : TE) : Prop where
  h : PE X e t
structure WA (X : Cx) (es : List Expr) (t : TA) : Prop where
  h : PA X es t
section
variable {X : Cx} {st : Stmt} {rest a b : List Stmt} {t u : TS} {e c : Expr} {es : List Expr} {te : TE} {ta : TA} {tc : TT} {pos : Pos}
theorem w_cons (h1 : W1 X st t) (h2 : WS X rest u) : WS X (st :: rest) (tSeq t u) := ⟨pss_cons h1.h h2.h⟩
theorem w_one (h1 : W1 X st t) : WS X [st] t := ⟨pss_one h1.h⟩
theorem w_nil : WS X [] tNext := ⟨pss_nil⟩
theorem w_st (h : PS X st t) : W1 X st t := ⟨h⟩
theorem w_if (hc : PT X c tc) (ha : WS X a t) (hb : WS X b u) : W1 X (.If c a b pos) (tIfS tc t u) := ⟨ps_if hc ha.h hb.h⟩
theorem w_ret (he : WE X e te) : W1 X (.Return (some e) pos) (tRet te) := ⟨ps_ret he.h⟩
theorem w_e (h : PE X e te) : WE X e te := ⟨h⟩
theorem w_tup {x1 : Nat} (h : WA X es ta) : WE X (.Tuple es x1 pos) (tTup ta) := ⟨pe_tup h.h⟩
theorem wa_nil : WA X [] tNil := ⟨pa_nil⟩
theorem wa_cons (h : WE X e te) (k : WA X es ta) (hs : starEach (e :: es) X.env = (false, eval e X.env) :: starEach es X.env := by rfl) : WA X (e :: es) (tCons te ta) := ⟨pa_cons h.h k.h hs⟩
end
end L2
namespace L2
open PySem PySem.Spec PyProof.Rows
section
variable {X : Cx} {p0 p1 p2 p3 p4 p5 : Pos}
end
section
variable {X : Cx} {p0 p1 p2 p3 p4 : Pos} {e1 e2 e3 e4 : Expr} {t1 t2 t3 t4 : TE}
theorem w_set {i : Nat} {x : Str} {e : Expr} {te : TE} {pos pos' : Pos} (hN : X.N.Nodup) (hi : X.N[i]? = some x) (hx : Loc X.env.scope x) (he : WE X e te) (hs : swapsWith e (some (.Name x pos')) pos.line X.env = pure false := by rfl) (hf : X.fn x = true ∨ X.env.scope.names.lookup x = some .local := by first | exact .inl rfl | exact .inr rfl | assumption) :
    W1 X (.Assign [.Name x pos'] e pos) (tAsg te (gName i)) := ⟨ps_set hN hi hx he.h hs hf⟩
theorem w_cut {st : Stmt} {t : TS} (h : W1 X st t) : W1 X st (tCut t) := ⟨ps_cut h.h⟩
end
end L2
namespace L2
open PySem PySem.Spec PyProof.Rows PySem.W
theorem strs_of_vals : ∀ {ss : List Str} {us : List Value}, Vals (ss.map V.str) us → StrsAre us ss
  | [], _, .nil => .nil
  | x :: r, _, .cons h t => by
    obtain ⟨k, rfl⟩ := (show ∃ t, _ = Value.str x t from h)
    exact .cons x k (strs_of_vals t)
section
variable {X : Cx}
theorem mt_join : MtR X "str.join" (fun x vs H Q => ∃ (sep : Str) (l : Addr) (ss : List Str), x = .str sep ∧ vs = [.ref l] ∧ SqL X.K H l (ss.map V.str) ∧ (ss.map (·.length)).sum + ss.length * sep.length ≤ 16777216 ∧ Q (.str (Txt.join sep ss)) H) := by
  intro pins s σ H x xs v us Q I rx rv h
  obtain ⟨sep, l, ss, rfl, rfl, hl, hz, q⟩ := h
  obtain ⟨t, rfl⟩ := (show ∃ t, v = Value.str sep t from rx)
  obtain ⟨u, rfl, ru⟩ := rv.one
  obtain rfl : u = Value.ref l := ru
  obtain ⟨its, r, p, _⟩ := I.list hl
  exact join_list p.isList (strs_of_vals r) hz fun t' k => ⟨.str _, H, I.tok _, ⟨_, rfl⟩, q⟩
end
section
variable {prog : Program} {w : World} {A : Around} {E : Value → Shared → Prop} {s : Shared}
end
section
variable {X : Cx} {tg : Expr}
end
end L2
namespace K6
open PySem L2 K3 TM K9
theorem td_depth : ∀ (n : Nat) (t : Tree Str), sz t ≤ n → (td t).depth ≤ 2 * lv t
  | 0, t, h => by cases t with | node n m ts => rw [sz] at h; omega
  | n + 1, t, h => by
    cases t with
    | node a m ts =>
      rw [sz] at h
      have : ∀ us : List (Tree Str), (∀ u ∈ us, u ∈ ts) → PyData.depthAll (tds us) ≤ 2 * lvs us := fun us => by
        induction us with
        | nil => intro _; simp [tds, PyData.depthAll]
        | cons u r ih =>
          intro hu
          have h1 := td_depth n u (by have := sz_le (hu u List.mem_cons_self); omega)
          have h2 := ih fun v hv => hu v (List.mem_cons_of_mem _ hv)
          simp only [tds, PyData.depthAll, lvs]; omega
      have h3 := this ts fun u hu => hu
      rw [lv]
      simp only [td, PyData.depth, PyData.depthAll]
      omega
def dueD : Option (Tree Str) → PyData
  | some t => .tuple [.str sTld, td t]
  | none => .tuple [.str sRef, .bool true]
def DueAt (K : PySem.W.Frag) (H : Hp) (a : Addr) : Option (Tree Str) → Prop
  | some t => ∃ v, SqT K H a [.str sTld, v] ∧ TrV K H v t
  | none => SqT K H a [.str sRef, .bl true]
theorem DueAt.mono {K : PySem.W.Frag} {H H' : Hp} {a : Addr} {o : Option (Tree Str)} (k : ∀ x xs, SqT K H x xs → SqT K H' x xs) (h : DueAt K H a o) : DueAt K H' a o := by
  cases o with
  | some t => obtain ⟨v, h1, h2⟩ := h; exact ⟨v, k _ _ h1, TrV.mono k h2⟩
  | none => exact k _ _ h
theorem DueAt.rd {K : PySem.W.Frag} {H : Hp} {a : Addr} {o : Option (Tree Str)} (h : DueAt K H a o) : RdV K H (.ref a) (dueD o) := by
  cases o with
  | some t => obtain ⟨v, h1, h2⟩ := h; exact .tup h1 (.cons (.str _) (.cons (TrV.rd h2) .nil))
  | none => exact .tup h (.cons (.str _) (.cons (.bl _) .nil))
theorem due_lay {o : Option (Tree Str)} (h : ∀ t, o = some t → LayT t) : (dueD o).canLay0 = true := by
  cases o with
  | some t =>
    have h1 : (td t).canLay0 = true := h t rfl
    have h2 : PyData.strOk sTld = true := by decide +kernel
    simp only [dueD, PyData.canLay0, PyData.canLayAll0, h1, h2, Bool.and_self]
  | none =>
    have h2 : PyData.strOk sRef = true := by decide +kernel
    simp only [dueD, PyData.canLay0, PyData.canLayAll0, h2, Bool.and_self]
theorem due_depth {o : Option (Tree Str)} (h : ∀ t, o = some t → lv t ≤ 45) : (dueD o).depth ≤ 100 := by
  cases o with
  | some t =>
    have h1 := td_depth (sz t) t (Nat.le_refl _)
    have h2 := h t rfl
    simp only [dueD, PyData.depth, PyData.depthAll]
    omega
  | none => simp [dueD, PyData.depth, PyData.depthAll]
section
variable {K : PySem.W.Frag} {T : Addr} {H H' : Hp}
theorem Z1.no (z : Z1 T H) {b : Addr} {u : HO} (e : H b = some u) (n : ∀ ps, u ≠ .tbl ps) : b ∉ [T] := fun hm => by
  obtain ⟨ps, h⟩ := (z1_ok T).tb H z b hm
  rw [h] at e; exact n ps (Option.some.inj e).symm
theorem Z1.seqT (z : Z1 T H) (x : SXT [T] H H') {a : Addr} {xs : List V} (h : SqT K H a xs) : SqT K H' a xs := by
  rcases h with (h | ⟨o, h⟩) | h
  · exact .inl (.inl (x _ _ (z.no h fun _ z => nomatch z) h))
  · exact .inl (.inr ⟨o, x _ _ (z.no h fun _ z => nomatch z) h⟩)
  · exact .inr h
theorem Z1.seq (z : Z1 T H) (x : SXT [T] H H') {a : Addr} {xs : List V} (h : SqL K H a xs) : SqL K H' a xs := by
  rcases h with (h | ⟨o, h⟩) | h
  · exact .inl (.inl (x _ _ (z.no h fun _ z => nomatch z) h))
  · exact .inl (.inr ⟨o, x _ _ (z.no h fun _ z => nomatch z) h⟩)
  · exact .inr h
end
theorem read_ok {ws : List (List Nat)} {t : Tree Str} (h : readP ws = some t) : lv t ≤ 40 := by
  unfold readP at h
  cases q : treeP ws 40 0 with
  | none => rw [q] at h; cases h
  | some y =>
    obtain ⟨u, m⟩ := y
    rw [q] at h
    simp only [] at h
    split at h
    · cases h
      exact (tree_by ws 40 0 _ m q).1
    · cases h
section
variable {X : Cx} {a b : Expr} {ta tb : TE} {pos : Pos}
theorem w_cmp {op : CmpOp} {r : R2} (ho : OpR X (compareOp op) r) (ha : WE X a ta) (hb : WE X b tb) (hm : behindInMarks op b = false) : WE X (.Compare a [op] [b] pos) (tOp r ta tb) := ⟨pe_cmpR ho ha.h hb.h hm⟩
theorem WS.read {ss : List Stmt} {t : TS} {R : TS → Prop} (h : WS X ss t) (k : R t) : ∃ t, PSs X ss t ∧ R t := ⟨t, h.h, k⟩
theorem w_forN {X : Cx} {tg iter : Expr} {body : List Stmt} {wi : TI} {g : TG} {tb : TS} {pos : Pos} (hc : X.nox.calm = true) (hi : PI X.nox tg iter wi) (hg : PG X.nox tg g) (hb : WS X.nox body tb)
    (hs : ∀ x, foldedSetIterable iter X.nox.env x = pure x := by intro _; rfl) : W1 X.nox (.For tg iter body [] pos) (tFor wi g tb) := ⟨ps_for PassesOwn.never hc hi hg hb.h hs⟩
theorem w_op {op : Operator} {r : R2} (ho : OpR X (binaryOp op) r) (ha : WE X a ta) (hb : WE X b tb) : WE X (.BinOp a op b pos) (tOp r ta tb) := ⟨pe_op ho ha.h hb.h⟩
end
theorem cells_cut (ns : List Int) : ∃ cs : List Int, cutV (ns.map V.int) (some 5) (some 35) = cs.map V.int ∧ cs.length ≤ 30 := by
  have h := HT.sIx_nat
  refine ⟨(ns.drop (min 5 ns.length)).take (min 35 ns.length - min 5 ns.length), ?_, ?_⟩
  · unfold cutV
    rw [show (some (5 : Int)) = some ((5 : Nat) : Int) from rfl, show (some (35 : Int)) = some ((35 : Nat) : Int) from rfl, HT.sIx_nat, HT.sIx_nat, List.length_map, List.map_take, List.map_drop]
  · rw [List.length_take]; omega
theorem cnt_len (ws : List (List Nat)) : cnt ws 0 ≤ ws.length := by
  unfold cnt
  rw [List.drop_zero]; exact List.length_filter_le _ _
def spGreat (K : PySem.W.Frag) : Sp := fun vs H Q _ => ∃ c : Int, vs = [.int c] ∧ ∀ (a : Addr) (d wd : Nat) (H' : Hp), Same H H' → SqT K H' a [.int (d : Int), .int (wd : Int)] → 1 ≤ d → d ≤ 43 → wd ≤ 209 → Q (.ref a) H'
def spLaw (K : PySem.W.Frag) (T : Addr) : Sp := fun vs H Q _ => ∃ (a : Addr) (ns : List Int), vs = [.ref a] ∧ SqL K H a (ns.map V.int) ∧ ns.length ≤ 63 ∧ H T = some (.tbl #[]) ∧ ∀ H', Q (.bl true) H'
section
variable {P : Program} {w : World} {K : PySem.W.Frag} {mg : Str → Option Value} {base : Heap} {f : Addr} {fd : FuncData} {T : Addr}
theorem scGreat : FnScope ["_law_cell", "_law_number", "_law_deep", "_law_wide"] ["_law_cell"] (defScope sGreat) := ⟨rfl, rfl, rfl, by decide +kernel, rfl, by decide +kernel, by decide +kernel⟩
theorem ok_great (F : Fun K "_law_great" "_law_great" sGreat f fd) : FnOk P w K mg base CX0 1 f fd ["_law_cell"] (spGreat K) := by
  refine F.ok scGreat (fun vs H Q E h => ?_) (fun cdv A outer s H vs Q E hr h => ?_)
  · obtain ⟨c, rfl, _⟩ := h
    rfl
  obtain ⟨c, rfl, q⟩ := h
  refine ⟨_, (pss_cons (ps_set (i := 1) scGreat.nd rfl (Or.inl rfl) (pe_op op_mod (pv 0) (pe_op op_pow pe_int pe_int)))
    (pss_cons (ps_set (i := 2) scGreat.nd rfl (Or.inl rfl) (pe_op op_add pe_int (pe_op op_mod (pv 1) pe_int)))
    (pss_cons (ps_set (i := 3) scGreat.nd rfl (Or.inl rfl) (pe_op op_mod (pe_op op_fdiv (pv 1) pe_int) pe_int))
    (pss_cons (ps_cut (ps_if (pt_cmpR op_eq (pe_op op_mod (pe_op op_fdiv (pv 1) pe_int) pe_int) pe_int (nomark _)) (pss_one (ps_set (i := 2) scGreat.nd rfl (Or.inl rfl) (pe_op op_add pe_int (pe_op op_mod (pv 1) pe_int)))) pss_nil))
    (pss_cons (ps_cut (ps_if (pt_cmpR op_eq (pe_op op_mod (pe_op op_fdiv (pv 1) pe_int) pe_int) pe_int (nomark _)) (pss_one (ps_set (i := 3) scGreat.nd rfl (Or.inl rfl) (pe_op op_sub (pe_op op_add pe_int (pe_op op_mod (pe_op op_fdiv (pv 1) pe_int) pe_int)) (pv 2)))) pss_nil))
    (pss_one (ps_ret (pe_tup (pa_cons (pv 2) (pa_cons (pv 3) pa_nil)))))))))), ?_⟩
  refine ⟨_, rfl, _, _, rfl, rfl, ⟨by decide, by decide, by decide⟩, _, _, rfl, rfl, (by show (0 : Int) < 10 ^ 9; decide), ?_⟩
  dsimp only
  generalize c % 10 ^ Int.toNat 9 = n
  have a0 : 0 ≤ n % 43 := Int.emod_nonneg _ (by decide)
  have a1 : n % 43 < 43 := Int.emod_lt_of_pos _ (by decide)
  have b0 : 0 ≤ n / 43 % 210 := Int.emod_nonneg _ (by decide)
  have b1 : n / 43 % 210 < 210 := Int.emod_lt_of_pos _ (by decide)
  have c0 : 0 ≤ n % 4 := Int.emod_nonneg _ (by decide)
  have c1 : n % 4 < 4 := Int.emod_lt_of_pos _ (by decide)
  have d0 : 0 ≤ n / 43 % 5 := Int.emod_nonneg _ (by decide)
  have d1 : n / 43 % 5 < 5 := Int.emod_lt_of_pos _ (by decide)
  refine ⟨_, rfl, _, _, rfl, rfl, (by show (0 : Int) < 43; decide), _, _, rfl, rfl, ?_⟩
  refine ⟨_, rfl, _, _, rfl, rfl, ⟨(by show (0 : Int) < 43; decide), (by show (43 : Int) < 1073741824; decide)⟩, _, _, rfl, rfl, (by show (0 : Int) < 210; decide), ?_⟩
  dsimp only
  refine ⟨fun σ' H' => ∃ d : Int, σ' = [some (.int c), some (.int n), some (.int d), some (.int (n / 43 % 210))] ∧ 1 ≤ d ∧ d ≤ 43 ∧ H = H', ?_, ?_⟩
  · refine ⟨_, rfl, _, _, rfl, rfl, ⟨(by show (0 : Int) < 10000; decide), (by show (10000 : Int) < 1073741824; decide)⟩, _, _, rfl, rfl, (by show (0 : Int) < 3; decide), rfl, _, rfl, ite2 (fun _ => ?_) (fun _ => ?_)⟩
    · exact ⟨_, rfl, _, _, rfl, rfl, (by show (0 : Int) < 4; decide), _, _, rfl, rfl, 38 + n % 4, rfl, by omega, by omega, rfl⟩
    · exact ⟨1 + n % 43, rfl, by omega, by omega, rfl⟩
  rintro σ' H' ⟨d, rfl, hd1, hd2, rfl⟩
  refine ⟨fun σ' H' => ∃ wd : Int, σ' = [some (.int c), some (.int n), some (.int d), some (.int wd)] ∧ 0 ≤ wd ∧ wd ≤ 209 ∧ H = H', ?_, ?_⟩
  · refine ⟨_, rfl, _, _, rfl, rfl, ⟨(by show (0 : Int) < 10000; decide), (by show (10000 : Int) < 1073741824; decide)⟩, _, _, rfl, rfl, (by show (0 : Int) < 3; decide), rfl, _, rfl, ite2 (fun _ => ?_) (fun _ => ?_)⟩
    · exact ⟨_, rfl, _, _, rfl, rfl, ⟨(by show (0 : Int) < 43; decide), (by show (43 : Int) < 1073741824; decide)⟩, _, _, rfl, rfl, (by show (0 : Int) < 5; decide), _, _, rfl, rfl, _, rfl, _, _, rfl, rfl, 198 + n / 43 % 5 - d, rfl, by omega, by omega, rfl⟩
    · exact ⟨n / 43 % 210, rfl, by omega, by omega, rfl⟩
  rintro σ' H' ⟨wd, rfl, hw1, hw2, rfl⟩
  refine ⟨_, rfl, _, rfl, (by show 2 ≤ sizeLine; decide), fun p hp => ?_⟩
  obtain ⟨d', rfl⟩ : ∃ d' : Nat, d = (d' : Int) := ⟨d.toNat, by omega⟩
  obtain ⟨w', rfl⟩ : ∃ w' : Nat, wd = (w' : Int) := ⟨wd.toNat, by omega⟩
  exact q p d' w' _ (same_new hp _) (SqT.of upd_same) (by omega) (by omega) (by omega)
theorem scLaw : FnScope ["_law_script", "_law_row", "_law_due", "_law_deep", "_law_wide", "_law_text", "_law_found", "_law_tree_here", "_law_k"] ["_law_script"] (defScope sLaw) := ⟨rfl, rfl, rfl, by decide +kernel, rfl, by decide +kernel, by decide +kernel⟩
theorem ok_law (F : Fun K "law" "law" sLaw f fd) (G : Gm mg) (RC : Fn P w K mg base 1 "_law_cell_at" ["_law_script", "_law_k"] (spCell K)) (RWB : Fn P w K mg base 1 "_law_word_by" ["_law_cell"] spWordBy) (RTW : Fn P w K mg base 1 "_law_tree_words" ["_law_cells"] (spTreeW K)) (RSp : Fn P w K mg base 1 "_law_spoilt" ["_law_row", "_law_way", "_law_there", "_law_word"] (spSpoilt K))
    (RT : Fn P w K mg base 1 "_law_tree" ["_law_row"] (spTree K)) (RD : Fn P w K mg base 126 "_law_told" ["_law_text"] (spTold K T)) (RG : Fn P w K mg base 1 "_law_great" ["_law_cell"] (spGreat K)) : FnOk P w K mg base CX0 127 f fd ["_law_script"] (spLaw K T) := by
  refine F.ok scLaw (fun vs H Q E h => ?_) (fun cdv A outer s H vs Q E hr h => ?_)
  · obtain ⟨a, ns, rfl, _⟩ := h
    rfl
  obtain ⟨a, ns, rfl, hS, h63, hT, q⟩ := h
  have room : ∀ n : Nat, n ≤ 200 → (A.deeper (PyProof.Rows.envOfC "law" (defScope sLaw) s.heap.objs.size f cdv)).units + n < cLine := fun n hn => by have := hr.un; omega
  refine WS.read (w_cons (w_st (ps_setG (i := 1) (CompG.many (xs := ["_law_cell"]) (caps := []) (cap := []) (cs := []) rfl rfl (by decide +kernel) (by decide +kernel) (by decide +kernel) (by decide +kernel) (by decide +kernel) (by decide +kernel) rfl rfl rfl) rfl (pi_list (pe_slice sl_list (pv 0) (po_some pe_int) (po_some pe_int))) (pg_c1 (CompG.many (xs := ["_law_cell"]) (caps := []) (cap := []) (cs := []) rfl rfl (by decide +kernel) (by decide +kernel) (by decide +kernel) (by decide +kernel) (by decide +kernel) (by decide +kernel) rfl rfl rfl)) (fun _ _ _ _ => pf_nil) (fun _ _ _ _ => pe_fn RWB hr (pa_cons (pv 0) pa_nil)) scLaw.nd rfl rfl))
    (w_cons (w_cut (w_if (pt_cmpR op_eq (pe_op op_mod (pe_fn RC hr (pa_cons (pv 0) (pa_cons (pe_int) pa_nil))) pe_int) pe_int (nomark _)) (w_one (w_st (ps_set (i := 1) scLaw.nd rfl (Or.inl rfl) (pe_fn RTW hr (pa_cons (pe_slice sl_list (pv 0) (po_some pe_int) (po_some pe_int)) pa_nil))))) w_nil))
    (w_cons (w_st (ps_set (i := 1) scLaw.nd rfl (Or.inl rfl) (pe_fn RSp hr (pa_cons (pv 1) (pa_cons (pe_op op_mod (pe_fn RC hr (pa_cons (pv 0) (pa_cons (pe_int) pa_nil))) pe_int) (pa_cons (pe_fn RC hr (pa_cons (pv 0) (pa_cons (pe_int) pa_nil))) (pa_cons (pe_fn RWB hr (pa_cons (pe_fn RC hr (pa_cons (pv 0) (pa_cons (pe_int) pa_nil))) pa_nil)) pa_nil)))))))
    (w_cons (w_cut (w_set (i := 2) scLaw.nd rfl (Or.inl rfl) (w_tup (wa_cons (w_e pe_str) (wa_cons (w_e (pe_fn RT hr (pa_cons (pv 1) pa_nil))) wa_nil)))))
    (w_cons (w_cut (w_if (pt_cmpR op_isN (pe_ix ix_tup (pv 2) pe_int (fun _ _ => rfl)) pe_non (nomark _)) (w_one (w_set (i := 2) scLaw.nd rfl (Or.inl rfl) (w_tup (wa_cons (w_e pe_str) (wa_cons (w_e pe_bl) wa_nil))))) w_nil))
    (w_cons (w_if (PW.pt (pw_or (pt_cmpR op_neD (pe_fn RD hr (pa_cons (pe_bm PySem.F.plainAttrs_str PySem.F.slot_str_join PySem.F.type_str_join mt_join pe_str (pa_cons (pv 1) pa_nil)) pa_nil)) (pv 2) (nomark _)) (pw_or1 (pt_cmpR op_neD (pe_fn RD hr (pa_cons (pe_bm PySem.F.plainAttrs_str PySem.F.slot_str_join PySem.F.type_str_join mt_join pe_str (pa_cons (pv 1) pa_nil)) pa_nil)) (pv 2) (nomark _))))) (w_one (w_st (ps_ret pe_bl))) w_nil)
    (w_cons (w_st (ps_asg (pe_fn RG hr (pa_cons (pe_fn RC hr (pa_cons (pv 0) (pa_cons (pe_int) pa_nil))) pa_nil)) (pg_tup rfl (pgs_cons (pg_name (i := 3) scLaw.nd rfl (Or.inl rfl)) (pgs_cons (pg_name (i := 4) scLaw.nd rfl (Or.inl rfl)) pgs_nil)))))
    (w_cons (w_st (ps_set (i := 5) scLaw.nd rfl (Or.inl rfl) (pe_op op_add_str (pe_op op_mul_txt pe_str (pe_op op_sub (pv 3) pe_int)) pe_str)))
    (w_cons (w_cut (w_if (pt_cmpR op_gt (pv 4) pe_int (nomark _)) (w_one (w_st (ps_set (i := 5) scLaw.nd rfl (Or.inl rfl) (pe_op op_add_str (pe_op op_add_str (pe_op op_add_str (pv 5) pe_str) (pe_bm PySem.F.plainAttrs_str PySem.F.slot_str_join PySem.F.type_str_join mt_join pe_str (pa_cons (pe_op op_rep (pe_lst (pa_cons (pe_str) pa_nil)) (pv 4)) pa_nil))) pe_str)))) w_nil))
    (w_cons (w_cut (w_st (ps_set (i := 6) scLaw.nd rfl (Or.inl rfl) (pe_fn RD hr (pa_cons (pe_op op_add_str (pv 5) (pe_op op_mul_txt pe_str (pe_op op_sub (pv 3) pe_int))) pa_nil)))))
    (w_cons (w_if (PW.pt (pw_or (pt_cmpR op_gt (pe_op op_add (pv 3) (pe_callTy call_int1 rfl G.int PyProof.Rows.boot_int (pa_cons (pe_cmpR op_gt (pv 4) pe_int (nomark _)) pa_nil))) pe_int (nomark _)) (pw_or1 (pt_cmpR op_gt (pe_op op_add (pv 3) (pv 4)) pe_int (nomark _))))) (w_one (w_ret (w_cmp op_eqD (w_e (pv 6)) (w_tup (wa_cons (w_e pe_str) (wa_cons (w_e pe_bl) wa_nil))) (nomark _)))) w_nil)
    (w_cons (w_cut (w_set (i := 7) scLaw.nd rfl (Or.inl rfl) (w_tup (wa_cons (w_e pe_str) (wa_cons (w_e pe_int) (wa_cons (w_op op_repT (w_tup (wa_cons ((w_tup (wa_cons (w_e pe_str) (wa_cons (w_e pe_int) (wa_cons (w_tup wa_nil) wa_nil))))) wa_nil)) (w_e (pv 4))) wa_nil))))))
    (w_cons (w_forN rfl (pi_range1 rfl G.rng (pa_cons (pe_op op_sub (pv 3) pe_int) pa_nil)) (pg_name (i := 8) scLaw.nd rfl (Or.inl rfl)) (w_one (w_set (i := 7) scLaw.nd rfl (Or.inl rfl) (w_tup (wa_cons (w_e pe_str) (wa_cons (w_e pe_int) (wa_cons ((w_tup (wa_cons (w_e (pv 7)) wa_nil))) wa_nil)))))))
    (w_one (w_ret (w_cmp op_eqD (w_e (pv 6)) (w_tup (wa_cons (w_e pe_str) (wa_cons (w_e (pv 7)) wa_nil))) (nomark _))))))))))))))))) ?_
  obtain ⟨cs, hcs, hcl⟩ := cells_cut ns
  have Wl : ∀ ws : List (List Nat), (W ws).length = ws.length := fun ws => List.length_map ..
  have zo := z1_ok T
  have hZ : Z1 T H := .inl hT
  refine ⟨_, rfl, _, rfl, _, rfl, a, _, rfl, hS, fun p0 hp0 => ⟨p0, rfl, ⟨_, SqL.of upd_same⟩, fun lr hlr => ?_⟩⟩
  rw [hcs] at hlr ⊢
  have s0 := same_new hp0 (.lst (cs.map V.int))
  have b0 : upd H p0 (.lst (cs.map V.int)) p0 = some (.lst (cs.map V.int)) := upd_same
  generalize upd H p0 (.lst (cs.map V.int)) = H0 at s0 b0 hlr ⊢
  refine c1_list (K := K) (xs := cs.map V.int) (cs := []) (tt := fun _ H Q => Q true H) (te := tCall spWordBy [] E0 (tCons (tVar 0) tNil)) (fun j ys H' => ∃ ws : List (List Nat), ws.length = j ∧ (∀ w ∈ ws, WK w) ∧ ys = W ws ∧ H' lr = some (.lst ys) ∧ Same H0 H')
    ⟨[], rfl, fun w hw => (nomatch hw), rfl, upd_same, same_new hlr _⟩ ?_ ?_ ?_
  · rintro j ys H' _ ⟨_, _, _, _, _, g⟩
    exact SqL.of (g _ _ b0)
  · rintro j x ys H' hj hx ⟨ws, hwl, hwk, rfl, hy, g⟩
    rw [List.length_map] at hj
    obtain rfl : x = .int cs[j] := by
      rw [List.getElem?_map, List.getElem?_eq_getElem hj] at hx
      exact (Option.some.inj hx).symm
    refine iteT ⟨_, rfl, _, rfl, fun u H1 g1 hu => ?_⟩
    rw [List.length_map]
    refine comp_next hj (g1 _ _ hy) (by rw [Wl]; omega) ⟨ws ++ [u], by simp [hwl], fun w hw => ?_, by rw [W_app]; rfl, upd_same, fun c v e => ?_⟩
    · rcases List.mem_append.mp hw with hw | hw
      · exact hwk w hw
      · obtain rfl := List.mem_singleton.mp hw; exact hu
    · rw [upd_ne (ne_of_none e hlr)]; exact g1 _ _ (g _ _ e)
  rintro ys H1 ⟨ws, hwl, hwk, rfl, hy1, g1⟩
  rw [List.length_map] at hwl
  have g01 := s0.trans g1
  refine ⟨fun σ' H' => ∃ (l : Addr) (ws : List (List Nat)), σ' = [some (.ref a), some (.ref l), none, none, none, none, none, none, none] ∧ Same H H' ∧ SqL K H' l (W ws) ∧ (∀ w ∈ ws, WK w) ∧ ws.length ≤ 120 ∧ cnt ws 0 ≤ 30, ?_, ?_⟩
  · refine ⟨_, rfl, a, ns, 0, rfl, g01.seq hS, fun c0 => ⟨_, _, rfl, rfl, (by show (0 : Int) < 2; decide), rfl, _, rfl, ite2 (fun _ => ?_) (fun _ => ?_)⟩⟩
    · refine ⟨_, rfl, _, rfl, _, rfl, a, _, rfl, g01.seq hS, fun p1 hp1 => ?_⟩
      rw [hcs]
      have s2 := same_new hp1 (.lst (cs.map V.int))
      refine ⟨p1, cs, rfl, SqL.of upd_same, hcl, fun l H2 ws2 g2 hl2 hr2 => ⟨l, ws2, rfl, g01.trans (s2.trans g2), SqL.of hl2, hr2.wk, by have := hr2.len; omega, by have := hr2.nm; omega⟩⟩
    · exact ⟨lr, ws, rfl, g01, SqL.of hy1, hwk, by omega, by have := cnt_len ws; omega⟩
  rintro σ' H2 ⟨l2, ws2, rfl, g2, hl2, hwk2, hlen2, hcnt2⟩
  clear hy1 hwk hwl
  refine ⟨_, rfl, _, rfl, a, ns, 1, rfl, g2.seq hS, fun c1 => ⟨_, _, rfl, rfl, (by show (0 : Int) < 5; decide), _, rfl, a, ns, 2, rfl, g2.seq hS, fun c2 => ⟨_, rfl, a, ns, 3, rfl, g2.seq hS, fun c3 => ⟨c3, rfl, fun u H3 g3 hu => ?_⟩⟩⟩⟩
  refine ⟨l2, ws2, _, _, u, rfl, g3.seq hl2, hwk2, hu, by omega, fun l4 H4 row g4 hl4 hrow => ?_⟩
  have g04 := g2.trans (g3.trans g4)
  have hrl : row.length ≤ 121 := by
    have := hrow.mu (fun _ => 1) fun _ => Nat.le_refl _
    rw [mu_len, mu_len] at this; omega
  have hrc : cnt row 0 ≤ 31 := by
    have := hrow.mu isN fun w => by unfold isN; split <;> omega
    rw [mu_isN, mu_isN] at this; omega
  have hwk4 := hrow.wk
  clear hrow
  have hread := run_read (ws := row) (by omega) (by omega)
  have hZ4 := zo.sm _ _ g04 hZ
  refine ⟨fun σ' H' => ∃ (a2 : Addr) (v : V), σ' = [some (.ref a), some (.ref l4), some (.ref a2), none, none, none, none, none, none] ∧ Same H H' ∧ SqL K H' l4 (W row) ∧ SqT K H' a2 [.str sTld, v] ∧ ((∃ t, readP row = some t ∧ TrV K H' v t ∧ LayT t) ∨ (readP row = none ∧ v = .non)), ?_, ?_⟩
  · refine ⟨_, rfl, l4, row, rfl, hl4, hwk4, by omega, fun t ht v H5 g5 tv tl => ⟨(by show 2 ≤ sizeLine; decide), fun p hp => ?_⟩, fun ht H5 g5 => ⟨(by show 2 ≤ sizeLine; decide), fun p hp => ?_⟩⟩
    · have g := same_new hp (.tup [.str sTld, v])
      rw [hread] at ht
      exact ⟨p, v, rfl, g04.trans (g5.trans g), (g5.trans g).seq hl4, SqT.of upd_same, .inl ⟨t, ht, TrV.mono (fun _ _ => g.seqT) tv, tl⟩⟩
    · have g := same_new hp (.tup [.str sTld, .non])
      rw [hread] at ht
      exact ⟨p, .non, rfl, g04.trans (g5.trans g), (g5.trans g).seq hl4, SqT.of upd_same, .inr ⟨ht, rfl⟩⟩
  rintro σ' H5 ⟨a2, v, rfl, g5, hl5, ha2, hv⟩
  refine ⟨fun σ' H' => ∃ (a3 : Addr), σ' = [some (.ref a), some (.ref l4), some (.ref a3), none, none, none, none, none, none] ∧ Same H H' ∧ SqL K H' l4 (W row) ∧ DueAt K H' a3 (readP row) ∧ ∀ t, readP row = some t → LayT t, ?_, ?_⟩
  · refine ⟨_, rfl, a2, _, 1, v, rfl, rfl, ha2, rfl, rfl, _, rfl, ?_⟩
    rcases hv with ⟨t, ht, tv, tl⟩ | ⟨hn, rfl⟩
    · obtain ⟨x, rfl⟩ : ∃ x, v = .ref x := by cases tv; exact ⟨_, rfl⟩
      refine iteN (fun z => by cases z) ⟨a2, rfl, g5, hl5, ?_, fun u hu => ?_⟩
      · rw [ht]; exact ⟨_, ha2, tv⟩
      · rw [ht] at hu; cases hu; exact tl
    · refine iteP rfl ⟨(by show 2 ≤ sizeLine; decide), fun p hp => ?_⟩
      have g := same_new hp (.tup [.str sRef, .bl true])
      refine ⟨p, rfl, g5.trans g, g.seq hl5, ?_, fun u hu => ?_⟩
      · rw [hn]; exact SqT.of upd_same
      · rw [hn] at hu; cases hu
  rintro σ' H6 ⟨a3, rfl, g6, hl6, hdue, hlay⟩
  have lay := due_lay hlay
  have dep := due_depth (o := readP row) fun t ht => Nat.le_trans (read_ok ht) (by decide)
  have hZ6 := zo.sm _ _ g6 hZ
  have e32 : Str.ofString " " = S [32] := by decide +kernel
  have hglen : (gl [32] row).length ≤ 9000 := by
    have h1 := gl_bound [32] 61 row fun x hx => (hwk4 x hx).len
    have h2 : row.length * (61 + [32].length) ≤ 121 * 62 := Nat.mul_le_mul_right _ hrl
    omega
  have hjb : ((row.map S).map (·.length)).sum + (row.map S).length * (S [32]).length ≤ 16777216 := by
    have : ∀ ws : List (List Nat), (∀ w ∈ ws, WK w) → ((ws.map S).map (·.length)).sum ≤ ws.length * 61 := fun ws => by
      induction ws with
      | nil => intro _; simp
      | cons w r ih =>
        intro h
        have h1 := (h w List.mem_cons_self).len
        have h2 := ih fun x hx => h x (List.mem_cons_of_mem _ hx)
        simp only [List.map_cons, List.sum_cons, List.length_cons]
        have e : (S w).length = w.length := S_len w
        rw [e, Nat.succ_mul]; omega
    have h3 := this row hwk4
    have h4 : row.length * 61 ≤ 121 * 61 := Nat.mul_le_mul_right _ hrl
    rw [List.length_map, S_len]
    show _ + row.length * 1 ≤ _
    omega
  have hwr := writ_gl row fun x hx => (hwk4 x hx).word
  refine ⟨rfl, _, rfl, S [32], l4, row.map S, (by rw [← e32]), rfl, (by rw [← W_strs]; exact hl6), hjb, ?_⟩
  rw [join_S]
  have two : ∀ (H7 : Hp) (Q' : VK), Z1 T H7 → (∀ (x : Addr) (H8 : Hp), SXT [T] H7 H8 → DueAt K H8 x (readP row) → Z1 T H8 → Q' (.ref x) H8) → spTold K T [.str (S (gl [32] row))] H7 Q' E0 := fun H7 Q' hz hq => by
    refine ⟨_, row, rfl, hglen, hwr, by omega, hz, fun t ht x v H8 x8 h1 h2 z8 => hq x H8 x8 ?_ z8, fun hn x H8 x8 h1 z8 => hq x H8 x8 ?_ z8⟩
    · rw [ht]; exact ⟨v, h1, h2⟩
    · rw [hn]; exact h1
  try delta tNil
  dsimp only [List.append_nil]
  refine two H6 _ hZ6 fun x7 H7 y7 hd7 hZ7 => ?_
  have hdue7 := hdue.mono fun _ _ => hZ6.seqT y7
  refine ⟨_, rfl, dueD (readP row), dueD (readP row), hd7.rd, hdue7.rd, lay, lay, room _ (Nat.le_trans (Nat.min_le_right _ _) (by omega)), _, rfl, ?_⟩
  rw [if_pos rfl, eqv_self _ lay]
  refine iteF ?_
  have hl7 := hZ6.seq y7 hl6
  refine ⟨rfl, _, rfl, S [32], l4, row.map S, (by rw [← e32]), rfl, (by rw [← W_strs]; exact hl7), hjb, ?_⟩
  rw [join_S]
  try delta tNil
  dsimp only [List.append_nil]
  refine two H7 _ hZ7 fun x8 H8 y8 hd8 hZ8 => ?_
  have hdue8 := hdue7.mono fun _ _ => hZ7.seqT y8
  refine ⟨_, rfl, dueD (readP row), dueD (readP row), hd8.rd, hdue8.rd, lay, lay, room _ (Nat.le_trans (Nat.min_le_right _ _) (by omega)), _, rfl, ?_⟩
  rw [if_pos rfl, eqv_self _ lay]
  refine iteF ?_
  have hS8 := hZ7.seq y8 (hZ6.seq y7 (g6.seq hS))
  clear hd7 hd8 hdue hdue7 hdue8 hl7 hl6 two hjb hglen hwr hlay lay dep hread
  refine ⟨_, rfl, a, ns, 4, rfl, hS8, fun c4 => ⟨c4, rfl, fun pg d wd H9 g9 hpg hd1 hd43 hw209 => ?_⟩⟩
  refine ⟨pg, _, rfl, hpg, rfl, _, _, rfl, _, _, rfl, rfl, ?_⟩
  have hZ9 := zo.sm _ _ g9 hZ8
  obtain ⟨e, rfl⟩ : ∃ e, d = e + 1 := ⟨d - 1, by omega⟩
  have ee : ((e + 1 : Nat) : Int) - 1 = (e : Int) := by omega
  have ea : Str.ofString "a(" = S [97, 40] := by decide +kernel
  have ea1 : Str.ofString "a" = S [97] := by decide +kernel
  have eb1 : Str.ofString "b" = S [98] := by decide +kernel
  have e40 : Str.ofString "(" = S [40] := by decide +kernel
  have e41 : Str.ofString ")" = S [41] := by decide +kernel
  have hpl : ((List.replicate e [97, 40]).flatten : List Nat).length ≤ 84 := by rw [flat_len]; show e * 2 ≤ 84; omega
  have hcl2 := core_len wd hw209
  refine ⟨_, rfl, _, _, rfl, rfl, ?_⟩
  dsimp only
  rw [ea]
  refine ⟨[97, 40], e, rfl, (by rw [ee]), by simp, by simp, by omega, ?_⟩
  rw [ea1]
  refine ⟨_, _, rfl, rfl, (by rw [S_len, S_len]; exact line_of (by simp only [List.length_cons, List.length_nil]; omega)), ?_⟩
  rw [S_app]
  generalize hpre : (List.replicate e [97, 40]).flatten = pre at hpl
  refine ⟨fun σ' H' => σ' = [some (.ref a), some (.ref l4), some (.ref a3), some (.int ((e + 1 : Nat) : Int)), some (.int (wd : Int)), some (.str (S (pre ++ coreT wd))), none, none, none] ∧ Same H9 H', ?_, ?_⟩
  · refine ⟨_, rfl, _, _, rfl, rfl, _, rfl, ?_⟩
    by_cases h0 : 0 < wd
    · refine iteP (by omega) ?_
      have hc : coreT wd = [97] ++ [40] ++ gl [32] (List.replicate wd [98]) ++ [41] := by rw [coreT, if_pos h0]
      rw [hc] at hcl2
      simp only [List.length_append, List.length_cons, List.length_nil] at hcl2
      refine ⟨_, rfl, _, _, rfl, rfl, (by rw [e40, S_len, S_len]; exact line_of (by simp only [List.length_append, List.length_cons, List.length_nil]; omega)), rfl, (by show 1 ≤ sizeLine; decide), fun lb hlb => ?_⟩
      have gb := same_new hlb (.lst [.str (Str.ofString "b")])
      have bb : upd H9 lb (.lst [.str (Str.ofString "b")]) lb = some (.lst [.str (Str.ofString "b")]) := upd_same
      generalize upd H9 lb (.lst [.str (Str.ofString "b")]) = Hb at gb bb ⊢
      refine ⟨_, rfl, lb, _, _, rfl, rfl, bb, by omega, by omega, (by show 1 * ((wd : Int)).toNat ≤ sizeLine; rw [Int.toNat_natCast, Nat.one_mul]; exact Nat.le_trans hw209 (by decide)), fun p hp => ?_⟩
      have ew : (List.replicate ((wd : Int)).toNat [V.str (Str.ofString "b")]).flatten = ((List.replicate wd [98]).map S).map V.str := by
        rw [Int.toNat_natCast, rep_flat, List.map_replicate, List.map_replicate, eb1]
      rw [ew]
      have gp := same_new hp (.lst (((List.replicate wd [98]).map S).map V.str))
      refine ⟨S [32], p, (List.replicate wd [98]).map S, (by rw [← e32]), rfl, SqL.of upd_same, ?_, ?_⟩
      · have : ∀ n : Nat, (((List.replicate n [98]).map S).map (·.length)).sum = n := fun n => by
          induction n with
          | zero => rfl
          | succ n ih => rw [List.replicate_succ, List.map_cons, List.map_cons, List.sum_cons, ih]; show (S [98]).length + n = n + 1; rw [S_len]; simp; omega
        rw [this, List.length_map, List.length_replicate, S_len]
        show wd + wd * 1 ≤ _
        omega
      · rw [join_S, e40, S_app, e41]
        refine ⟨_, _, rfl, rfl, (by rw [S_len, S_len]; exact line_of (by simp only [List.length_append, List.length_cons, List.length_nil]; omega)), ?_⟩
        rw [S_app]
        refine ⟨_, _, rfl, rfl, (by rw [S_len, S_len]; exact line_of (by simp only [List.length_append, List.length_cons, List.length_nil]; omega)), ?_⟩
        rw [S_app]
        refine ⟨?_, gb.trans gp⟩
        rw [hc]
        simp only [List.append_assoc]
        rfl
    · have hc : coreT wd = [97] := by rw [coreT, if_neg h0]
      rw [hc]
      exact iteN (by omega) ⟨rfl, Same.refl _⟩
  rintro σ' H10 ⟨rfl, g10⟩
  have hZ10 := zo.sm _ _ g10 hZ9
  have htx : pre ++ coreT wd ++ (List.replicate e [41]).flatten = nestT e wd := by rw [nestT, hpre]
  have hnl := nestT_len (d := e) (w := wd) (by omega) hw209
  refine ⟨fun σ' H' => ∃ x : Addr, σ' = [some (.ref a), some (.ref l4), some (.ref a3), some (.int ((e + 1 : Nat) : Int)), some (.int (wd : Int)), some (.str (S (pre ++ coreT wd))), some (.ref x), none, none] ∧ DueAt K H' x (readP (tokT (nest e wd))), ?_, ?_⟩
  · refine ⟨_, rfl, _, rfl, _, _, rfl, rfl, ?_⟩
    dsimp only
    rw [e41]
    refine ⟨[41], e, rfl, (by rw [ee]), by simp, by simp, by omega, ?_⟩
    refine ⟨_, _, rfl, rfl, (by rw [S_len, S_len, flat_len]; exact line_of (by simp only [List.length_append, List.length_cons, List.length_nil]; omega)), ?_⟩
    rw [S_app, htx]
    have hwn := writ_nest e wd
    have hwl := hwn.len
    refine ⟨nestT e wd, tokT (nest e wd), rfl, by omega, hwn, by omega, hZ10, fun t ht x v H11 x11 h1 h2 z11 => ⟨x, rfl, ?_⟩, fun hn x H11 x11 h1 z11 => ⟨x, rfl, ?_⟩⟩
    · rw [ht]; exact ⟨v, h1, h2⟩
    · rw [hn]; exact h1
  rintro σ' H11 ⟨x, rfl, hx11⟩
  rw [read_tok (pl_nest e wd), lv_nest, sz_nest] at hx11
  have refd : ¬ (e + 1 + (if 0 < wd then 1 else 0) ≤ 40 ∧ e + 1 + wd ≤ 200) → ∀ p, H11 p = none → rEqD K (A.deeper (PyProof.Rows.envOfC "law" (defScope sLaw) s.heap.objs.size f cdv)) false (.ref x) (.ref p) (upd H11 p (.tup [.str sRef, .bl true])) Q := fun hno p hp => by
    rw [if_neg hno] at hx11
    have g := same_new hp (.tup [.str sRef, .bl true])
    have hx := hx11.mono fun _ _ => g.seqT
    have hl : (dueD none).canLay0 = true := due_lay (o := none) (fun t ht => by cases ht)
    refine ⟨dueD none, dueD none, hx.rd, DueAt.rd (o := none) (SqT.of upd_same), hl, hl, room _ (Nat.le_trans (Nat.min_le_right _ _) (by simp [dueD, PyData.depth, PyData.depthAll])), ?_⟩
    rw [if_neg Bool.false_ne_true, eqv_self _ hl]
    exact q _
  refine ⟨_, rfl, _, rfl, _, _, rfl, rfl, .inr ⟨_, rfl, _, _, rfl, rfl, _, _, rfl, rfl, _, rfl, ?_⟩⟩
  have hi : (if decide ((0 : Int) < (wd : Int)) = true then (1 : Int) else 0) = (((if 0 < wd then 1 else 0 : Nat)) : Int) := by
    by_cases h0 : 0 < wd
    · rw [decide_eq_true (by omega), if_pos h0]; rfl
    · rw [decide_eq_false (by omega), if_neg h0]; rfl
  dsimp only
  rw [hi]
  by_cases c1 : ¬ e + 1 + (if 0 < wd then 1 else 0) ≤ 40
  · exact iteP (by omega) ⟨_, rfl, (by show 2 ≤ sizeLine; decide), fun p hp => refd (fun z => c1 z.1) p hp⟩
  refine iteN (by omega) ⟨_, rfl, _, rfl, _, _, rfl, rfl, _, _, rfl, rfl, _, rfl, ?_⟩
  by_cases c2 : ¬ e + 1 + wd ≤ 200
  · exact iteP (by omega) ⟨_, rfl, (by show 2 ≤ sizeLine; decide), fun p hp => refd (fun z => c2 z.2) p hp⟩
  refine iteN (by omega) ?_
  rw [if_pos ⟨Classical.not_not.mp c1, Classical.not_not.mp c2⟩] at hx11
  obtain ⟨vf, hf1, hf2⟩ := hx11
  clear refd
  refine ⟨fun σ' H' => ∃ v : V, σ' = [some (.ref a), some (.ref l4), some (.ref a3), some (.int ((e + 1 : Nat) : Int)), some (.int (wd : Int)), some (.str (S (pre ++ coreT wd))), some (.ref x), some v, none] ∧ Same H11 H' ∧ TrV K H' v (nest 0 wd), ?_, ?_⟩
  · refine ⟨(by show 0 ≤ sizeLine; decide), fun t0 ht0 => ?_⟩
    have k0 := same_new ht0 (.tup [])
    have m0 : upd H11 t0 (.tup []) t0 = some (.tup []) := upd_same
    generalize upd H11 t0 (.tup []) = X0 at k0 m0 ⊢
    refine ⟨(by show 3 ≤ sizeLine; decide), fun t1 ht1 => ?_⟩
    have k1 := same_new ht1 (.tup [.str (Str.ofString "b"), .int 0, .ref t0])
    have m1 : upd X0 t1 (.tup [.str (Str.ofString "b"), .int 0, .ref t0]) t1 = some (.tup [.str (Str.ofString "b"), .int 0, .ref t0]) := upd_same
    generalize upd X0 t1 (.tup [.str (Str.ofString "b"), .int 0, .ref t0]) = X1 at k1 m1 ⊢
    refine ⟨(by show 1 ≤ sizeLine; decide), fun t2 ht2 => ?_⟩
    have k2 := same_new ht2 (.tup [.ref t1])
    have m2 : upd X1 t2 (.tup [.ref t1]) t2 = some (.tup [.ref t1]) := upd_same
    generalize upd X1 t2 (.tup [.ref t1]) = X2 at k2 m2 ⊢
    have lf : TrV K X2 (.ref t1) leafB := by
      rw [eb1] at m1
      exact .mk (SqT.of (k2 _ _ m1)) (SqT.of (k2 _ _ (k1 _ _ m0))) .nil (Nat.zero_le _)
    have all : ∀ (H' : Hp), Same X2 H' → ∀ n : Nat, TrAll K H' (List.replicate n (V.ref t1)) (List.replicate n leafB) := fun H' g n => by
      induction n with
      | zero => exact .nil
      | succ n ih => exact .cons (TrV.mono (fun _ _ => g.seqT) lf) ih
    refine ⟨_, rfl, t2, _, _, rfl, rfl, SqT.of m2, by simp, by omega, by omega, (by show 1 * ((wd : Int)).toNat ≤ sizeLine; rw [Int.toNat_natCast, Nat.one_mul]; exact Nat.le_trans hw209 (by decide)), fun h1 => ?_, fun h1 p hp => ?_⟩
    · have hwd : wd = 1 := by omega
      refine ⟨(by show 3 ≤ sizeLine; decide), fun p hp => ?_⟩
      have g := same_new hp (.tup [.str (S [97]), .int 0, .ref t2])
      refine ⟨.ref p, rfl, k0.trans (k1.trans (k2.trans g)), ?_⟩
      rw [nest, hwd]
      exact .mk (SqT.of upd_same) (SqT.of (g _ _ m2)) (all _ g 1) (by simp)
    · rw [Int.toNat_natCast, rep_flat]
      have g1 := same_new hp (.tup (List.replicate wd (V.ref t1)))
      have m3 : upd X2 p (.tup (List.replicate wd (V.ref t1))) p = some (.tup (List.replicate wd (V.ref t1))) := upd_same
      generalize upd X2 p (.tup (List.replicate wd (V.ref t1))) = X3 at g1 m3 ⊢
      refine ⟨(by show 3 ≤ sizeLine; decide), fun p2 hp2 => ?_⟩
      have g := same_new hp2 (.tup [.str (S [97]), .int 0, .ref p])
      refine ⟨.ref p2, rfl, k0.trans (k1.trans (k2.trans (g1.trans g))), ?_⟩
      rw [nest]
      exact .mk (SqT.of upd_same) (SqT.of (g _ _ m3)) (all _ (g1.trans g) wd) (by rw [List.length_replicate]; omega)
  rintro σ' H12 ⟨v0, rfl, g12, hv0⟩
  refine ⟨_, rfl, _, _, rfl, rfl, _, rfl, by omega, by omega, ?_⟩
  rw [ee]
  refine for_range (lo := 0) (n := e) (fun i σ H' => ∃ (v c8 : Option V) (u : V), v = some u ∧ σ = [some (.ref a), some (.ref l4), some (.ref a3), some (.int ((e + 1 : Nat) : Int)), some (.int (wd : Int)), some (.str (S (pre ++ coreT wd))), some (.ref x), v, c8] ∧ Same H11 H' ∧ TrV K H' u (nest i wd))
    ⟨_, _, v0, rfl, rfl, g12, hv0⟩ ?_ ?_
  · rintro i σ H13 hi' ⟨_, c8, u, rfl, rfl, g13, hu⟩
    refine ⟨_, rfl, (by show 1 ≤ sizeLine; decide), fun p hp => ?_⟩
    have g1 := same_new hp (.tup [u])
    have m1 : upd H13 p (.tup [u]) p = some (.tup [u]) := upd_same
    generalize upd H13 p (.tup [u]) = X1 at g1 m1 ⊢
    refine ⟨(by show 3 ≤ sizeLine; decide), fun p2 hp2 => ?_⟩
    have g := same_new hp2 (.tup [.str (S [97]), .int 0, .ref p])
    exact ⟨_, _, .ref p2, rfl, rfl, g13.trans (g1.trans g), .mk (SqT.of upd_same) (SqT.of (g _ _ m1)) (.cons (TrV.mono (fun _ _ => (g1.trans g).seqT) hu) .nil) (by simp)⟩
  rintro σ H13 ⟨_, c8, u, rfl, rfl, g13, hu⟩
  refine ⟨_, rfl, _, rfl, (by show 2 ≤ sizeLine; decide), fun p hp => ?_⟩
  have g := same_new hp (.tup [.str sTld, u])
  have hx : DueAt K (upd H13 p (.tup [.str sTld, u])) x (some (nest e wd)) := ⟨vf, (g13.trans g).seqT hf1, TrV.mono (fun _ _ => (g13.trans g).seqT) hf2⟩
  have hy : DueAt K (upd H13 p (.tup [.str sTld, u])) p (some (nest e wd)) := ⟨u, SqT.of upd_same, TrV.mono (fun _ _ => g.seqT) hu⟩
  have hl : (dueD (some (nest e wd))).canLay0 = true := due_lay (o := some (nest e wd)) (fun t ht => by cases ht; exact lay_nest e wd)
  have hdp := due_depth (o := some (nest e wd)) (fun t ht => by cases ht; rw [lv_nest]; omega)
  refine ⟨dueD (some (nest e wd)), dueD (some (nest e wd)), hx.rd, hy.rd, hl, hl, room _ (Nat.le_trans (Nat.min_le_right _ _) (by omega)), ?_⟩
  rw [if_neg Bool.false_ne_true, eqv_self _ hl]
  exact q _
end
end K6
namespace L2
theorem ln1 {α : Type} {us : List α} (h : us.length = 1) : ∃ a, us = [a] := List.length_eq_one_iff.mp h
theorem ln2 {α : Type} {us : List α} (h : us.length = 2) : ∃ a b, us = [a, b] := by
  match us, h with
  | [a, b], _ => exact ⟨a, b, rfl⟩
theorem ln3 {α : Type} {us : List α} (h : us.length = 3) : ∃ a b c, us = [a, b, c] := by
  match us, h with
  | [a, b, c], _ => exact ⟨a, b, c, rfl⟩
theorem ln4 {α : Type} {us : List α} (h : us.length = 4) : ∃ a b c d, us = [a, b, c, d] := by
  match us, h with
  | [a, b, c, d], _ => exact ⟨a, b, c, d, rfl⟩
end L2
namespace L2
open PySem
structure MethAt (K : PySem.W.Frag) (C : Addr) (m qual : Str) (st : Stmt) : Prop where
  ex : ∃ (f : Addr) (oc : Value) (od : Option Addr) (kV doc pm : Value) (an : Option Addr) (cdv ct : Value) (osl : Array (Option Value)),
    PySem.W.findIn K (.ref C) m = some (some (.ref f)) ∧ PySem.W.isFn K (.ref f) = true ∧ K.lookup f = some ⟨oc, od, .func (PySem.W.fnOf m qual (defArgs st) (defBody st) (defScope st) .none kV doc pm an cdv ct), osl⟩ ∧ PySem.W.codeIn K cdv qual = true ∧ PySem.W.keepIn K (.ref f) = true
theorem MethAt.mk' {K : PySem.W.Frag} {C : Addr} {m qual : Str} {st : Stmt} {f : Addr} {oc : Value} {od : Option Addr} {kV doc pm : Value} {an : Option Addr} {cdv ct : Value} {osl : Array (Option Value)}
    (a : PySem.W.findIn K (.ref C) m = some (some (.ref f))) (i : PySem.W.isFn K (.ref f) = true) (l : K.lookup f = some ⟨oc, od, .func (PySem.W.fnOf m qual (defArgs st) (defBody st) (defScope st) .none kV doc pm an cdv ct), osl⟩) (c : PySem.W.codeIn K cdv qual = true) (k : PySem.W.keepIn K (.ref f) = true) : MethAt K C m qual st :=
  ⟨f, oc, od, kV, doc, pm, an, cdv, ct, osl, a, i, l, c, k⟩
theorem MethAt.mt {P : Program} {w : World} {K : PySem.W.Frag} {mg : Str → Option Value} {C : Addr} {m qual : Str} {st : Stmt} {k : Nat} {ps : List Str} {sp : Sp} (M : MethAt K C m qual st) (ok : ∀ (g : Heap) (f : Addr) (fd : FuncData), Fun K m qual st f fd → FnOk P w K mg g CX0 k f fd ps sp) (bi : ∀ (f : Addr) (fd : FuncData), Fun K m qual st f fd → Binds K fd ps []) : ∀ g : Heap, Mt P w K mg g C k m ps sp := fun g => by
  obtain ⟨f, oc, od, kV, doc, pm, an, cdv, ct, osl, a, i, l, c, kp⟩ := M.ex
  have F := fun_mk (st := st) l c kp
  exact ⟨f, _, ⟨a, i, kp⟩, ok g _ _ F, bi _ _ F⟩
theorem MethAt.mtX {P : Program} {w : World} {K : PySem.W.Frag} {mg : Str → Option Value} {C : Addr} {m qual : Str} {st : Stmt} {k : Nat} {ps : List Str} {sp : Sp} (M : MethAt K C m qual st) (ok : ∀ (g : Heap) (f : Addr) (fd : FuncData), Fun K m qual st f fd → FnOk P w K mg g (CX1 P w) k f fd ps sp) (bi : ∀ (f : Addr) (fd : FuncData), Fun K m qual st f fd → Binds K fd ps []) : ∀ g : Heap, MtX P w K mg g C k m ps sp := fun g => by
  obtain ⟨f, oc, od, kV, doc, pm, an, cdv, ct, osl, a, i, l, c, kp⟩ := M.ex
  have F := fun_mk (st := st) l c kp
  exact ⟨f, _, ⟨a, i, kp⟩, ok g _ _ F, bi _ _ F⟩
end L2
namespace K6
open PySem L2 K3
structure RdK (K : PySem.W.Frag) : Prop where
  ex : ∃ C : Addr, PySem.W.nsIn K mainGlobals "Reader" = some (some (.ref C)) ∧ Cls K C ∧ NoAttr K C "found" ∧ NoAttr K C "spot" ∧ PySem.W.makesIn K C = true ∧ PySem.W.keepIn K (.ref C) = true ∧
    MethAt K C "__init__" "Reader.__init__" sInit ∧ MethAt K C "ahead" "Reader.ahead" sAhead ∧ MethAt K C "at_name" "Reader.at_name" sAtName ∧ MethAt K C "at_number" "Reader.at_number" sAtNum ∧ MethAt K C "passed" "Reader.passed" sPassed ∧ MethAt K C "need_end" "Reader.need_end" sNeedEnd ∧ MethAt K C "take_name" "Reader.take_name" sTakeName ∧ MethAt K C "take_number" "Reader.take_number" sTakeNum ∧ MethAt K C "take_word" "Reader.take_word" sTakeWord ∧ MethAt K C "in_brackets" "Reader.in_brackets" sInB
theorem RdK.mk' {K : PySem.W.Frag} {C : Addr} (aC : PySem.W.nsIn K mainGlobals "Reader" = some (some (.ref C))) (pg : PySem.W.plainGet K C Str.empty = true) (hd : PySem.W.hasDictIn K C = true) (po : PySem.W.plainOver K C = true)
    (sa : PySem.W.findIn K (.ref C) "__setattr__" = some (some (.builtin "object.__setattr__"))) (n1 : PySem.W.findIn K (.ref C) "found" = some none) (n2 : PySem.W.findIn K (.ref C) "spot" = some none)
    (mk : PySem.W.makesIn K C = true) (kc : PySem.W.keepIn K (.ref C) = true) (m1 : MethAt K C "__init__" "Reader.__init__" sInit) (m2 : MethAt K C "ahead" "Reader.ahead" sAhead) (m3 : MethAt K C "at_name" "Reader.at_name" sAtName) (m4 : MethAt K C "at_number" "Reader.at_number" sAtNum) (m5 : MethAt K C "passed" "Reader.passed" sPassed) (m6 : MethAt K C "need_end" "Reader.need_end" sNeedEnd) (m7 : MethAt K C "take_name" "Reader.take_name" sTakeName) (m8 : MethAt K C "take_number" "Reader.take_number" sTakeNum) (m9 : MethAt K C "take_word" "Reader.take_word" sTakeWord) (m10 : MethAt K C "in_brackets" "Reader.in_brackets" sInB) : RdK K :=
  ⟨C, aC, ⟨pg, hd, po, sa⟩, n1, n2, mk, kc, m1, m2, m3, m4, m5, m6, m7, m8, m9, m10⟩
theorem RdK.m {P : Program} {w : World} {K : PySem.W.Frag} {mg : Str → Option Value} {h : Heap} {NT : Addr} (S : RdK K) (X : K.In h) (N : h.Ns mainGlobals mg) (G : Gm mg) (R : Rs K mg "NoText" NT) (RB : ∀ g : Heap, Fn P w K mg g 1 "begins_in" ["word", "signs"] spBeg) :
    ∃ C, RdT K mg C ∧ RdM P w K mg C NT ∧ ∀ g : Heap, Fn P w K mg g 5 "words" ["text"] spWords → ∃ (fI : Addr) (fdI : FuncData), Mk K C fI ∧ FnOk P w K mg g CX0 6 fI fdI ["self", "text"] (spInit C) ∧ Binds K fdI ["self", "text"] [] := by
  obtain ⟨C, aC, cl, n1, n2, mk, kc, m1, m2, m3, m4, m5, m6, m7, m8, m9, m10⟩ := S.ex
  have T : RdT K mg C := ⟨cl, n1, n2, PySem.W.mg_of X N aC⟩
  have MA := m2.mt (P := P) (w := w) (mg := mg) (fun g f fd F => ok_ahead F G T) fun f fd F => F.binds fun _ _ _ _ _ _ us hl => by obtain ⟨a1, rfl⟩ := ln1 hl; rfl
  have MN := m3.mt (P := P) (w := w) (mg := mg) (fun g f fd F => ok_atName F G T (RB g) (MA g)) fun f fd F => F.binds fun _ _ _ _ _ _ us hl => by obtain ⟨a1, rfl⟩ := ln1 hl; rfl
  have MU := m4.mt (P := P) (w := w) (mg := mg) (fun g f fd F => ok_atNum F G T (RB g) (MA g)) fun f fd F => F.binds fun _ _ _ _ _ _ us hl => by obtain ⟨a1, rfl⟩ := ln1 hl; rfl
  have MP := m5.mt (P := P) (w := w) (mg := mg) (fun g f fd F => ok_passed F T (MA g)) fun f fd F => F.binds fun _ _ _ _ _ _ us hl => by obtain ⟨a1, a2, rfl⟩ := ln2 hl; rfl
  have ME := m6.mtX (P := P) (w := w) (mg := mg) (fun g f fd F => ok_needEnd F R T (MA g)) fun f fd F => F.binds fun _ _ _ _ _ _ us hl => by obtain ⟨a1, rfl⟩ := ln1 hl; rfl
  have MW := m9.mt (P := P) (w := w) (mg := mg) (fun g f fd F => ok_takeWord F T (MA g)) fun f fd F => F.binds fun _ _ _ _ _ _ us hl => by obtain ⟨a1, rfl⟩ := ln1 hl; rfl
  have MT := m7.mtX (P := P) (w := w) (mg := mg) (fun g f fd F => ok_takeName F R T (MN g) (MW g)) fun f fd F => F.binds fun _ _ _ _ _ _ us hl => by obtain ⟨a1, rfl⟩ := ln1 hl; rfl
  have MI := m8.mtX (P := P) (w := w) (mg := mg) (fun g f fd F => ok_takeNum F R G T (MU g) (MW g)) fun f fd F => F.binds fun _ _ _ _ _ _ us hl => by obtain ⟨a1, rfl⟩ := ln1 hl; rfl
  refine ⟨C, T, ⟨MT, MU, MI, ME, ?_⟩, fun g RW => ?_⟩
  · obtain ⟨f, oc, od, kV, doc, pm, an, cdv, ct, osl, a, i, l, c, kp⟩ := m10.ex
    have F := fun_mk (st := sInB) l c kp
    exact ⟨f, _, ⟨a, i, kp⟩, F.binds fun _ _ _ _ _ _ us hl => by obtain ⟨a1, a2, rfl⟩ := ln2 hl; rfl, fun T' k g => ok_inX (z1_ok T') (rpT K C _) F G T (MP g)⟩
  · obtain ⟨f, oc, od, kV, doc, pm, an, cdv, ct, osl, a, i, l, c, kp⟩ := m1.ex
    have F := fun_mk (st := sInit) l c kp
    exact ⟨f, _, ⟨mk, a, i, kc⟩, ok_init F T RW, F.binds fun _ _ _ _ _ _ us hl => by obtain ⟨a1, a2, rfl⟩ := ln2 hl; rfl⟩
end K6
namespace K6
open PySem L2
theorem all_mk {c1 T1 : Addr} {l : PySem.W.OpenLaw} {w : World} {K : PySem.W.Frag} {h : Heap} {mg : Str → Option Value} {fa : Addr} (X : K.In h) (N : h.Ns mainGlobals mg) (hfa : mg "law" = some (.ref fa))
    (d1 : DefAt K "words" sWords) (d2 : DefAt K "word_at" sWordAt) (d3 : DefAt K "name_at" sNameAt) (d4 : DefAt K "below_zero_at" sBelow) (d5 : DefAt K "figures_at" sFigures) (d6 : DefAt K "run_at" sRun) (d7 : DefAt K "begins_in" sBegins) (d8 : DefAt K "size" sSize) (d9 : DefAt K "read_tree" sRead) (d10 : DefAt K "tree_from" sTreeF) (d11 : DefAt K "_law_cell_at" sCell) (d12 : DefAt K "_law_word_by" sWordBy) (d13 : DefAt K "_law_tree_words" sTreeW) (d14 : DefAt K "_law_spoilt" sSpoilt) (d15 : DefAt K "_law_tree" sTree) (d16 : DefAt K "_law_told" sTold) (d17 : DefAt K "_law_great" sGreat) (d18 : DefAt K "law" sLaw)
    (z1 : PySem.W.nsIn K mainGlobals "len" = some none) (z2 : PySem.W.nsIn K mainGlobals "isinstance" = some none) (z3 : PySem.W.nsIn K mainGlobals "str" = some none) (z4 : PySem.W.nsIn K mainGlobals "list" = some none) (z5 : PySem.W.nsIn K mainGlobals "range" = some none) (z6 : PySem.W.nsIn K mainGlobals "tuple" = some none) (z7 : PySem.W.nsIn K mainGlobals "int" = some none) (z8 : PySem.W.nsIn K mainGlobals "sum" = some none) (y1 : PySem.W.nsIn K mainGlobals "ValueError" = some none)  (ht1 : PySem.W.tabIn K "tree_from" = some (c1, T1)) (hh1 : PySem.W.codeHdIn K c1 T1 = true)  {tA tB tC tD tE tF tG : Tok} {NT CT : Addr} (gA : PySem.W.nsIn K mainGlobals "LETTERS" = some (some (.str LETS tA))) (gB : PySem.W.nsIn K mainGlobals "FIGURES" = some (some (.str FIGS tB))) (gC : PySem.W.nsIn K mainGlobals "SIGNS" = some (some (.str SGNS tC))) (gD : PySem.W.nsIn K mainGlobals "MOST_LETTERS" = some (some (.int 8 tD))) (gE : PySem.W.nsIn K mainGlobals "MOST_FIGURES" = some (some (.int 60 tE))) (gF : PySem.W.nsIn K mainGlobals "MOST_LEVELS" = some (some (.int 40 tF))) (gG : PySem.W.nsIn K mainGlobals "MOST_NAMES" = some (some (.int 200 tG))) (gM : PySem.W.nsIn K mainGlobals "max" = some none) (gN : PySem.W.nsIn K mainGlobals "NoText" = some (some (.ref NT))) (gT : PySem.W.nsIn K mainGlobals "TurnError" = some (some (.ref CT))) (qN : PySem.W.excIn K NT mroV "ValueError.__new__" = true) (kN : PySem.W.ktsIn K NT "BaseException" = true) (i1 : PySem.W.kitOne K (.ref NT) (.ref CT) = some true) (i2 : PySem.W.kitOne K (.ref NT) (.type "ValueError") = some true) (s1 : RdK K) :
    ∃ fd : FuncData, (∀ (s : Shared) (v : Value), BindsTo s fd ⟨[v], []⟩ [("_law_script", v)]) ∧ ∀ base : Heap, K.In base → base.Ns mainGlobals mg → BtAt mg base → FnOk l.prog w K mg base CX0 127 fa fd ["_law_script"] (spLaw K T1) := by
  have G : Gm mg := ⟨PySem.W.mg_none_of X N z1, PySem.W.mg_none_of X N z2, PySem.W.mg_none_of X N z3, PySem.W.mg_none_of X N z4, PySem.W.mg_none_of X N z5, PySem.W.mg_none_of X N z6, PySem.W.mg_none_of X N z7, PySem.W.mg_none_of X N z8, ⟨_, PySem.W.mg_of X N gA⟩, ⟨_, PySem.W.mg_of X N gB⟩, ⟨_, PySem.W.mg_of X N gC⟩, ⟨_, PySem.W.mg_of X N gD⟩, ⟨_, PySem.W.mg_of X N gE⟩⟩
  obtain ⟨f, oc, od, kV, doc, pm, an, cdv, ct, osl, a, lk, c, kp⟩ := d18.ex
  have e := hfa.symm.trans (PySem.W.mg_of X N a)
  cases e
  have F := fun_mk (st := sLaw) lk c kp
  refine ⟨PySem.W.fnOf "law" "law" (defArgs sLaw) (defBody sLaw) (defScope sLaw) .none kV doc pm an cdv ct, fun s v => .of_eq rfl, fun base _ _ hB => ?_⟩
  have hve : mg "ValueError" = none := PySem.W.mg_none_of X N y1
  have G2 : Gm2 mg := ⟨⟨_, PySem.W.mg_of X N gF⟩, ⟨_, PySem.W.mg_of X N gG⟩⟩
  have G3 : Gm3 mg := ⟨PySem.W.mg_none_of X N gM⟩
  have RN : Rs K mg "NoText" NT := ⟨PySem.W.mg_of X N gN, qN⟩
  have aB : ∀ g : Heap, Fn l.prog w K mg g 1 "begins_in" ["word", "signs"] spBeg := fun g => d7.fn X N (fun f fd F => ok_begins F) (fun _ _ _ _ _ _ us hl => by obtain ⟨a1, a2, rfl⟩ := ln2 hl; rfl)
  obtain ⟨C, TT, MM, II⟩ := s1.m (P := l.prog) (w := w) X N G RN aB
  have w1 : Fn l.prog w K mg base 1 "run_at" ["text", "start", "signs"] spRun := d6.fn X N (fun f fd F => ok_run F G) fun _ _ _ _ _ _ us hl => by obtain ⟨a1, a2, a3, rfl⟩ := ln3 hl; rfl
  have w2 : Fn l.prog w K mg base 2 "figures_at" ["text", "start"] spFig := d5.fn X N (fun f fd F => ok_fig F G w1) fun _ _ _ _ _ _ us hl => by obtain ⟨a1, a2, rfl⟩ := ln2 hl; rfl
  have w3 : Fn l.prog w K mg base 3 "below_zero_at" ["text", "start"] spBelow := d4.fn X N (fun f fd F => ok_below F w2) fun _ _ _ _ _ _ us hl => by obtain ⟨a1, a2, rfl⟩ := ln2 hl; rfl
  have w4 : Fn l.prog w K mg base 2 "name_at" ["text", "start"] spNameAt := d3.fn X N (fun f fd F => ok_nameAt F G w1) fun _ _ _ _ _ _ us hl => by obtain ⟨a1, a2, rfl⟩ := ln2 hl; rfl
  have w5 : Fn l.prog w K mg base 4 "word_at" ["text", "start"] spWordAt := d2.fn X N (fun f fd F => ok_wordAt F G w4 w2 w3) fun _ _ _ _ _ _ us hl => by obtain ⟨a1, a2, rfl⟩ := ln2 hl; rfl
  have w6 : Fn l.prog w K mg base 5 "words" ["text"] spWords := d1.fn X N (fun f fd F => ok_words F G w5) fun _ _ _ _ _ _ us hl => by obtain ⟨a1, rfl⟩ := ln1 hl; rfl
  have r1 : Fn l.prog w K mg base 40 "size" ["tree"] (spSize K 40) := by
    obtain ⟨f, oc, od, kV, doc, pm, an, cdv, ct, osl, a, lk, c, kp⟩ := d8.ex
    have F := fun_mk (st := sSize) lk c kp
    have hb : Binds K _ ["tree"] [] := F.binds fun _ _ _ _ _ _ us hl => by obtain ⟨a1, rfl⟩ := ln1 hl; rfl
    exact ⟨f, _, all_size F G hb (PySem.W.mg_of X N a) 40, hb, kp, PySem.W.mg_of X N a⟩
  have r5 : FnX l.prog w K mg base 124 "tree_from" ["reader", "room"] (spTreeF K C T1 NT 40) := by
    obtain ⟨f, oc, od, kV, doc, pm, an, cdv, ct, osl, a, lk, c, kp⟩ := d10.ex
    have F := fun_mk (st := sTreeF) lk c kp
    have hb : Binds K _ ["reader", "room"] [] := F.binds fun _ _ _ _ _ _ us hl => by obtain ⟨a1, a2, rfl⟩ := ln2 hl; rfl
    exact ⟨⟨f, _, all_treeF F RN G2 a ht1 hh1 TT MM hb (PySem.W.mg_of X N a) 40 base hB, hb, kp, PySem.W.mg_of X N a⟩⟩
  obtain ⟨fI, fdI, mkI, FI, bI⟩ := II base w6
  have r6 : FnX l.prog w K mg base 125 "read_tree" ["text"] (spRead K T1 NT) := by
    obtain ⟨f, oc, od, kV, doc, pm, an, cdv, ct, osl, a, lk, c, kp⟩ := d9.ex
    have F := fun_mk (st := sRead) lk c kp
    have hb : Binds K _ ["text"] [] := F.binds fun _ _ _ _ _ _ us hl => by obtain ⟨a1, rfl⟩ := ln1 hl; rfl
    exact ⟨⟨f, _, ok_read F RN G2 TT mkI FI bI (MM.en base) r5 r1, hb, kp, PySem.W.mg_of X N a⟩⟩
  have l1 : Fn l.prog w K mg base 1 "_law_cell_at" ["_law_script", "_law_k"] (spCell K) := d11.fn X N (fun f fd F => ok_cell F G) fun _ _ _ _ _ _ us hl => by obtain ⟨a1, a2, rfl⟩ := ln2 hl; rfl
  have l2 : Fn l.prog w K mg base 1 "_law_word_by" ["_law_cell"] spWordBy := d12.fn X N (fun f fd F => ok_wordBy F G) fun _ _ _ _ _ _ us hl => by obtain ⟨a1, rfl⟩ := ln1 hl; rfl
  have l3 : Fn l.prog w K mg base 1 "_law_tree_words" ["_law_cells"] (spTreeW K) := d13.fn X N (fun f fd F => ok_treeW F G G3) fun _ _ _ _ _ _ us hl => by obtain ⟨a1, rfl⟩ := ln1 hl; rfl
  have l4 : Fn l.prog w K mg base 1 "_law_spoilt" ["_law_row", "_law_way", "_law_there", "_law_word"] (spSpoilt K) := d14.fn X N (fun f fd F => ok_spoilt F G) fun _ _ _ _ _ _ us hl => by obtain ⟨a1, a2, a3, a4, rfl⟩ := ln4 hl; rfl
  have l5 : Fn l.prog w K mg base 1 "_law_tree" ["_law_row"] (spTree K) := d15.fn X N (fun f fd F => ok_tree F G) fun _ _ _ _ _ _ us hl => by obtain ⟨a1, rfl⟩ := ln1 hl; rfl
  have l6 : Fn l.prog w K mg base 126 "_law_told" ["_law_text"] (spTold K T1) := d16.fn X N (fun f fd F => ok_told F G hve RN (PySem.W.mg_of X N gT) kN i1 i2 r6) fun _ _ _ _ _ _ us hl => by obtain ⟨a1, rfl⟩ := ln1 hl; rfl
  have l7 : Fn l.prog w K mg base 1 "_law_great" ["_law_cell"] (spGreat K) := d17.fn X N (fun f fd F => ok_great F) fun _ _ _ _ _ _ us hl => by obtain ⟨a1, rfl⟩ := ln1 hl; rfl
  exact ok_law F G l1 l2 l3 l4 l5 l6 l7
theorem walk {c1 T1 : Addr} {l : PySem.W.OpenLaw} {q : Program} {loose : List Str} {XP : (Str → Option Value) → Heap → Prop} {YP : World → Heap → Prop} {d : DefRec} {K : Params → PySem.W.Frag} (hn : l.most = some 63) (hdf : d.params.defaults = [])
    (hY : ∀ (w : World) (h : Heap), YP w h → (K w.params).In h) (tb1 : ∀ w : World, TabAt q (K w.params) "tree_from" c1 T1)
    (F : ∀ (w : World) (mg : Str → Option Value) (fa : Addr) (h : Heap), (K w.params).In h → h.Ns mainGlobals mg → mg d.name = some (.ref fa) →
      ∃ fd : FuncData, (∀ (s : Shared) (u : Value), BindsTo s fd ⟨[u], []⟩ [("_law_script", u)]) ∧ ∀ base : Heap, (K w.params).In base → base.Ns mainGlobals mg → BtAt mg base → FnOk l.prog w (K w.params) mg base CX0 127 fa fd ["_law_script"] (spLaw (K w.params) T1)) :
    PySem.W.WalkO q loose XP YP l.row.toRowW d [] (fun f vs => PySem.call f vs) :=
  L2.walk_ofT (n := 63) (k := 127) (x := "_law_script") (tabs := [("tree_from", c1, T1)]) (sp := fun w => spLaw (K w.params) T1) hn (by decide) hdf ⟨rfl, by decide, by decide⟩ hY (fun w p hp => by
    simp only [List.mem_cons, List.not_mem_nil, or_false] at hp
    rcases hp with rfl
    · exact tb1 w) F (fun _ _ a ns hl hS hT => ⟨a, ns, rfl, hS, hl, hT ("tree_from", c1, T1) (by simp), fun _ => rfl⟩)
end K6
section
open PySem
noncomputable def K6.vS (x : String) (n : Nat) : Value := .str (Str.ofString x) n
noncomputable def K6.vR (a : Nat) : Value := .ref a
noncomputable def K6.vI (i : Int) (n : Nat) : Value := .int i n
noncomputable def K6.hE (P : Params) (x : String) (n : Nat) (v : Value) : DictEntry := ⟨PyData.keyHash P (Str.ofString x), .str (Str.ofString x) n, v⟩
noncomputable def K6.vN : Value := .none
noncomputable def K6.vF : Value := .type "function"
noncomputable def K6.vT : Value := .bool true
noncomputable def K6.i0 : Value := .int 0 0
noncomputable def K6.i3 : Value := .int 3 0
noncomputable def K6.i1 : Value := .int 181 0
noncomputable def K6.cP (k : Nat) : Value := .str (Str.ofString "/claim/cut.py") k
noncomputable def K6.oT (x : Array Value) : Obj := Obj.mk (Value.type "tuple") none (Data.seq x) #[]
noncomputable def K6.oC (x : Array Value) : Obj := Obj.mk (Value.type "code") none (Data.fields x) #[]
noncomputable def K6.oF (c : Value) (x y : String) (s : Stmt) (k : Nat) (pm cd : Value) : Obj := Obj.mk c none (Data.func (FuncData.mk (Str.ofString x) (Str.ofString y) (L2.defArgs s) (.stmts (L2.defBody s)) (L2.defScope s) k [] Value.none Value.none Value.none pm none cd Value.none 0)) #[]
open K6 in
noncomputable def K6.hp : Params → PySem.W.Frag := fun P => [ (2, Obj.mk vN none (Data.dict #[]) #[])
, (3, Obj.mk (Value.type "dict") none (Data.dict #[hE P "__name__" 165 (vS "law_turnery_k06_texts_that_are_no_tree" 458), hE P "__doc__" 166 vN, hE P "__package__" 167 vN, hE P "__loader__" 168 (Value.builtin "__main__.__loader__#opaque"), hE P "__spec__" 169 vN, hE P "__annotations__" 170 (vR 6), hE P "__builtins__" 171 (vR 4), hE P "__file__" 173 (cP 172), hE P "__cached__" 174 vN, hE P "_wall" 193 (vR 21), hE P "TurnError" 213 (vR 31), hE P "NoText" 229 (vR 44), hE P "LETTERS" 233 (vS "abcdefghijklmnopqrstuvwxyz" 232), hE P "FIGURES" 235 (vS "0123456789" 234), hE P "SIGNS" 237 (vS "();:=|*" 236), hE P "MOST_LETTERS" 239 (vI 8 238), hE P "MOST_FIGURES" 241 (vI 60 240), hE P "words" 251 (vR 53), hE P "word_at" 260 (vR 60), hE P "name_at" 269 (vR 67), hE P "below_zero_at" 278 (vR 74), hE P "figures_at" 287 (vR 81), hE P "run_at" 297 (vR 88), hE P "Reader" 414 (vR 182), hE P "begins_in" 422 (vR 193), hE P "size" 430 (vR 198), hE P "MOST_NAMES" 434 (vI 200 433), hE P "MOST_LEVELS" 436 (vI 40 435), hE P "read_tree" 445 (vR 205), hE P "tree_from" 457 (vR 212), hE P "_law_cell_at" 467 (vR 219), hE P "_law_word_by" 475 (vR 226), hE P "_law_tree_words" 481 (vR 231), hE P "_law_spoilt" 492 (vR 238), hE P "_law_tree" 506 (vR 245), hE P "_law_told" 516 (vR 252), hE P "_law_great" 526 (vR 259), hE P "law" 532 (vR 264)] 38) #[])
, (15, oT #[])
, (17, oT #[vS "k" 190])
, (18, oT #[])
, (20, oC #[vS "_wall" 187, vS "_wall" 188, cP 189, vI 1 0, vI 1 0, i0, i0, i3, vR 15, vT, i1, vR 16, vN, vR 17, vR 18, vR 19, vI 191 0, vI 1 0, cP 192])
, (21, oF vF "_wall" "_wall" (top 0) 3 (vS "__main__" 164) (vR 20))
, (22, oT #[Value.type "ValueError"])
, (29, oT #[])
, (30, Obj.mk (Value.type "dict") none (Data.dict #[hE P "__module__" 203 (vS "turnery.errors" 194), hE P "__firstlineno__" 207 (vI 5 206), hE P "__static_attributes__" 208 (vR 29), hE P "__weakref__" 210 (vR 32), hE P "__doc__" 211 vN] 3) #[])
, (31, Obj.mk (Value.type "type") none (Data.cls (ClassData.mk (Str.ofString "TurnError") [Value.type "ValueError"] [vR 31, Value.type "ValueError", Value.type "Exception", Value.type "BaseException", Value.type "object"] 30 (Str.ofString "TurnError") true [] [vR 44] false none false)) #[some (vR 22), none, some (vS "TurnError" 196), some (vS "TurnError" 204), some (Value.builtin "ValueError.__new__"), some (Value.bool true)])
, (32, Obj.mk (Value.type "getset_descriptor") none (Data.fields #[vS "__weakref__" 209, vR 31, Value.builtin "ExceptionGroup.__weakref__", vN]) #[])
, (35, oT #[vR 31])
, (42, oT #[])
, (43, Obj.mk (Value.type "dict") none (Data.dict #[hE P "__module__" 221 (vS "turnery.errors" 194), hE P "__firstlineno__" 225 (vI 7 224), hE P "__static_attributes__" 226 (vR 42), hE P "__doc__" 227 vN] 2) #[])
, (44, Obj.mk (Value.type "type") none (Data.cls (ClassData.mk (Str.ofString "NoText") [vR 31] [vR 44, vR 31, Value.type "ValueError", Value.type "Exception", Value.type "BaseException", Value.type "object"] 43 (Str.ofString "NoText") true [] [] false none false)) #[some (vR 35), none, some (vS "NoText" 214), some (vS "NoText" 222), some (Value.builtin "ValueError.__new__"), some (Value.bool true)])
, (47, oT #[])
, (49, oT #[vS "text" 245, vS "told" 246, vS "start" 247, vS "word" 248])
, (50, oT #[])
, (52, oC #[vS "words" 242, vS "words" 243, cP 244, vI 15 0, vI 1 0, i0, i0, i3, vR 47, vT, i1, vR 48, vN, vR 49, vR 50, vR 51, vI 249 0, vI 15 0, cP 250])
, (53, oF vF "words" "words" (top 10) 3 (vS "turnery.words" 230) (vR 52))
, (54, oT #[])
, (56, oT #[vS "text" 255, vS "start" 256, vS "first" 257])
, (57, oT #[])
, (59, oC #[vS "word_at" 252, vS "word_at" 253, cP 254, vI 28 0, vI 2 0, i0, i0, i3, vR 54, vT, i1, vR 55, vN, vR 56, vR 57, vR 58, vI 258 0, vI 28 0, cP 259])
, (60, oF vF "word_at" "word_at" (top 11) 3 (vS "turnery.words" 230) (vR 59))
, (61, oT #[])
, (63, oT #[vS "text" 264, vS "start" 265, vS "name" 266])
, (64, oT #[])
, (66, oC #[vS "name_at" 261, vS "name_at" 262, cP 263, vI 39 0, vI 2 0, i0, i0, i3, vR 61, vT, i1, vR 62, vN, vR 63, vR 64, vR 65, vI 267 0, vI 39 0, cP 268])
, (67, oF vF "name_at" "name_at" (top 12) 3 (vS "turnery.words" 230) (vR 66))
, (68, oT #[])
, (70, oT #[vS "text" 273, vS "start" 274, vS "figures" 275])
, (71, oT #[])
, (73, oC #[vS "below_zero_at" 270, vS "below_zero_at" 271, cP 272, vI 44 0, vI 2 0, i0, i0, i3, vR 68, vT, i1, vR 69, vN, vR 70, vR 71, vR 72, vI 276 0, vI 44 0, cP 277])
, (74, oF vF "below_zero_at" "below_zero_at" (top 13) 3 (vS "turnery.words" 230) (vR 73))
, (75, oT #[])
, (77, oT #[vS "text" 282, vS "start" 283, vS "figures" 284])
, (78, oT #[])
, (80, oC #[vS "figures_at" 279, vS "figures_at" 280, cP 281, vI 49 0, vI 2 0, i0, i0, i3, vR 75, vT, i1, vR 76, vN, vR 77, vR 78, vR 79, vI 285 0, vI 49 0, cP 286])
, (81, oF vF "figures_at" "figures_at" (top 14) 3 (vS "turnery.words" 230) (vR 80))
, (82, oT #[])
, (84, oT #[vS "text" 291, vS "start" 292, vS "signs" 293, vS "end" 294])
, (85, oT #[])
, (87, oC #[vS "run_at" 288, vS "run_at" 289, cP 290, vI 58 0, vI 3 0, i0, i0, i3, vR 82, vT, i1, vR 83, vN, vR 84, vR 85, vR 86, vI 295 0, vI 58 0, cP 296])
, (88, oF vF "run_at" "run_at" (top 15) 3 (vS "turnery.words" 230) (vR 87))
, (96, oT #[])
, (98, oT #[vS "self" 315, vS "text" 316])
, (99, oT #[])
, (101, oC #[vS "__init__" 312, vS "Reader.__init__" 313, cP 314, vI 66 0, vI 2 0, i0, i0, i3, vR 96, vT, i1, vR 97, vN, vR 98, vR 99, vR 100, vI 317 0, vI 66 0, cP 318])
, (102, oF vF "__init__" "Reader.__init__" (L2.inClass (top 17) 0) 3 (vS "turnery.readers" 298) (vR 101))
, (103, oT #[])
, (105, oT #[vS "self" 323])
, (106, oT #[])
, (108, oC #[vS "ahead" 320, vS "Reader.ahead" 321, cP 322, vI 70 0, vI 1 0, i0, i0, i3, vR 103, vT, i1, vR 104, vN, vR 105, vR 106, vR 107, vI 324 0, vI 70 0, cP 325])
, (109, oF vF "ahead" "Reader.ahead" (L2.inClass (top 17) 1) 3 (vS "turnery.readers" 298) (vR 108))
, (110, oT #[])
, (112, oT #[vS "self" 330])
, (113, oT #[])
, (115, oC #[vS "at_name" 327, vS "Reader.at_name" 328, cP 329, vI 75 0, vI 1 0, i0, i0, i3, vR 110, vT, i1, vR 111, vN, vR 112, vR 113, vR 114, vI 331 0, vI 75 0, cP 332])
, (116, oF vF "at_name" "Reader.at_name" (L2.inClass (top 17) 2) 3 (vS "turnery.readers" 298) (vR 115))
, (117, oT #[])
, (119, oT #[vS "self" 337])
, (120, oT #[])
, (122, oC #[vS "at_number" 334, vS "Reader.at_number" 335, cP 336, vI 78 0, vI 1 0, i0, i0, i3, vR 117, vT, i1, vR 118, vN, vR 119, vR 120, vR 121, vI 338 0, vI 78 0, cP 339])
, (123, oF vF "at_number" "Reader.at_number" (L2.inClass (top 17) 3) 3 (vS "turnery.readers" 298) (vR 122))
, (124, oT #[])
, (126, oT #[vS "self" 344, vS "sign" 345])
, (127, oT #[])
, (129, oC #[vS "passed" 341, vS "Reader.passed" 342, cP 343, vI 81 0, vI 2 0, i0, i0, i3, vR 124, vT, i1, vR 125, vN, vR 126, vR 127, vR 128, vI 346 0, vI 81 0, cP 347])
, (130, oF vF "passed" "Reader.passed" (L2.inClass (top 17) 4) 3 (vS "turnery.readers" 298) (vR 129))
, (131, oT #[])
, (133, oT #[vS "self" 352, vS "sign" 353])
, (134, oT #[])
, (136, oC #[vS "need" 349, vS "Reader.need" 350, cP 351, vI 87 0, vI 2 0, i0, i0, i3, vR 131, vT, i1, vR 132, vN, vR 133, vR 134, vR 135, vI 354 0, vI 87 0, cP 355])
, (137, oF vF "need" "Reader.need" (L2.inClass (top 17) 5) 3 (vS "turnery.readers" 298) (vR 136))
, (138, oT #[])
, (140, oT #[vS "self" 360, vS "word" 361])
, (141, oT #[])
, (143, oC #[vS "need_end" 357, vS "Reader.need_end" 358, cP 359, vI 90 0, vI 1 0, i0, i0, i3, vR 138, vT, i1, vR 139, vN, vR 140, vR 141, vR 142, vI 362 0, vI 90 0, cP 363])
, (144, oF vF "need_end" "Reader.need_end" (L2.inClass (top 17) 6) 3 (vS "turnery.readers" 298) (vR 143))
, (145, oT #[])
, (147, oT #[vS "self" 368])
, (148, oT #[])
, (150, oC #[vS "take_name" 365, vS "Reader.take_name" 366, cP 367, vI 95 0, vI 1 0, i0, i0, i3, vR 145, vT, i1, vR 146, vN, vR 147, vR 148, vR 149, vI 369 0, vI 95 0, cP 370])
, (151, oF vF "take_name" "Reader.take_name" (L2.inClass (top 17) 7) 3 (vS "turnery.readers" 298) (vR 150))
, (152, oT #[])
, (154, oT #[vS "self" 375])
, (155, oT #[])
, (157, oC #[vS "take_number" 372, vS "Reader.take_number" 373, cP 374, vI 100 0, vI 1 0, i0, i0, i3, vR 152, vT, i1, vR 153, vN, vR 154, vR 155, vR 156, vI 376 0, vI 100 0, cP 377])
, (158, oF vF "take_number" "Reader.take_number" (L2.inClass (top 17) 8) 3 (vS "turnery.readers" 298) (vR 157))
, (159, oT #[])
, (161, oT #[vS "self" 382, vS "word" 383])
, (162, oT #[])
, (164, oC #[vS "take_word" 379, vS "Reader.take_word" 380, cP 381, vI 105 0, vI 1 0, i0, i0, i3, vR 159, vT, i1, vR 160, vN, vR 161, vR 162, vR 163, vI 384 0, vI 105 0, cP 385])
, (165, oF vF "take_word" "Reader.take_word" (L2.inClass (top 17) 9) 3 (vS "turnery.readers" 298) (vR 164))
, (166, oT #[])
, (168, oT #[vS "self" 390, vS "take_one" 391, vS "taken" 392])
, (169, oT #[])
, (171, oC #[vS "in_brackets" 387, vS "Reader.in_brackets" 388, cP 389, vI 110 0, vI 2 0, i0, i0, i3, vR 166, vT, i1, vR 167, vN, vR 168, vR 169, vR 170, vI 393 0, vI 110 0, cP 394])
, (172, oF vF "in_brackets" "Reader.in_brackets" (L2.inClass (top 17) 10) 3 (vS "turnery.readers" 298) (vR 171))
, (173, oT #[])
, (175, oT #[vS "self" 399, vS "sign" 400, vS "take_one" 401])
, (176, oT #[])
, (178, oC #[vS "parted_by" 396, vS "Reader.parted_by" 397, cP 398, vI 118 0, vI 3 0, i0, i0, i3, vR 173, vT, i1, vR 174, vN, vR 175, vR 176, vR 177, vI 402 0, vI 118 0, cP 403])
, (179, oF vF "parted_by" "Reader.parted_by" (L2.inClass (top 17) 11) 3 (vS "turnery.readers" 298) (vR 178))
, (180, oT #[vS "found" 405, vS "spot" 406])
, (181, Obj.mk (Value.type "dict") none (Data.dict #[hE P "__module__" 307 (vS "turnery.readers" 298), hE P "__firstlineno__" 311 (vI 64 310), hE P "__init__" 319 (vR 102), hE P "ahead" 326 (vR 109), hE P "at_name" 333 (vR 116), hE P "at_number" 340 (vR 123), hE P "passed" 348 (vR 130), hE P "need" 356 (vR 137), hE P "need_end" 364 (vR 144), hE P "take_name" 371 (vR 151), hE P "take_number" 378 (vR 158), hE P "take_word" 386 (vR 165), hE P "in_brackets" 395 (vR 172), hE P "parted_by" 404 (vR 179), hE P "__static_attributes__" 407 (vR 180), hE P "__dict__" 409 (vR 183), hE P "__weakref__" 411 (vR 184), hE P "__doc__" 412 vN] 4) #[])
, (182, Obj.mk (Value.type "type") none (Data.cls (ClassData.mk (Str.ofString "Reader") [Value.type "object"] [vR 182, Value.type "object"] 181 (Str.ofString "Reader") true [] [] false none false)) #[none, none, some (vS "Reader" 300), some (vS "Reader" 308), some (Value.builtin "object.__new__"), some (Value.bool true)])
, (183, Obj.mk (Value.type "getset_descriptor") none (Data.fields #[vS "__dict__" 408, vR 182, Value.builtin "function.__dict__", Value.builtin "function.__dict__#set"]) #[])
, (184, Obj.mk (Value.type "getset_descriptor") none (Data.fields #[vS "__weakref__" 410, vR 182, Value.builtin "ExceptionGroup.__weakref__", vN]) #[])
, (187, oT #[])
, (189, oT #[vS "word" 418, vS "signs" 419])
, (190, oT #[])
, (192, oC #[vS "begins_in" 415, vS "begins_in" 416, cP 417, vI 120 0, vI 2 0, i0, i0, i3, vR 187, vT, i1, vR 188, vN, vR 189, vR 190, vR 191, vI 420 0, vI 120 0, cP 421])
, (193, oF vF "begins_in" "begins_in" (top 18) 3 (vS "turnery.readers" 298) (vR 192))
, (194, oT #[])
, (197, oC #[vS "size" 425, vS "size" 426, cP 427, vI 123 0, vI 1 0, i0, i0, i3, vR 194, vT, i1, vR 195, vN, vN, vN, vR 196, vI 428 0, vI 123 0, cP 429])
, (198, oF vF "size" "size" (top 20) 3 (vS "turnery.trees" 423) (vR 197))
, (199, oT #[])
, (201, oT #[vS "text" 440, vS "reader" 441, vS "tree" 442])
, (202, oT #[])
, (204, oC #[vS "read_tree" 437, vS "read_tree" 438, cP 439, vI 128 0, vI 1 0, i0, i0, i3, vR 199, vT, i1, vR 200, vN, vR 201, vR 202, vR 203, vI 443 0, vI 128 0, cP 444])
, (205, oF vF "read_tree" "read_tree" (top 24) 3 (vS "turnery.treetexts" 431) (vR 204))
, (206, oT #[])
, (208, oT #[vS "reader" 449, vS "room" 450, vS "name" 451, vS "mark" 452])
, (209, oT #[vS "reader" 453, vS "room" 454])
, (211, oC #[vS "tree_from" 446, vS "tree_from" 447, cP 448, vI 135 0, vI 2 0, i0, i0, i3, vR 206, vT, i1, vR 207, vN, vR 208, vR 209, vR 210, vI 455 0, vI 135 0, cP 456])
, (212, oF vF "tree_from" "tree_from" (top 25) 3 (vS "turnery.treetexts" 431) (vR 211))
, (213, oT #[])
, (215, oT #[vS "_law_script" 463, vS "_law_k" 464])
, (216, oT #[])
, (218, oC #[vS "_law_cell_at" 460, vS "_law_cell_at" 461, cP 462, vI 142 0, vI 2 0, i0, i0, i3, vR 213, vT, i1, vR 214, vN, vR 215, vR 216, vR 217, vI 465 0, vI 142 0, cP 466])
, (219, oF vF "_law_cell_at" "_law_cell_at" (top 27) 3 (vS "law_turnery_k06_texts_that_are_no_tree" 458) (vR 218))
, (220, oT #[])
, (222, oT #[vS "_law_cell" 471, vS "_law_number" 472])
, (223, oT #[])
, (225, oC #[vS "_law_word_by" 468, vS "_law_word_by" 469, cP 470, vI 146 0, vI 1 0, i0, i0, i3, vR 220, vT, i1, vR 221, vN, vR 222, vR 223, vR 224, vI 473 0, vI 146 0, cP 474])
, (226, oF vF "_law_word_by" "_law_word_by" (top 28) 3 (vS "law_turnery_k06_texts_that_are_no_tree" 458) (vR 225))
, (227, oT #[])
, (230, oC #[vS "_law_tree_words" 476, vS "_law_tree_words" 477, cP 478, vI 153 0, vI 1 0, i0, i0, i3, vR 227, vT, i1, vR 228, vN, vN, vN, vR 229, vI 479 0, vI 153 0, cP 480])
, (231, oF vF "_law_tree_words" "_law_tree_words" (top 29) 3 (vS "law_turnery_k06_texts_that_are_no_tree" 458) (vR 230))
, (232, oT #[])
, (234, oT #[vS "_law_row" 485, vS "_law_way" 486, vS "_law_there" 487, vS "_law_word" 488, vS "_law_after" 489])
, (235, oT #[])
, (237, oC #[vS "_law_spoilt" 482, vS "_law_spoilt" 483, cP 484, vI 169 0, vI 4 0, i0, i0, i3, vR 232, vT, i1, vR 233, vN, vR 234, vR 235, vR 236, vI 490 0, vI 169 0, cP 491])
, (238, oF vF "_law_spoilt" "_law_spoilt" (top 30) 3 (vS "law_turnery_k06_texts_that_are_no_tree" 458) (vR 237))
, (239, oT #[])
, (241, oT #[vS "_law_row" 496, vS "_law_heads" 497, vS "_law_parts" 498, vS "_law_k" 499, vS "_law_mark" 500, vS "_law_name" 501, vS "_law_branches" 502, vS "_law_head" 503])
, (242, oT #[])
, (244, oC #[vS "_law_tree" 493, vS "_law_tree" 494, cP 495, vI 181 0, vI 1 0, i0, i0, i3, vR 239, vT, i1, vR 240, vN, vR 241, vR 242, vR 243, vI 504 0, vI 181 0, cP 505])
, (245, oF vF "_law_tree" "_law_tree" (top 31) 3 (vS "law_turnery_k06_texts_that_are_no_tree" 458) (vR 244))
, (246, oT #[])
, (248, oT #[vS "_law_text" 510, vS "_law_error" 511, vS "_law_found" 512, vS "e" 513])
, (249, oT #[])
, (251, oC #[vS "_law_told" 507, vS "_law_told" 508, cP 509, vI 209 0, vI 1 0, i0, i0, i3, vR 246, vT, i1, vR 247, vN, vR 248, vR 249, vR 250, vI 514 0, vI 209 0, cP 515])
, (252, oF vF "_law_told" "_law_told" (top 32) 3 (vS "law_turnery_k06_texts_that_are_no_tree" 458) (vR 251))
, (253, oT #[])
, (255, oT #[vS "_law_cell" 520, vS "_law_number" 521, vS "_law_deep" 522, vS "_law_wide" 523])
, (256, oT #[])
, (258, oC #[vS "_law_great" 517, vS "_law_great" 518, cP 519, vI 219 0, vI 1 0, i0, i0, i3, vR 253, vT, i1, vR 254, vN, vR 255, vR 256, vR 257, vI 524 0, vI 219 0, cP 525])
, (259, oF vF "_law_great" "_law_great" (top 33) 3 (vS "law_turnery_k06_texts_that_are_no_tree" 458) (vR 258))
, (260, oT #[])
, (263, oC #[vS "law" 527, vS "law" 528, cP 529, vI 228 0, vI 1 0, i0, i0, i3, vR 260, vT, i1, vR 261, vN, vN, vN, vR 262, vI 530 0, vI 228 0, cP 531])
, (264, oF vF "law" "law" (top 34) 3 (vS "law_turnery_k06_texts_that_are_no_tree" 458) (vR 263)) ]
end
noncomputable def PySem.W.Fast.tw8210419755759916751 : PySem.Params → PySem.W.Frag := K6.hp
theorem PySem.W.Fast.te8210419755759916751 : K6.hp = PySem.W.Fast.tw8210419755759916751 := rfl
namespace PySem.W.Fast
open PySem K6
noncomputable def tw18327909584415504868 : Params → Obj := fun P => oF vN "passed" "Reader.passed" (L2.inClass (top 17) 4) 0 vN vN
theorem te18327909584415504868 : tw18327909584415504868 = tw18327909584415504868 := rfl
noncomputable def tw5002417680277080856 : Params → Obj := fun P => oF vF "_law_tree_words" "_law_tree_words" (top 29) 3 (vS "law_turnery_k06_texts_that_are_no_tree" 458) (vR 230)
theorem te5002417680277080856 : tw5002417680277080856 = tw5002417680277080856 := rfl
noncomputable def tw261011989508784754 : Params → Obj := fun P => oF vF "figures_at" "figures_at" (top 14) 3 (vS "turnery.words" 230) (vR 80)
theorem te261011989508784754 : tw261011989508784754 = tw261011989508784754 := rfl
noncomputable def tw896207150698240381 : Params → Obj := fun P => oF vF "in_brackets" "Reader.in_brackets" (L2.inClass (top 17) 10) 3 (vS "turnery.readers" 298) (vR 171)
theorem te896207150698240381 : tw896207150698240381 = tw896207150698240381 := rfl
noncomputable def tw12695399043593241728 : Params → Obj := fun P => oF vF "law" "law" (top 34) 3 (vS "law_turnery_k06_texts_that_are_no_tree" 458) (vR 263)
theorem te12695399043593241728 : tw12695399043593241728 = tw12695399043593241728 := rfl
noncomputable def tw4436433117442089433 : Params → Obj := fun P => oF vF "words" "words" (top 10) 3 (vS "turnery.words" 230) (vR 52)
theorem te4436433117442089433 : tw4436433117442089433 = tw4436433117442089433 := rfl
noncomputable def tw11578189325063746706 : Params → Obj := fun P => oF vF "take_number" "Reader.take_number" (L2.inClass (top 17) 8) 3 (vS "turnery.readers" 298) (vR 157)
theorem te11578189325063746706 : tw11578189325063746706 = tw11578189325063746706 := rfl
noncomputable def tw17000765578093527455 : Params → Obj := fun P => oF vF "__init__" "Reader.__init__" (L2.inClass (top 17) 0) 3 (vS "turnery.readers" 298) (vR 101)
theorem te17000765578093527455 : tw17000765578093527455 = tw17000765578093527455 := rfl
noncomputable def tw896310023384587086 : Params → Obj := fun P => oF vF "need_end" "Reader.need_end" (L2.inClass (top 17) 6) 3 (vS "turnery.readers" 298) (vR 143)
theorem te896310023384587086 : tw896310023384587086 = tw896310023384587086 := rfl
noncomputable def tw13056451925723768331 : Params → Obj := fun P => oF vN "figures_at" "figures_at" (top 14) 0 vN vN
theorem te13056451925723768331 : tw13056451925723768331 = tw13056451925723768331 := rfl
noncomputable def tw8162697677930231115 : Params → Obj := fun P => oF vN "words" "words" (top 10) 0 vN vN
theorem te8162697677930231115 : tw8162697677930231115 = tw8162697677930231115 := rfl
noncomputable def tw1936336429632506938 : Params → Obj := fun P => oF vN "read_tree" "read_tree" (top 24) 0 vN vN
theorem te1936336429632506938 : tw1936336429632506938 = tw1936336429632506938 := rfl
noncomputable def tw4311735974751351606 : Params → Obj := fun P => oF vN "at_name" "Reader.at_name" (L2.inClass (top 17) 2) 0 vN vN
theorem te4311735974751351606 : tw4311735974751351606 = tw4311735974751351606 := rfl
noncomputable def tw2603259578098938609 : Params → Obj := fun P => oF vF "read_tree" "read_tree" (top 24) 3 (vS "turnery.treetexts" 431) (vR 204)
theorem te2603259578098938609 : tw2603259578098938609 = tw2603259578098938609 := rfl
noncomputable def tw797683368175993881 : Params → Obj := fun P => oF vN "below_zero_at" "below_zero_at" (top 13) 0 vN vN
theorem te797683368175993881 : tw797683368175993881 = tw797683368175993881 := rfl
noncomputable def tw14794992015250506433 : Params → Obj := fun P => oF vF "_law_great" "_law_great" (top 33) 3 (vS "law_turnery_k06_texts_that_are_no_tree" 458) (vR 258)
theorem te14794992015250506433 : tw14794992015250506433 = tw14794992015250506433 := rfl
noncomputable def tw17470987448150748180 : Params → Obj := fun P => oF vF "_law_spoilt" "_law_spoilt" (top 30) 3 (vS "law_turnery_k06_texts_that_are_no_tree" 458) (vR 237)
theorem te17470987448150748180 : tw17470987448150748180 = tw17470987448150748180 := rfl
noncomputable def tw2297376009932689858 : Params → Obj := fun P => oF vF "parted_by" "Reader.parted_by" (L2.inClass (top 17) 11) 3 (vS "turnery.readers" 298) (vR 178)
theorem te2297376009932689858 : tw2297376009932689858 = tw2297376009932689858 := rfl
noncomputable def tw3401055164399980699 : Params → Obj := fun P => oF vN "size" "size" (top 20) 0 vN vN
theorem te3401055164399980699 : tw3401055164399980699 = tw3401055164399980699 := rfl
noncomputable def tw7365213830119880303 : Params → Obj := fun P => oF vF "take_name" "Reader.take_name" (L2.inClass (top 17) 7) 3 (vS "turnery.readers" 298) (vR 150)
theorem te7365213830119880303 : tw7365213830119880303 = tw7365213830119880303 := rfl
noncomputable def tw6028919242187126841 : Params → Obj := fun P => oF vN "take_name" "Reader.take_name" (L2.inClass (top 17) 7) 0 vN vN
theorem te6028919242187126841 : tw6028919242187126841 = tw6028919242187126841 := rfl
noncomputable def tw5096910034446851037 : Params → Obj := fun P => oF vF "_law_told" "_law_told" (top 32) 3 (vS "law_turnery_k06_texts_that_are_no_tree" 458) (vR 251)
theorem te5096910034446851037 : tw5096910034446851037 = tw5096910034446851037 := rfl
noncomputable def tw15113042796646285968 : Params → Obj := fun P => oF vN "_law_told" "_law_told" (top 32) 0 vN vN
theorem te15113042796646285968 : tw15113042796646285968 = tw15113042796646285968 := rfl
noncomputable def tw7208086701045446588 : Params → Obj := fun P => oF vF "passed" "Reader.passed" (L2.inClass (top 17) 4) 3 (vS "turnery.readers" 298) (vR 129)
theorem te7208086701045446588 : tw7208086701045446588 = tw7208086701045446588 := rfl
noncomputable def tw10442844990504317858 : Params → Obj := fun P => oF vN "run_at" "run_at" (top 15) 0 vN vN
theorem te10442844990504317858 : tw10442844990504317858 = tw10442844990504317858 := rfl
noncomputable def tw7731752801770883886 : Params → Obj := fun P => oF vF "tree_from" "tree_from" (top 25) 3 (vS "turnery.treetexts" 431) (vR 211)
theorem te7731752801770883886 : tw7731752801770883886 = tw7731752801770883886 := rfl
noncomputable def tw4529453232455115321 : Params → Obj := fun P => oF vF "run_at" "run_at" (top 15) 3 (vS "turnery.words" 230) (vR 87)
theorem te4529453232455115321 : tw4529453232455115321 = tw4529453232455115321 := rfl
noncomputable def tw17346632414358285091 : Params → Obj := fun P => oF vF "below_zero_at" "below_zero_at" (top 13) 3 (vS "turnery.words" 230) (vR 73)
theorem te17346632414358285091 : tw17346632414358285091 = tw17346632414358285091 := rfl
noncomputable def tw16947556046353259367 : Params → Obj := fun P => oF vF "ahead" "Reader.ahead" (L2.inClass (top 17) 1) 3 (vS "turnery.readers" 298) (vR 108)
theorem te16947556046353259367 : tw16947556046353259367 = tw16947556046353259367 := rfl
noncomputable def tw6225808739709073699 : Params → Obj := fun P => oF vN "_law_tree" "_law_tree" (top 31) 0 vN vN
theorem te6225808739709073699 : tw6225808739709073699 = tw6225808739709073699 := rfl
noncomputable def tw17474834170338588399 : Params → Obj := fun P => oF vF "_law_word_by" "_law_word_by" (top 28) 3 (vS "law_turnery_k06_texts_that_are_no_tree" 458) (vR 225)
theorem te17474834170338588399 : tw17474834170338588399 = tw17474834170338588399 := rfl
noncomputable def tw11353789007305266097 : Params → Obj := fun P => oF vN "_law_cell_at" "_law_cell_at" (top 27) 0 vN vN
theorem te11353789007305266097 : tw11353789007305266097 = tw11353789007305266097 := rfl
noncomputable def tw13730275038305005023 : Params → Obj := fun P => oF vF "word_at" "word_at" (top 11) 3 (vS "turnery.words" 230) (vR 59)
theorem te13730275038305005023 : tw13730275038305005023 = tw13730275038305005023 := rfl
noncomputable def tw16782181052253728314 : Params → Obj := fun P => oF vN "law" "law" (top 34) 0 vN vN
theorem te16782181052253728314 : tw16782181052253728314 = tw16782181052253728314 := rfl
noncomputable def tw18280974707762751962 : Params → Obj := fun P => oF vN "tree_from" "tree_from" (top 25) 0 vN vN
theorem te18280974707762751962 : tw18280974707762751962 = tw18280974707762751962 := rfl
noncomputable def tw8336082748095698618 : Params → Obj := fun P => oF vF "begins_in" "begins_in" (top 18) 3 (vS "turnery.readers" 298) (vR 192)
theorem te8336082748095698618 : tw8336082748095698618 = tw8336082748095698618 := rfl
noncomputable def tw2491551822572197202 : Params → Obj := fun P => oF vN "word_at" "word_at" (top 11) 0 vN vN
theorem te2491551822572197202 : tw2491551822572197202 = tw2491551822572197202 := rfl
noncomputable def tw11116823757929488695 : Params → Obj := fun P => oF vN "_wall" "_wall" (top 0) 0 vN vN
theorem te11116823757929488695 : tw11116823757929488695 = tw11116823757929488695 := rfl
noncomputable def tw9060869925618609083 : Params → Obj := fun P => oF vN "_law_word_by" "_law_word_by" (top 28) 0 vN vN
theorem te9060869925618609083 : tw9060869925618609083 = tw9060869925618609083 := rfl
noncomputable def tw11275431663185422807 : Params → Obj := fun P => oF vN "take_number" "Reader.take_number" (L2.inClass (top 17) 8) 0 vN vN
theorem te11275431663185422807 : tw11275431663185422807 = tw11275431663185422807 := rfl
noncomputable def tw1190861463382476059 : Params → Obj := fun P => oF vN "need_end" "Reader.need_end" (L2.inClass (top 17) 6) 0 vN vN
theorem te1190861463382476059 : tw1190861463382476059 = tw1190861463382476059 := rfl
noncomputable def tw8357068251757068914 : Params → Obj := fun P => oF vF "at_name" "Reader.at_name" (L2.inClass (top 17) 2) 3 (vS "turnery.readers" 298) (vR 115)
theorem te8357068251757068914 : tw8357068251757068914 = tw8357068251757068914 := rfl
noncomputable def tw12191913567376865245 : Params → Obj := fun P => oF vF "need" "Reader.need" (L2.inClass (top 17) 5) 3 (vS "turnery.readers" 298) (vR 136)
theorem te12191913567376865245 : tw12191913567376865245 = tw12191913567376865245 := rfl
noncomputable def tw6483902956965128031 : Params → Obj := fun P => oF vN "_law_great" "_law_great" (top 33) 0 vN vN
theorem te6483902956965128031 : tw6483902956965128031 = tw6483902956965128031 := rfl
noncomputable def tw17278607262316784285 : Params → Obj := fun P => oF vN "name_at" "name_at" (top 12) 0 vN vN
theorem te17278607262316784285 : tw17278607262316784285 = tw17278607262316784285 := rfl
noncomputable def tw1006708395943665354 : Params → Obj := fun P => oF vF "at_number" "Reader.at_number" (L2.inClass (top 17) 3) 3 (vS "turnery.readers" 298) (vR 122)
theorem te1006708395943665354 : tw1006708395943665354 = tw1006708395943665354 := rfl
noncomputable def tw16041819608242748181 : Params → Obj := fun P => oF vF "_law_cell_at" "_law_cell_at" (top 27) 3 (vS "law_turnery_k06_texts_that_are_no_tree" 458) (vR 218)
theorem te16041819608242748181 : tw16041819608242748181 = tw16041819608242748181 := rfl
noncomputable def tw15041599237075405817 : Params → Obj := fun P => oF vN "begins_in" "begins_in" (top 18) 0 vN vN
theorem te15041599237075405817 : tw15041599237075405817 = tw15041599237075405817 := rfl
noncomputable def tw15647242868521789096 : Params → Obj := fun P => oF vN "_law_tree_words" "_law_tree_words" (top 29) 0 vN vN
theorem te15647242868521789096 : tw15647242868521789096 = tw15647242868521789096 := rfl
noncomputable def tw11130918208811788764 : Params → Obj := fun P => oF vN "need" "Reader.need" (L2.inClass (top 17) 5) 0 vN vN
theorem te11130918208811788764 : tw11130918208811788764 = tw11130918208811788764 := rfl
noncomputable def tw510318860212485887 : Params → Obj := fun P => oF vN "_law_spoilt" "_law_spoilt" (top 30) 0 vN vN
theorem te510318860212485887 : tw510318860212485887 = tw510318860212485887 := rfl
noncomputable def tw17926407493139358956 : Params → Obj := fun P => oF vF "take_word" "Reader.take_word" (L2.inClass (top 17) 9) 3 (vS "turnery.readers" 298) (vR 164)
theorem te17926407493139358956 : tw17926407493139358956 = tw17926407493139358956 := rfl
noncomputable def tw3180625807622864502 : Params → Obj := fun P => oF vN "at_number" "Reader.at_number" (L2.inClass (top 17) 3) 0 vN vN
theorem te3180625807622864502 : tw3180625807622864502 = tw3180625807622864502 := rfl
noncomputable def tw17919254904505247544 : Params → Obj := fun P => oF vF "size" "size" (top 20) 3 (vS "turnery.trees" 423) (vR 197)
theorem te17919254904505247544 : tw17919254904505247544 = tw17919254904505247544 := rfl
noncomputable def tw17290857977732133321 : Params → Obj := fun P => oF vF "_law_tree" "_law_tree" (top 31) 3 (vS "law_turnery_k06_texts_that_are_no_tree" 458) (vR 244)
theorem te17290857977732133321 : tw17290857977732133321 = tw17290857977732133321 := rfl
noncomputable def tw17603265711026743265 : Params → Obj := fun P => oF vN "take_word" "Reader.take_word" (L2.inClass (top 17) 9) 0 vN vN
theorem te17603265711026743265 : tw17603265711026743265 = tw17603265711026743265 := rfl
noncomputable def tw18076564462430092192 : Params → Obj := fun P => oF vN "__init__" "Reader.__init__" (L2.inClass (top 17) 0) 0 vN vN
theorem te18076564462430092192 : tw18076564462430092192 = tw18076564462430092192 := rfl
noncomputable def tw3650826718043340584 : Params → Obj := fun P => oF vN "parted_by" "Reader.parted_by" (L2.inClass (top 17) 11) 0 vN vN
theorem te3650826718043340584 : tw3650826718043340584 = tw3650826718043340584 := rfl
noncomputable def tw7926567803457645055 : Params → Obj := fun P => oF vF "name_at" "name_at" (top 12) 3 (vS "turnery.words" 230) (vR 66)
theorem te7926567803457645055 : tw7926567803457645055 = tw7926567803457645055 := rfl
noncomputable def tw13580926832624599194 : Params → Obj := fun P => oF vN "ahead" "Reader.ahead" (L2.inClass (top 17) 1) 0 vN vN
theorem te13580926832624599194 : tw13580926832624599194 = tw13580926832624599194 := rfl
noncomputable def tw8992934855152556242 : Params → Obj := fun P => oF vF "_wall" "_wall" (top 0) 3 (vS "__main__" 164) (vR 20)
theorem te8992934855152556242 : tw8992934855152556242 = tw8992934855152556242 := rfl
noncomputable def tw15262074132257112664 : Params → Obj := fun P => oF vN "in_brackets" "Reader.in_brackets" (L2.inClass (top 17) 10) 0 vN vN
theorem te15262074132257112664 : tw15262074132257112664 = tw15262074132257112664 := rfl
end PySem.W.Fast
noncomputable def PySem.W.Fast.tw8438860424176310531 : PySem.Program := PySem.Challenge.pw_turnery_k06_texts_that_are_no_tree
theorem PySem.W.Fast.te8438860424176310531 : (PySem.Challenge.pw_turnery_k06_texts_that_are_no_tree : PySem.Program) = PySem.W.Fast.tw8438860424176310531 := rfl
noncomputable def PySem.W.Fast.tw10320082032413271946 : PySem.Program := { PySem.Challenge.pw_turnery_k06_texts_that_are_no_tree with main := { PySem.Challenge.pw_turnery_k06_texts_that_are_no_tree.main with body := [K6.top 0, K6.top 2, K6.top 3, K6.top 5, K6.top 6, K6.top 7, K6.top 8, K6.top 9, K6.top 10, K6.top 11, K6.top 12, K6.top 13, K6.top 14, K6.top 15, K6.top 17, K6.top 18, K6.top 20, K6.top 22, K6.top 23, K6.top 24, K6.top 25, K6.top 27, K6.top 28, K6.top 29, K6.top 30, K6.top 31, K6.top 32, K6.top 33, K6.top 34] } }
theorem PySem.W.Fast.te10320082032413271946 : ({ PySem.Challenge.pw_turnery_k06_texts_that_are_no_tree with main := { PySem.Challenge.pw_turnery_k06_texts_that_are_no_tree.main with body := [K6.top 0, K6.top 2, K6.top 3, K6.top 5, K6.top 6, K6.top 7, K6.top 8, K6.top 9, K6.top 10, K6.top 11, K6.top 12, K6.top 13, K6.top 14, K6.top 15, K6.top 17, K6.top 18, K6.top 20, K6.top 22, K6.top 23, K6.top 24, K6.top 25, K6.top 27, K6.top 28, K6.top 29, K6.top 30, K6.top 31, K6.top 32, K6.top 33, K6.top 34] } } : PySem.Program) = PySem.W.Fast.tw10320082032413271946 := rfl
noncomputable def PySem.W.Fast.tw6955776089260376718 : List PySem.Stmt := (PySem.Challenge.pw_turnery_k06_texts_that_are_no_tree.main.body.drop 0).take 3
theorem PySem.W.Fast.te6955776089260376718 : ((PySem.Challenge.pw_turnery_k06_texts_that_are_no_tree.main.body.drop 0).take 3 : List PySem.Stmt) = PySem.W.Fast.tw6955776089260376718 := rfl
noncomputable def PySem.W.Fast.tw5487578209783383782 : List PySem.Stmt := (PySem.Challenge.pw_turnery_k06_texts_that_are_no_tree.main.body.drop 3).take 11
theorem PySem.W.Fast.te5487578209783383782 : ((PySem.Challenge.pw_turnery_k06_texts_that_are_no_tree.main.body.drop 3).take 11 : List PySem.Stmt) = PySem.W.Fast.tw5487578209783383782 := rfl
noncomputable def PySem.W.Fast.tw8230678260930874868 : List PySem.Stmt := (PySem.Challenge.pw_turnery_k06_texts_that_are_no_tree.main.body.drop 14).take 3
theorem PySem.W.Fast.te8230678260930874868 : ((PySem.Challenge.pw_turnery_k06_texts_that_are_no_tree.main.body.drop 14).take 3 : List PySem.Stmt) = PySem.W.Fast.tw8230678260930874868 := rfl
noncomputable def PySem.W.Fast.tw997540423443205775 : List PySem.Stmt := (PySem.Challenge.pw_turnery_k06_texts_that_are_no_tree.main.body.drop 17).take 1
theorem PySem.W.Fast.te997540423443205775 : ((PySem.Challenge.pw_turnery_k06_texts_that_are_no_tree.main.body.drop 17).take 1 : List PySem.Stmt) = PySem.W.Fast.tw997540423443205775 := rfl
noncomputable def PySem.W.Fast.tw15487318150849790032 : List PySem.Stmt := (PySem.Challenge.pw_turnery_k06_texts_that_are_no_tree.main.body.drop 18).take 16
theorem PySem.W.Fast.te15487318150849790032 : ((PySem.Challenge.pw_turnery_k06_texts_that_are_no_tree.main.body.drop 18).take 16 : List PySem.Stmt) = PySem.W.Fast.tw15487318150849790032 := rfl
noncomputable def PySem.W.Fast.tw12070832021173712662 : List PySem.Stmt := (PySem.Challenge.pw_turnery_k06_texts_that_are_no_tree.main.body.drop 34).take 1
theorem PySem.W.Fast.te12070832021173712662 : ((PySem.Challenge.pw_turnery_k06_texts_that_are_no_tree.main.body.drop 34).take 1 : List PySem.Stmt) = PySem.W.Fast.tw12070832021173712662 := rfl
open PySem PySem.W PyProof.Rows
set_option maxRecDepth 100000 in
set_option maxHeartbeats 0 in
theorem PySem.Challenge.cw_turnery_k06_texts_that_are_no_tree_holds : PySem.Challenge.rw_turnery_k06_texts_that_are_no_tree.Holds := by
  w_on; o_law; k_head; (case hw => w_witness2)
  k_fill
  refine K6.walk (c1 := 211) (T1 := 207) (l := PySem.Challenge.rw_turnery_k06_texts_that_are_no_tree) rfl rfl (fun w h Y => PySem.W.km_in_of Y) ?tb1 ?F
  case tb1 =>
    intro w
    refine' L2.TabAt.mk ⟨_, ?a⟩ ?b ?c ?d; (case a => exact rfl); (case b => kernel_rfl); (case c => kernel_rfl); (case d => kernel_rfl)
  case F =>
    intro w mg fa h KX G hmg
    refine' K6.all_mk (c1 := 211) (T1 := 207) KX G hmg ?d1 ?d2 ?d3 ?d4 ?d5 ?d6 ?d7 ?d8 ?d9 ?d10 ?d11 ?d12 ?d13 ?d14 ?d15 ?d16 ?d17 ?d18 ?z1 ?z2 ?z3 ?z4 ?z5 ?z6 ?z7 ?z8 ?y1 ?ht1 ?hh1 ?gA ?gB ?gC ?gD ?gE ?gF ?gG ?gM ?gN ?gT ?qN ?kN ?i1 ?i2 ?s1
    (case ht1 => kernel_rfl); (case hh1 => kernel_rfl)
    (case d1 => refine' L2.DefAt.mk' ?a ?l ?c ?k; (case a => k_is); (case l => k_is); (case c => k_is); (case k => k_is))
    (case d2 => refine' L2.DefAt.mk' ?a ?l ?c ?k; (case a => k_is); (case l => k_is); (case c => k_is); (case k => k_is))
    (case d3 => refine' L2.DefAt.mk' ?a ?l ?c ?k; (case a => k_is); (case l => k_is); (case c => k_is); (case k => k_is))
    (case d4 => refine' L2.DefAt.mk' ?a ?l ?c ?k; (case a => k_is); (case l => k_is); (case c => k_is); (case k => k_is))
    (case d5 => refine' L2.DefAt.mk' ?a ?l ?c ?k; (case a => k_is); (case l => k_is); (case c => k_is); (case k => k_is))
    (case d6 => refine' L2.DefAt.mk' ?a ?l ?c ?k; (case a => k_is); (case l => k_is); (case c => k_is); (case k => k_is))
    (case d7 => refine' L2.DefAt.mk' ?a ?l ?c ?k; (case a => k_is); (case l => k_is); (case c => k_is); (case k => k_is))
    (case d8 => refine' L2.DefAt.mk' ?a ?l ?c ?k; (case a => k_is); (case l => k_is); (case c => k_is); (case k => k_is))
    (case d9 => refine' L2.DefAt.mk' ?a ?l ?c ?k; (case a => k_is); (case l => k_is); (case c => k_is); (case k => k_is))
    (case d10 => refine' L2.DefAt.mk' ?a ?l ?c ?k; (case a => k_is); (case l => k_is); (case c => k_is); (case k => k_is))
    (case d11 => refine' L2.DefAt.mk' ?a ?l ?c ?k; (case a => k_is); (case l => k_is); (case c => k_is); (case k => k_is))
    (case d12 => refine' L2.DefAt.mk' ?a ?l ?c ?k; (case a => k_is); (case l => k_is); (case c => k_is); (case k => k_is))
    (case d13 => refine' L2.DefAt.mk' ?a ?l ?c ?k; (case a => k_is); (case l => k_is); (case c => k_is); (case k => k_is))
    (case d14 => refine' L2.DefAt.mk' ?a ?l ?c ?k; (case a => k_is); (case l => k_is); (case c => k_is); (case k => k_is))
    (case d15 => refine' L2.DefAt.mk' ?a ?l ?c ?k; (case a => k_is); (case l => k_is); (case c => k_is); (case k => k_is))
    (case d16 => refine' L2.DefAt.mk' ?a ?l ?c ?k; (case a => k_is); (case l => k_is); (case c => k_is); (case k => k_is))
    (case d17 => refine' L2.DefAt.mk' ?a ?l ?c ?k; (case a => k_is); (case l => k_is); (case c => k_is); (case k => k_is))
    (case d18 => refine' L2.DefAt.mk' ?a ?l ?c ?k; (case a => k_is); (case l => k_is); (case c => k_is); (case k => k_is))
    (case z1 => k_is); (case z2 => k_is); (case z3 => k_is); (case z4 => k_is); (case z5 => k_is); (case z6 => k_is); (case z7 => k_is); (case z8 => k_is)
    (case y1 => k_is)
    (case gA => k_is)
    (case gB => k_is)
    (case gC => k_is)
    (case gD => k_is)
    (case gE => k_is)
    (case gF => k_is)
    (case gG => k_is)
    (case gM => k_is)
    (case gN => k_is)
    (case gT => k_is)
    (case qN => kernel_rfl)
    (case kN => kernel_rfl)
    (case i1 => kernel_rfl)
    (case i2 => kernel_rfl)
    case s1 =>
      refine' K6.RdK.mk' ?aC ?pg ?hd ?po ?sa ?n1 ?n2 ?mk ?kc ?m1 ?m2 ?m3 ?m4 ?m5 ?m6 ?m7 ?m8 ?m9 ?m10
      (case aC => k_is); (case pg => k_is); (case hd => k_is); (case po => k_is); (case sa => k_is); (case n1 => k_is); (case n2 => k_is); (case mk => k_is); (case kc => k_is)
      (case m1 => refine' L2.MethAt.mk' ?a ?i ?l ?c ?k; (case a => k_is); (case i => k_is); (case l => k_is); (case c => k_is); (case k => k_is))
      (case m2 => refine' L2.MethAt.mk' ?a ?i ?l ?c ?k; (case a => k_is); (case i => k_is); (case l => k_is); (case c => k_is); (case k => k_is))
      (case m3 => refine' L2.MethAt.mk' ?a ?i ?l ?c ?k; (case a => k_is); (case i => k_is); (case l => k_is); (case c => k_is); (case k => k_is))
      (case m4 => refine' L2.MethAt.mk' ?a ?i ?l ?c ?k; (case a => k_is); (case i => k_is); (case l => k_is); (case c => k_is); (case k => k_is))
      (case m5 => refine' L2.MethAt.mk' ?a ?i ?l ?c ?k; (case a => k_is); (case i => k_is); (case l => k_is); (case c => k_is); (case k => k_is))
      (case m6 => refine' L2.MethAt.mk' ?a ?i ?l ?c ?k; (case a => k_is); (case i => k_is); (case l => k_is); (case c => k_is); (case k => k_is))
      (case m7 => refine' L2.MethAt.mk' ?a ?i ?l ?c ?k; (case a => k_is); (case i => k_is); (case l => k_is); (case c => k_is); (case k => k_is))
      (case m8 => refine' L2.MethAt.mk' ?a ?i ?l ?c ?k; (case a => k_is); (case i => k_is); (case l => k_is); (case c => k_is); (case k => k_is))
      (case m9 => refine' L2.MethAt.mk' ?a ?i ?l ?c ?k; (case a => k_is); (case i => k_is); (case l => k_is); (case c => k_is); (case k => k_is))
      (case m10 => refine' L2.MethAt.mk' ?a ?i ?l ?c ?k; (case a => k_is); (case i => k_is); (case l => k_is); (case c => k_is); (case k => k_is))
