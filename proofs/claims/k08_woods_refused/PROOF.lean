import PyProof.Rows.All
import Wide.All
import OpenK.AllK
import Wide.FinOn
import Lean
import PyProof.EqAt
import PyProof.EqKinds
import PyProof.TupleCall
import KE.KLam
import KE.KNestM
import KE.KTryDeep
import KE.KTryOn
import OpenK.KOwn
import PyProof.FString
import PyProof.PureStr
import PyProof.RulesAs
import PyProof.NsDelKeeps
import KE.KSortTup
import KE.KIsAll
import KE.KTryMore
import KE.KRevIter
import PyProof.MeetsStr3
import PyProof.StrReplace2
import PyProof.Rows.StrLawsPart
import PySem.Challenge.RW_turnery_k08_woods_refused
noncomputable section
set_option Elab.async false
set_option linter.all false
set_option maxRecDepth 100000
namespace L2
open PySem PySem.Spec PyProof.Rows
abbrev Key := Sum Int Str
def keyIs : Key → Value → Bool
  | .inl k, v => Value.isInt k v
  | .inr x, v => Value.isStrOf x v
def keyH (w : World) : Key → Int
  | .inl k => hashInt k
  | .inr x => hashStr w x
theorem keyIs_shape : ∀ {k : Key} {v : Value}, keyIs k v = true → (∃ i t, k = Sum.inl i ∧ v = Value.int i t) ∨ (∃ x t, k = Sum.inr x ∧ v = Value.str x t)
  | .inl i, v, h => by
    obtain ⟨t, e⟩ := Value.isInt_shape (k := i) (v := v) h
    exact .inl ⟨i, t, rfl, e⟩
  | .inr x, v, h => by
    obtain ⟨t, e⟩ := Value.isStrOf_shape (x := x) (v := v) h
    exact .inr ⟨x, t, rfl, e⟩
theorem key_ll (a b : Int) : decide ((Sum.inl a : Key) = Sum.inl b) = (a == b) := by
  by_cases e : a = b
  · subst e; simp
  · have h : ¬ (Sum.inl a : Key) = Sum.inl b := fun q => e (Sum.inl.inj q)
    rw [decide_eq_false h]
    exact (beq_eq_false_iff_ne.mpr e).symm
theorem key_rr (a b : Str) : decide ((Sum.inr a : Key) = Sum.inr b) = decide (a = b) := by
  by_cases e : a = b
  · subst e; simp
  · have h : ¬ (Sum.inr a : Key) = Sum.inr b := fun q => e (Sum.inr.inj q)
    rw [decide_eq_false h, decide_eq_false e]
theorem key_lr (a : Int) (b : Str) : decide ((Sum.inl a : Key) = Sum.inr b) = false := decide_eq_false (fun q => nomatch q)
theorem key_rl (a : Str) (b : Int) : decide ((Sum.inr a : Key) = Sum.inl b) = false := decide_eq_false (fun q => nomatch q)
def mixKind (prog : Program) (w : World) : PySem.KeyKind prog w Key where
  is := keyIs
  hash := keyH w
  inj := fun v a b ha hb => by
    rcases keyIs_shape ha with ⟨i, t, rfl, rfl⟩ | ⟨x, t, rfl, rfl⟩
    · rcases keyIs_shape hb with ⟨j, u, rfl, e⟩ | ⟨y, u, rfl, e⟩
      · injection e with e1 _; rw [e1]
      · exact nomatch e
    · rcases keyIs_shape hb with ⟨j, u, rfl, e⟩ | ⟨y, u, rfl, e⟩
      · exact nomatch e
      · injection e with e1 _; rw [e1]
  byValue := fun k v h => by
    rcases keyIs_shape h with ⟨i, t, rfl, rfl⟩ | ⟨x, t, rfl, rfl⟩ <;> rfl
  pyHash := fun hv h => by
    rcases keyIs_shape hv with ⟨i, t, rfl, rfl⟩ | ⟨x, t, rfl, rfl⟩
    · exact wpAny_pyHash_int h
    · exact wpAny_pyHash_str h
  eqBool := fun hu hv h => by
    rcases keyIs_shape hu with ⟨i, t, rfl, rfl⟩ | ⟨x, t, rfl, rfl⟩
    · rcases keyIs_shape hv with ⟨j, u, rfl, rfl⟩ | ⟨y, u, rfl, rfl⟩
      · rw [key_ll] at h; exact wpAny_eqBool_int h
      · rw [key_lr] at h; exact SeqAt.EqAt.int_str i t y u _ _ _ _ h
    · rcases keyIs_shape hv with ⟨j, u, rfl, rfl⟩ | ⟨y, u, rfl, rfl⟩
      · rw [key_rl] at h; exact SeqAt.EqAt.str_int x t j u _ _ _ _ h
      · rw [key_rr] at h; exact wpAny_eqBool_str h
  «strs» := fun k x t v h => by
    rcases keyIs_shape h with ⟨i, u, rfl, e⟩ | ⟨y, u, rfl, e⟩
    · exact nomatch e
    · injection e with e1 _
      subst e1
      cases v <;> rfl
end L2
namespace L2
open PySem PySem.Spec PyProof.Rows
inductive V where
  | non | bl (b : Bool) | int (i : Int) | str (x : Str) | byt (b : Array UInt8) | flt (b : UInt64) | ref (a : Addr) | ty (n : String)
  deriving DecidableEq
def RelV : V → Value → Prop
  | .non, u => u = Value.none
  | .bl b, u => u = Value.bool b
  | .int i, u => ∃ t, u = Value.int i t
  | .str x, u => ∃ t, u = Value.str x t
  | .byt b, u => ∃ t, u = Value.bytes b t
  | .flt b, u => ∃ t, u = Value.float b t
  | .ref a, u => u = Value.ref a
  | .ty n, u => u = Value.type n
abbrev Vals : List V → List Value → Prop := Paired RelV
theorem Vals.length {xs : List V} {us : List Value} (r : Vals xs us) : xs.length = us.length := Paired.length r
theorem Vals.get : ∀ {xs : List V} {us : List Value} {i : Nat} {x : V}, Vals xs us → xs[i]? = some x → ∃ u, us[i]? = some u ∧ RelV x u
  | _, _, _, _, .nil, e => by simp at e
  | _, _, 0, _, .cons r _, e => by simp at e; subst e; exact ⟨_, rfl, r⟩
  | _, _, i + 1, x, .cons _ t, e => by
    obtain ⟨u, h1, h2⟩ := Vals.get (i := i) (x := x) t (by simpa using e)
    exact ⟨u, by simpa using h1, h2⟩
theorem Vals.set {x : V} {u : Value} (r : RelV x u) : ∀ {xs : List V} {us : List Value} (i : Nat), Vals xs us → Vals (xs.set i x) (us.set i u)
  | _, _, _, .nil => .nil
  | _, _, 0, .cons _ t => .cons r t
  | _, _, i + 1, .cons q t => .cons q (Vals.set r i t)
theorem Vals.append : ∀ {xs ys : List V} {us ws : List Value}, Vals xs us → Vals ys ws → Vals (xs ++ ys) (us ++ ws)
  | _, _, _, _, .nil, s => s
  | _, _, _, _, .cons r t, s => .cons r (Vals.append t s)
theorem Vals.take : ∀ {xs : List V} {us : List Value} (n : Nat), Vals xs us → Vals (xs.take n) (us.take n)
  | _, _, 0, _ => .nil
  | _, _, _ + 1, .nil => .nil
  | _, _, n + 1, .cons r t => .cons r (Vals.take n t)
theorem Vals.drop : ∀ {xs : List V} {us : List Value} (n : Nat), Vals xs us → Vals (xs.drop n) (us.drop n)
  | _, _, 0, r => r
  | _, _, _ + 1, .nil => .nil
  | _, _, n + 1, .cons _ t => Vals.drop n t
def RelO : Option V → Option Value → Prop
  | some v, some u => RelV v u
  | none, none => True
  | _, _ => False
def KV {κ : Type} : List (κ × V) → List (κ × Value) → Prop := Paired fun (p : κ × V) (q : κ × Value) => p.1 = q.1 ∧ RelV p.2 q.2
def kV : Key → V
  | .inl i => .int i
  | .inr x => .str x
inductive HO where
  /-- a list -/
  | lst (xs : List V)
  /-- a tuple (never changes) -/
  | tup (xs : List V)
  /-- a dict whose keys are ints and texts; one whose keys are tuples of ints and texts (the empty one is both) -/
  | dK (kvs : List (Key × V)) | dT (kvs : List (List Key × V))
  /-- a set of ints: its members, its size -/
  | set (S : Int → Bool) (n : Nat)
  /-- an instance of the class at C, its dict at dx, its attributes -/
  | ins (C dx : Addr) (fs : List (Str × V))
  /-- the dict of the instance at x -/
  | own (x : Addr)
  /-- the dict of an exception -/
  | xd (fs : List (Str × V))
  /-- a bound method, f of x -/
  | met (f x : Addr)
  /-- a range object lo, lo + 1, .. below hi -/
  | rng (lo hi : Int)
  /-- a thing that is known to the object (the script; a dict while a loop walks it): read, never written while it is so -/
  | frz (o : Obj) (u : HO)
  /-- a code object's table -/
  | tbl (ps : Array Value)
  /-- any other thing, by what is true of its one object (a def of one's own: SetO a S n := HO.ext fun h => ..) -/
  | ext (φ : Heap → Prop)
abbrev Hp := Addr → Option HO
def upd (H : Hp) (a : Addr) (o : HO) : Hp := fun b => if b = a then some o else H b
theorem upd_same {H : Hp} {a : Addr} {o : HO} : upd H a o a = some o := by unfold upd; rw [if_pos rfl]
theorem upd_ne {H : Hp} {a b : Addr} {o : HO} (h : b ≠ a) : upd H a o b = H b := by unfold upd; rw [if_neg h]
theorem ne_of {H : Hp} {a b : Addr} {o u : HO} (h : H a = some o) (h' : H b = some u) (d : o ≠ u) : a ≠ b := by
  intro e; subst e; rw [h] at h'; exact d (Option.some.inj h')
theorem ne_of_none {H : Hp} {a b : Addr} {o : HO} (h : H a = some o) (h' : H b = none) : a ≠ b := by
  intro e; subst e; rw [h] at h'; cases h'
section
variable (P : Program) (w : World)
def ObjOk (H : Hp) (h : Heap) (a : Addr) : HO → Prop
  | .lst xs => xs.length ≤ sizeLine ∧ ∃ (its : List Value) (n : Nat), Vals xs its ∧ h.get? a = some { cls := .type "list", data := .seq its.toArray n }
  | .tup xs => xs.length ≤ sizeLine ∧ ∃ its : List Value, Vals xs its ∧ IsTup h a its.toArray
  | .dK kvs => kvs.length ≤ sizeLine ∧ (a == sysModules) = false ∧ ∃ vs, KV kvs vs ∧ h.DictOf (mixKind P w) a vs
  | .dT kvs => kvs.length ≤ sizeLine ∧ (a == sysModules) = false ∧ ∃ xs : List (List Key × Addr × Value),
      Paired (fun (p : List Key × V) (q : List Key × Addr × Value) => p.1 = q.1 ∧ H q.2.1 = some (.tup (p.1.map kV)) ∧ RelV p.2 q.2.2) kvs xs ∧
      ∃ o es ep, h.get? a = some o ∧ o.ExactDict ∧ o.data = .dict es ep ∧ es.toList = xs.map (entryOfKey (tupleKind (mixKind P w))) ∧ (xs.map (·.1)).Nodup
  | .set S n => h.SetOf (intKind P w) a S n
  | .ins C dx fs => H dx = some (.own a) ∧ fs.length ≤ 1000 ∧ dx ≠ a ∧ h.get? a = some (PySem.W.instObj C dx) ∧
      ∃ mA, h.Ns1 dx mA ∧ (∀ f, RelO (fs.lookup f) (mA f)) ∧ PySem.Within mA (fs.map (·.1))
  | .own _ => ∃ o, h.get? a = some o
  | .xd fs => ∃ mA, h.Ns1 a mA ∧ ∀ f, RelO (fs.lookup f) (mA f)
  | .rng lo hi => ∃ t u v, h.get? a = some { cls := .type "range", data := .fields #[.int lo t, .int hi u, .int 1 v] }
  | .frz o u => h.get? a = some o ∧ ObjOk H h a u
  | .tbl ps => h.get? a = some { cls := .none, data := .fields ps }
  | .met f x => h.get? a = some (PySem.W.methodObj (.ref f) (.ref x))
  | .ext φ => φ h ∧ (∃ o, h.get? a = some o) ∧ ∀ h1 h2 : Heap, φ h1 → (∀ o, h1.get? a = some o → h2.get? a = some o) → φ h2
def HOk (H : Hp) (h : Heap) : Prop := ∀ a o, H a = some o → ObjOk P w H h a o
end
section
variable {P : Program} {w : World} {H H' : Hp} {h h' : Heap} {a : Addr} {o : HO}
theorem ObjOk.lt (x : ObjOk P w H h a o) : a < h.objs.size := by
  cases o with
  | lst xs => obtain ⟨_, _, _, _, e⟩ := x; exact Heap.lt_size e
  | tup xs => obtain ⟨_, _, _, p⟩ := x; exact p.lt
  | dK kvs => obtain ⟨_, _, _, _, o, _, _, e, _⟩ := x; exact Heap.lt_size e
  | dT kvs => obtain ⟨_, _, _, _, o, _, _, e, _⟩ := x; exact Heap.lt_size e
  | set S n => obtain ⟨o, _, _, _, e, _⟩ := x; exact Heap.lt_size e
  | ins C dx fs => obtain ⟨_, _, _, e, _⟩ := x; exact Heap.lt_size e
  | own y => obtain ⟨_, e⟩ := x; exact Heap.lt_size e
  | xd fs => obtain ⟨_, ⟨_, _, _, e, _⟩, _⟩ := x; exact Heap.lt_size e
  | rng lo hi => obtain ⟨_, _, _, e⟩ := x; exact Heap.lt_size e
  | frz ob u => obtain ⟨e, _⟩ := x; exact Heap.lt_size e
  | tbl ps => exact Heap.lt_size (show h.get? a = some _ from x)
  | met f y => exact Heap.lt_size (show h.get? a = some _ from x)
  | ext φ => obtain ⟨_, ⟨_, e⟩, _⟩ := x; exact Heap.lt_size e
theorem Paired.mapP {α β : Type} {F G : α → β → Prop} : ∀ {l₁ : List α} {l₂ : List β}, Paired F l₁ l₂ → (∀ a b, F a b → G a b) → Paired G l₁ l₂
  | _, _, .nil, _ => .nil
  | _, _, .cons r t, f => .cons (f _ _ r) (Paired.mapP t f)
theorem ObjOk.stay (x : ObjOk P w H h a o) (k : ∀ b u, (b = a ∨ H b = some (.own a)) → h.get? b = some u → h'.get? b = some u)
    (ho : ∀ b, H b = some (.own a) → H' b = some (.own a)) (ht : ∀ b xs, H b = some (.tup xs) → H' b = some (.tup xs)) : ObjOk P w H' h' a o := by
  induction o with
  | lst xs => obtain ⟨z, its, n, r, e⟩ := x; exact ⟨z, its, n, r, k _ _ (.inl rfl) e⟩
  | tup xs => obtain ⟨z, its, r, ob, e, c⟩ := x; exact ⟨z, its, r, ob, k _ _ (.inl rfl) e, c⟩
  | dK kvs => obtain ⟨z, y, vs, r, ob, es, ep, e, c⟩ := x; exact ⟨z, y, vs, r, ob, es, ep, k _ _ (.inl rfl) e, c⟩
  | dT kvs =>
    obtain ⟨z, y, xs, r, ob, es, ep, e, c⟩ := x
    exact ⟨z, y, xs, Paired.mapP r fun p q z => ⟨z.1, ht _ _ z.2.1, z.2.2⟩, ob, es, ep, k _ _ (.inl rfl) e, c⟩
  | set S n => obtain ⟨ob, es, ep, t, e, c⟩ := x; exact ⟨ob, es, ep, t, k _ _ (.inl rfl) e, c⟩
  | ins C dx fs =>
    obtain ⟨d, z, ne, e, mA, ⟨od, es, ep, e2, c⟩, r⟩ := x
    exact ⟨ho _ d, z, ne, k _ _ (.inl rfl) e, mA, ⟨od, es, ep, k _ _ (.inr d) e2, c⟩, r⟩
  | own y => obtain ⟨ob, e⟩ := x; exact ⟨ob, k _ _ (.inl rfl) e⟩
  | xd fs => obtain ⟨mA, ⟨od, es, ep, e, c⟩, r⟩ := x; exact ⟨mA, ⟨od, es, ep, k _ _ (.inl rfl) e, c⟩, r⟩
  | rng lo hi => obtain ⟨t, u, v, e⟩ := x; exact ⟨t, u, v, k _ _ (.inl rfl) e⟩
  | frz ob u ih => obtain ⟨e, q⟩ := x; exact ⟨k _ _ (.inl rfl) e, ih q⟩
  | tbl ps =>
    have e : h.get? a = some { cls := .none, data := .fields ps } := x
    show h'.get? a = some { cls := .none, data := .fields ps }
    exact k a _ (.inl rfl) e
  | met f y =>
    have e : h.get? a = some (PySem.W.methodObj (.ref f) (.ref y)) := x
    show h'.get? a = some (PySem.W.methodObj (.ref f) (.ref y))
    exact k a _ (.inl rfl) e
  | ext φ => obtain ⟨p, ⟨o, e⟩, st⟩ := x; exact ⟨st _ _ p fun o q => k _ _ (.inl rfl) q, ⟨o, k _ _ (.inl rfl) e⟩, st⟩
theorem HOk.lt (x : HOk P w H h) (e : H a = some o) : a < h.objs.size := (x a o e).lt
theorem HOk.fresh (x : HOk P w H h) (e : h.objs.size ≤ a) : H a = none := by
  cases q : H a with
  | none => rfl
  | some u => exact absurd (Nat.lt_of_lt_of_le (x.lt q) e) (Nat.lt_irrefl _)
theorem HOk.kept (x : HOk P w H h) (k : ∀ b u, h.get? b = some u → h'.get? b = some u) : HOk P w H h' := fun a o e =>
  (x a o e).stay (fun b u _ q => k b u q) (fun _ q => q) fun _ _ q => q
theorem HOk.laid (x : HOk P w H h) (k : ∀ b u, h.get? b = some u → h'.get? b = some u) (hp : h.objs.size ≤ a) (new : ObjOk P w (upd H a o) h' a o) : HOk P w (upd H a o) h' := fun b u e => by
  have hn := x.fresh hp
  by_cases hb : b = a
  · subst hb; rw [upd_same] at e; cases e; exact new
  · rw [upd_ne hb] at e
    exact (x b u e).stay (fun c v _ q => k c v q) (fun c q => by rw [upd_ne (ne_of_none q hn)]; exact q) fun c xs q => by rw [upd_ne (ne_of_none q hn)]; exact q
end
def Rd (H : Hp) (a : Addr) (u : HO) : Prop := H a = some u ∨ ∃ o, H a = some (.frz o u)
theorem Rd.ok {P : Program} {w : World} {H : Hp} {h : Heap} {a : Addr} {u : HO} (r : Rd H a u) (x : HOk P w H h) : ObjOk P w H h a u := by
  rcases r with r | ⟨o, r⟩
  · exact x a u r
  · obtain ⟨_, q⟩ := x a _ r
    exact q
def Mut : Option HO → Prop
  | some (.lst _) => True
  | some (.dK _) => True
  | some (.dT _) => True
  | some (.set _ _) => True
  | some (.ins _ _ _) => True
  | some (.ext _) => True
  | _ => False
section
variable {P : Program} {w : World} {H : Hp} {h h' : Heap} {x e : Addr} {o' : HO}
theorem HOk.write (ok : HOk P w H h) (mu : Mut (H x)) (he : e = x ∨ H e = some (.own x)) (k : ∀ b u, b ≠ e → h.get? b = some u → h'.get? b = some u) (heo : ∃ u, h'.get? e = some u)
    (new : ObjOk P w (upd H x o') h' x o') : HOk P w (upd H x o') h' := fun b u q => by
  have nown : ∀ c y, H c = some (.own y) → c ≠ x := fun c y r z => by subst z; rw [r] at mu; exact mu
  have ntup : ∀ c xs, H c = some (.tup xs) → c ≠ x := fun c xs r z => by subst z; rw [r] at mu; exact mu
  by_cases hb : b = x
  · subst hb; rw [upd_same] at q; cases q; exact new
  · rw [upd_ne hb] at q
    by_cases hbe : b = e
    · have q' : H b = some (.own x) := by
        rcases he with z | z
        · exact absurd (hbe.trans z) hb
        · rw [hbe]; exact z
      rw [q] at q'; cases q'
      obtain ⟨v, hv⟩ := heo
      exact ⟨v, by rw [hbe]; exact hv⟩
    · refine (ok b u q).stay (fun c v hc r => k c v ?_ r) (fun c r => by rw [upd_ne (nown c b r)]; exact r) fun c xs r => by rw [upd_ne (ntup c xs r)]; exact r
      rcases hc with rfl | hc
      · exact hbe
      · rintro rfl
        rcases he with z | z
        · exact nown c b hc z
        · rw [hc] at z; cases z; exact hb rfl
end
structure Un (fs ex : List Addr) (H H' : Hp) (h h' : Heap) : Prop where
  keep : ∀ b o, h.get? b = some o → H b = none → b ∉ fs → b ∉ ex → h'.get? b = some o
  slot : ∀ b o, h.get? b = some o → H b = none → b ∈ fs → b ∉ ex → ∃ sl, h'.get? b = some { o with slots := sl }
  free : ∀ b o, h.get? b = some o → H b = none → b ∉ ex → H' b = none
  there : ∀ b o, h.get? b = some o → b ∉ ex → ∃ o', h'.get? b = some o'
  tups : ∀ b xs, H b = some (.tup xs) → H' b = some (.tup xs)
  frzs : ∀ b o u, H b = some (.frz o u) → H' b = some (.frz o u)
  tbls : ∀ b ps, H b = some (.tbl ps) → ∃ more, H' b = some (.tbl (ps ++ more))
section
variable {fs fs' ex ex' : List Addr} {H H1 H2 : Hp} {h h1 h2 h' : Heap} {a x e : Addr} {o : HO}
theorem Un.any (u : Un fs ex H H1 h h1) {b : Addr} {ob : Obj} (q : h.get? b = some ob) (n : H b = none) (hx : b ∉ ex) : ∃ sl, h1.get? b = some { ob with slots := sl } := by
  by_cases hb : b ∈ fs
  · exact u.slot b ob q n hb hx
  · exact ⟨ob.slots, u.keep b ob q n hb hx⟩
theorem Un.kept (k : ∀ b u, h.get? b = some u → h'.get? b = some u) : Un fs ex H H h h' :=
  ⟨fun b ob q _ _ _ => k b ob q, fun b ob q _ _ _ => ⟨ob.slots, k b ob q⟩, fun _ _ _ n _ => n, fun b ob q _ => ⟨ob, k b ob q⟩, fun _ _ q => q, fun _ _ _ q => q, fun _ ps q => ⟨#[], by rw [q]; simp⟩⟩
theorem Un.refl : Un fs ex H H h h := Un.kept fun _ _ q => q
theorem Un.laid (k : ∀ b u, h.get? b = some u → h'.get? b = some u) (hp : h.objs.size ≤ a) (hn : H a = none) : Un fs ex H (upd H a o) h h' where
  keep := fun b u q _ _ _ => k b u q
  slot := fun b u q _ _ _ => ⟨u.slots, k b u q⟩
  free := fun b u q n _ => by rw [upd_ne (Nat.ne_of_lt (Nat.lt_of_lt_of_le (Heap.lt_size q) hp))]; exact n
  there := fun b u q _ => ⟨u, k b u q⟩
  tups := fun b xs q => by rw [upd_ne (ne_of_none q hn)]; exact q
  frzs := fun b u xs q => by rw [upd_ne (ne_of_none q hn)]; exact q
  tbls := fun b ps q => ⟨#[], by rw [upd_ne (ne_of_none q hn), q]; simp⟩
theorem Un.write (mu : Mut (H x)) (he : e = x ∨ H e = some (.own x)) (k : ∀ b u, b ≠ e → h.get? b = some u → h'.get? b = some u) (heo : ∃ u, h'.get? e = some u) : Un fs ex H (upd H x o) h h' := by
  have hx : ∀ b, H b = none → b ≠ x := fun b n z => by subst z; rw [n] at mu; exact mu
  have hb : ∀ b, H b = none → b ≠ e := fun b n z => by
    subst z
    rcases he with r | r
    · exact hx b n r
    · rw [n] at r; cases r
  have hm : ∀ b u, H b = some u → ¬ Mut (some u) → b ≠ x := fun b u q nm z => by subst z; rw [q] at mu; exact nm mu
  refine ⟨fun b u q n _ _ => k b u (hb b n) q, fun b u q n _ _ => ⟨u.slots, k b u (hb b n) q⟩, fun b u q n _ => by rw [upd_ne (hx b n)]; exact n, fun b u q _ => ?_,
    fun b xs q => by rw [upd_ne (hm b _ q fun z => z)]; exact q, fun b u xs q => by rw [upd_ne (hm b _ q fun z => z)]; exact q, fun b ps q => ⟨#[], by rw [upd_ne (hm b _ q fun z => z), q]; simp⟩⟩
  by_cases hbe : b = e
  · subst hbe; exact heo
  · exact ⟨u, k b u hbe q⟩
end
def trk (h : Heap) (H : Hp) : List Addr := (List.range h.objs.size).filter fun a => (H a).isSome
def hidT (h : Heap) (H : Hp) : Heap := PySem.W.hideAll h (trk h H)
theorem hidT_size (h : Heap) (H : Hp) : (hidT h H).objs.size = h.objs.size := PySem.W.hideAll_size _ _
theorem hidT_get {h : Heap} {H : Hp} {b : Addr} {o : Obj} (e : h.get? b = some o) (n : H b = none) : (hidT h H).get? b = some o :=
  PySem.W.hideAll_get _ e fun hm => by
    have q : (H b).isSome = true := (List.mem_filter.mp hm).2
    rw [n] at q; simp at q
theorem of_hidT {h : Heap} {H : Hp} {b : Addr} {o : Obj} (e : (hidT h H).get? b = some o) : h.get? b = some o ∧ H b = none := by
  have e' : h.get? b = some o := PySem.W.of_hideAll (trk h H) e
  refine ⟨e', ?_⟩
  cases q : H b with
  | none => rfl
  | some x =>
    have hm : b ∈ trk h H := List.mem_filter.mpr ⟨List.mem_range.mpr (Heap.lt_size e'), by simp [q]⟩
    have z : (hidT h H).get? b = none := PySem.W.hideAll_none (trk h H) hm
    rw [z] at e; cases e
def allNews (g h : Heap) (L : Addr) : List (Addr × Obj) := (List.range h.objs.size).filterMap fun a => if a = L ∨ (g.get? a).isSome = true then none else (h.get? a).map fun o => (a, o)
def rest (g h : Heap) (L d : Addr) : List (Addr × Obj) := (allNews g h L).filter fun p => decide (p.1 ≠ d)
end L2
namespace L2
open PySem PySem.Spec PyProof.Rows
structure Mod (K : PySem.W.Frag) (mg : Str → Option Value) (base : Heap) : Prop where
  kin : K.In base
  glob : base.Ns mainGlobals mg
  blt : ∃ mb, base.Ns builtinsNs mb ∧ ∀ x : Str, x ≠ "__name__" → mb x = bootBuiltins x
  nolimit : base.NoLimit
structure Cx where
  prog : Program
  w : World
  K : PySem.W.Frag
  mg : Str → Option Value
  base : Heap
  A : Around
  N : List Str
  s₀ : Shared
  H₀ : Hp
  env : Env
  outer : List Env
  stack : List Env
  ex : List Addr
  fn : Str → Bool
  calm : Bool
  pn : List (Addr × Obj)
  xe : Value → Shared → Prop
def frs (l : List Env) : List Addr := l.filterMap (·.frame)
abbrev Cx.fs (X : Cx) : List Addr := frs X.outer
def Vis (sc : Scope) (x : Str) : Prop := sc.names.lookup x = some .local ∨ sc.names.lookup x = some .cell ∨ sc.names.lookup x = some .free
def Loc (sc : Scope) (x : Str) : Prop := sc.names.lookup x = some .local ∨ sc.names.lookup x = some .cell
def Look (env : Env) (h : Heap) (m : Str → Option Value) (x : Str) (u : Value) : Prop :=
  (env.kindOf x = some .local ∧ m x = some u) ∨ ((env.kindOf x = some .cell ∨ env.kindOf x = some .free) ∧ ∃ c, env.cells.lookup x = some c ∧ h.IsCell c (some u))
structure Cx.Ok (X : Cx) : Prop where
  mod : Mod X.K X.mg X.base
  kind : X.env.scope.kind = .function
  glob : X.env.globals = mainGlobals
  blt : X.env.builtins = builtinsNs
  above : X.s₀.heap.objs.size ≤ X.env.locals
  inj : ∀ x y c, X.env.cells.lookup x = some c → X.env.cells.lookup y = some c → x = y
  has : ∀ x, (X.env.kindOf x = some .cell ∨ X.env.kindOf x = some .free) → ∃ c, X.env.cells.lookup x = some c
  cab : ∀ x c, X.fn x = true → X.env.cells.lookup x = some c → X.s₀.heap.objs.size ≤ c
  hd : X.calm = true → X.A.handled = none
  frames : X.A.frames = some X.stack
  stk : X.stack = X.outer ∨ (X.stack = X.env :: X.outer ∧ X.env.frame = some X.env.locals)
  exf : ∀ b ∈ X.ex, b ≠ X.env.locals ∧ ∀ x c, X.env.cells.lookup x = some c → c ≠ b
  bs : ∀ b o, X.base.get? b = some o → X.s₀.heap.get? b = some o ∧ X.H₀ b = none
  bsz : X.base.objs.size ≤ X.s₀.heap.objs.size
  noex : ∀ b o, X.base.get? b = some o → b ∉ X.ex
  exfs : ∀ b ∈ X.ex, b ∉ X.fs
  funs : X.s₀.heap.FunFrames X.base X.outer
  frf : ∀ b ∈ X.fs, X.H₀ b = none
structure Inv (X : Cx) (pins : List (Addr × Obj)) (σ : List (Option V)) (H : Hp) (s : Shared) : Prop where
  ok : X.Ok
  os : s.os = X.s₀.os
  bare : AllBare s.gens
  base : Un X.fs X.ex X.H₀ H X.s₀.heap s.heap
  loc : ∃ m, s.heap.Ns X.env.locals m ∧ ∀ (i : Nat) (x : Str) (v : V), X.N[i]? = some x → σ[i]? = some (some v) → Vis X.env.scope x → ∃ u, RelV v u ∧ Look X.env s.heap m x u
  cell : ∀ x c, X.env.cells.lookup x = some c → ∃ v, s.heap.IsCell c v
  free : H X.env.locals = none
  freeC : ∀ x c, X.env.cells.lookup x = some c → H c = none
  pin : ∀ p ∈ X.pn ++ pins, s.heap.get? p.1 = some p.2 ∧ H p.1 = none ∧ p.1 ≠ X.env.locals ∧ p.1 ∉ X.fs ∧ ∀ v, p.2.data ≠ .cell v
  hok : HOk X.prog X.w H s.heap
  len : σ.length = X.N.length
section
variable {X : Cx} {pins : List (Addr × Obj)} {σ : List (Option V)} {H H' : Hp} {s : Shared} {h' : Heap}
theorem Cx.Ok.nofr (ok : X.Ok) {b : Addr} {o : Obj} (e : X.base.get? b = some o) : b ∉ X.fs := fun hb => by
  have := (ok.funs.mem hb).1
  rw [e] at this; cases this
theorem Inv.bs (I : Inv X pins σ H s) : ∀ b o, X.base.get? b = some o → s.heap.get? b = some o ∧ H b = none := fun b o e =>
  ⟨I.base.keep b o (I.ok.bs b o e).1 (I.ok.bs b o e).2 (I.ok.nofr e) (I.ok.noex b o e), I.base.free b o (I.ok.bs b o e).1 (I.ok.bs b o e).2 (I.ok.noex b o e)⟩
theorem Inv.bk (I : Inv X pins σ H s) : ∀ b o, X.base.get? b = some o → s.heap.get? b = some o := fun b o e => (I.bs b o e).1
theorem Inv.mod (I : Inv X pins σ H s) : Mod X.K X.mg X.base := I.ok.mod
theorem Inv.kIn (I : Inv X pins σ H s) : X.K.In s.heap := I.ok.mod.kin.keeps I.bk
theorem Inv.lt (I : Inv X pins σ H s) : X.env.locals < s.heap.objs.size := let ⟨_, hn, _⟩ := I.loc; hn.lt
theorem Inv.sz (I : Inv X pins σ H s) : X.s₀.heap.objs.size ≤ s.heap.objs.size := Nat.le_trans I.ok.above (Nat.le_of_lt I.lt)
theorem Inv.nofs (I : Inv X pins σ H s) {a : Addr} (h : s.heap.objs.size ≤ a) : a ∉ X.fs := fun hb => by
  obtain ⟨_, o, ho, _⟩ := I.ok.funs.mem hb
  exact absurd (Nat.lt_of_lt_of_le (Heap.lt_size ho) (Nat.le_trans I.sz h)) (Nat.lt_irrefl _)
theorem Inv.cne (I : Inv X pins σ H s) : ∀ x c, X.env.cells.lookup x = some c → c ≠ X.env.locals := fun x c e z => by
  obtain ⟨v, o, ho, hd⟩ := I.cell x c e
  obtain ⟨m, ⟨o', es, ep, ho', hd', _⟩, _⟩ := I.loc
  rw [z, ho'] at ho; cases ho; rw [hd'] at hd; cases hd
theorem Inv.funs (I : Inv X pins σ H s) : s.heap.FunFrames X.base X.outer := by
  have all : ∀ (l : List Env), (∀ b ∈ frs l, b ∈ X.fs) → X.s₀.heap.FunFrames X.base l → s.heap.FunFrames X.base l := by
    intro l
    induction l with
    | nil => intro _ _; trivial
    | cons env r ih =>
      intro hs hl
      obtain ⟨hk, ⟨L, o, hf, hn, ho, hd⟩, hr⟩ := hl
      have hL : L ∈ X.fs := hs L (by unfold frs; rw [List.filterMap_cons, hf]; exact List.mem_cons_self)
      obtain ⟨sl, e⟩ := I.base.slot L o ho (I.ok.frf L hL) hL fun z => I.ok.exfs L z hL
      exact ⟨hk, ⟨L, _, hf, hn, e, hd⟩, ih (fun b hb => hs b (by unfold frs; rw [List.filterMap_cons, hf]; exact List.mem_cons_of_mem _ hb)) hr⟩
  exact all X.outer (fun _ hb => hb) I.ok.funs
theorem Inv.stack (I : Inv X pins σ H s) : s.heap.FunFrames X.base X.stack := by
  rcases I.ok.stk with e | ⟨e, hf⟩
  · rw [e]; exact I.funs
  · rw [e]
    obtain ⟨m, hn, _⟩ := I.loc
    refine .cons (by rw [I.ok.kind]; decide) hf hn ?_ I.funs
    exact Heap.get?_none_of_le (Nat.le_trans I.ok.bsz I.ok.above)
theorem Inv.stkSub (I : Inv X pins σ H s) : ∀ b ∈ frs X.stack, b ∈ X.env.locals :: X.fs := fun b hb => by
  rcases I.ok.stk with e | ⟨e, hf⟩
  · rw [e] at hb; exact List.mem_cons_of_mem _ hb
  · rw [e] at hb
    unfold frs at hb
    rw [List.filterMap_cons, hf] at hb
    exact hb
theorem Inv.stkFree (I : Inv X pins σ H s) : ∀ b ∈ frs X.stack, H b = none := fun b hb => by
  rcases List.mem_cons.mp (I.stkSub b hb) with e | hb
  · rw [e]; exact I.free
  · obtain ⟨_, o, ho, _⟩ := I.ok.funs.mem hb
    exact I.base.free b o ho (I.ok.frf b hb) fun z => I.ok.exfs b z hb
theorem Inv.step {g' : Array GenState} {t' : Nat} {d' : Drawn} {ch : List Addr} (I : Inv X pins σ H s)
    (hch : ∀ b ∈ ch, (b ∈ X.ex ∨ X.s₀.heap.objs.size ≤ b) ∧ b ≠ X.env.locals ∧ (∀ x c, X.env.cells.lookup x = some c → c ≠ b) ∧ ∀ p ∈ X.pn ++ pins, p.1 ≠ b)
    (keep : ∀ b o, b ≠ X.env.locals → b ∉ X.fs → b ∉ ch → s.heap.get? b = some o → H b = none → h'.get? b = some o)
    (slot : ∀ b o, b ≠ X.env.locals → b ∈ X.fs → b ∉ ch → s.heap.get? b = some o → H b = none → ∃ sl, h'.get? b = some { o with slots := sl }) (free : ∀ b o, b ∉ ch → s.heap.get? b = some o → H b = none → H' b = none)
    (there : ∀ b o, b ∉ ch → s.heap.get? b = some o → ∃ o', h'.get? b = some o')
    (tups : ∀ b xs, H b = some (.tup xs) → H' b = some (.tup xs)) (frzs : ∀ b o u, H b = some (.frz o u) → H' b = some (.frz o u)) (tbls : ∀ b ps, H b = some (.tbl ps) → ∃ more, H' b = some (.tbl (ps ++ more)))
    (ns : ∀ m, s.heap.Ns X.env.locals m → h'.Ns X.env.locals m) (hok : HOk X.prog X.w H' h') (hg : AllBare g') :
    Inv X pins σ H' { s with heap := h', gens := g', drawn := d', toks := t' } := by
  have neL : ∀ b o, X.s₀.heap.get? b = some o → b ≠ X.env.locals := fun b o e => Nat.ne_of_lt (Nat.lt_of_lt_of_le (Heap.lt_size e) I.ok.above)
  have neC : ∀ b o, X.s₀.heap.get? b = some o → b ∉ X.ex → b ∉ ch := fun b o e hx hb => by
    rcases (hch b hb).1 with z | z
    · exact hx z
    · exact absurd (Nat.lt_of_lt_of_le (Heap.lt_size e) z) (Nat.lt_irrefl _)
  have cellK : ∀ x c, X.env.cells.lookup x = some c → ∀ v, s.heap.IsCell c v → h'.IsCell c v := fun x c e v ⟨o, ho, hd⟩ => by
    have nch : c ∉ ch := fun z => (hch c z).2.2.1 x c e rfl
    by_cases hc : c ∈ X.fs
    · obtain ⟨sl, q⟩ := slot c o (I.cne x c e) hc nch ho (I.freeC x c e)
      exact ⟨_, q, hd⟩
    · exact ⟨o, keep c o (I.cne x c e) hc nch ho (I.freeC x c e), hd⟩
  refine ⟨I.ok, I.os, hg, ⟨fun b o e n hb hx => ?_, fun b o e n hb hx => ?_, fun b o e n hx => ?_, fun b o e hx => ?_, fun b xs e => tups b xs (I.base.tups b xs e), fun b o xs e => frzs b o xs (I.base.frzs b o xs e), fun b ps e => ?_⟩, ?_, fun x c e => ?_, ?_, fun x c e => ?_, fun p hp => ?_, hok, I.len⟩
  · exact keep b o (neL b o e) hb (neC b o e hx) (I.base.keep b o e n hb hx) (I.base.free b o e n hx)
  · obtain ⟨sl, e1⟩ := I.base.slot b o e n hb hx
    obtain ⟨sl', e2⟩ := slot b _ (neL b o e) hb (neC b o e hx) e1 (I.base.free b o e n hx)
    exact ⟨sl', e2⟩
  · obtain ⟨o', e1⟩ := I.base.there b o e hx
    exact free b o' (neC b o e hx) e1 (I.base.free b o e n hx)
  · obtain ⟨o', e1⟩ := I.base.there b o e hx
    exact there b o' (neC b o e hx) e1
  · obtain ⟨m1, e1⟩ := I.base.tbls b ps e
    obtain ⟨m2, e2⟩ := tbls b _ e1
    exact ⟨m1 ++ m2, by rw [e2, Array.append_assoc]⟩
  · obtain ⟨m, hn, hl⟩ := I.loc
    refine ⟨m, ns m hn, fun i x v e1 e2 e3 => ?_⟩
    obtain ⟨u, r, l⟩ := hl i x v e1 e2 e3
    refine ⟨u, r, ?_⟩
    rcases l with l | ⟨k, c, e, z⟩
    · exact .inl l
    · exact .inr ⟨k, c, e, cellK x c e _ z⟩
  · obtain ⟨v, z⟩ := I.cell x c e
    exact ⟨v, cellK x c e v z⟩
  · obtain ⟨m, ⟨o, _, _, ho, _⟩, _⟩ := I.loc
    exact free _ o (fun z => (hch _ z).2.1 rfl) ho I.free
  · obtain ⟨v, o, ho, hd⟩ := I.cell x c e
    exact free c o (fun z => (hch c z).2.2.1 x c e rfl) ho (I.freeC x c e)
  · obtain ⟨e, n, ne, nf, d⟩ := I.pin p hp
    have nch : p.1 ∉ ch := fun z => (hch p.1 z).2.2.2 p hp rfl
    exact ⟨keep p.1 p.2 ne nf nch e n, free p.1 p.2 nch e n, ne, nf, d⟩
theorem Inv.un {t' : Nat} (I : Inv X pins σ H s) (u : Un X.fs [] H H' s.heap h') (hok : HOk X.prog X.w H' h') : Inv X pins σ H' { s with heap := h', toks := t' } := by
  obtain ⟨m, ⟨o, es, ep, ho, r⟩, _⟩ := id I.loc
  obtain ⟨sl, hL⟩ := u.any ho I.free (by simp)
  exact I.step (g' := s.gens) (d' := s.drawn) (ch := []) (fun _ z => nomatch z) (fun b o _ hb _ e n => u.keep b o e n hb (by simp)) (fun b o _ hb _ e n => u.slot b o e n hb (by simp)) (fun b o _ e n => u.free b o e n (by simp)) (fun b o _ e => u.there b o e (by simp)) u.tups u.frzs u.tbls (fun m' hm => by
    obtain ⟨o', es', ep', ho', r'⟩ := hm
    rw [ho] at ho'; cases ho'
    exact ⟨_, es', ep', hL, r'⟩) hok I.bare
theorem Inv.call {g' : Array GenState} {t' : Nat} {d' : Drawn} {ch : List Addr} (I : Inv X pins σ H s) (u : Un (frs X.stack) ch H H' s.heap h') (hok : HOk X.prog X.w H' h') (hg : AllBare g')
    (hch : ∀ b ∈ ch, (b ∈ X.ex ∨ X.s₀.heap.objs.size ≤ b) ∧ b ≠ X.env.locals ∧ (∀ x c, X.env.cells.lookup x = some c → c ≠ b) ∧ ∀ p ∈ X.pn ++ pins, p.1 ≠ b) :
    Inv X pins σ H' { s with heap := h', gens := g', drawn := d', toks := t' } := by
  obtain ⟨m, ⟨o, es, ep, ho, r⟩, _⟩ := id I.loc
  obtain ⟨sl, hL⟩ := u.any ho I.free fun z => (hch _ z).2.1 rfl
  exact I.step (ch := ch) hch (fun b o hL hb hc e n => u.keep b o e n (fun z => (List.mem_cons.mp (I.stkSub b z)).elim hL hb) hc) (fun b o _ _ hc e n => u.any e n hc) (fun b o hc e n => u.free b o e n hc) (fun b o hc e => u.there b o e hc) u.tups u.frzs u.tbls (fun m' hm => by
    obtain ⟨o', es', ep', ho', r'⟩ := hm
    rw [ho] at ho'; cases ho'
    exact ⟨_, es', ep', hL, r'⟩) hok hg
theorem Inv.turned {t' : Nat} {it : Addr} (I : Inv X pins σ H s) (k : ∀ b o, b ≠ it → s.heap.get? b = some o → h'.get? b = some o) (hn : H it = none) (hL : it ≠ X.env.locals)
    (h1 : it ∈ X.ex ∨ X.s₀.heap.objs.size ≤ it) (h2 : ∀ x c, X.env.cells.lookup x = some c → c ≠ it) (h3 : ∀ p ∈ X.pn ++ pins, p.1 ≠ it) : Inv X pins σ H { s with heap := h', toks := t' } := by
  have nit : ∀ b u, H b = some u → b ≠ it := fun b u e z => by rw [z, hn] at e; cases e
  refine I.step (g' := s.gens) (d' := s.drawn) (ch := [it]) (fun b hb => ?_) (fun b o _ _ hc e _ => k b o (fun z => hc (by simp [z])) e) (fun b o _ _ hc e _ => ⟨o.slots, k b o (fun z => hc (by simp [z])) e⟩) (fun _ _ _ _ n => n)
    (fun b o hc e => ⟨o, k b o (fun z => hc (by simp [z])) e⟩) (fun _ _ e => e) (fun _ _ _ e => e) (fun b ps e => ⟨#[], by rw [e]; simp⟩) (fun m hm => ?_) (fun b u e => ?_) I.bare
  · have e : b = it := by simpa using hb
    subst e
    exact ⟨h1, hL, h2, h3⟩
  · obtain ⟨o, es, ep, ho, r⟩ := hm
    exact ⟨o, es, ep, k _ o (Ne.symm hL) ho, r⟩
  · refine (I.hok b u e).stay (fun c v hc q => k c v ?_ q) (fun _ q => q) fun _ _ q => q
    rcases hc with z | z
    · rw [z]; exact nit b u e
    · exact nit c _ z
theorem Inv.tok (I : Inv X pins σ H s) (t : Nat) : Inv X pins σ H { s with toks := t } := I.un (h' := s.heap) (t' := t) Un.refl I.hok
theorem Inv.kept {t' : Nat} (I : Inv X pins σ H s) (k : ∀ b u, s.heap.get? b = some u → h'.get? b = some u) : Inv X pins σ H { s with heap := h', toks := t' } := I.un (Un.kept k) (I.hok.kept k)
theorem Inv.laid {a : Addr} {o : HO} {t' : Nat} (I : Inv X pins σ H s) (k : ∀ b u, s.heap.get? b = some u → h'.get? b = some u) (hp : s.heap.objs.size ≤ a) (new : ObjOk X.prog X.w (upd H a o) h' a o) :
    Inv X pins σ (upd H a o) { s with heap := h', toks := t' } := I.un (Un.laid k hp (I.hok.fresh hp)) (I.hok.laid k hp new)
theorem Inv.write {x e : Addr} {o : HO} {t' : Nat} (I : Inv X pins σ H s) (mu : Mut (H x)) (he : e = x ∨ H e = some (.own x)) (k : ∀ b u, b ≠ e → s.heap.get? b = some u → h'.get? b = some u) (heo : ∃ u, h'.get? e = some u)
    (new : ObjOk X.prog X.w (upd H x o) h' x o) : Inv X pins σ (upd H x o) { s with heap := h', toks := t' } := I.un (Un.write mu he k heo) (I.hok.write mu he k heo new)
theorem Inv.pins_of {pins' : List (Addr × Obj)} (I : Inv X pins σ H s) (h : ∀ p ∈ pins', s.heap.get? p.1 = some p.2 ∧ H p.1 = none ∧ p.1 ≠ X.env.locals ∧ p.1 ∉ X.fs ∧ ∀ v, p.2.data ≠ .cell v) : Inv X pins' σ H s :=
  ⟨I.ok, I.os, I.bare, I.base, I.loc, I.cell, I.free, I.freeC, fun p hp => (List.mem_append.mp hp).elim (fun z => I.pin p (List.mem_append_left _ z)) (h p), I.hok, I.len⟩
theorem nodup_ix {N : List Str} (hN : N.Nodup) {i j : Nat} {x : Str} (a : N[i]? = some x) (b : N[j]? = some x) : i = j := by
  obtain ⟨h1, e1⟩ := List.getElem?_eq_some_iff.mp a
  obtain ⟨h2, e2⟩ := List.getElem?_eq_some_iff.mp b
  exact (List.getElem_inj hN).mp (e1.trans e2.symm)
theorem store_ok2 {M : Model} {A : Around} {E : Value → Shared → Prop} {i : Nat} {x : Str} {v : V} {u : Value} {Q : Unit → Shared → Prop} (I : Inv X pins σ H s) (hN : X.N.Nodup) (hi : X.N[i]? = some x) (hx : Loc X.env.scope x) (r : RelV v u)
    (h : ∀ s', Inv X pins (σ.set i (some v)) H s' → (∃ a, Heap.SameBut a s.heap s'.heap ∧ (a = X.env.locals ∨ X.env.cells.lookup x = some a)) → Q () s') (hf : X.fn x = true ∨ X.env.scope.names.lookup x = some .local := by first | exact .inl rfl | exact .inr rfl | assumption) : wpAny M A (storeName X.env x u) Q E s := by
  obtain ⟨m, hn, hl⟩ := id I.loc
  have hcls : (X.env.scope.kind == .class || (X.env.scope.kind == .module && X.env.locals != X.env.globals)) = false := by rw [I.ok.kind]; rfl
  have hiσ : i < σ.length := by rw [I.len]; exact (List.getElem?_eq_some_iff.mp hi).1
  have cne := I.cne
  have tracked : ∀ {a : Addr} {h' : Heap}, (∃ o, s.heap.get? a = some o ∧ H a = none) → Heap.SameBut a s.heap h' → HOk X.prog X.w H h' := fun {a h'} ha hs b ob e => by
    obtain ⟨_, _, hfree⟩ := ha
    refine (I.hok b ob e).stay (fun c w' hc q => (hs.2 c ?_).trans q) (fun _ q => q) fun _ _ q => q
    rintro rfl
    rcases hc with rfl | hc
    · rw [hfree] at e; cases e
    · rw [hfree] at hc; cases hc
  rcases hx with hk | hk
  · refine wpAny_storeName_local hk hn (fun h' hn' hs => ?_) hcls
    obtain ⟨oL, _, _, hoL, _⟩ := id hn
    refine h _ ⟨I.ok, I.os, I.bare, ⟨fun b o e n hb hx => ?_, fun b o e n hb hx => ?_, I.base.free, fun b o e hx => ?_, I.base.tups, I.base.frzs, I.base.tbls⟩, ⟨_, hn', fun j y v' e1 e2 e3 => ?_⟩, fun y c e => ?_, I.free, I.freeC, fun p hp => ?_, tracked ⟨oL, hoL, I.free⟩ hs, by simpa using I.len⟩ ⟨_, hs, .inl rfl⟩
    · exact (hs.2 b (Nat.ne_of_lt (Nat.lt_of_lt_of_le (Heap.lt_size e) I.ok.above))).trans (I.base.keep b o e n hb hx)
    · obtain ⟨sl, e1⟩ := I.base.slot b o e n hb hx
      exact ⟨sl, (hs.2 b (Nat.ne_of_lt (Nat.lt_of_lt_of_le (Heap.lt_size e) I.ok.above))).trans e1⟩
    · obtain ⟨o', e1⟩ := I.base.there b o e hx
      exact ⟨o', (hs.2 b (Nat.ne_of_lt (Nat.lt_of_lt_of_le (Heap.lt_size e) I.ok.above))).trans e1⟩
    · by_cases hj : j = i
      · subst hj
        rw [hi] at e1; cases e1
        rw [List.getElem?_set_self hiσ] at e2
        cases e2
        exact ⟨u, r, .inl ⟨hk, by simp⟩⟩
      · rw [List.getElem?_set_ne (Ne.symm hj)] at e2
        obtain ⟨u', r', q⟩ := hl j y v' e1 e2 e3
        refine ⟨u', r', ?_⟩
        rcases q with ⟨k, e⟩ | ⟨k, c, e, z⟩
        · refine .inl ⟨k, ?_⟩
          have : y ≠ x := fun e => hj (nodup_ix hN e1 (e ▸ hi))
          simp [this, e]
        · exact .inr ⟨k, c, e, z.sameBut hs (cne y c e)⟩
    · obtain ⟨w', z⟩ := I.cell y c e
      exact ⟨w', z.sameBut hs (cne y c e)⟩
    · obtain ⟨e, n, ne, nf, d⟩ := I.pin p hp
      exact ⟨(hs.2 p.1 ne).trans e, n, ne, nf, d⟩
  · have hfn : X.fn x = true := by
      rcases hf with z | z
      · exact z
      · rw [z] at hk; cases hk
    obtain ⟨c, hc⟩ := I.ok.has x (.inl hk)
    obtain ⟨w', z⟩ := I.cell x c hc
    refine wpAny_storeName_cell I.ok.kind hk hc z (fun h' hc' hs => ?_)
    obtain ⟨oc, hoc, hocd⟩ := id z
    refine h { s with heap := h' } ⟨I.ok, I.os, I.bare, ⟨fun b o e n hb hx => ?_, fun b o e n hb hx => ?_, I.base.free, fun b o e hx => ?_, I.base.tups, I.base.frzs, I.base.tbls⟩, ⟨m, hn.sameBut hs (Ne.symm (cne x c hc)), fun j y v' e1 e2 e3 => ?_⟩, fun y c' e => ?_, I.free, I.freeC, fun p hp => ?_, tracked ⟨oc, hoc, I.freeC x c hc⟩ hs, by simpa using I.len⟩ ⟨c, hs, .inr hc⟩
    · exact (hs.2 b (Nat.ne_of_lt (Nat.lt_of_lt_of_le (Heap.lt_size e) (I.ok.cab x c hfn hc)))).trans (I.base.keep b o e n hb hx)
    · obtain ⟨sl, e1⟩ := I.base.slot b o e n hb hx
      exact ⟨sl, (hs.2 b (Nat.ne_of_lt (Nat.lt_of_lt_of_le (Heap.lt_size e) (I.ok.cab x c hfn hc)))).trans e1⟩
    · obtain ⟨o', e1⟩ := I.base.there b o e hx
      exact ⟨o', (hs.2 b (Nat.ne_of_lt (Nat.lt_of_lt_of_le (Heap.lt_size e) (I.ok.cab x c hfn hc)))).trans e1⟩
    · by_cases hj : j = i
      · subst hj
        rw [hi] at e1; cases e1
        rw [List.getElem?_set_self hiσ] at e2
        cases e2
        exact ⟨u, r, .inr ⟨.inl hk, c, hc, hc'⟩⟩
      · rw [List.getElem?_set_ne (Ne.symm hj)] at e2
        obtain ⟨u', r', q⟩ := hl j y v' e1 e2 e3
        refine ⟨u', r', ?_⟩
        rcases q with q | ⟨k, c', e, z'⟩
        · exact .inl q
        · refine .inr ⟨k, c', e, z'.sameBut hs ?_⟩
          rintro rfl
          exact hj (nodup_ix hN e1 (I.ok.inj _ _ _ e hc ▸ hi))
    · by_cases hcc : c' = c
      · subst hcc; exact ⟨_, hc'⟩
      · obtain ⟨w2, z2⟩ := I.cell y c' e
        exact ⟨w2, z2.sameBut hs hcc⟩
    · obtain ⟨e, n, ne, nf, d⟩ := I.pin p hp
      refine ⟨(hs.2 p.1 ?_).trans e, n, ne, nf, d⟩
      intro q
      rw [q, hoc] at e
      have q' : oc = p.2 := Option.some.inj e
      exact d w' (by rw [← q']; exact hocd)
theorem store_ok {M : Model} {A : Around} {E : Value → Shared → Prop} {i : Nat} {x : Str} {v : V} {u : Value} {Q : Unit → Shared → Prop} (I : Inv X pins σ H s) (hN : X.N.Nodup) (hi : X.N[i]? = some x) (hx : Loc X.env.scope x) (r : RelV v u)
    (h : ∀ s', Inv X pins (σ.set i (some v)) H s' → Q () s') (hf : X.fn x = true ∨ X.env.scope.names.lookup x = some .local := by first | exact .inl rfl | exact .inr rfl | assumption) : wpAny M A (storeName X.env x u) Q E s :=
  store_ok2 I hN hi hx r (fun s' I' _ => h s' I') hf
theorem Inv.call' {s' : Shared} {ch : List Addr} (I : Inv X pins σ H s) (ho : s'.os = s.os) (u : Un (frs X.stack) ch H H' s.heap s'.heap) (hok : HOk X.prog X.w H' s'.heap) (hg : AllBare s'.gens)
    (hch : ∀ b ∈ ch, (b ∈ X.ex ∨ X.s₀.heap.objs.size ≤ b) ∧ b ≠ X.env.locals ∧ (∀ x c, X.env.cells.lookup x = some c → c ≠ b) ∧ ∀ p ∈ X.pn ++ pins, p.1 ≠ b) : Inv X pins σ H' s' := by
  obtain ⟨h', g', d', t', o'⟩ := s'
  have e : o' = s.os := ho
  subst e
  exact I.call (g' := g') (t' := t') (d' := d') u hok hg hch
end
abbrev XK := Value → Option Addr → Hp → Prop
abbrev St := List (Option V)
abbrev VK := V → Hp → Prop
abbrev TE := St → Hp → VK → Prop
abbrev TT := St → Hp → (Bool → Hp → Prop) → Prop
abbrev TA := St → Hp → (List V → Hp → Prop) → Prop
structure Ends where
  nx : St → Hp → Prop
  rt : VK
  bk : St → Hp → Prop := fun _ _ => False
  ct : St → Hp → Prop := fun _ _ => False
abbrev TS := Ends → St → Hp → Prop
def EP (X : Cx) (pins : List (Addr × Obj)) (σ : St) (Q : VK) (u : Value) (s' : Shared) : Prop := ∃ v H', Inv X pins σ H' s' ∧ RelV v u ∧ Q v H'
def TP (X : Cx) (pins : List (Addr × Obj)) (σ : St) (Q : Bool → Hp → Prop) (b : Bool) (s' : Shared) : Prop := ∃ H', Inv X pins σ H' s' ∧ Q b H'
def AP (X : Cx) (pins : List (Addr × Obj)) (σ : St) (Q : List V → Hp → Prop) (us : List Value) (s' : Shared) : Prop := ∃ vs H', Inv X pins σ H' s' ∧ Vals vs us ∧ Q vs H'
def SP (X : Cx) (pins : List (Addr × Obj)) (D : Ends) (f : Flow) (s' : Shared) : Prop :=
  match f with
  | .next => ∃ σ' H', Inv X pins σ' H' s' ∧ D.nx σ' H'
  | .brk => ∃ σ' H', Inv X pins σ' H' s' ∧ D.bk σ' H'
  | .cont => ∃ σ' H', Inv X pins σ' H' s' ∧ D.ct σ' H'
  | .ret u => ∃ v σ' H', Inv X pins σ' H' s' ∧ RelV v u ∧ D.rt v H'
def PE (X : Cx) (e : Expr) (t : TE) : Prop :=
  ∀ (pins : List (Addr × Obj)) (s : Shared) (σ : St) (H : Hp) (Q : VK), Inv X pins σ H s → t σ H Q → wpAny (model X.prog X.w) X.A (eval e X.env) (EP X pins σ Q) X.xe s
def PT (X : Cx) (e : Expr) (t : TT) : Prop :=
  ∀ (pins : List (Addr × Obj)) (s : Shared) (σ : St) (H : Hp) (Q : Bool → Hp → Prop), Inv X pins σ H s → t σ H Q → wpAny (model X.prog X.w) X.A (isTrue e X.env (eval e X.env)) (TP X pins σ Q) X.xe s
def PW (X : Cx) (e : Expr) (t : TT) : Prop :=
  ∀ (whole : Sem Value) (pins : List (Addr × Obj)) (s : Shared) (σ : St) (H : Hp) (Q : Bool → Hp → Prop), Inv X pins σ H s → t σ H Q → wpAny (model X.prog X.w) X.A (isTrue e X.env whole) (TP X pins σ Q) X.xe s
theorem PW.pt {X : Cx} {e : Expr} {t : TT} (h : PW X e t) : PT X e t := h _
def PA (X : Cx) (es : List Expr) (t : TA) : Prop :=
  ∀ (pos : Pos) (pins : List (Addr × Obj)) (s : Shared) (σ : St) (H : Hp) (Q : List V → Hp → Prop), Inv X pins σ H s → t σ H Q → wpAny (model X.prog X.w) X.A (spliced (backTo pos (starEach es X.env))) (AP X pins σ Q) X.xe s
def PS (X : Cx) (st : Stmt) (t : TS) : Prop :=
  ∀ (pins : List (Addr × Obj)) (s : Shared) (σ : St) (H : Hp) (D : Ends), Inv X pins σ H s → t D σ H → wpAny (model X.prog X.w) X.A (exec st X.env) (SP X pins D) X.xe s
def PSs (X : Cx) (st : List Stmt) (t : TS) : Prop :=
  ∀ (pins : List (Addr × Obj)) (s : Shared) (σ : St) (H : Hp) (D : Ends), Inv X pins σ H s → t D σ H → wpAny (model X.prog X.w) X.A (execs st X.env) (SP X pins D) X.xe s
theorem thn {α : Type} {t : Sem α} {Q Q' : α → Shared → Prop} {M : Model} {A : Around} {E : Value → Shared → Prop} {s : Shared} (h : wpAny M A t Q E s) (hQ : ∀ a s, Q a s → Q' a s) : wpAny M A t Q' E s := wpAny_mono h hQ fun _ _ x => x
end L2
namespace L2
open PySem PySem.Spec PyProof.Rows
section
variable {X : Cx}
def tVar (i : Nat) : TE := fun σ H Q => ∃ v, σ[i]? = some (some v) ∧ Q v H
def tC (v : V) : TE := fun _ H Q => Q v H
theorem pe_var {i : Nat} {x : Str} {pos : Pos} (hN : X.N[i]? = some x) (hv : Vis X.env.scope x) (hd : (x == ("__debug__" : Str)) = false := by decide) (hcd : (x == ("__classdict__" : Str)) = false := by decide) : PE X (.Name x pos) (tVar i) := by
  intro pins s σ H Q I h
  obtain ⟨v, e, h⟩ := h
  obtain ⟨m, hn, hl⟩ := I.loc
  obtain ⟨u, r, l⟩ := hl i x v hN e hv
  have fin : EP X pins σ Q u s := ⟨v, H, I, r, h⟩
  rcases l with ⟨hk, hm⟩ | ⟨hk, c, hc, hcell⟩
  · exact wpAny_Name (wpAny_loadName_local I.ok.kind hk hn hm fin) hd
  · rcases hk with hk | hk
    · exact wpAny_Name (wpAny_loadName_cell I.ok.kind hk hc hcell fin) hd
    · exact wpAny_Name (wpAny_loadName_free I.ok.kind hk hc hcell fin hcd) hd
theorem pe_int {i j pos} : PE X (.Constant (.int i) j pos) (tC (.int i)) := fun _ _ _ H _ I h => wpAny_Constant_int ⟨.int i, H, I.tok _, ⟨_, rfl⟩, h⟩
theorem pe_bl {b j pos} : PE X (.Constant (.bool b) j pos) (tC (.bl b)) := fun _ _ _ H _ I h => Constant_bool ⟨.bl b, H, I, rfl, h⟩
theorem pe_non {j pos} : PE X (.Constant .none j pos) (tC .non) := fun _ _ _ H _ I h => Constant_none ⟨.non, H, I, rfl, h⟩
theorem pe_str {x j pos} : PE X (.Constant (.str x) j pos) (tC (.str x)) := fun _ _ _ H _ I h => Calls.Constant_str ⟨.str x, H, I.tok _, ⟨_, rfl⟩, h⟩
def Gl (X : Cx) (x : Str) : Prop := X.env.kindOf x = some .globalImplicit
theorem ld_glob {E : Value → Shared → Prop} {pins : List (Addr × Obj)} {s : Shared} {σ : St} {H : Hp} {x : Str} {u : Value} {pos : Pos} {Q : Value → Shared → Prop} (I : Inv X pins σ H s) (hg : Gl X x) (hm : X.mg x = some u) (h : Q u s)
    (hd : (x == ("__debug__" : Str)) = false := by decide) : wpAny (model X.prog X.w) X.A (eval (.Name x pos) X.env) Q E s :=
  Calls.Name_function_global I.ok.kind hg (Calls.loadGlobal_global (by rw [I.ok.glob]; exact I.mod.glob.keeps I.bk) hm h) hd
theorem ld_blt {E : Value → Shared → Prop} {pins : List (Addr × Obj)} {s : Shared} {σ : St} {H : Hp} {x : Str} {u : Value} {pos : Pos} {Q : Value → Shared → Prop} (I : Inv X pins σ H s) (hg : Gl X x) (hm : X.mg x = none) (hv : bootBuiltins x = some u) (h : Q u s)
    (hn : x ≠ "__name__" := by decide) (hd : (x == ("__debug__" : Str)) = false := by decide) : wpAny (model X.prog X.w) X.A (eval (.Name x pos) X.env) Q E s := by
  obtain ⟨mb, h1, h2⟩ := I.mod.blt
  exact Calls.Name_function_global I.ok.kind hg (Calls.loadGlobal_builtin (by rw [I.ok.glob]; exact I.mod.glob.keeps I.bk) hm (by rw [I.ok.blt]; exact h1.keeps I.bk) ((h2 x hn).trans hv) h) hd
theorem pe_glob {x : Str} {v : V} {u : Value} {pos : Pos} (hg : Gl X x) (hm : X.mg x = some u) (r : RelV v u) (hd : (x == ("__debug__" : Str)) = false := by decide) : PE X (.Name x pos) (tC v) :=
  fun _ _ _ H _ I h => ld_glob I hg hm ⟨v, H, I, r, h⟩ hd
theorem pe_bltn {x : Str} {v : V} {u : Value} {pos : Pos} (hg : Gl X x) (hm : X.mg x = none) (hv : bootBuiltins x = some u) (r : RelV v u) (hn : x ≠ "__name__" := by decide) (hd : (x == ("__debug__" : Str)) = false := by decide) : PE X (.Name x pos) (tC v) :=
  fun _ _ _ H _ I h => ld_blt I hg hm hv ⟨v, H, I, r, h⟩ hn hd
variable {a b : Expr} {ta tb : TE} {pos : Pos}
def tB (t : TE) : TT := fun σ H Q => t σ H fun x H1 => ∃ c, x = .bl c ∧ Q c H1
theorem pt_val {e : Expr} {t : TE} (h : PE X e t) (he : ∀ whole, isTrue e X.env whole = (do let v ← whole; standAt e.pos; holding [v] (truthy v)) := by intro _; rfl) : PT X e (tB t) := by
  intro pins s σ H Q I hw
  refine isTrue_plain (thn (h pins s σ H _ I hw) fun v s1 ⟨x, H1, I1, r1, q1⟩ => ?_) (he _)
  obtain ⟨d, rfl, q⟩ := q1
  cases r1
  exact wpAny_truthy_bool ⟨H1, I1, q⟩
variable {tA tB' : TT} {rest : List Expr}
def tAnd (t u : TT) : TT := fun σ H Q => t σ H fun c H1 => if c = true then u σ H1 Q else Q false H1
def tOr (t u : TT) : TT := fun σ H Q => t σ H fun c H1 => if c = true then Q true H1 else u σ H1 Q
def tNot (t : TT) : TT := fun σ H Q => t σ H fun c H1 => Q (!c) H1
theorem pw_and1 (ha : PT X a tA) : PW X (.BoolOp .And [a] pos) tA := by
  intro wh pins s σ H Q I h
  refine isTrue_and (thn (ha pins s σ H Q I h) fun c s1 e => ?_)
  cases c with
  | true => exact isTrue_and_nil e
  | false => exact e
theorem pw_or1 (ha : PT X a tA) : PW X (.BoolOp .Or [a] pos) tA := by
  intro wh pins s σ H Q I h
  refine isTrue_or (thn (ha pins s σ H Q I h) fun c s1 e => ?_)
  cases c with
  | false => exact isTrue_or_nil e
  | true => exact e
theorem pw_and (ha : PT X a tA) (hb : PW X (.BoolOp .And (b :: rest) pos) tB') : PW X (.BoolOp .And (a :: b :: rest) pos) (tAnd tA tB') := by
  intro wh pins s σ H Q I h
  refine isTrue_and (thn (ha pins s σ H _ I h) fun c s1 ⟨H1, I1, q1⟩ => ?_)
  cases c with
  | true => exact hb wh pins s1 σ H1 Q I1 q1
  | false => exact ⟨H1, I1, q1⟩
theorem pw_or (ha : PT X a tA) (hb : PW X (.BoolOp .Or (b :: rest) pos) tB') : PW X (.BoolOp .Or (a :: b :: rest) pos) (tOr tA tB') := by
  intro wh pins s σ H Q I h
  refine isTrue_or (thn (ha pins s σ H _ I h) fun c s1 ⟨H1, I1, q1⟩ => ?_)
  cases c with
  | true => exact ⟨H1, I1, q1⟩
  | false => exact hb wh pins s1 σ H1 Q I1 q1
theorem pt_not (ha : PT X a tA) : PT X (.UnaryOp .Not a pos) (tNot tA) := by
  intro pins s σ H Q I h
  exact isTrue_not (ha pins s σ H (fun c H1 => Q (!c) H1) I h)
def tAndV (ta tb : TE) : TE := fun σ H Q => ta σ H fun x H1 => ∃ c, x = .bl c ∧ if c = true then tb σ H1 Q else Q (.bl false) H1
theorem pe_one {op} {t : TE} (h : PE X a t) : PE X (.BoolOp op [a] pos) t := fun pins s σ H Q I hw => BoolOp_one (h pins s σ H Q I hw)
theorem pe_and (ha : PE X a ta) (hb : PE X (.BoolOp .And (b :: rest) pos) tb) : PE X (.BoolOp .And (a :: b :: rest) pos) (tAndV ta tb) := by
  intro pins s σ H Q I h
  refine BoolOp_and (thn (ha pins s σ H _ I h) fun v s1 ⟨x, H1, I1, r1, q1⟩ => ?_)
  obtain ⟨c, rfl, q1⟩ := q1
  cases r1
  refine wpAny_truthy_bool ?_
  cases c with
  | true => exact hb pins s1 σ H1 Q I1 q1
  | false => exact ⟨.bl false, H1, I1, rfl, q1⟩
end
end L2
namespace L2
open PySem PySem.Spec PyProof.Rows
def SqL (K : PySem.W.Frag) (H : Hp) (a : Addr) (xs : List V) : Prop :=
  Rd H a (.lst xs) ∨
    ∃ (o : Obj) (its : Array Value) (n : Nat), K.lookup a = some o ∧ o.cls = .type "list" ∧ o.dict = none ∧ o.data = .seq its n ∧ its.size ≤ sizeLine ∧ Vals xs its.toList
def SqT (K : PySem.W.Frag) (H : Hp) (a : Addr) (xs : List V) : Prop :=
  Rd H a (.tup xs) ∨
    ∃ (o : Obj) (its : Array Value) (n : Nat), K.lookup a = some o ∧ o.cls = .type "tuple" ∧ o.data = .seq its n ∧ its.size ≤ sizeLine ∧ Vals xs its.toList
def absV : Value → Option V
  | .none => some .non
  | .bool b => some (.bl b)
  | .int i _ => some (.int i)
  | .str x _ => some (.str x)
  | .bytes b _ => some (.byt b)
  | .float b _ => some (.flt b)
  | .ref a => some (.ref a)
  | .type n => some (.ty n)
  | _ => none
theorem RelV.abs {x : V} {u : Value} (r : RelV x u) : absV u = some x := by
  cases x with
  | non => cases r; rfl
  | bl _ => cases r; rfl
  | int _ => obtain ⟨t, rfl⟩ := r; rfl
  | str _ => obtain ⟨t, rfl⟩ := r; rfl
  | byt _ => obtain ⟨t, rfl⟩ := r; rfl
  | flt _ => obtain ⟨t, rfl⟩ := r; rfl
  | ref _ => cases r; rfl
  | ty _ => cases r; rfl
theorem RelV.inj {x y : V} {u : Value} (r : RelV x u) (q : RelV y u) : x = y := Option.some.inj (r.abs.symm.trans q.abs)
theorem Vals.inj : ∀ {xs ys : List V} {us : List Value}, Vals xs us → Vals ys us → xs = ys
  | _, _, _, .nil, .nil => rfl
  | _, _, _, .cons r t, .cons r' t' => by rw [r.inj r', Vals.inj t t']
section
variable {X : Cx} {pins : List (Addr × Obj)} {σ : St} {H : Hp} {s : Shared} {a : Addr} {xs ys : List V}
theorem SqL.of {K : PySem.W.Frag} (h : H a = some (.lst xs)) : SqL K H a xs := .inl (.inl h)
theorem SqT.of {K : PySem.W.Frag} (h : H a = some (.tup xs)) : SqT K H a xs := .inl (.inl h)
theorem Inv.list (I : Inv X pins σ H s) (h : SqL X.K H a xs) : ∃ its : List Value, Vals xs its ∧ PlainL s.heap a its.toArray ∧ xs.length ≤ sizeLine := by
  rcases h with h | ⟨o, its, n, hk, hc, hd, hs, hz, r⟩
  · obtain ⟨z, its, n, r, e⟩ := h.ok I.hok
    exact ⟨its, r, ⟨_, n, e, rfl, rfl, rfl⟩, z⟩
  · refine ⟨its.toList, r, ⟨o, n, I.kIn a o hk, hc, hd, by simpa using hs⟩, ?_⟩
    have e := r.length
    simp only [Array.length_toList] at e
    omega
theorem Inv.tuple (I : Inv X pins σ H s) (h : SqT X.K H a xs) : ∃ its : List Value, Vals xs its ∧ IsTup s.heap a its.toArray ∧ xs.length ≤ sizeLine := by
  rcases h with h | ⟨o, its, n, hk, hc, hs, hz, r⟩
  · obtain ⟨z, its, r, p⟩ := h.ok I.hok
    exact ⟨its, r, p, z⟩
  · refine ⟨its.toList, r, ⟨o, I.kIn a o hk, hc, n, by simpa using hs⟩, ?_⟩
    have e := r.length
    simp only [Array.length_toList] at e
    omega
theorem Inv.list_inj (I : Inv X pins σ H s) (h : SqL X.K H a xs) (h' : SqL X.K H a ys) : xs = ys := by
  obtain ⟨its, r, ⟨o, n, e, _, _, d⟩, _⟩ := I.list h
  obtain ⟨its', r', ⟨o', n', e', _, _, d'⟩, _⟩ := I.list h'
  rw [e] at e'; cases e'
  rw [d] at d'
  injection d' with d1 _
  have : its = its' := by simpa using congrArg Array.toList d1
  subst this
  exact r.inj r'
theorem Inv.tuple_inj (I : Inv X pins σ H s) (h : SqT X.K H a xs) (h' : SqT X.K H a ys) : xs = ys := by
  obtain ⟨its, r, ⟨o, e, _, n, d⟩, _⟩ := I.tuple h
  obtain ⟨its', r', ⟨o', e', _, n', d'⟩, _⟩ := I.tuple h'
  rw [e] at e'; cases e'
  rw [d] at d'
  injection d' with d1 _
  have : its = its' := by simpa using congrArg Array.toList d1
  subst this
  exact r.inj r'
end
abbrev Cx.wish (X : Cx) (E : Value → Shared → Prop) : Cx := { X with xe := E }
abbrev Cx.nox (X : Cx) : Cx := X.wish fun _ _ => False
theorem Cx.Ok.wish {X : Cx} (ok : X.Ok) (E : Value → Shared → Prop) : (X.wish E).Ok :=
  ⟨ok.mod, ok.kind, ok.glob, ok.blt, ok.above, ok.inj, ok.has, ok.cab, ok.hd, ok.frames, ok.stk, ok.exf, ok.bs, ok.bsz, ok.noex, ok.exfs, ok.funs, ok.frf⟩
theorem Cx.Ok.unwish {X : Cx} {E : Value → Shared → Prop} (ok : (X.wish E).Ok) : X.Ok :=
  ⟨ok.mod, ok.kind, ok.glob, ok.blt, ok.above, ok.inj, ok.has, ok.cab, ok.hd, ok.frames, ok.stk, ok.exf, ok.bs, ok.bsz, ok.noex, ok.exfs, ok.funs, ok.frf⟩
section
variable {X : Cx} {pins : List (Addr × Obj)} {σ : St} {H : Hp} {s : Shared} {E : Value → Shared → Prop}
theorem Inv.wish (I : Inv X pins σ H s) (E : Value → Shared → Prop) : Inv (X.wish E) pins σ H s := ⟨I.ok.wish E, I.os, I.bare, I.base, I.loc, I.cell, I.free, I.freeC, I.pin, I.hok, I.len⟩
theorem Inv.unwish (I : Inv (X.wish E) pins σ H s) : Inv X pins σ H s := ⟨I.ok.unwish, I.os, I.bare, I.base, I.loc, I.cell, I.free, I.freeC, I.pin, I.hok, I.len⟩
theorem SP.unwish {D : Ends} {f : Flow} {s' : Shared} (h : SP (X.wish E) pins D f s') : SP X pins D f s' := by
  cases f with
  | next => obtain ⟨σ', H', I, q⟩ := h; exact ⟨σ', H', I.unwish, q⟩
  | brk => obtain ⟨σ', H', I, q⟩ := h; exact ⟨σ', H', I.unwish, q⟩
  | cont => obtain ⟨σ', H', I, q⟩ := h; exact ⟨σ', H', I.unwish, q⟩
  | ret u => obtain ⟨v, σ', H', I, r, q⟩ := h; exact ⟨v, σ', H', I.unwish, r, q⟩
theorem PSs.nox {st : List Stmt} {t : TS} (h : PSs X.nox st t) : PSs X st t := fun pins s σ H D I hw =>
  wpAny_mono (h pins s σ H D (I.wish _) hw) (fun _ _ q => q.unwish) fun _ _ z => False.elim z
end
section
variable {X : Cx} {st : Stmt} {rest : List Stmt} {t u : TS} {e : Expr} {te : TE} {pos : Pos}
def tNext : TS := fun D σ H => D.nx σ H
def tSeq (t u : TS) : TS := fun D σ H => t { D with nx := u D } σ H
theorem pss_nil : PSs X [] tNext := fun _ _ σ H _ I h => wpAny_execs_nil ⟨σ, H, I, h⟩
theorem pss_cons (h1 : PS X st t) (h2 : PSs X rest u) : PSs X (st :: rest) (tSeq t u) := by
  intro pins s σ H D I h
  refine wpAny_execs_cons (thn (h1 pins s σ H { D with nx := u D } I h) fun f s1 q => ?_)
  cases f with
  | next =>
    obtain ⟨σ', H', I', q⟩ := q
    exact h2 pins s1 σ' H' D I' q
  | ret v => exact q
  | brk => exact q
  | cont => exact q
theorem pss_one (h1 : PS X st t) : PSs X [st] t := by
  intro pins s σ H D I h
  refine wpAny_execs_cons (thn (h1 pins s σ H D I h) fun f s1 q => ?_)
  cases f with
  | next => exact wpAny_execs_nil q
  | ret v => exact q
  | brk => exact q
  | cont => exact q
theorem Inv.quiet {pins : List (Addr × Obj)} {σ : St} {H : Hp} {s : Shared} (I : Inv X pins σ H s) : interactive X.env = false := by simp [interactive, I.ok.kind]
def tDrop (te : TE) : TS := fun D σ H => te σ H fun _ H1 => D.nx σ H1
theorem ps_expr (he : PE X e te) (hs : swapsWith e none pos.line X.env = pure false := by rfl) : PS X (.Expr e pos) (tDrop te) := by
  intro pins s σ H D I h
  exact wpAny_Expr_any (thn (he pins s σ H _ I h) fun v s1 ⟨x, H1, I1, r1, q1⟩ => ⟨σ, H1, I1, q1⟩) I.quiet hs
def tRet (te : TE) : TS := fun D σ H => te σ H D.rt
theorem ps_ret (he : PE X e te) : PS X (.Return (some e) pos) (tRet te) := by
  intro pins s σ H D I h
  exact wpAny_Return_some (thn (he pins s σ H _ I h) fun v s1 ⟨x, H1, I1, r1, q1⟩ => ⟨x, σ, H1, I1, r1, q1⟩)
def tIfS (c : TT) (t u : TS) : TS := fun D σ H => c σ H fun b H1 => if b = true then t D σ H1 else u D σ H1
theorem ps_if {c : Expr} {a b : List Stmt} {tc : TT} (hc : PT X c tc) (ha : PSs X a t) (hb : PSs X b u) : PS X (.If c a b pos) (tIfS tc t u) := by
  intro pins s σ H D I h
  refine wpAny_If (thn (hc pins s σ H _ I h) fun d s1 ⟨H1, I1, q1⟩ => ?_)
  cases d with
  | true => exact ha pins s1 σ H1 D I1 q1
  | false => exact hb pins s1 σ H1 D I1 q1
def tNever : TS := fun _ _ _ => False
theorem pss_never {sts : List Stmt} : PSs X sts tNever := fun _ _ _ _ _ _ h => h.elim
end
abbrev TG := V → St → Hp → (St → Hp → Prop) → Prop
abbrev TGs := List V → St → Hp → (St → Hp → Prop) → Prop
def PG (X : Cx) (target : Expr) (t : TG) : Prop :=
  ∀ (pins : List (Addr × Obj)) (s : Shared) (σ : St) (H : Hp) (v : V) (u : Value) (Q : St → Hp → Prop), Inv X pins σ H s → RelV v u → t v σ H Q →
    wpAny (model X.prog X.w) X.A (assign target X.env u) (fun _ s' => ∃ σ' H', Inv X pins σ' H' s' ∧ Q σ' H') X.xe s
def PGs (X : Cx) (ts : List Expr) (t : TGs) : Prop :=
  ∀ (pins : List (Addr × Obj)) (s : Shared) (σ : St) (H : Hp) (vs : List V) (us : List Value) (Q : St → Hp → Prop), Inv X pins σ H s → Vals vs us → t vs σ H Q →
    wpAny (model X.prog X.w) X.A (assignInOrder ((assignEach ts X.env).map (·.2)) us) (fun _ s' => ∃ σ' H', Inv X pins σ' H' s' ∧ Q σ' H') X.xe s
abbrev TSet := V → V → V → Hp → (Hp → Prop) → Prop
def PSet (X : Cx) (t : TSet) : Prop :=
  ∀ (pins : List (Addr × Obj)) (s : Shared) (σ : St) (H : Hp) (o i v : V) (ov iv u : Value) (Q : Hp → Prop), Inv X pins σ H s → RelV o ov → RelV i iv → RelV v u → t o i v H Q →
    wpAny (model X.prog X.w) X.A (setItem ov iv u) (fun _ s' => ∃ H', Inv X pins σ H' s' ∧ Q H') X.xe s
abbrev TIp := V → V → Hp → VK → Prop
def PIp (X : Cx) (op : Operator) (t : TIp) : Prop :=
  ∀ (pins : List (Addr × Obj)) (s : Shared) (σ : St) (H : Hp) (x y : V) (v u : Value) (Q : VK), Inv X pins σ H s → RelV x v → RelV y u → t x y H Q →
    wpAny (model X.prog X.w) X.A (inplaceOp op v u) (EP X pins σ Q) X.xe s
section
variable {X : Cx} {pos : Pos}
def gName (i : Nat) : TG := fun v σ H Q => Q (σ.set i (some v)) H
theorem pg_name {i : Nat} {x : Str} (hN : X.N.Nodup) (hi : X.N[i]? = some x) (hx : Loc X.env.scope x) (hf : X.fn x = true ∨ X.env.scope.names.lookup x = some .local := by first | exact .inl rfl | exact .inr rfl | assumption) : PG X (.Name x pos) (gName i) := by
  intro pins s σ H v u Q I r h
  exact wpAny_assign_Name (store_ok I hN hi hx r (fun s' I' => ⟨_, H, I', h⟩) hf)
def gNil : TGs := fun vs σ H Q => vs = [] ∧ Q σ H
def gCons (t : TG) (u : TGs) : TGs := fun vs σ H Q => ∃ v r, vs = v :: r ∧ t v σ H fun σ' H' => u r σ' H' Q
theorem pgs_nil : PGs X [] gNil := by
  intro pins s σ H vs us Q I r h
  obtain ⟨e, h⟩ := h
  subst e
  cases r
  exact assignInOrder_nil ⟨σ, H, I, h⟩
theorem pgs_cons {e : Expr} {es : List Expr} {t : TG} {u : TGs} (h1 : PG X e t) (h2 : PGs X es u)
    (hs : (assignEach (e :: es) X.env).map (·.2) = assign e X.env :: (assignEach es X.env).map (·.2) := by rfl) : PGs X (e :: es) (gCons t u) := by
  intro pins s σ H vs us Q I r h
  obtain ⟨v, vr, e1, h⟩ := h
  subst e1
  cases r with
  | cons r rr =>
    rw [hs]
    refine assignInOrder_cons (thn (h1 pins s σ H _ _ _ I r h) fun _ s1 ⟨σ1, H1, I1, q1⟩ => ?_)
    exact h2 pins s1 σ1 H1 _ _ Q I1 rr q1
def gTup (K : PySem.W.Frag) (n : Nat) (t : TGs) : TG := fun v σ H Q => ∃ a xs, v = .ref a ∧ SqT K H a xs ∧ xs.length = n ∧ t xs σ H Q
theorem pg_tup {es : List Expr} {k : Nat} {t : TGs} {n : Nat} (hc : X.calm = true) (h : PGs X es t)
    (hn : (assignEach es X.env).length = n := by rfl) (hst : (assignEach es X.env).findIdx? (·.1) = none := by rfl) : PG X (.Tuple es k pos) (gTup X.K n t) := by
  intro pins s σ H v u Q I r hw
  obtain ⟨a, xs, e1, hq, hl, hw⟩ := hw
  subst e1
  cases r
  obtain ⟨its, rv, ht, hz⟩ := I.tuple hq
  refine assign_Tuple_tuple (I.ok.hd hc) ht (by simp [hn, ← hl, rv.length]) hst fun h' hx => ?_
  have I1 : Inv X pins σ H { s with heap := h' } := I.kept (t' := s.toks) fun b o e => hx b o (Nat.ne_of_lt (Heap.lt_size e)) e
  exact h pins _ σ H xs _ Q I1 (by simpa using rv) hw
def gSub (to ti : TE) (t : TSet) : TG := fun v σ H Q => to σ H fun o H1 => ti σ H1 fun i H2 => t o i v H2 fun H3 => Q σ H3
theorem pg_sub {o i : Expr} {to ti : TE} {t : TSet} (ho : PE X o to) (hi : PE X i ti) (hs : PSet X t)
    (ha : ∀ v, assign (.Subscript o i pos) X.env v = (do
      let ov ← holding [v] (eval o X.env)
      let iv ← holding [v, ov] (eval i X.env)
      standAt pos
      holding [v, ov, iv] (setItem ov iv v)
      release [v, ov, iv] []) := by intro _; rfl) : PG X (.Subscript o i pos) (gSub to ti t) := by
  intro pins s σ H v u Q I r h
  rw [ha]
  refine wpAny_bind (wpAny_holding (thn (ho pins s σ H _ I h) fun ov s1 ⟨x, H1, I1, r1, q1⟩ => ?_))
  refine wpAny_bind (wpAny_holding (thn (hi pins s1 σ H1 _ I1 q1) fun iv s2 ⟨y, H2, I2, r2, q2⟩ => ?_))
  refine wpAny_bind (wpAny_standAt (wpAny_bind (wpAny_holding (thn (hs pins s2 σ H2 x y v ov iv u _ I2 r1 r2 r q2) fun _ s3 ⟨H3, I3, q3⟩ => ?_))))
  exact wpAny_release ⟨σ, H3, I3, q3⟩
def tAsg (te : TE) (g : TG) : TS := fun D σ H => te σ H fun x H1 => g x σ H1 D.nx
theorem ps_asg {tg e : Expr} {te : TE} {g : TG} (he : PE X e te) (hg : PG X tg g) (hs : swapsWithSole [tg] e pos.line X.env = pure false := by rfl) (hw : swappedStores [tg] e X.env = pure none := by rfl)
    (h1 : (assignEach [tg] X.env).map (·.2) = [assign tg X.env] := by rfl) : PS X (.Assign [tg] e pos) (tAsg te g) := by
  intro pins s σ H D I h
  refine wpAny_Assign_stores (thn (he pins s σ H _ I h) fun v s1 ⟨x, H1, I1, r1, q1⟩ => ?_) hs hw
  rw [h1]
  exact thn (hg pins s1 σ H1 x v _ I1 r1 q1) fun _ s2 q => q
theorem ps_set {i : Nat} {x : Str} {e : Expr} {te : TE} {pos' : Pos} (hN : X.N.Nodup) (hi : X.N[i]? = some x) (hx : Loc X.env.scope x) (he : PE X e te) (hs : swapsWith e (some (.Name x pos')) pos.line X.env = pure false := by rfl) (hf : X.fn x = true ∨ X.env.scope.names.lookup x = some .local := by first | exact .inl rfl | exact .inr rfl | assumption) :
    PS X (.Assign [.Name x pos'] e pos) (tAsg te (gName i)) := by
  intro pins s σ H D I h
  refine wpAny_Assign_Name (thn (he pins s σ H _ I h) fun v s1 ⟨y, H1, I1, r1, q1⟩ => ?_) hs
  exact store_ok I1 hN hi hx r1 (fun s2 I2 => ⟨_, H1, I2, q1⟩) hf
def tAug (i : Nat) (te : TE) (ti : TIp) : TS := fun D σ H => ∃ x, σ[i]? = some (some x) ∧ te σ H fun y H1 => ti x y H1 fun z H2 => D.nx (σ.set i (some z)) H2
theorem ps_aug {i : Nat} {x : Str} {e : Expr} {te : TE} {op : Operator} {ti : TIp} {pos' : Pos} (hN : X.N.Nodup) (hi : X.N[i]? = some x) (hx : Loc X.env.scope x) (he : PE X e te) (ho : PIp X op ti) (hf : X.fn x = true ∨ X.env.scope.names.lookup x = some .local := by first | exact .inl rfl | exact .inr rfl | assumption) :
    PS X (.AugAssign (.Name x pos') op e pos) (tAug i te ti) := by
  intro pins s σ H D I h
  obtain ⟨v, e1, h⟩ := h
  obtain ⟨m, hn, hl⟩ := I.loc
  have vis : Vis X.env.scope x := by rcases hx with k | k; exact .inl k; exact .inr (.inl k)
  obtain ⟨u, r, l⟩ := hl i x v hi e1 vis
  refine wpAny_AugAssign_Name ?_
  have go : wpAny (model X.prog X.w) X.A (eval e X.env) (fun w s₂ => wpAny (model X.prog X.w) X.A (inplaceOp op u w) (fun r s₃ => wpAny (model X.prog X.w) X.A (storeName X.env x r) (fun _ => SP X pins D .next) X.xe s₃) X.xe s₂) X.xe s := by
    refine thn (he pins s σ H _ I h) fun w s1 ⟨y, H1, I1, r1, q1⟩ => ?_
    refine thn (ho pins s1 σ H1 v y u w _ I1 r r1 q1) fun z s2 ⟨zv, H2, I2, r2, q2⟩ => ?_
    exact store_ok I2 hN hi hx r2 (fun s3 I3 => ⟨_, H2, I3, q2⟩) hf
  rcases l with ⟨hk, hm⟩ | ⟨hk, c, hc, hcell⟩
  · exact wpAny_loadName_local I.ok.kind hk hn hm go
  · rcases hk with hk | hk
    · exact wpAny_loadName_cell I.ok.kind hk hc hcell go
    · rcases hx with k | k
      · have : X.env.scope.names.lookup x = some .free := hk
        rw [k] at this; cases this
      · have : X.env.scope.names.lookup x = some .free := hk
        rw [k] at this; cases this
def ipI (f : Int → Int → Int) : TIp := fun x y H Q => ∃ i j, x = .int i ∧ y = .int j ∧ Q (.int (f i j)) H
theorem ip_add : PIp X .Add (ipI fun i j => i + j) := by
  intro pins s σ H x y v u Q I r1 r2 h
  obtain ⟨i, j, e1, e2, q⟩ := h
  subst e1; subst e2
  obtain ⟨t, rfl⟩ := r1
  obtain ⟨t', rfl⟩ := r2
  exact iadd_int ⟨.int _, H, I.tok _, ⟨_, rfl⟩, q⟩
end
section
variable {X : Cx} {pos : Pos}
def tWhile (c : TT) (tb : TS) : TS := fun D σ H => ∃ W : Nat → St → Hp → Prop, (∃ m, W m σ H) ∧ ∀ m σ H, W m σ H →
  c σ H fun b H1 => if b = true then ∃ N : St → Hp → Prop, (∀ σ' H', N σ' H' → ∃ m', m' < m ∧ W m' σ' H') ∧ tb { D with nx := N, ct := N, bk := D.nx } σ H1 else D.nx σ H1
theorem ps_while {c : Expr} {body : List Stmt} {tc : TT} {tb : TS} (hp : PassesOwn (model X.prog X.w) X.A X.env X.xe) (hc : PT X c tc) (hb : PSs X body tb) : PS X (.While c body [] pos) (tWhile tc tb) := by
  intro pins s σ H D I h
  obtain ⟨W, ⟨m0, w0⟩, turn⟩ := h
  refine wpAny_While (codeAny_whileLoop (fun n s' => ∃ σ' H', Inv X pins σ' H' s' ∧ W n σ' H') ?_ m0 ⟨σ, H, I, w0⟩)
  rintro n s1 ⟨σ1, H1, I1, w1⟩
  refine wpAny_passesOwn hp (thn (hc pins s1 σ1 H1 _ I1 (turn n σ1 H1 w1)) fun b s2 ⟨H2, I2, q2⟩ => ?_)
  cases b with
  | true =>
    obtain ⟨N, hN, q2⟩ := q2
    rw [if_pos rfl]
    refine wpAny_passesOwn hp (thn (hb pins s2 σ1 H2 _ I2 q2) fun f s3 q3 => ?_)
    cases f with
    | next =>
      obtain ⟨σ3, H3, I3, n3⟩ := q3
      obtain ⟨m', hm, w3⟩ := hN σ3 H3 n3
      exact ⟨m', hm, σ3, H3, I3, w3⟩
    | cont =>
      obtain ⟨σ3, H3, I3, n3⟩ := q3
      obtain ⟨m', hm, w3⟩ := hN σ3 H3 n3
      exact ⟨m', hm, σ3, H3, I3, w3⟩
    | brk => exact q3
    | ret v => exact q3
  | false =>
    rw [if_neg Bool.false_ne_true]
    exact wpAny_execs_nil ⟨σ1, H2, I2, q2⟩
end
structure It where
  go : Nat → Hp → Prop
  yld : Nat → Hp → V → Hp → Prop
  stop : Nat → Hp → Prop
def FpOk (X : Cx) (pins : List (Addr × Obj)) (H : Hp) (b : Addr) : Prop :=
  H b = none ∧ b ≠ X.env.locals ∧ b ∉ X.fs ∧ (b ∈ X.ex ∨ X.s₀.heap.objs.size ≤ b) ∧ (∀ x c, X.env.cells.lookup x = some c → c ≠ b) ∧ ∀ p ∈ X.pn ++ pins, p.1 ≠ b
theorem Inv.fpOk {X : Cx} {pins : List (Addr × Obj)} {σ : St} {H H' : Hp} {s : Shared} {b : Addr} (I : Inv X pins σ H s) (hb : s.heap.objs.size ≤ b) (hn : H' b = none) : FpOk X pins H' b := by
  refine ⟨hn, Nat.ne_of_gt (Nat.lt_of_lt_of_le I.lt hb), I.nofs hb, .inr (Nat.le_trans I.sz hb), fun x c e z => ?_, fun p hp z => ?_⟩
  · obtain ⟨v, q⟩ := I.cell x c e
    exact absurd (Nat.lt_of_lt_of_le q.lt (by rw [z]; exact hb)) (Nat.lt_irrefl _)
  · exact absurd (Nat.lt_of_lt_of_le (Heap.lt_size (I.pin p hp).1) (by rw [z]; exact hb)) (Nat.lt_irrefl _)
structure Turn (P : Program) (w : World) (K : PySem.W.Frag) (tg : Expr) (J : It) (fp : List Addr) (it : Addr) (tn : Nat → Heap → Prop) : Prop where
  mem : it ∈ fp
  obj : ∀ i h, tn i h → ∀ b ∈ fp, ∃ o, h.get? b = some o ∧ ∀ v, o.data ≠ .cell v
  keep : ∀ i h h', tn i h → (∀ b ∈ fp, ∀ o, h.get? b = some o → h'.get? b = some o) → tn i h'
  item : ∀ (X : Cx), X.prog = P → X.w = w → X.K = K → X.calm = true → ∀ (i : Nat) (pins : List (Addr × Obj)) (s : Shared) (σ : St) (H : Hp) (E : Value → Shared → Prop), Inv X pins σ H s → (∀ b ∈ fp, FpOk X pins H b) → tn i s.heap → J.go i H →
    wpAny (model P w) X.A (pyNext (.ref it)) (fun r s1 => ∃ u, r = some u ∧
      wpAny (model P w) X.A (letOwnedTupleGo tg (.ref it) u) (fun _ s2 => ∃ x H', Inv X pins σ H' s2 ∧ RelV x u ∧ J.yld i H x H' ∧ tn (i + 1) s2.heap ∧ ∀ b ∈ fp, H' b = none) E s1) E s
  done : ∀ (X : Cx), X.prog = P → X.w = w → X.K = K → X.calm = true → ∀ (i : Nat) (pins : List (Addr × Obj)) (s : Shared) (σ : St) (H : Hp) (E : Value → Shared → Prop), Inv X pins σ H s → (∀ b ∈ fp, FpOk X pins H b) → tn i s.heap → J.stop i H →
    wpAny (model P w) X.A (pyNext (.ref it)) (fun r s1 => r = none ∧ Inv X pins σ H s1) E s
  self : ∀ (A : Around) (i : Nat) (s : Shared) (Q : Value → Shared → Prop) (E : Value → Shared → Prop), tn i s.heap → Q (.ref it) s → wpAny (model P w) A (pyIter (.ref it)) Q E s
abbrev TI := St → Hp → (It → Hp → Prop) → Prop
def PIE (X : Cx) (pins : List (Addr × Obj)) (σ : St) (tg : Expr) (R : It → Hp → Prop) (itv : Value) (s2 : Shared) : Prop :=
  ∃ (it : Addr) (fp : List Addr) (tn : Nat → Heap → Prop) (J : It) (H' : Hp), itv = .ref it ∧ Inv X pins σ H' s2 ∧ Turn X.prog X.w X.K tg J fp it tn ∧ tn 0 s2.heap ∧ (∀ b ∈ fp, FpOk X pins H' b) ∧ R J H'
def PI (X : Cx) (tg iter : Expr) (wi : TI) : Prop :=
  ∀ (pins : List (Addr × Obj)) (s : Shared) (σ : St) (H : Hp) (R : It → Hp → Prop), Inv X pins σ H s → wi σ H R →
    wpAny (model X.prog X.w) X.A (eval iter X.env) (fun v s1 => wpAny (model X.prog X.w) X.A (pyIter v) (PIE X pins σ tg R) X.xe s1) X.xe s
theorem go_of {M : Model} {A : Around} {E : Value → Shared → Prop} {s : Shared} {tg : Expr} {it : Addr} {u : Value} {o : Obj} {n : String} {vs : Array Value} {Q : Unit → Shared → Prop} (ho : s.heap.get? it = some o) (hc : o.cls = .type n) (hd : o.data = .fields vs)
    (hn : ["enumerate", "zip", "dict_itemiterator", "dict_reverseitemiterator", "odict_iterator", "itertools.zip_longest", "itertools.pairwise"].contains n = false) (hQ : Q () s) : wpAny M A (letOwnedTupleGo tg (.ref it) u) Q E s := by
  unfold letOwnedTupleGo
  cases tg <;> first
    | exact wpAny_pure hQ
    | (cases u <;> first
        | exact wpAny_pure hQ
        | (refine wpAny_bind (wpAny_load ho ?_)
           rw [hc, hd]
           show wpAny M A (if (["enumerate", "zip", "dict_itemiterator", "dict_reverseitemiterator", "odict_iterator", "itertools.zip_longest", "itertools.pairwise"].contains n && vs[0]? == some (rawInt _)) = true then _ else _) Q E s
           rw [if_neg (by intro h; rw [hn, Bool.false_and] at h; cases h)]
           exact wpAny_pure hQ))
def Itl (K : PySem.W.Frag) (a : Addr) : It :=
  ⟨fun i H => ∃ xs x, SqL K H a xs ∧ xs[i]? = some x, fun i H x H' => H' = H ∧ ∀ xs, SqL K H a xs → xs[i]? = some x, fun i H => ∃ xs, SqL K H a xs ∧ xs.length ≤ i⟩
def Itt (K : PySem.W.Frag) (a : Addr) : It :=
  ⟨fun i H => ∃ xs x, SqT K H a xs ∧ xs[i]? = some x, fun i H x H' => H' = H ∧ ∀ xs, SqT K H a xs → xs[i]? = some x, fun i H => ∃ xs, SqT K H a xs ∧ xs.length ≤ i⟩
def Itr (lo : Int) (n : Nat) : It := ⟨fun i _ => i < n, fun i H x H' => H' = H ∧ x = .int (lo + i), fun i _ => n ≤ i⟩
theorem turn_list {P : Program} {w : World} {K : PySem.W.Frag} {tg : Expr} (a it : Addr) : Turn P w K tg (Itl K a) [it] it (fun i h => h.IsListIter it a i) where
  mem := by simp
  obj := fun i h st b hb => by
    have e : b = it := by simpa using hb
    subst e
    obtain ⟨o, e, c, d⟩ := st
    exact ⟨o, e, fun v z => by rw [d] at z; cases z⟩
  keep := fun i h h' st k => st.at fun o e => k it (by simp) o e
  item := by
    intro X hP hw hK hc i pins s σ H E I hf st hg
    subst hP hw hK
    obtain ⟨xs, x, hq, hx⟩ := hg
    obtain ⟨its, rv, p, hz⟩ := I.list hq
    obtain ⟨u, hu, ru⟩ := rv.get hx
    obtain ⟨f0, f1, f2, f3, f4, f5⟩ := hf it (by simp)
    refine wpAny_pyNext_list_item st p.isList (x := u) (by simpa using hu) fun h' st' sb => ?_
    have I1 : Inv X pins σ H { s with heap := h' } := I.turned (t' := s.toks) (fun b o hb e => (sb.2 b hb).trans e) f0 f1 f3 f4 f5
    obtain ⟨o, e, c, d⟩ := id st'
    exact ⟨u, rfl, go_of (s := { s with heap := h' }) e c d (by decide) ⟨x, H, I1, ru, ⟨rfl, fun ys hy => by rw [I.list_inj hy hq]; exact hx⟩, st', fun b hb => (hf b hb).1⟩⟩
  done := by
    intro X hP hw hK hc i pins s σ H E I hf st hg
    subst hP hw hK
    obtain ⟨xs, hq, hx⟩ := hg
    obtain ⟨its, rv, p, hz⟩ := I.list hq
    obtain ⟨f0, f1, f2, f3, f4, f5⟩ := hf it (by simp)
    have hl := rv.length
    exact wpAny_pyNext_list_end (I.ok.hd hc) st p.isList (by simp; omega) fun h' eb => ⟨rfl, I.turned (t' := s.toks) (fun b o hb e => eb b o hb e) f0 f1 f3 f4 f5⟩
  self := fun _ _ _ _ _ st h => wpAny_pyIter_listiter st h
theorem turn_tuple {P : Program} {w : World} {K : PySem.W.Frag} {tg : Expr} (a it : Addr) : Turn P w K tg (Itt K a) [it] it (fun i h => h.IsTupleIter it a i) where
  mem := by simp
  obj := fun i h st b hb => by
    have e : b = it := by simpa using hb
    subst e
    obtain ⟨o, e, c, d⟩ := st
    exact ⟨o, e, fun v z => by rw [d] at z; cases z⟩
  keep := fun i h h' st k => st.at fun o e => k it (by simp) o e
  item := by
    intro X hP hw hK hc i pins s σ H E I hf st hg
    subst hP hw hK
    obtain ⟨xs, x, hq, hx⟩ := hg
    obtain ⟨its, rv, p, hz⟩ := I.tuple hq
    obtain ⟨u, hu, ru⟩ := rv.get hx
    obtain ⟨f0, f1, f2, f3, f4, f5⟩ := hf it (by simp)
    refine wpAny_pyNext_tuple_item st (show s.heap.IsTuple a its.toArray from p) (x := u) (by simpa using hu) fun h' st' sb => ?_
    have I1 : Inv X pins σ H { s with heap := h' } := I.turned (t' := s.toks) (fun b o hb e => (sb.2 b hb).trans e) f0 f1 f3 f4 f5
    obtain ⟨o, e, c, d⟩ := id st'
    exact ⟨u, rfl, go_of (s := { s with heap := h' }) e c d (by decide) ⟨x, H, I1, ru, ⟨rfl, fun ys hy => by rw [I.tuple_inj hy hq]; exact hx⟩, st', fun b hb => (hf b hb).1⟩⟩
  done := by
    intro X hP hw hK hc i pins s σ H E I hf st hg
    subst hP hw hK
    obtain ⟨xs, hq, hx⟩ := hg
    obtain ⟨its, rv, p, hz⟩ := I.tuple hq
    obtain ⟨f0, f1, f2, f3, f4, f5⟩ := hf it (by simp)
    have hl := rv.length
    exact wpAny_pyNext_tuple_end (I.ok.hd hc) st (show s.heap.IsTuple a its.toArray from p) (by simp; omega) fun h' eb => ⟨rfl, I.turned (t' := s.toks) (fun b o hb e => eb b o hb e) f0 f1 f3 f4 f5⟩
  self := fun _ _ _ _ _ st h => wpAny_pyIter_tupleiter st h
theorem turn_range {P : Program} {w : World} {K : PySem.W.Frag} {tg : Expr} (it : Addr) (lo : Int) (n : Nat) : Turn P w K tg (Itr lo n) [it] it (fun i h => IsRangeIter h it (lo + (i : Nat) * 1) ((n : Int) - (i : Nat)) 1) where
  mem := by simp
  obj := fun i h st b hb => by
    have e : b = it := by simpa using hb
    subst e
    exact ⟨_, st, fun v z => by
      have z' : Data.fields _ = Data.cell v := z
      cases z'⟩
  keep := fun i h h' st k => k it (by simp) _ st
  item := by
    intro X hP hw hK hc i pins s σ H E I hf st hg
    subst hP hw hK
    obtain ⟨f0, f1, f2, f3, f4, f5⟩ := hf it (by simp)
    have W := Walks.range (prog := X.prog) (w := X.w) (I.ok.hd hc) it lo 1 n
    refine W.item i s _ _ hg st fun v h' tk hv st' kk => ?_
    obtain ⟨t, rfl⟩ := hv
    have I1 : Inv X pins σ H { s with heap := h', toks := tk } := I.turned (fun b o hb e => kk b o (by simpa using hb) e) f0 f1 f3 f4 f5
    refine ⟨_, rfl, go_of (s := { s with heap := h', toks := tk }) (n := "range_iterator") st' rfl rfl (by decide) ⟨.int (lo + i), H, I1, ⟨t, ?_⟩, ⟨rfl, rfl⟩, st', fun b hb => (hf b hb).1⟩⟩
    rw [Int.mul_one]
  done := by
    intro X hP hw hK hc i pins s σ H E I hf st hg
    subst hP hw hK
    obtain ⟨f0, f1, f2, f3, f4, f5⟩ := hf it (by simp)
    exact wpAny_pyNext_range_end (I.ok.hd hc) st (by have : n ≤ i := hg; omega) fun h' eb => ⟨rfl, I.turned (t' := s.toks) (fun b o hb e => eb b o hb e) f0 f1 f3 f4 f5⟩
  self := fun _ _ _ _ _ st h => wpAny_pyIter_rangeiter st h
end L2
namespace L2
open PySem PySem.Spec PyProof.Rows
section
variable {X : Cx} {tg : Expr}
def iList (K : PySem.W.Frag) (tl : TE) : TI := fun σ H R => tl σ H fun x H1 => ∃ a, x = .ref a ∧ (∃ xs, SqL K H1 a xs) ∧ R (Itl K a) H1
def iTup (K : PySem.W.Frag) (tl : TE) : TI := fun σ H R => tl σ H fun x H1 => ∃ a, x = .ref a ∧ (∃ xs, SqT K H1 a xs) ∧ R (Itt K a) H1
theorem pi_list {l : Expr} {tl : TE} (hl : PE X l tl) : PI X tg l (iList X.K tl) := by
  intro pins s σ H R I h
  refine thn (hl pins s σ H _ I h) fun v s1 ⟨x, H1, I1, r1, q1⟩ => ?_
  obtain ⟨a, e, ⟨xs, hq⟩, q⟩ := q1
  subst e
  cases r1
  obtain ⟨its, rv, p, hz⟩ := I1.list hq
  refine wpAny_pyIter_list p.isList ?_
  refine ⟨s1.heap.objs.size, [s1.heap.objs.size], _, _, H1, rfl, I1.kept (t' := s1.toks) fun b o e => Heap.get?_push_of_some _ e, turn_list a _, ⟨_, Heap.get?_push_size _ rfl, rfl, rfl⟩, fun b hb => ?_, q⟩
  have e : b = s1.heap.objs.size := by simpa using hb
  subst e
  exact I1.fpOk (Nat.le_refl _) (I1.hok.fresh (Nat.le_refl _))
theorem pi_tup {l : Expr} {tl : TE} (hl : PE X l tl) : PI X tg l (iTup X.K tl) := by
  intro pins s σ H R I h
  refine thn (hl pins s σ H _ I h) fun v s1 ⟨x, H1, I1, r1, q1⟩ => ?_
  obtain ⟨a, e, ⟨xs, hq⟩, q⟩ := q1
  subst e
  cases r1
  obtain ⟨its, rv, p, hz⟩ := I1.tuple hq
  refine wpAny_pyIter_tuple (show s1.heap.IsTuple a its.toArray from p) ?_
  refine ⟨s1.heap.objs.size, [s1.heap.objs.size], _, _, H1, rfl, I1.kept (t' := s1.toks) fun b o e => Heap.get?_push_of_some _ e, turn_tuple a _, ⟨_, Heap.get?_push_size _ rfl, rfl, rfl⟩, fun b hb => ?_, q⟩
  have e : b = s1.heap.objs.size := by simpa using hb
  subst e
  exact I1.fpOk (Nat.le_refl _) (I1.hok.fresh (Nat.le_refl _))
theorem range_it {pins : List (Addr × Obj)} {σ : St} {H : Hp} {s : Shared} {R : It → Hp → Prop} {E : Value → Shared → Prop} {lo hi : Int} {t u v : Tok} {tk : Nat} (I : Inv X pins σ H s) (h1 : -(2 ^ 62) ≤ lo) (h2 : lo < 2 ^ 62) (h3 : -(2 ^ 62) ≤ hi) (h4 : hi < 2 ^ 62)
    (q : R (Itr lo (hi - lo).toNat) H) : wpAny (model X.prog X.w) X.A (pyIter (.ref s.heap.objs.size)) (PIE X pins σ tg R) E { s with heap := s.heap.push { cls := .type "range", data := .fields #[.int lo t, .int hi u, .int 1 v] }, toks := tk } := by
  refine wpAny_pyIter_range (IsRange.new ..) (small_one h1 h2 h3 h4) ?_
  have I1 : Inv X pins σ H { s with heap := s.heap.push { cls := .type "range", data := .fields #[.int lo t, .int hi u, .int 1 v] }, toks := tk } := I.kept fun b o e => Heap.get?_push_of_some _ e
  refine ⟨(s.heap.push { cls := .type "range", data := .fields #[.int lo t, .int hi u, .int 1 v] }).objs.size, [(s.heap.push { cls := .type "range", data := .fields #[.int lo t, .int hi u, .int 1 v] }).objs.size], _, _, H, rfl,
    I1.kept (t' := tk) fun b o e => Heap.get?_push_of_some _ e, turn_range _ lo (hi - lo).toNat, ?_, fun b hb => ?_, q⟩
  · have e1 : lo + ((0 : Nat) : Int) * 1 = lo := by simp
    have e2 : (((hi - lo).toNat : Nat) : Int) - ((0 : Nat) : Int) = Builtin.Range.rangeSize lo hi 1 := by rw [rangeSize_one]; split <;> omega
    show IsRangeIter _ _ (lo + ((0 : Nat) : Int) * 1) ((((hi - lo).toNat : Nat) : Int) - ((0 : Nat) : Int)) 1
    rw [e1, e2]
    exact Heap.get?_push_size _ rfl
  · have e : b = (s.heap.push { cls := .type "range", data := .fields #[.int lo t, .int hi u, .int 1 v] }).objs.size := by simpa using hb
    subst e
    exact I1.fpOk (Nat.le_refl _) (I1.hok.fresh (Nat.le_refl _))
def iRng1 (ta : TA) : TI := fun σ H R => ta σ H fun vs H1 => ∃ j : Int, vs = [.int j] ∧ -(2 ^ 62) ≤ j ∧ j < 2 ^ 62 ∧ R (Itr 0 j.toNat) H1
theorem pi_range1 {a : Expr} {ta : TA} {p pos : Pos} (hg : Gl X "range") (hm : X.mg "range" = none) (ha : PA X [a] ta) (hs : starEach [a] X.env = [(false, eval a X.env)] := by rfl) : PI X tg (.Call (.Name "range" p) [a] [] pos) (iRng1 ta) := by
  intro pins s σ H R I h
  refine Call_ (ld_blt I hg hm boot_range (PyProof.Rows.callWith_type1 (thn (ha pos pins s σ H _ I h) fun us s1 ⟨vs, H1, I1, r1, q1⟩ => ?_) hs rfl))
  obtain ⟨j, e, q1, q2, q⟩ := q1
  subst e
  cases r1 with
  | cons r rr =>
    cases rr
    obtain ⟨t, rfl⟩ := r
    exact call_range_1 (range_it I1 (by omega) (by omega) q1 q2 (by simpa using q))
def tFor (wi : TI) (g : TG) (tb : TS) : TS := fun D σ H => wi σ H fun J H1 => ∃ W : Nat → Nat → St → Hp → Prop, (∃ m, W 0 m σ H1) ∧ ∀ i m σ H, W i m σ H →
  (J.stop i H ∧ D.nx σ H) ∨ (J.go i H ∧ ∃ N : St → Hp → Prop, (∀ σ' H', N σ' H' → ∃ m', m' < m ∧ W (i + 1) m' σ' H') ∧ ∀ x H', J.yld i H x H' → g x σ H' fun σ2 H2 => tb { D with nx := N, ct := N, bk := D.nx } σ2 H2)
def pinsAt (fp : List Addr) (h : Heap) : List (Addr × Obj) := fp.filterMap fun b => (h.get? b).map fun o => (b, o)
theorem mem_pinsAt {fp : List Addr} {h : Heap} {b : Addr} {o : Obj} (hb : b ∈ fp) (e : h.get? b = some o) : (b, o) ∈ pinsAt fp h := List.mem_filterMap.mpr ⟨b, hb, by rw [e]; rfl⟩
theorem of_pinsAt {fp : List Addr} {h : Heap} {p : Addr × Obj} (hp : p ∈ pinsAt fp h) : p.1 ∈ fp ∧ h.get? p.1 = some p.2 := by
  obtain ⟨b, hb, e⟩ := List.mem_filterMap.mp hp
  cases q : h.get? b with
  | none => rw [q] at e; cases e
  | some o =>
    rw [q] at e
    have e' : (b, o) = p := Option.some.inj e
    subst e'
    exact ⟨hb, q⟩
theorem Inv.pinned {pins : List (Addr × Obj)} {σ : St} {H : Hp} {s : Shared} {fp : List Addr} (I : Inv X pins σ H s) (hf : ∀ b ∈ fp, FpOk X pins H b) (ho : ∀ b ∈ fp, ∃ o, s.heap.get? b = some o ∧ ∀ v, o.data ≠ .cell v) : Inv X (pins ++ pinsAt fp s.heap) σ H s :=
  I.pins_of fun p hp => (List.mem_append.mp hp).elim (fun z => I.pin p (List.mem_append_right _ z)) fun z => by
    obtain ⟨hb, e⟩ := of_pinsAt z
    obtain ⟨f0, f1, f2, _⟩ := hf p.1 hb
    obtain ⟨o, e', d⟩ := ho p.1 hb
    rw [e] at e'; cases e'
    exact ⟨e, f0, f1, f2, d⟩
theorem Inv.unpinned {pins pl : List (Addr × Obj)} {σ : St} {H : Hp} {s : Shared} (I : Inv X (pins ++ pl) σ H s) : Inv X pins σ H s := I.pins_of fun p hp => I.pin p (List.mem_append_right _ (List.mem_append_left _ hp))
theorem ps_for {iter : Expr} {body : List Stmt} {wi : TI} {g : TG} {tb : TS} {pos : Pos} (hp : PassesOwn (model X.prog X.w) X.A X.env X.xe) (hc : X.calm = true) (hi : PI X tg iter wi) (hg : PG X tg g) (hb : PSs X body tb)
    (hs : ∀ x, foldedSetIterable iter X.env x = pure x := by intro _; rfl) : PS X (.For tg iter body [] pos) (tFor wi g tb) := by
  intro pins s σ H D I h
  refine wpAny_For (thn (hi pins s σ H _ I h) fun v s1 h1 => thn h1 fun itv s2 h2 => ?_) hs
  obtain ⟨it, fp, tn, J, H2, e, I2, T, st2, f2, W, ⟨m0, w0⟩, turn⟩ := h2
  subst e
  have stat : ∀ {H' : Hp}, (∀ b ∈ fp, H' b = none) → ∀ b ∈ fp, FpOk X pins H' b := fun hn b hb => ⟨hn b hb, (f2 b hb).2⟩
  refine codeAny_forLoop_any (fun n s' => ∃ i σ' H', Inv X pins σ' H' s' ∧ tn i s'.heap ∧ (∀ b ∈ fp, H' b = none) ∧ W i n σ' H') ?_ m0 ⟨0, σ, H2, I2, st2, fun b hb => (f2 b hb).1, w0⟩
  rintro n s3 ⟨i, σ3, H3, I3, st3, fr3, w3⟩
  rcases turn i n σ3 H3 w3 with ⟨stop, qn⟩ | ⟨go, N, hN, step⟩
  · refine wpAny_passesOwn hp (thn (T.done X rfl rfl rfl hc i pins s3 σ3 H3 X.xe I3 (stat fr3) st3 stop) fun r s4 ⟨hr, I4⟩ => ?_)
    subst hr
    exact wpAny_execs_nil ⟨σ3, H3, I4, qn⟩
  · refine wpAny_passesOwn hp (thn (T.item X rfl rfl rfl hc i pins s3 σ3 H3 X.xe I3 (stat fr3) st3 go) fun r s4 ⟨u, hr, h4⟩ => ?_)
    subst hr
    refine wpAny_passesOwn hp (thn h4 fun _ s5 ⟨x, H5, I5, r5, y5, st5, fr5⟩ => ?_)
    have I5' := I5.pinned (stat fr5) (T.obj _ _ st5)
    refine wpAny_passesOwn hp (thn (hg _ s5 σ3 H5 x u _ I5' r5 (step x H5 y5)) fun _ s6 ⟨σ6, H6, I6, q6⟩ => ?_)
    refine wpAny_passesOwn hp (thn (hb _ s6 σ6 H6 _ I6 q6) fun f s7 q7 => ?_)
    have again : ∀ {σ7 : St} {H7 : Hp}, Inv X (pins ++ pinsAt fp s5.heap) σ7 H7 s7 → N σ7 H7 → ∃ m, m < n ∧ ∃ i σ' H', Inv X pins σ' H' s7 ∧ tn i s7.heap ∧ (∀ b ∈ fp, H' b = none) ∧ W i m σ' H' := fun {σ7 H7} I7 n7 => by
      obtain ⟨m', hm, w7⟩ := hN σ7 H7 n7
      refine ⟨m', hm, i + 1, σ7, H7, I7.unpinned, T.keep _ _ _ st5 fun b hb o e => (I7.pin (b, o) (List.mem_append_right _ (List.mem_append_right _ (mem_pinsAt hb e)))).1, fun b hb => ?_, w7⟩
      obtain ⟨o, e, d⟩ := T.obj _ _ st5 b hb
      exact (I7.pin (b, o) (List.mem_append_right _ (List.mem_append_right _ (mem_pinsAt hb e)))).2.1
    cases f with
    | next => obtain ⟨σ7, H7, I7, n7⟩ := q7; exact again I7 n7
    | cont => obtain ⟨σ7, H7, I7, n7⟩ := q7; exact again I7 n7
    | brk => obtain ⟨σ7, H7, I7, q7⟩ := q7; exact ⟨σ7, H7, I7.unpinned, q7⟩
    | ret v => obtain ⟨x7, σ7, H7, I7, r7, q7⟩ := q7; exact ⟨x7, σ7, H7, I7.unpinned, r7, q7⟩
end
theorem for_list {K : PySem.W.Frag} {a : Addr} {xs : List V} {g : TG} {tb : TS} {D : Ends} {σ : St} {H : Hp} (Pv : Nat → St → Hp → Prop) (h0 : Pv 0 σ H) (hl : ∀ i σ H, i ≤ xs.length → Pv i σ H → SqL K H a xs)
    (hs : ∀ i x σ H, xs[i]? = some x → Pv i σ H → g x σ H fun σ2 H2 => tb { D with nx := Pv (i + 1), ct := Pv (i + 1), bk := D.nx } σ2 H2) (hd : ∀ σ H, Pv xs.length σ H → D.nx σ H) :
    ∃ W : Nat → Nat → St → Hp → Prop, (∃ m, W 0 m σ H) ∧ ∀ i m σ H, W i m σ H →
      ((Itl K a).stop i H ∧ D.nx σ H) ∨ ((Itl K a).go i H ∧ ∃ N : St → Hp → Prop, (∀ σ' H', N σ' H' → ∃ m', m' < m ∧ W (i + 1) m' σ' H') ∧ ∀ x H', (Itl K a).yld i H x H' → g x σ H' fun σ2 H2 => tb { D with nx := N, ct := N, bk := D.nx } σ2 H2) := by
  refine ⟨fun i m σ H => m = xs.length - i ∧ i ≤ xs.length ∧ Pv i σ H, ⟨xs.length, by simp, Nat.zero_le _, h0⟩, ?_⟩
  rintro i m σ H ⟨rfl, hi, p⟩
  have q := hl i σ H hi p
  by_cases hlt : i < xs.length
  · refine .inr ⟨⟨xs, xs[i], q, by simp [hlt]⟩, Pv (i + 1), fun σ' H' p' => ⟨xs.length - (i + 1), by omega, rfl, hlt, p'⟩, fun x H' y => ?_⟩
    obtain ⟨e, y⟩ := y
    subst e
    exact hs i x σ _ (y xs q) p
  · have e : i = xs.length := by omega
    subst e
    exact .inl ⟨⟨xs, q, Nat.le_refl _⟩, hd σ H p⟩
theorem for_tup {K : PySem.W.Frag} {a : Addr} {xs : List V} {g : TG} {tb : TS} {D : Ends} {σ : St} {H : Hp} (Pv : Nat → St → Hp → Prop) (h0 : Pv 0 σ H) (hl : ∀ i σ H, i ≤ xs.length → Pv i σ H → SqT K H a xs)
    (hs : ∀ i x σ H, xs[i]? = some x → Pv i σ H → g x σ H fun σ2 H2 => tb { D with nx := Pv (i + 1), ct := Pv (i + 1), bk := D.nx } σ2 H2) (hd : ∀ σ H, Pv xs.length σ H → D.nx σ H) :
    ∃ W : Nat → Nat → St → Hp → Prop, (∃ m, W 0 m σ H) ∧ ∀ i m σ H, W i m σ H →
      ((Itt K a).stop i H ∧ D.nx σ H) ∨ ((Itt K a).go i H ∧ ∃ N : St → Hp → Prop, (∀ σ' H', N σ' H' → ∃ m', m' < m ∧ W (i + 1) m' σ' H') ∧ ∀ x H', (Itt K a).yld i H x H' → g x σ H' fun σ2 H2 => tb { D with nx := N, ct := N, bk := D.nx } σ2 H2) := by
  refine ⟨fun i m σ H => m = xs.length - i ∧ i ≤ xs.length ∧ Pv i σ H, ⟨xs.length, by simp, Nat.zero_le _, h0⟩, ?_⟩
  rintro i m σ H ⟨rfl, hi, p⟩
  have q := hl i σ H hi p
  by_cases hlt : i < xs.length
  · refine .inr ⟨⟨xs, xs[i], q, by simp [hlt]⟩, Pv (i + 1), fun σ' H' p' => ⟨xs.length - (i + 1), by omega, rfl, hlt, p'⟩, fun x H' y => ?_⟩
    obtain ⟨e, y⟩ := y
    subst e
    exact hs i x σ _ (y xs q) p
  · have e : i = xs.length := by omega
    subst e
    exact .inl ⟨⟨xs, q, Nat.le_refl _⟩, hd σ H p⟩
theorem for_range {lo : Int} {n : Nat} {g : TG} {tb : TS} {D : Ends} {σ : St} {H : Hp} (Pv : Nat → St → Hp → Prop) (h0 : Pv 0 σ H)
    (hs : ∀ i σ H, i < n → Pv i σ H → g (.int (lo + i)) σ H fun σ2 H2 => tb { D with nx := Pv (i + 1), ct := Pv (i + 1), bk := D.nx } σ2 H2) (hd : ∀ σ H, Pv n σ H → D.nx σ H) :
    ∃ W : Nat → Nat → St → Hp → Prop, (∃ m, W 0 m σ H) ∧ ∀ i m σ H, W i m σ H →
      ((Itr lo n).stop i H ∧ D.nx σ H) ∨ ((Itr lo n).go i H ∧ ∃ N : St → Hp → Prop, (∀ σ' H', N σ' H' → ∃ m', m' < m ∧ W (i + 1) m' σ' H') ∧ ∀ x H', (Itr lo n).yld i H x H' → g x σ H' fun σ2 H2 => tb { D with nx := N, ct := N, bk := D.nx } σ2 H2) := by
  refine ⟨fun i m σ H => m = n - i ∧ i ≤ n ∧ Pv i σ H, ⟨n, by simp, Nat.zero_le _, h0⟩, ?_⟩
  rintro i m σ H ⟨rfl, hi, p⟩
  by_cases hlt : i < n
  · refine .inr ⟨hlt, Pv (i + 1), fun σ' H' p' => ⟨n - (i + 1), by omega, rfl, hlt, p'⟩, fun x H' y => ?_⟩
    obtain ⟨e, y⟩ := y
    subst e y
    exact hs i σ _ hlt p
  · have e : i = n := by omega
    subst e
    exact .inl ⟨Nat.le_refl _, hd σ H p⟩
end L2
namespace L2
open PySem PySem.Spec PyProof.Rows
abbrev R2 := V → V → Hp → VK → Prop
def OpR (X : Cx) (f : Value → Value → Sem Value) (r : R2) : Prop :=
  ∀ (pins : List (Addr × Obj)) (s : Shared) (σ : St) (H : Hp) (x y : V) (v u : Value) (Q : VK), Inv X pins σ H s → RelV x v → RelV y u → r x y H Q →
    wpAny (model X.prog X.w) X.A (f v u) (EP X pins σ Q) X.xe s
def CallR (X : Cx) (f : Value) (r : List V → Hp → VK → Prop) : Prop :=
  ∀ (pins : List (Addr × Obj)) (s : Shared) (σ : St) (H : Hp) (xs : List V) (us : List Value) (Q : VK), Inv X pins σ H s → Vals xs us → r xs H Q →
    wpAny (model X.prog X.w) X.A (call f us) (EP X pins σ Q) X.xe s
def tOp (r : R2) (ta tb : TE) : TE := fun σ H Q => ta σ H fun x H1 => tb σ H1 fun y H2 => r x y H2 Q
def rI (C : Int → Int → Prop) (g : Int → Int → V) : R2 := fun x y H Q => ∃ i j, x = .int i ∧ y = .int j ∧ C i j ∧ Q (g i j) H
def rI0 (g : Int → Int → V) : R2 := fun x y H Q => ∃ i j, x = .int i ∧ y = .int j ∧ Q (g i j) H
section
variable {X : Cx} {a b c : Expr} {ta tb tc : TE} {pos : Pos}
theorem binT (ha : PE X a ta) (hb : PE X b tb) {pins : List (Addr × Obj)} {s : Shared} {σ : St} {H : Hp} {R : V → V → Hp → Prop} (I : Inv X pins σ H s)
    (h : ta σ H fun x H1 => tb σ H1 fun y H2 => R x y H2) {Q : Value → Shared → Prop} {f : Value → Value → Sem Value}
    (hf : ∀ v u s2 x y H2, Inv X pins σ H2 s2 → RelV x v → RelV y u → R x y H2 → wpAny (model X.prog X.w) X.A (f v u) Q X.xe s2) :
    wpAny (model X.prog X.w) X.A (eval a X.env) (fun v s₁ => wpAny (model X.prog X.w) X.A (eval b X.env) (fun u s₂ => wpAny (model X.prog X.w) X.A (f v u) Q X.xe s₂) X.xe s₁) X.xe s := by
  refine thn (ha pins s σ H _ I h) fun v s1 ⟨x, H1, I1, r1, q1⟩ => ?_
  refine thn (hb pins s1 σ H1 _ I1 q1) fun u s2 ⟨y, H2, I2, r2, q2⟩ => ?_
  exact hf v u s2 x y H2 I2 r1 r2 q2
theorem pe_op {op : Operator} {r : R2} (ho : OpR X (binaryOp op) r) (ha : PE X a ta) (hb : PE X b tb) : PE X (.BinOp a op b pos) (tOp r ta tb) := by
  intro pins s σ H Q I h
  exact wpAny_BinOp (binT ha hb I h fun v u s2 x y H2 I2 rx ry q => ho pins s2 σ H2 x y v u Q I2 rx ry q)
theorem opI {f : Value → Value → Sem Value} {C : Int → Int → Prop} {g : Int → Int → Int}
    (rule : ∀ (i j : Int) (t u : Tok) (s : Shared) (Q : Value → Shared → Prop) (E : Value → Shared → Prop), C i j → Q (.int (g i j) s.toks) { s with toks := s.toks + 1 } → wpAny (model X.prog X.w) X.A (f (.int i t) (.int j u)) Q E s) :
    OpR X f (rI C fun i j => .int (g i j)) := by
  intro pins s σ H x y v u Q I rx ry h
  obtain ⟨i, j, rfl, rfl, hc, q⟩ := h
  obtain ⟨t, rfl⟩ := rx
  obtain ⟨t', rfl⟩ := ry
  exact rule i j t t' s _ _ hc ⟨.int (g i j), H, I.tok _, ⟨_, rfl⟩, q⟩
theorem opI0 {f : Value → Value → Sem Value} {g : Int → Int → Int}
    (rule : ∀ (i j : Int) (t u : Tok) (s : Shared) (Q : Value → Shared → Prop) (E : Value → Shared → Prop), Q (.int (g i j) s.toks) { s with toks := s.toks + 1 } → wpAny (model X.prog X.w) X.A (f (.int i t) (.int j u)) Q E s) :
    OpR X f (rI0 fun i j => .int (g i j)) := by
  intro pins s σ H x y v u Q I rx ry h
  obtain ⟨i, j, rfl, rfl, q⟩ := h
  obtain ⟨t, rfl⟩ := rx
  obtain ⟨t', rfl⟩ := ry
  exact rule i j t t' s _ _ ⟨.int (g i j), H, I.tok _, ⟨_, rfl⟩, q⟩
theorem opB0 {f : Value → Value → Sem Value} {g : Int → Int → Bool}
    (rule : ∀ (i j : Int) (t u : Tok) (s : Shared) (Q : Value → Shared → Prop) (E : Value → Shared → Prop), Q (.bool (g i j)) s → wpAny (model X.prog X.w) X.A (f (.int i t) (.int j u)) Q E s) :
    OpR X f (rI0 fun i j => .bl (g i j)) := by
  intro pins s σ H x y v u Q I rx ry h
  obtain ⟨i, j, rfl, rfl, q⟩ := h
  obtain ⟨t, rfl⟩ := rx
  obtain ⟨t', rfl⟩ := ry
  exact rule i j t t' s _ _ ⟨.bl (g i j), H, I, rfl, q⟩
def CDiv (i j : Int) : Prop := 0 < j ∧ j < 1073741824
def CPow (i j : Int) : Prop := 0 ≤ j ∧ j ≤ 1000000 ∧ i.natAbs < 2 ^ 64
def CMul (i j : Int) : Prop := (-(2 ^ 64) < i ∧ i < 2 ^ 64) ∨ (-(2 ^ 64) < j ∧ j < 2 ^ 64)
theorem CMul.ok {i j : Int} (h : CMul i j) : IntMulOk i j := by
  rcases h with ⟨h1, h2⟩ | ⟨h1, h2⟩
  · exact .of_left (intBits_le_64 h1 h2)
  · exact .of_right (intBits_le_64 h1 h2)
theorem op_add : OpR X (binaryOp .Add) (rI0 fun i j => .int (i + j)) := opI0 fun _ _ _ _ _ _ _ q => add_int q
theorem op_sub : OpR X (binaryOp .Sub) (rI0 fun i j => .int (i - j)) := opI0 fun _ _ _ _ _ _ _ q => sub_int q
theorem op_mul : OpR X (binaryOp .Mult) (rI CMul fun i j => .int (i * j)) := opI fun _ _ _ _ _ _ _ hc q => mul_int q hc.ok
theorem op_fdiv : OpR X (binaryOp .FloorDiv) (rI CDiv fun i j => .int (i / j)) := opI fun i j _ _ _ _ _ hc q => by
  have h1 : (0 : Int) < j := hc.1
  have h2 : j < 1073741824 := hc.2
  exact floordiv_int (by omega) (by rw [Int.fdiv_eq_ediv_of_nonneg i (by omega)]; exact q) (.inl (PyProof.noPylong_small (by omega)))
theorem op_mod : OpR X (binaryOp .Mod) (rI (fun _ j => 0 < j) fun i j => .int (i % j)) := opI fun i j _ _ _ _ _ hc q => by
  have h1 : (0 : Int) < j := hc
  exact mod_int' (by omega) (by rw [Int.fmod_eq_emod_of_nonneg i (by omega)]; exact q)
theorem op_pow : OpR X (binaryOp .Pow) (rI CPow fun i j => .int (i ^ j.toNat)) := opI fun _ _ _ _ _ _ _ hc q => pow_int_small hc.1 hc.2.1 hc.2.2 q
end
def scal : V → V → Bool
  | .non, .non => true | .non, .int _ => true | .int _, .non => true | .non, .bl _ => true | .bl _, .non => true | .non, .str _ => true | .str _, .non => true
  | .int _, .int _ => true | .bl _, .bl _ => true | .str _, .str _ => true | .byt _, .byt _ => true
  | .int _, .str _ => true | .str _, .int _ => true | .bl _, .str _ => true | .str _, .bl _ => true
  | _, _ => false
def rEq : R2 := fun x y H Q => scal x y = true ∧ Q (.bl (decide (x = y))) H
def rNe : R2 := fun x y H Q => scal x y = true ∧ Q (.bl (!decide (x = y))) H
theorem dec_int {i j : Int} : decide (V.int i = V.int j) = (i == j) := by
  rw [Bool.eq_iff_iff]
  simp
theorem dec_bl {i j : Bool} : decide (V.bl i = V.bl j) = (i == j) := by
  rw [Bool.eq_iff_iff]
  simp
theorem dec_str {i j : Str} : decide (V.str i = V.str j) = (i == j) := by
  rw [Bool.eq_iff_iff]
  simp
theorem dec_byt {i j : Array UInt8} : decide (V.byt i = V.byt j) = (i.toList == j.toList) := by
  rw [Bool.eq_iff_iff]
  cases i
  cases j
  simp
section
variable {X : Cx} {a b c : Expr} {ta tb tc : TE} {pos : Pos}
theorem fin_bl {pins : List (Addr × Obj)} {σ : St} {H : Hp} {s : Shared} {Q : VK} {k k' : Bool} (I : Inv X pins σ H s) (q : Q (.bl k) H) (e : k = k') : EP X pins σ Q (.bool k') s := by
  subst e
  exact ⟨.bl k, H, I, rfl, q⟩
theorem op_eq : OpR X (compareOp .Eq) rEq := by
  intro pins s σ H x y v u Q I rx ry h
  obtain ⟨hs, q⟩ := h
  cases x with
  | non =>
    cases rx
    cases y with
    | non => cases ry; exact PySem.EqNone.eq_none_none (fin_bl I q (by simp))
    | bl j => cases ry; exact PySem.EqNone.eq_none_bool (fin_bl I q (by simp))
    | int j => obtain ⟨t', rfl⟩ := ry; exact PySem.EqNone.eq_none_int (fin_bl I q (by simp))
    | str j => obtain ⟨t', rfl⟩ := ry; exact PySem.EqNone.eq_none_str (fin_bl I q (by simp))
    | _ => exact absurd (show false = true from hs) Bool.false_ne_true
  | bl i =>
    cases rx
    cases y with
    | non => cases ry; exact PySem.EqNone.eq_bool_none (fin_bl I q (by simp))
    | bl j => cases ry; exact eq_bool (fin_bl I q dec_bl)
    | str j => obtain ⟨t', rfl⟩ := ry; exact PySem.EqMixed.eq_bool_str (fin_bl I q (by simp))
    | _ => exact absurd (show false = true from hs) Bool.false_ne_true
  | int i =>
    obtain ⟨t, rfl⟩ := rx
    cases y with
    | non => cases ry; exact PySem.EqNone.eq_int_none (fin_bl I q (by simp))
    | int j => obtain ⟨t', rfl⟩ := ry; exact eq_int (fin_bl I q dec_int)
    | str j => obtain ⟨t', rfl⟩ := ry; exact PySem.EqMixed.eq_int_str (fin_bl I q (by simp))
    | _ => exact absurd (show false = true from hs) Bool.false_ne_true
  | str i =>
    obtain ⟨t, rfl⟩ := rx
    cases y with
    | non => cases ry; exact PySem.EqNone.eq_str_none (fin_bl I q (by simp))
    | bl j => cases ry; exact PySem.EqMixed.eq_str_bool (fin_bl I q (by simp))
    | int j => obtain ⟨t', rfl⟩ := ry; exact PySem.EqMixed.eq_str_int (fin_bl I q (by simp))
    | str j => obtain ⟨t', rfl⟩ := ry; exact eq_str (fin_bl I q dec_str)
    | _ => exact absurd (show false = true from hs) Bool.false_ne_true
  | byt i =>
    obtain ⟨t, rfl⟩ := rx
    cases y with
    | byt j => obtain ⟨t', rfl⟩ := ry; exact PySem.W.eq_bytes (fin_bl I q dec_byt)
    | _ => exact absurd (show false = true from hs) Bool.false_ne_true
  | _ => cases y <;> exact absurd (show false = true from hs) Bool.false_ne_true
theorem op_ne : OpR X (compareOp .NotEq) rNe := by
  intro pins s σ H x y v u Q I rx ry h
  obtain ⟨hs, q⟩ := h
  cases x with
  | non =>
    cases rx
    cases y with
    | non => cases ry; exact PySem.EqNone.ne_none_none (fin_bl I q (by simp))
    | bl j => cases ry; exact PySem.EqNone.ne_none_bool (fin_bl I q (by simp))
    | int j => obtain ⟨t', rfl⟩ := ry; exact PySem.EqNone.ne_none_int (fin_bl I q (by simp))
    | str j => obtain ⟨t', rfl⟩ := ry; exact PySem.EqNone.ne_none_str (fin_bl I q (by simp))
    | _ => exact absurd (show false = true from hs) Bool.false_ne_true
  | bl i =>
    cases rx
    cases y with
    | non => cases ry; exact PySem.EqNone.ne_bool_none (fin_bl I q (by simp))
    | bl j => cases ry; exact ne_bool (fin_bl I q (congrArg not dec_bl))
    | str j => obtain ⟨t', rfl⟩ := ry; exact PySem.EqMixed.ne_bool_str (fin_bl I q (by simp))
    | _ => exact absurd (show false = true from hs) Bool.false_ne_true
  | int i =>
    obtain ⟨t, rfl⟩ := rx
    cases y with
    | non => cases ry; exact PySem.EqNone.ne_int_none (fin_bl I q (by simp))
    | int j => obtain ⟨t', rfl⟩ := ry; exact ne_int (fin_bl I q (congrArg not dec_int))
    | str j => obtain ⟨t', rfl⟩ := ry; exact PySem.EqMixed.ne_int_str (fin_bl I q (by simp))
    | _ => exact absurd (show false = true from hs) Bool.false_ne_true
  | str i =>
    obtain ⟨t, rfl⟩ := rx
    cases y with
    | non => cases ry; exact PySem.EqNone.ne_str_none (fin_bl I q (by simp))
    | bl j => cases ry; exact PySem.EqMixed.ne_str_bool (fin_bl I q (by simp))
    | int j => obtain ⟨t', rfl⟩ := ry; exact PySem.EqMixed.ne_str_int (fin_bl I q (by simp))
    | str j => obtain ⟨t', rfl⟩ := ry; exact ne_str (fin_bl I q (congrArg not dec_str))
    | _ => exact absurd (show false = true from hs) Bool.false_ne_true
  | byt i =>
    obtain ⟨t, rfl⟩ := rx
    cases y with
    | byt j => obtain ⟨t', rfl⟩ := ry; exact PySem.W.ne_bytes (fin_bl I q (congrArg not dec_byt))
    | _ => exact absurd (show false = true from hs) Bool.false_ne_true
  | _ => cases y <;> exact absurd (show false = true from hs) Bool.false_ne_true
theorem op_lt : OpR X (compareOp .Lt) (rI0 fun i j => .bl (decide (i < j))) := opB0 fun _ _ _ _ _ _ _ q => lt_int q
theorem op_gt : OpR X (compareOp .Gt) (rI0 fun i j => .bl (decide (j < i))) := opB0 fun _ _ _ _ _ _ _ q => gt_int q
theorem op_in_str : OpR X (compareOp .In) (fun x y H Q => ∃ i j, x = .str i ∧ y = .str j ∧ Q (.bl (!(Builtin.Str.occurrences j i 0 j.length 1).isEmpty)) H) := by
  intro pins s σ H x y v u Q I rx ry h
  obtain ⟨i, j, rfl, rfl, q⟩ := h
  obtain ⟨t, rfl⟩ := rx
  obtain ⟨t', rfl⟩ := ry
  exact in_str (fin_bl I q rfl)
theorem op_isN : OpR X (compareOp .Is) (fun x y H Q => y = .non ∧ Q (.bl (decide (x = .non))) H) := by
  intro pins s σ H x y v u Q I rx ry h
  obtain ⟨rfl, q⟩ := h
  cases ry
  refine is_none_gen (fin_bl I q ?_)
  cases x <;> first
    | (cases rx; rfl)
    | (obtain ⟨t, rfl⟩ := rx; rfl)
theorem nomark (b : Expr) {op : CmpOp} (h : op ≠ .In := by decide) (h2 : op ≠ .NotIn := by decide) : behindInMarks op b = false := by
  have e1 : (op == CmpOp.In) = false := by cases op <;> first | rfl | exact absurd rfl h
  have e2 : (op == CmpOp.NotIn) = false := by cases op <;> first | rfl | exact absurd rfl h2
  cases b <;> simp [behindInMarks, e1, e2]
theorem pe_cmpR {op : CmpOp} {r : R2} (ho : OpR X (compareOp op) r) (ha : PE X a ta) (hb : PE X b tb) (hm : behindInMarks op b = false) : PE X (.Compare a [op] [b] pos) (tOp r ta tb) := by
  intro pins s σ H Q I h
  exact wpAny_Compare1 (binT ha hb I h fun v u s2 x y H2 I2 rx ry q => ho pins s2 σ H2 x y v u Q I2 rx ry q) hm
def tTest (t : TE) : TT := fun σ H Q => t σ H fun x H' => ∃ k, x = .bl k ∧ Q k H'
theorem pt_cmpR {op : CmpOp} {r : R2} (ho : OpR X (compareOp op) r) (ha : PE X a ta) (hb : PE X b tb) (hm : behindInMarks op b = false) : PT X (.Compare a [op] [b] pos) (tTest (tOp r ta tb)) := by
  intro pins s σ H Q I h
  refine wpAny_isTrue_Compare1 (thn (ha pins s σ H _ I h) fun v s1 ⟨x, H1, I1, r1, q1⟩ => thn (hb pins s1 σ H1 _ I1 q1) fun u s2 ⟨y, H2, I2, r2, q2⟩ =>
    thn (ho pins s2 σ H2 x y v u _ I2 r1 r2 q2) fun c s3 ⟨z, H3, I3, r3, k, e, q3⟩ => ?_) hm
  subst e
  cases r3
  exact wpAny_truthy_bool ⟨H3, I3, q3⟩
theorem line63 : (sizeLine : Nat) < 2 ^ 63 := by rw [sizeLine_eq]; decide
theorem op_add_str : OpR X (binaryOp .Add) (fun x y H Q => ∃ i j, x = .str i ∧ y = .str j ∧ i.length + j.length ≤ sizeLine ∧ Q (.str (i ++ j)) H) := by
  intro pins s σ H x y v u Q I rx ry h
  obtain ⟨i, j, rfl, rfl, hz, q⟩ := h
  obtain ⟨t, rfl⟩ := rx
  obtain ⟨t', rfl⟩ := ry
  exact add_str (fun t' tk => ⟨.str (i ++ j), H, I.tok _, ⟨_, rfl⟩, q⟩) hz
theorem vals1 {x : V} {us : List Value} (r : Vals [x] us) : ∃ u, us = [u] ∧ RelV x u := by
  cases r with
  | cons r1 r2 => cases r2; exact ⟨_, rfl, r1⟩
theorem vals2 {x y : V} {us : List Value} (r : Vals [x, y] us) : ∃ u w', us = [u, w'] ∧ RelV x u ∧ RelV y w' := by
  cases r with
  | cons r1 r2 =>
    cases r2 with
    | cons r3 r4 => cases r4; exact ⟨_, _, rfl, r1, r3⟩
theorem call_int1 : CallR X (.type "int") (fun xs H Q => (∃ i, xs = [.int i] ∧ Q (.int i) H) ∨ ∃ k, xs = [.bl k] ∧ Q (.int (if k then 1 else 0)) H) := by
  intro pins s σ H xs us Q I r h
  rcases h with ⟨i, rfl, q⟩ | ⟨k, rfl, q⟩
  · obtain ⟨u, rfl, t, rfl⟩ := vals1 r
    exact call_int_int ⟨.int i, H, I, ⟨_, rfl⟩, q⟩
  · obtain ⟨u, rfl, r1⟩ := vals1 r
    cases r1
    exact call_int_bool ⟨.int (if k then 1 else 0), H, I.tok _, ⟨_, rfl⟩, q⟩
theorem call_str_int : CallR X (.type "str") (fun xs H Q => ∃ i, xs = [.int i] ∧ i.natAbs.log2 < 1920 ∧ Q (.str (toString i)) H) := by
  intro pins s σ H xs us Q I r h
  obtain ⟨i, rfl, hz, q⟩ := h
  obtain ⟨u, rfl, t, rfl⟩ := vals1 r
  exact PySem.P.str_of_int hz ⟨.str _, H, I.tok _, ⟨_, rfl⟩, q⟩
end
end L2
namespace L2
open PySem PySem.Spec PyProof.Rows
structure ObjM (h : Heap) (x dx C : Addr) (mA : Str → Option Value) : Prop where
  obj : h.get? x = some (PySem.W.instObj C dx)
  ns : h.Ns1 dx mA
  ne : dx ≠ x
theorem lookIn_ns {h : Heap} {dx : Addr} {mA : Str → Option Value} (n : h.Ns1 dx mA) : ∃ od, h.get? dx = some od ∧ ∀ name, PySem.W.lookIn name od = some (mA name) := by
  obtain ⟨o, es, ep, ho, hd, hk, _, hm⟩ := n
  refine ⟨o, ho, fun name => ?_⟩
  have e := hm name
  unfold nsFind findBy at e
  rw [← Array.find?_toList] at e
  unfold PySem.W.lookIn
  rw [hd]
  dsimp only
  split
  · rename_i y q
    rw [q] at e
    exact congrArg some e
  · rename_i q
    rw [q] at e
    have a : es.toList.any (·.refKey) = false := by
      rw [List.any_eq_false]
      intro y hy
      obtain ⟨z, t, hkey⟩ := hk y (Array.mem_toList_iff.mp hy)
      simp [DictEntry.refKey, hkey]
    have a' : ¬ es.toList.any (·.refKey) = true := by rw [a]; exact Bool.false_ne_true
    rw [if_neg a']
    exact congrArg some e
theorem ObjM.look {h : Heap} {x dx C : Addr} {mA : Str → Option Value} (I : ObjM h x dx C mA) : ∃ od, PySem.W.InstAt h x (PySem.W.instObj C dx) C (some od) ∧ ∀ name, PySem.W.lookIn name od = some (mA name) :=
  let ⟨od, ho, hl⟩ := lookIn_ns I.ns
  ⟨od, ⟨I.obj, rfl, rfl, ho⟩, hl⟩
section
variable {prog : Program} {w : World} {A : Around} {E : Value → Shared → Prop} {s : Shared} {K : PySem.W.Frag} {x dx C f : Addr} {mA : Str → Option Value} {name : Str} {v : Value}
theorem get_map {expr : Bool} {Q : Value → Shared → Prop} (X : K.In s.heap) (I : ObjM s.heap x dx C mA) (hg : PySem.W.plainGet K C name = true) (hh : PySem.W.hasDictIn K C = true)
    (ha : PySem.W.findIn K (.ref C) name = some none) (hv : mA name = some v) (hv' : PySem.W.handedIn v = true) (h : Q v { s with toks := s.toks + 1 }) :
    wpAny (model prog w) A (getAttr (.ref x) name expr) Q E s := by
  obtain ⟨od, J, hl⟩ := I.look
  exact PySem.W.get_value X J (PySem.W.plainGet_of hg).1 (PySem.W.findObj_own hh ha rfl (by rw [hl, hv])) hv' h
theorem get_meth {pl : Sem Bool} {Q : Value × List Value → Shared → Prop} (X : K.In s.heap) (I : ObjM s.heap x dx C mA) (hg : PySem.W.plainGet K C name = true)
    (hf : PySem.W.findIn K (.ref C) name = some (some (.ref f))) (ht : PySem.W.isFn K (.ref f) = true) (hv : mA name = none) (h : Q (.ref f, [.ref x]) s) :
    wpAny (model prog w) A (getMethod (.ref x) name pl) Q E s := by
  obtain ⟨od, J, hl⟩ := I.look
  exact PySem.W.method_fn X J (PySem.W.plainGet_of hg).1 (PySem.W.plainGet_of hg).2 hf (beq_iff_eq.mp ht) (by show (PySem.W.lookIn name od).map (·.isSome) = some false; rw [hl, hv]; rfl) h
theorem set_map {ns : List Str} {Q : Unit → Shared → Prop} (X : K.In s.heap) (I : ObjM s.heap x dx C mA)
    (hs : PySem.W.findIn K (.ref C) "__setattr__" = some (some (.builtin "object.__setattr__"))) (hp : PySem.W.plainOver K C = true) (ht : PySem.W.takerIn K C name = some none) (hh : PySem.W.hasDictIn K C = true)
    (hw : PySem.Within mA ns) (hsz : ns.length ≤ sizeLine)
    (h : ∀ h', ObjM h' x dx C (fun y => if y = name then some v else mA y) → Heap.SameBut dx s.heap h' → Q () { s with heap := h', toks := s.toks + 2 }) :
    wpAny (model prog w) A (setAttr (.ref x) name v) Q E s := by
  obtain ⟨od, J, hl⟩ := I.look
  refine PySem.W.set_plain X J hs (PySem.W.osa_open (s := { s with toks := s.toks + 1 }) (r := none) X J hp ht fun b => ?_)
  obtain ⟨cd, hc, hd'⟩ := PySem.W.any_some hh
  have hx : s.heap.get? x = some ⟨.ref C, some dx, .plain, #[]⟩ := I.obj
  refine wpAny_bind (wpAny_pure (wpAny_bind (wpAny_bind (wpAny_loadPart hx (wpAny_bind (PySem.W.Looks.here (s := { s with toks := s.toks + 1 }) (PySem.W.looks_clsIn X hc) ?_))))))
  rw [hd']
  refine wpAny_pure (a := some dx) (wpAny_bind (wpAny_pure (wpAny_bind ?_)))
  refine wpAny_nsSet1 (s := { s with toks := s.toks + 1 }) I.ns fun h' hn2 hs2 => ?_
  obtain ⟨oD, esD, epD, hoD, hdD, hcD⟩ := hn2.count (PySem.Within.cons name v hw)
  refine wpAny_bind (wpAny_lookBehind hoD (by rw [hdD]; exact pastItsLine_dict (Nat.le_trans hcD (by rw [List.length_cons]; omega))) ?_)
  exact wpAny_pure (h _ ⟨(hs2.2 _ (Ne.symm I.ne)).trans I.obj, hn2, I.ne⟩ hs2)
theorem make_map {R : Result → Shared → Prop} {vs : List Value} {kw : List (Str × Value)} (X : K.In s.heap) (hm : PySem.W.makesIn K C = true)
    (hi : PySem.W.findIn K (.ref C) "__init__" = some (some (.ref f))) (hf : PySem.W.typeIn K (.ref f) = some (.type "function"))
    (h : codeAny (model prog w) (A.under (.builtin "type.__call__" ⟨.ref C :: vs, kw⟩)) (.call (.ref f) ⟨.ref (s.heap.objs.size + 1) :: vs, kw⟩) (PySem.W.InitBack (s.heap.objs.size + 1) R)
      { s with heap := (s.heap.push PySem.W.emptyDict).push (PySem.W.instObj C s.heap.objs.size) }) :
    codeAny (model prog w) A (.call (.ref C) ⟨vs, kw⟩) R s := by
  obtain ⟨hh, g, d, t, os⟩ := s
  exact PySem.W.make_core (PySem.W.makes_of X hm) (PySem.W.looks_findIn X hi) (fun self => PySem.W.bind_fn X self hf) (.inl rfl) h
end
def putF (f : Str) (v : V) : List (Str × V) → List (Str × V)
  | [] => [(f, v)]
  | (g, x) :: r => if g = f then (g, v) :: r else (g, x) :: putF f v r
theorem lookup_putF (f g : Str) (v : V) : ∀ fs : List (Str × V), (putF f v fs).lookup g = if g = f then some v else fs.lookup g
  | [] => by
    show List.lookup g [(f, v)] = _
    by_cases h : g = f
    · have hb : (g == f) = true := beq_iff_eq.mpr h
      simp only [List.lookup, hb, if_pos h]
    · have hb : (g == f) = false := beq_eq_false_iff_ne.mpr h
      simp only [List.lookup, hb, if_neg h]
  | (k, x) :: r => by
    have ih := lookup_putF f g v r
    rw [show putF f v ((k, x) :: r) = (if k = f then (k, v) :: r else (k, x) :: putF f v r) from rfl]
    by_cases hk : k = f
    · rw [if_pos hk]
      by_cases h : g = k
      · have hb : (g == k) = true := beq_iff_eq.mpr h
        simp only [List.lookup, hb, if_pos (h.trans hk)]
      · have hb : (g == k) = false := beq_eq_false_iff_ne.mpr h
        simp only [List.lookup, hb, if_neg (fun e : g = f => h (e.trans hk.symm))]
    · rw [if_neg hk]
      by_cases h : g = k
      · have hb : (g == k) = true := beq_iff_eq.mpr h
        simp only [List.lookup, hb, if_neg (fun e : g = f => hk (h.symm.trans e))]
      · have hb : (g == k) = false := beq_eq_false_iff_ne.mpr h
        simp only [List.lookup, hb]
        exact ih
theorem keys_putF (f : Str) (v : V) : ∀ fs : List (Str × V), f ∈ (putF f v fs).map (·.1) ∧ ∀ g, g ∈ fs.map (·.1) → g ∈ (putF f v fs).map (·.1)
  | [] => ⟨by simp [putF], fun g h => by simp at h⟩
  | (k, x) :: r => by
    obtain ⟨i1, i2⟩ := keys_putF f v r
    rw [show putF f v ((k, x) :: r) = (if k = f then (k, v) :: r else (k, x) :: putF f v r) from rfl]
    by_cases hk : k = f
    · rw [if_pos hk]
      subst hk
      exact ⟨by simp, fun g h => by simpa using h⟩
    · rw [if_neg hk]
      refine ⟨?_, fun g h => ?_⟩
      · rw [List.map_cons]
        exact List.mem_cons_of_mem _ i1
      · rw [List.map_cons] at h ⊢
        rcases List.mem_cons.mp h with e | e
        · exact List.mem_cons.mpr (.inl e)
        · exact List.mem_cons_of_mem _ (i2 g e)
theorem length_putF (f : Str) (v : V) : ∀ fs : List (Str × V), (putF f v fs).length ≤ fs.length + 1
  | [] => by simp [putF]
  | (k, x) :: r => by
    have ih := length_putF f v r
    rw [show putF f v ((k, x) :: r) = (if k = f then (k, v) :: r else (k, x) :: putF f v r) from rfl]
    by_cases hk : k = f
    · rw [if_pos hk, List.length_cons, List.length_cons]; omega
    · rw [if_neg hk, List.length_cons, List.length_cons]; omega
theorem RelO.some_of {v : V} {o : Option Value} (r : RelO (some v) o) : ∃ u, o = some u ∧ RelV v u := by
  cases o with
  | none => exact (show False from r).elim
  | some u => exact ⟨u, rfl, r⟩
theorem RelO.none_of {o : Option Value} (r : RelO none o) : o = none := by
  cases o with
  | none => rfl
  | some u => exact (show False from r).elim
theorem handed_of {v : V} {u : Value} (r : RelV v u) : PySem.W.handedIn u = true := by
  cases v with
  | non => cases (show u = Value.none from r); rfl
  | bl b => cases (show u = Value.bool b from r); rfl
  | int i => obtain ⟨t, e⟩ := (show ∃ t, u = Value.int i t from r); cases e; rfl
  | str x => obtain ⟨t, e⟩ := (show ∃ t, u = Value.str x t from r); cases e; rfl
  | byt b => obtain ⟨t, e⟩ := (show ∃ t, u = Value.bytes b t from r); cases e; rfl
  | flt b => obtain ⟨t, e⟩ := (show ∃ t, u = Value.float b t from r); cases e; rfl
  | ref a => cases (show u = Value.ref a from r); rfl
  | ty n => cases (show u = Value.type n from r); rfl
section
variable {P : Program} {w : World} {H H' : Hp} {h h' : Heap} {a C dx : Addr} {fs fs' : List (Str × V)}
theorem ins_get (hok : HOk P w H h) (e : H a = some (.ins C dx fs)) : ∃ mA, ObjM h a dx C mA ∧ (∀ f, RelO (fs.lookup f) (mA f)) ∧ PySem.Within mA (fs.map (·.1)) ∧ fs.length ≤ 1000 ∧ H dx = some (.own a) := by
  obtain ⟨d, z, ne, ob, mA, n, r, q⟩ := (show ObjOk P w H h a (.ins C dx fs) from hok a _ e)
  exact ⟨mA, ⟨ob, n, ne⟩, r, q, z, d⟩
end
structure Cls (K : PySem.W.Frag) (C : Addr) : Prop where
  pg : PySem.W.plainGet K C Str.empty = true
  hd : PySem.W.hasDictIn K C = true
  po : PySem.W.plainOver K C = true
  sa : PySem.W.findIn K (.ref C) "__setattr__" = some (some (.builtin "object.__setattr__"))
theorem Cls.get {K : PySem.W.Frag} {C : Addr} (c : Cls K C) (f : Str) : PySem.W.plainGet K C f = true := c.pg
def NoAttr (K : PySem.W.Frag) (C : Addr) (f : Str) : Prop := PySem.W.findIn K (.ref C) f = some none
theorem NoAttr.taker {K : PySem.W.Frag} {C : Addr} {f : Str} (n : NoAttr K C f) : PySem.W.takerIn K C f = some none := by
  unfold PySem.W.takerIn
  rw [show PySem.W.findIn K (.ref C) f = some none from n]
  rfl
structure Meth (K : PySem.W.Frag) (C : Addr) (m : Str) (f : Addr) : Prop where
  at_ : PySem.W.findIn K (.ref C) m = some (some (.ref f))
  fn : PySem.W.isFn K (.ref f) = true
  kp : PySem.W.keepIn K (.ref f) = true
section
variable {X : Cx} {pins : List (Addr × Obj)} {σ : St} {H : Hp} {s : Shared} {a C dx : Addr} {fs : List (Str × V)} {f : Str} {v : V} {A : Around} {E : Value → Shared → Prop}
theorem getattr_ok {b : Bool} {Q : Value → Shared → Prop} (I : Inv X pins σ H s) (e : H a = some (.ins C dx fs)) (c : Cls X.K C) (n : NoAttr X.K C f) (l : fs.lookup f = some v)
    (h : ∀ u s', Inv X pins σ H s' → RelV v u → Q u s') : wpAny (model X.prog X.w) A (getAttr (.ref a) f b) Q E s := by
  obtain ⟨mA, O, r, _, _, _⟩ := ins_get I.hok e
  obtain ⟨u, hu, ru⟩ := RelO.some_of (v := v) (o := mA f) (by rw [← l]; exact r f)
  exact get_map I.kIn O (c.get f) c.hd n hu (handed_of ru) (h u _ (I.tok _) ru)
theorem getmeth_ok {m : Str} {g : Addr} {pl : Sem Bool} {Q : Value × List Value → Shared → Prop} (I : Inv X pins σ H s) (e : H a = some (.ins C dx fs)) (c : Cls X.K C) (k : Meth X.K C m g) (l : fs.lookup m = none)
    (h : Q (.ref g, [.ref a]) s) : wpAny (model X.prog X.w) A (getMethod (.ref a) m pl) Q E s := by
  obtain ⟨mA, O, r, _, _, _⟩ := ins_get I.hok e
  have hn : mA m = none := RelO.none_of (by rw [← l]; exact r m)
  exact get_meth I.kIn O (c.get m) k.at_ k.fn hn h
theorem setattr_ok {y : V} {u : Value} {Q : Unit → Shared → Prop} (I : Inv X pins σ H s) (e : H a = some (.ins C dx fs)) (c : Cls X.K C) (n : NoAttr X.K C f) (hl : fs.length < 1000) (ry : RelV y u)
    (h : ∀ s', Inv X pins σ (upd H a (.ins C dx (putF f y fs))) s' → Q () s') : wpAny (model X.prog X.w) A (setAttr (.ref a) f u) Q E s := by
  obtain ⟨mA, O, r, wi, _, ho⟩ := ins_get I.hok e
  have hz : (fs.map (·.1)).length ≤ sizeLine := by rw [List.length_map, sizeLine_eq]; omega
  refine set_map I.kIn O c.sa c.po n.taker c.hd wi hz fun h' O' sb => h _ ?_
  have hd : ∃ o, h'.get? dx = some o := let ⟨o, _, _, e', _⟩ := O'.ns; ⟨o, e'⟩
  refine I.write (x := a) (e := dx) (by rw [e]; exact True.intro) (.inr ho) (fun b q hb z => (sb.2 b hb).trans z) hd ?_
  refine ⟨by rw [upd_ne O.ne]; exact ho, ?_, O.ne, O'.obj, _, O'.ns, fun g => ?_, fun g hg => ?_⟩
  · have := length_putF f y fs; omega
  · show RelO ((putF f y fs).lookup g) (if g = f then some u else mA g)
    rw [lookup_putF]
    by_cases q : g = f
    · rw [if_pos q, if_pos q]; exact ry
    · rw [if_neg q, if_neg q]; exact r g
  · by_cases q : g = f
    · rw [q]; exact (keys_putF f y fs).1
    · refine (keys_putF f y fs).2 g (wi g fun z => hg ?_)
      show (if g = f then some u else mA g) = none
      rw [if_neg q]; exact z
theorem Inv.made (I : Inv X pins σ H s) : Inv X pins σ (upd (upd H s.heap.objs.size (.own (s.heap.objs.size + 1))) (s.heap.objs.size + 1) (.ins C s.heap.objs.size []))
    { s with heap := (s.heap.push PySem.W.emptyDict).push (PySem.W.instObj C s.heap.objs.size) } := by
  have e1 : (s.heap.push PySem.W.emptyDict).get? s.heap.objs.size = some PySem.W.emptyDict := Heap.get?_push_size s.heap rfl
  have e2 : ((s.heap.push PySem.W.emptyDict).push (PySem.W.instObj C s.heap.objs.size)).get? (s.heap.objs.size + 1) = some (PySem.W.instObj C s.heap.objs.size) := by
    have := Heap.get?_push_size (s.heap.push PySem.W.emptyDict) (o := PySem.W.instObj C s.heap.objs.size) rfl
    rwa [Heap.size_push] at this
  have e3 : (s.heap.push PySem.W.emptyDict).Ns s.heap.objs.size (fun _ => none) := ⟨PySem.W.emptyDict, #[], _, e1, rfl, (fun e he => absurd he (by simp)), fun _ => rfl⟩
  have I1 := I.laid (a := s.heap.objs.size) (o := .own (s.heap.objs.size + 1)) (h' := s.heap.push PySem.W.emptyDict) (t' := s.toks) (fun b u q => Heap.get?_push_of_some _ q) (Nat.le_refl _) ⟨_, e1⟩
  refine I1.laid (a := s.heap.objs.size + 1) (o := .ins C s.heap.objs.size []) (t' := s.toks) (fun b u q => Heap.get?_push_of_some _ q) (Nat.le_of_eq (Heap.size_push _ _)) ?_
  have ne : s.heap.objs.size ≠ s.heap.objs.size + 1 := Nat.ne_of_lt (Nat.lt_succ_self _)
  refine ⟨by rw [upd_ne ne, upd_same], Nat.zero_le _, ne, e2, fun _ => none, (Heap.Ns1.of_empty e3).at fun o q => Heap.get?_push_of_some _ q, fun _ => True.intro, fun y hy => absurd rfl hy⟩
theorem attr_of {prog : Program} {w : World} {env : Env} {e : Expr} {f : Str} {pos : Pos} {s : Shared} {Q : Value → Shared → Prop} (hb : attributeBase e f env (eval e env) = eval e env)
    (h : wpAny (model prog w) A (eval e env) (fun o s₁ => wpAny (model prog w) A (getAttr o f true) Q E s₁) E s) : wpAny (model prog w) A (eval (.Attribute e f pos) env) Q E s :=
  Attribute_any_ h (by rw [arm_eval_Attribute, hb])
end
def tFld (K : PySem.W.Frag) (ta : TE) (f : Str) : TE := fun σ H Q => ta σ H fun x H1 => ∃ a C dx fs v, x = .ref a ∧ H1 a = some (.ins C dx fs) ∧ Cls K C ∧ NoAttr K C f ∧ fs.lookup f = some v ∧ Q v H1
def sFld (K : PySem.W.Frag) (ta tv : TE) (f : Str) : TS := fun D σ H => tv σ H fun y H1 => ta σ H1 fun x H2 => ∃ a C dx fs, x = .ref a ∧ H2 a = some (.ins C dx fs) ∧ Cls K C ∧ NoAttr K C f ∧ fs.length < 1000 ∧
  D.nx σ (upd H2 a (.ins C dx (putF f y fs)))
def InOp (X : Cx) (op : Operator) (rd : V → V → Hp → VK → Prop) : Prop :=
  ∀ (pins : List (Addr × Obj)) (s : Shared) (σ : St) (H : Hp) (x y : V) (u v : Value) (Q : VK), Inv X pins σ H s → RelV x u → RelV y v → rd x y H Q → wpAny (model X.prog X.w) X.A (inplaceOp op u v) (EP X pins σ Q) X.xe s
def sFldAug (K : PySem.W.Frag) (ta tv : TE) (rd : V → V → Hp → VK → Prop) (f : Str) : TS := fun D σ H => ta σ H fun x H1 => ∃ a C dx fs v, x = .ref a ∧ H1 a = some (.ins C dx fs) ∧ Cls K C ∧ NoAttr K C f ∧ fs.lookup f = some v ∧
  tv σ H1 fun y H2 => rd v y H2 fun z H3 => ∃ dx' fs', H3 a = some (.ins C dx' fs') ∧ fs'.length < 1000 ∧ D.nx σ (upd H3 a (.ins C dx' (putF f z fs')))
section
variable {X : Cx} {o e value : Expr} {f : Str} {pos pos' tpos : Pos} {ta tv : TE}
theorem pe_fld (he : PE X e ta) (hb : attributeBase e f X.env (eval e X.env) = eval e X.env) : PE X (.Attribute e f pos) (tFld X.K ta f) := by
  intro pins s σ H Q I h
  refine attr_of hb (thn (he pins s σ H _ I h) fun u s1 ⟨x, H1, I1, rx, a, C, dx, fs, v, ex, ea, c, n, l, q⟩ => ?_)
  subst ex
  obtain rfl : u = Value.ref a := rx
  exact getattr_ok I1 ea c n l fun u' s2 I2 ru => ⟨v, H1, I2, ru, q⟩
theorem ps_fld (ha : PE X o ta) (hv : PE X value tv) (hs : swapsWith value (some (.Attribute o f pos')) pos.line X.env = pure false) : PS X (.Assign [.Attribute o f pos'] value pos) (sFld X.K ta tv f) := by
  intro pins s σ H D I h
  refine plainObj_wpAny_Assign_Attribute (thn (hv pins s σ H _ I h) fun u s1 ⟨y, H1, I1, ry, q⟩ => thn (ha pins s1 σ H1 _ I1 q) fun ov s2 ⟨x, H2, I2, rx, a, C, dx, fs, ex, ea, c, n, l, q2⟩ => ?_) hs
  subst ex
  obtain rfl : ov = Value.ref a := rx
  exact setattr_ok I2 ea c n l ry fun s3 I3 => ⟨σ, _, I3, q2⟩
theorem ps_fldaug {op : Operator} {rd : V → V → Hp → VK → Prop} (ha : PE X o ta) (hv : PE X value tv) (hop : InOp X op rd) : PS X (.AugAssign (.Attribute o f tpos) op value pos) (sFldAug X.K ta tv rd f) := by
  intro pins s σ H D I h
  refine wpAny_AugAssign_AttributeAny (thn (ha pins s σ H _ I h) fun ov s1 ⟨x, H1, I1, rx, a, C, dx, fs, v, ex, ea, c, n, l, q⟩ => ?_)
  subst ex
  obtain rfl : ov = Value.ref a := rx
  refine getattr_ok I1 ea c n l fun u s2 I2 ru => thn (hv pins s2 σ H1 _ I2 q) fun w3 s3 ⟨y, H2, I3, ry, q3⟩ => thn (hop pins s3 σ H2 v y u w3 _ I3 ru ry q3) fun w4 s4 ⟨z, H3, I4, rz, dx', fs', ea', l', q4⟩ => ?_
  exact setattr_ok I4 ea' c n l' rz fun s5 I5 => ⟨σ, _, I5, q4⟩
def rAdd : V → V → Hp → VK → Prop := fun x y H Q => ∃ i j, x = .int i ∧ y = .int j ∧ Q (.int (i + j)) H
theorem in_add : InOp X .Add rAdd := by
  rintro pins s σ H x y u v Q I rx ry ⟨i, j, rfl, rfl, q⟩
  obtain ⟨t, rfl⟩ := (show ∃ t, u = Value.int i t from rx)
  obtain ⟨t', rfl⟩ := (show ∃ t', v = Value.int j t' from ry)
  exact PyProof.Rows.iadd_int ⟨.int (i + j), H, I.tok _, ⟨_, rfl⟩, q⟩
end
section
variable {X : Cx} {pins : List (Addr × Obj)} {σ : St} {H : Hp} {s : Shared} {A : Around} {E : Value → Shared → Prop} {Q : Value → Shared → Prop} {c : Value} {b : Bool}
inductive TyOf (K : PySem.W.Frag) (H : Hp) : V → Value → Prop where
  | non : TyOf K H .non (.type "NoneType")
  | bl (x : Bool) : TyOf K H (.bl x) (.type "bool")
  | int (i : Int) : TyOf K H (.int i) (.type "int")
  | str (x : Str) : TyOf K H (.str x) (.type "str")
  | flt (x : UInt64) : TyOf K H (.flt x) (.type "float")
  | lst {a : Addr} {xs : List V} (e : H a = some (.lst xs)) : TyOf K H (.ref a) (.type "list")
  | frz {a : Addr} {o : Obj} {xs : List V} (e : H a = some (.frz o (.lst xs))) : TyOf K H (.ref a) (.type "list")
  | tup {a : Addr} {xs : List V} (e : H a = some (.tup xs)) : TyOf K H (.ref a) (.type "tuple")
  | dK {a : Addr} {kvs : List (Key × V)} (e : H a = some (.dK kvs)) : TyOf K H (.ref a) (.type "dict")
  | dT {a : Addr} {kvs : List (List Key × V)} (e : H a = some (.dT kvs)) : TyOf K H (.ref a) (.type "dict")
  | ins {a C dx : Addr} {fs : List (Str × V)} (e : H a = some (.ins C dx fs)) (cl : Cls K C) (ha : PySem.W.findIn K (.ref C) "__class__" = some (some (.builtin "object.__class__")))
      (hn : PySem.W.specialIn K (.builtin "object.__class__") "__get__" = some (some (.builtin "getset_descriptor.__get__"))) (htk : PySem.W.takesIn K (.builtin "object.__class__") = some true)
      (hm : PySem.W.mroIn K C (.type "object") = some true) : TyOf K H (.ref a) (.ref C)
theorem isinst_ok {x : V} {u t : Value} (I : Inv X pins σ H s) (rx : RelV x u) (ty : TyOf X.K H x t) (e : PySem.W.kitOne X.K t c = some b) (h : ∀ tk, Q (.bool b) { s with toks := tk }) :
    wpAny (model X.prog X.w) A (call (.builtin "isinstance") [u, c]) Q E s := by
  cases ty with
  | non => cases (show u = Value.none from rx); exact PySem.W.kia_one PySem.W.kitx_none I.kIn True.intro e (fun z => nomatch z) h
  | bl y => cases (show u = Value.bool y from rx); exact PySem.W.kia_one PySem.W.kitx_bool I.kIn True.intro e (fun z => nomatch z) h
  | int i => obtain ⟨t, q⟩ := (show ∃ t, u = Value.int i t from rx); cases q; exact PySem.W.kia_one PySem.W.kitx_int I.kIn True.intro e (fun z => nomatch z) h
  | str y => obtain ⟨t, q⟩ := (show ∃ t, u = Value.str y t from rx); cases q; exact PySem.W.kia_one PySem.W.kitx_str I.kIn True.intro e (fun z => nomatch z) h
  | flt y => obtain ⟨t, q⟩ := (show ∃ t, u = Value.float y t from rx); cases q; exact PySem.W.kia_one PySem.W.kitx_float I.kIn True.intro e (fun z => nomatch z) h
  | @lst a xs ea =>
    cases (show u = Value.ref a from rx)
    obtain ⟨_, _, n, _, h1⟩ := (show ObjOk X.prog X.w H s.heap a (.lst xs) from I.hok a _ ea)
    exact PySem.W.kia_one PySem.W.kitx_list I.kIn ⟨_, h1, rfl⟩ e (fun z => nomatch z) h
  | @frz a ob xs ea =>
    cases (show u = Value.ref a from rx)
    obtain ⟨_, _, _, n, _, h1⟩ := (show ObjOk X.prog X.w H s.heap a (.frz ob (.lst xs)) from I.hok a _ ea)
    exact PySem.W.kia_one PySem.W.kitx_list I.kIn ⟨_, h1, rfl⟩ e (fun z => nomatch z) h
  | @tup a xs ea =>
    cases (show u = Value.ref a from rx)
    obtain ⟨_, _, _, p⟩ := (show ObjOk X.prog X.w H s.heap a (.tup xs) from I.hok a _ ea)
    obtain ⟨o, h1, h2, _⟩ := p
    exact PySem.W.kia_one PySem.W.kitx_tuple I.kIn ⟨o, h1, h2⟩ e (fun z => nomatch z) h
  | @dK a kvs ea =>
    cases (show u = Value.ref a from rx)
    obtain ⟨_, _, vs, _, p⟩ := (show ObjOk X.prog X.w H s.heap a (.dK kvs) from I.hok a _ ea)
    obtain ⟨o, es, ep, h1, h2, _⟩ := p
    exact PySem.W.kia_one PySem.W.kitx_dict I.kIn ⟨o, h1, h2.1⟩ e (fun z => nomatch z) h
  | @dT a kvs ea =>
    cases (show u = Value.ref a from rx)
    obtain ⟨_, _, xs, _, o, es, ep, h1, h2, _⟩ := (show ObjOk X.prog X.w H s.heap a (.dT kvs) from I.hok a _ ea)
    exact PySem.W.kia_one PySem.W.kitx_dict I.kIn ⟨o, h1, h2.1⟩ e (fun z => nomatch z) h
  | @ins a C dx fs ea cl ha hn htk hm =>
    cases (show u = Value.ref a from rx)
    obtain ⟨mA, O, _⟩ := ins_get I.hok ea
    obtain ⟨od, J, _⟩ := O.look
    exact PySem.W.kia_one (PySem.W.kitx_own (cl.get _) cl.hd ha hn htk hm) I.kIn J e (fun z => nomatch z) h
end
end L2
namespace L2
open PySem PySem.Spec PyProof.Rows
structure Room (k : Nat) (A : Around) : Prop where
  hd : A.handled = none
  dp : A.depth + 3 * k + 5 < recursionLimit
  un : A.units + 16 * k + 200 < cLine
theorem Room.mono {j k : Nat} {A : Around} (r : Room k A) (h : j ≤ k) : Room j A := ⟨r.hd, by have := r.dp; omega, by have := r.un; omega⟩
theorem Room.deeper {k : Nat} {A : Around} (r : Room (k + 1) A) (env : Env) : Room k (A.deeper env) :=
  ⟨r.hd, by have := r.dp; show A.depth + 1 + 3 * k + 5 < _; omega, by have := r.un; show A.units + 3 + 16 * k + 200 < _; omega⟩
theorem make_depth {A : Around} {C : Addr} {us : List Value} {kw : List (Str × Value)} : (A.under (.builtin "type.__call__" ⟨.ref C :: us, kw⟩)).depth = A.depth + 1 := by
  first | rfl | simp [Around.under, Code.weight, Code.isCreation, Code.isGuard, Code.isCaller, Code.frames, Code.isFrame, guardIds]
theorem make_units {A : Around} {C : Addr} {us : List Value} {kw : List (Str × Value)} : (A.under (.builtin "type.__call__" ⟨.ref C :: us, kw⟩)).units = A.units + 1 := by
  first | rfl | simp [Around.under, Code.cUnits, Code.frames, Code.isFrame]
theorem Room.make {k : Nat} {A : Around} (r : Room (k + 1) A) (C : Addr) (us : List Value) (kw : List (Str × Value)) : Room k (A.under (.builtin "type.__call__" ⟨.ref C :: us, kw⟩)) :=
  ⟨r.hd, by have := r.dp; rw [make_depth]; omega, by have := r.un; rw [make_units]; omega⟩
theorem Room.depth {k : Nat} {A : Around} (r : Room k A) : A.depth < recursionLimit := by have := r.dp; omega
theorem Room.units {k : Nat} {A : Around} (r : Room k A) : A.units + 64 < cLine := by have := r.un; omega
def tNil : TA := fun _ H Q => Q [] H
def tCons (ta : TE) (tr : TA) : TA := fun σ H Q => ta σ H fun x H1 => tr σ H1 fun xs H2 => Q (x :: xs) H2
section
variable {X : Cx} {e : Expr} {es : List Expr} {te : TE} {t : TA} {pos : Pos}
theorem pa_nil : PA X [] tNil := fun _ _ _ _ H Q I h => Calls.spliced_nil ⟨[], H, I, .nil, h⟩
theorem pa_cons (ha : PE X e te) (hr : PA X es t) (hs : starEach (e :: es) X.env = (false, eval e X.env) :: starEach es X.env := by rfl) : PA X (e :: es) (tCons te t) := by
  intro pos pins s σ H Q I h
  rw [hs]
  show wpAny _ _ (spliced ((false, eval e X.env) :: backTo pos (starEach es X.env))) _ _ s
  refine Calls.spliced_cons (thn (ha pins s σ H _ I h) fun u s1 ⟨x, H1, I1, r1, q1⟩ => ?_)
  exact thn (hr pos pins s1 σ H1 _ I1 q1) fun us s2 ⟨xs, H2, I2, r2, q2⟩ => ⟨x :: xs, H2, I2, .cons r1 r2, q2⟩
def tTup (t : TA) : TE := fun σ H Q => t σ H fun xs H1 => xs.length ≤ sizeLine ∧ ∀ p, H1 p = none → Q (.ref p) (upd H1 p (.tup xs))
def tLst (t : TA) : TE := fun σ H Q => t σ H fun xs H1 => xs.length ≤ sizeLine ∧ ∀ p, H1 p = none → Q (.ref p) (upd H1 p (.lst xs))
theorem pe_tup {x1} (h : PA X es t) : PE X (.Tuple es x1 pos) (tTup t) := by
  intro pins s σ H Q I hq
  refine wpAny_Tuple_spliced (thn (h pos pins s σ H _ I hq) fun us s1 ⟨xs, H1, I1, r, z, q⟩ => ⟨by rw [← r.length]; exact z, ?_⟩)
  have hf : H1 s1.heap.objs.size = none := I1.hok.fresh (Nat.le_refl _)
  refine ⟨.ref s1.heap.objs.size, upd H1 s1.heap.objs.size (.tup xs), I1.laid (t' := s1.toks) (fun b u e => Heap.get?_push_of_some _ e) (Nat.le_refl _) ?_, rfl, q _ hf⟩
  exact ⟨z, us, r, ⟨_, Heap.get?_push_size _ rfl, rfl, _, rfl⟩⟩
theorem pe_lst (h : PA X es t) : PE X (.List es pos) (tLst t) := by
  intro pins s σ H Q I hq
  refine wpAny_List_spliced (thn (h pos pins s σ H _ I hq) fun us s1 ⟨xs, H1, I1, r, z, q⟩ => ⟨by rw [← r.length]; exact z, ?_⟩)
  have hf : H1 s1.heap.objs.size = none := I1.hok.fresh (Nat.le_refl _)
  refine ⟨.ref s1.heap.objs.size, upd H1 s1.heap.objs.size (.lst xs), I1.laid (t' := s1.toks) (fun b u e => Heap.get?_push_of_some _ e) (Nat.le_refl _) ?_, rfl, q _ hf⟩
  exact ⟨z, us, 0, r, Heap.get?_push_size _ rfl⟩
end
abbrev Sp := List V → Hp → VK → XK → Prop
abbrev CXT := List Env → Hp → Shared → XK → Value → Shared → Prop
structure Env0 (P : Program) (w : World) (K : PySem.W.Frag) (mg : Str → Option Value) (base : Heap) (A : Around) (outer : List Env) (s : Shared) (H : Hp) : Prop where
  frames : A.frames = some outer
  mod : Mod K mg base
  bs : ∀ b o, base.get? b = some o → s.heap.get? b = some o ∧ H b = none
  bsz : base.objs.size ≤ s.heap.objs.size
  funs : s.heap.FunFrames base outer
  frf : ∀ b ∈ frs outer, H b = none
  hok : HOk P w H s.heap
  bare : AllBare s.gens
def CE (outer : List Env) (P : Program) (w : World) (H : Hp) (s : Shared) (Q : VK) (u : Value) (s' : Shared) : Prop :=
  ∃ v H', s'.os = s.os ∧ AllBare s'.gens ∧ Un (frs outer) [] H H' s.heap s'.heap ∧ HOk P w H' s'.heap ∧ RelV v u ∧ Q v H'
def CR (CX : CXT) (outer : List Env) (P : Program) (w : World) (H : Hp) (s : Shared) (Q : VK) (E : XK) (r : Result) (s' : Shared) : Prop :=
  match r with
  | .ok (.ret u) => CE outer P w H s Q u s'
  | .ok _ => False
  | .error e => CX outer H s E e s'
structure FnOk (P : Program) (w : World) (K : PySem.W.Frag) (mg : Str → Option Value) (base : Heap) (CX : CXT) (k : Nat) (f : Addr) (fd : FuncData) (ps : List Str) (sp : Sp) : Prop where
  len : ∀ vs H Q E, sp vs H Q E → vs.length = ps.length
  run : ∀ (A : Around) (outer : List Env) (s : Shared) (H : Hp) (args : Args) (us : List Value) (vs : List V) (Q : VK) (E : XK), Room k A → Env0 P w K mg base A outer s H → BindsTo s fd args (ps.zip us) → Vals vs us → sp vs H Q E →
    codeAny (model P w) A (.call (.ref f) args) (CR CX outer P w H s Q E) s
theorem Env0.make {P : Program} {w : World} {K : PySem.W.Frag} {mg : Str → Option Value} {base : Heap} {A : Around} {outer : List Env} {s : Shared} {H : Hp} (e : Env0 P w K mg base A outer s H) (C : Addr) (us : List Value) (kw : List (Str × Value)) :
    Env0 P w K mg base (A.under (.builtin "type.__call__" ⟨.ref C :: us, kw⟩)) outer s H := ⟨by first | exact e.frames | (simpa [Around.under, Code.envs, Code.isFrame, pushEnvs] using e.frames), e.mod, e.bs, e.bsz, e.funs, e.frf, e.hok, e.bare⟩
section
variable {X : Cx} {pins : List (Addr × Obj)} {σ : St} {H : Hp} {s s' : Shared}
theorem Inv.env0 (I : Inv X pins σ H s) : Env0 X.prog X.w X.K X.mg X.base X.A X.stack s H :=
  ⟨I.ok.frames, I.ok.mod, I.bs, Nat.le_trans I.ok.bsz I.sz, I.stack, I.stkFree, I.hok, I.bare⟩
theorem Inv.after {Q : VK} {u : Value} (I : Inv X pins σ H s) (h : CE X.stack X.prog X.w H s Q u s') : EP X pins σ Q u s' := by
  obtain ⟨v, H', os, bare, un, hok, r, q⟩ := h
  obtain ⟨hh, g, d, t, os'⟩ := s'
  obtain rfl : os' = s.os := os
  exact ⟨v, H', I.call (h' := hh) (g' := g) (d' := d) (t' := t) (ch := []) un hok bare (fun b z => absurd z (by simp)), r, q⟩
end
def tCall (sp : Sp) (dvs : List V) (E : XK) (t : TA) : TE := fun σ H Q => t σ H fun vs H1 => sp (vs ++ dvs) H1 Q E
def tMeth (C : Addr) (m : Str) (sp : Sp) (dvs : List V) (E : XK) (ta : TE) (t : TA) : TE := fun σ H Q => ta σ H fun x H1 => ∃ a dx fs, x = .ref a ∧ H1 a = some (.ins C dx fs) ∧ fs.lookup m = none ∧
  t σ H1 fun vs H2 => sp (x :: (vs ++ dvs)) H2 Q E
def tMake (C : Addr) (sp : Sp) (dvs : List V) (E : XK) (t : TA) : TE := fun σ H Q => t σ H fun vs H1 => ∀ x dx, H1 x = none → H1 dx = none → dx ≠ x →
  sp (.ref x :: (vs ++ dvs)) (upd (upd H1 dx (.own x)) x (.ins C dx [])) (fun v H2 => v = .non ∧ Q (.ref x) H2) E
def Binds (K : PySem.W.Frag) (fd : FuncData) (ps : List Str) (ds : List Value) : Prop :=
  ∀ (s : Shared) (us : List Value), K.In s.heap → (us ++ ds).length = ps.length → BindsTo s fd ⟨us, []⟩ (ps.zip (us ++ ds))
theorem Binds.all {K : PySem.W.Frag} {fd : FuncData} {ps : List Str} (h : ∀ us : List Value, us.length = ps.length → bindArgs fd ⟨us, []⟩ = pure (ps.zip us)) : Binds K fd ps [] := fun s us _ hl => by
  rw [List.append_nil] at hl ⊢
  exact .of_eq (h us hl)
def Passes (CX : CXT) (X : Cx) (E : XK) : Prop := ∀ (pins : List (Addr × Obj)) (σ : St) (H : Hp) (s : Shared) (e : Value) (s' : Shared), Inv X pins σ H s → CX X.stack H s E e s' → X.xe e s'
section
variable {X : Cx} {CX : CXT} {k : Nat} {f C : Addr} {fd : FuncData} {ps : List Str} {sp : Sp} {dvs : List V} {ds : List Value} {E : XK} {x m : Str} {p pos apos : Pos} {e o : Expr} {es : List Expr} {ta : TE} {t : TA}
theorem run_fn {pins : List (Addr × Obj)} {σ : St} {H : Hp} {s : Shared} {Q : VK} {us : List Value} {vs : List V} (F : FnOk X.prog X.w X.K X.mg X.base CX k f fd ps sp) (hr : Room k X.A) (hb : Binds X.K fd ps ds) (hd : Vals dvs ds) (hx : Passes CX X E)
    (I : Inv X pins σ H s) (r : Vals vs us) (h : sp (vs ++ dvs) H Q E) : wpAny (model X.prog X.w) X.A (call (.ref f) us) (EP X pins σ Q) X.xe s := by
  have r2 : Vals (vs ++ dvs) (us ++ ds) := r.append hd
  have hl : (us ++ ds).length = ps.length := by rw [← r2.length]; exact F.len _ _ _ _ h
  refine wpAny_call (codeAny_mono (F.run X.A X.stack s H ⟨us, []⟩ (us ++ ds) (vs ++ dvs) Q E hr I.env0 (hb s us I.kIn hl) r2 h) fun r s' hq => ?_)
  cases r with
  | error e => exact hx pins σ H s e s' I hq
  | ok fl =>
    cases fl with
    | ret u => exact I.after hq
    | next => exact False.elim hq
    | brk => exact False.elim hq
    | cont => exact False.elim hq
theorem pe_call (F : FnOk X.prog X.w X.K X.mg X.base CX k f fd ps sp) (hr : Room k X.A) (hg : Gl X x) (hm : X.mg x = some (.ref f)) (hk : PySem.W.keepIn X.K (.ref f) = true) (hb : Binds X.K fd ps ds) (hd : Vals dvs ds) (hx : Passes CX X E)
    (ha : PA X (e :: es) t) (hdb : (x == ("__debug__" : Str)) = false := by decide) (he : starEach (e :: es) X.env = (false, eval e X.env) :: starEach es X.env := by rfl) (hpl : (backTo pos (starEach es X.env)).any (·.1) = false := by rfl) :
    PE X (.Call (.Name x p) (e :: es) [] pos) (tCall sp dvs E t) := by
  intro pins s σ H Q I h
  refine wpAny_Call_Name_kw (ld_glob I hg hm ?_ hdb)
  refine PySem.W.callWith_K (h₀ := X.base) I.ok.mod.kin hk (thn (ha pos pins s σ H _ I h) fun us s1 ⟨vs, H1, I1, r, q⟩ => ⟨I1.kIn, ?_⟩) he hpl
  exact run_fn F hr hb hd hx I1 r q
theorem pe_meth {pl : Sem Bool} (he : PE X o ta) (c : Cls X.K C) (hm : Meth X.K C m f) (F : FnOk X.prog X.w X.K X.mg X.base CX k f fd ps sp) (hr : Room k X.A) (hb : Binds X.K fd ps ds) (hd : Vals dvs ds) (hx : Passes CX X E) (ha : PA X (e :: es) t)
    (hst : starEach (e :: es) X.env = (false, eval e X.env) :: starEach es X.env := by rfl) (hpl : (backTo pos (starEach es X.env)).any (·.1) = false := by rfl)
    (ht : eval (.Call (.Attribute o m apos) (e :: es) [] pos) X.env = (do
      let ov ← eval o X.env
      standAt apos.atName
      let (f, first) ← holding [ov] (getMethod ov m pl)
      callWith pos f first (backTo pos (starEach (e :: es) X.env)) (backToKw pos (keywordEach [] X.env))) := by rfl) :
    PE X (.Call (.Attribute o m apos) (e :: es) [] pos) (tMeth C m sp dvs E ta t) := by
  intro pins s σ H Q I h
  refine PySem.W.methodCall_KW (pl := pl) (thn (he pins s σ H _ I h) fun u s1 ⟨x, H1, I1, rx, a, dx, fs, ex, ea, l, q⟩ => ?_) ht
  subst ex
  obtain rfl : u = Value.ref a := rx
  refine getmeth_ok I1 ea c hm l ?_
  refine PySem.W.callWith_K (first := [.ref a]) (h₀ := X.base) I.ok.mod.kin hm.kp (thn (ha pos pins s1 σ H1 _ I1 q) fun us s2 ⟨vs, H2, I2, r, q2⟩ => ⟨I2.kIn, ?_⟩) hst hpl
  exact run_fn (us := .ref a :: us) (vs := .ref a :: vs) F hr hb hd hx I2 (.cons rfl r) q2
theorem pe_meth0 {pl : Sem Bool} (he : PE X o ta) (c : Cls X.K C) (hm : Meth X.K C m f) (F : FnOk X.prog X.w X.K X.mg X.base CX k f fd ps sp) (hr : Room k X.A) (hb : Binds X.K fd ps ds) (hd : Vals dvs ds) (hx : Passes CX X E)
    (ht : eval (.Call (.Attribute o m apos) [] [] pos) X.env = (do
      let ov ← eval o X.env
      standAt apos.atName
      let (f, first) ← holding [ov] (getMethod ov m pl)
      callWith pos f first (backTo pos (starEach [] X.env)) (backToKw pos (keywordEach [] X.env))) := by rfl) :
    PE X (.Call (.Attribute o m apos) [] [] pos) (tMeth C m sp dvs E ta tNil) := by
  intro pins s σ H Q I h
  refine PySem.W.methodCall_KW (pl := pl) (thn (he pins s σ H _ I h) fun u s1 ⟨x, H1, I1, rx, a, dx, fs, ex, ea, l, q⟩ => ?_) ht
  subst ex
  obtain rfl : u = Value.ref a := rx
  refine getmeth_ok I1 ea c hm l ?_
  exact PySem.W.callWith_K0 (first := [.ref a]) I1.kIn hm.kp (run_fn (us := [.ref a]) (vs := [.ref a]) F hr hb hd hx I1 (.cons rfl .nil) q)
structure Mk (K : PySem.W.Frag) (C f : Addr) : Prop where
  makes : PySem.W.makesIn K C = true
  init : PySem.W.findIn K (.ref C) "__init__" = some (some (.ref f))
  fn : PySem.W.isFn K (.ref f) = true
  kp : PySem.W.keepIn K (.ref C) = true
theorem run_make {pins : List (Addr × Obj)} {σ : St} {H : Hp} {s : Shared} {Q : VK} {us : List Value} {vs : List V} (M : Mk X.K C f) (F : FnOk X.prog X.w X.K X.mg X.base CX k f fd ps sp) (hr : Room (k + 1) X.A) (hb : Binds X.K fd ps ds) (hd : Vals dvs ds)
    (hx : Passes CX X E) (I : Inv X pins σ H s) (r : Vals vs us)
    (h : ∀ x dx, H x = none → H dx = none → dx ≠ x → sp (.ref x :: (vs ++ dvs)) (upd (upd H dx (.own x)) x (.ins C dx [])) (fun v H2 => v = .non ∧ Q (.ref x) H2) E) :
    wpAny (model X.prog X.w) X.A (call (.ref C) us) (EP X pins σ Q) X.xe s := by
  have hq := h (s.heap.objs.size + 1) s.heap.objs.size (I.hok.fresh (Nat.le_succ _)) (I.hok.fresh (Nat.le_refl _)) (Nat.ne_of_lt (Nat.lt_succ_self _))
  have I2 := Inv.made (C := C) I
  have r2 : Vals (V.ref (s.heap.objs.size + 1) :: (vs ++ dvs)) (Value.ref (s.heap.objs.size + 1) :: (us ++ ds)) := .cons rfl (r.append hd)
  have hl : (Value.ref (s.heap.objs.size + 1) :: us ++ ds).length = ps.length := by
    have e := r2.length
    rw [F.len _ _ _ _ hq] at e
    exact e.symm
  refine wpAny_call (make_map (f := f) I.kIn M.makes M.init (beq_iff_eq.mp M.fn) (codeAny_mono (F.run _ X.stack _ _ ⟨Value.ref (s.heap.objs.size + 1) :: us, []⟩ (Value.ref (s.heap.objs.size + 1) :: (us ++ ds)) _ _ E (hr.make C us [])
    (I2.env0.make C us []) (hb _ (Value.ref (s.heap.objs.size + 1) :: us) I2.kIn hl) r2 hq) fun r s' hq' => ?_))
  cases r with
  | error e => exact hx pins σ _ _ e s' I2 hq'
  | ok fl =>
    cases fl with
    | ret u =>
      obtain ⟨v, H', I3, rv, ev, q3⟩ := I2.after hq'
      subst ev
      exact ⟨rv, ⟨V.ref (s.heap.objs.size + 1), H', I3, rfl, q3⟩⟩
    | next => exact False.elim hq'
    | brk => exact False.elim hq'
    | cont => exact False.elim hq'
theorem pe_make (M : Mk X.K C f) (F : FnOk X.prog X.w X.K X.mg X.base CX k f fd ps sp) (hr : Room (k + 1) X.A) (hg : Gl X x) (hm : X.mg x = some (.ref C)) (hb : Binds X.K fd ps ds) (hd : Vals dvs ds) (hx : Passes CX X E)
    (ha : PA X (e :: es) t) (hdb : (x == ("__debug__" : Str)) = false := by decide) (he : starEach (e :: es) X.env = (false, eval e X.env) :: starEach es X.env := by rfl) (hpl : (backTo pos (starEach es X.env)).any (·.1) = false := by rfl) :
    PE X (.Call (.Name x p) (e :: es) [] pos) (tMake C sp dvs E t) := by
  intro pins s σ H Q I h
  refine wpAny_Call_Name_kw (ld_glob I hg hm ?_ hdb)
  refine PySem.W.callWith_K (h₀ := X.base) I.ok.mod.kin M.kp (thn (ha pos pins s σ H _ I h) fun us s1 ⟨vs, H1, I1, r, q⟩ => ⟨I1.kIn, ?_⟩) he hpl
  exact run_make M F hr hb hd hx I1 r q
end
section
variable {X : Cx} {CX : CXT} {k : Nat} {f C : Addr} {fd : FuncData} {ps ks : List Str} {sp : Sp} {E : XK} {x m : Str} {p pos apos kpos : Pos} {e o : Expr} {es : List Expr} {kws : List Keyword} {te ta : TE} {t tk : TA} {nm : Option Str}
variable {g : List Value → List Value → List Value} {gV : List V → List V → List V}
end
structure FnScope (N P : List Str) (sc : Scope) : Prop where
  kind : sc.kind = .function
  co : sc.isCoroutine = false
  gen : sc.isGenerator = false
  nd : N.Nodup
  pre : N.take P.length = P
  par : ∀ x ∈ P, sc.names.lookup x = some .local ∨ sc.names.lookup x = some .cell
  nofree : ∀ y ∈ sc.names, y.2 ≠ .free
theorem bindL_out {kindOf : Str → Option NameKind} {x : Str} : ∀ {binds : List (Str × Value)} {m : Str → Option Value}, (∀ v, (x, v) ∉ binds) → bindL kindOf binds m x = m x
  | [], _, _ => rfl
  | (n, v) :: r, m, h => by
    unfold bindL
    rw [bindL_out fun w hw => h w (List.mem_cons_of_mem _ hw)]
    split
    · have : x ≠ n := by rintro rfl; exact h v List.mem_cons_self
      simp [this]
    · rfl
theorem bindC_out {kindOf : Str → Option NameKind} {x : Str} : ∀ {binds : List (Str × Value)} {m : Str → Option Value}, (∀ v, (x, v) ∉ binds) → bindC kindOf binds m x = m x
  | [], _, _ => rfl
  | (n, v) :: r, m, h => by
    unfold bindC
    rw [bindC_out fun w hw => h w (List.mem_cons_of_mem _ hw)]
    split
    · rfl
    · have : x ≠ n := by rintro rfl; exact h v List.mem_cons_self
      simp [this]
theorem bindL_get {kindOf : Str → Option NameKind} {x : Str} {v : Value} : ∀ {P : List Str} {vs : List Value} {i : Nat} {m : Str → Option Value}, P.Nodup → P[i]? = some x → vs[i]? = some v → kindOf x = some .local →
    bindL kindOf (P.zip vs) m x = some v
  | [], _, _, _, _, h, _, _ => by simp at h
  | _ :: _, [], _, _, _, _, h, _ => by simp at h
  | p :: P, w :: vs, 0, m, nd, h1, h2, hk => by
    simp at h1 h2; subst h1; subst h2
    show bindL kindOf ((p, w) :: P.zip vs) m p = _
    unfold bindL
    rw [bindL_out fun v hv => (List.nodup_cons.mp nd).1 (List.of_mem_zip hv).1, if_pos hk]
    simp
  | p :: P, w :: vs, i + 1, m, nd, h1, h2, hk => by
    show bindL kindOf ((p, w) :: P.zip vs) m x = _
    unfold bindL
    exact bindL_get (i := i) (List.nodup_cons.mp nd).2 (by simpa using h1) (by simpa using h2) hk
theorem bindC_get {kindOf : Str → Option NameKind} {x : Str} {v : Value} : ∀ {P : List Str} {vs : List Value} {i : Nat} {m : Str → Option Value}, P.Nodup → P[i]? = some x → vs[i]? = some v → kindOf x ≠ some .local →
    bindC kindOf (P.zip vs) m x = some v
  | [], _, _, _, _, h, _, _ => by simp at h
  | _ :: _, [], _, _, _, _, h, _ => by simp at h
  | p :: P, w :: vs, 0, m, nd, h1, h2, hk => by
    simp at h1 h2; subst h1; subst h2
    show bindC kindOf ((p, w) :: P.zip vs) m p = _
    unfold bindC
    rw [bindC_out fun v hv => (List.nodup_cons.mp nd).1 (List.of_mem_zip hv).1, if_neg hk]
    simp
  | p :: P, w :: vs, i + 1, m, nd, h1, h2, hk => by
    show bindC kindOf ((p, w) :: P.zip vs) m x = _
    unfold bindC
    exact bindC_get (i := i) (List.nodup_cons.mp nd).2 (by simpa using h1) (by simpa using h2) hk
def start (N : List Str) (vs : List V) : St := vs.map some ++ List.replicate (N.length - vs.length) none
def cxOf (CX : CXT) (P : Program) (w : World) (K : PySem.W.Frag) (mg : Str → Option Value) (base : Heap) (N : List Str) (qual : Str) (scope : Scope) (f : Addr) (cd : Value) (A : Around) (outer : List Env) (s : Shared) (H : Hp) (E : XK) : Cx where
  prog := P
  w := w
  K := K
  mg := mg
  base := base
  A := A.deeper (envOfC qual scope s.heap.objs.size f cd)
  N := N
  s₀ := s
  H₀ := H
  env := envOfC qual scope s.heap.objs.size f cd
  outer := outer
  stack := envOfC qual scope s.heap.objs.size f cd :: outer
  ex := []
  calm := true
  fn := fun _ => true
  pn := []
  xe := fun e s' => wpAny (model P w) (A.deeper (envOfC qual scope s.heap.objs.size f cd)) (leaving (envOfC qual scope s.heap.objs.size f cd) e) (fun _ s'' => CX outer H s E e s'') (fun e' s'' => CX outer H s E e' s'') s'
theorem cell_has {sc : Scope} {n : Nat} {x : Str} (h : sc.names.lookup x = some .cell) : ∃ c, (cellsFrom n sc.names []).lookup x = some c := by
  have q := PySem.W.cellsFrom_some sc.names n [] (.inl h)
  exact Option.isSome_iff_exists.mp q
theorem inv_start {CX : CXT} {P : Program} {w : World} {K : PySem.W.Frag} {mg : Str → Option Value} {base : Heap} {N ps : List Str} {qual : Str} {scope : Scope} {f : Addr} {cd : Value} {A : Around} {outer : List Env} {s s1 : Shared} {H : Hp} {E : XK} {us : List Value} {vs : List V}
    (S : FnScope N ps scope) (hd : A.handled = none) (e0 : Env0 P w K mg base A outer s H) (hl : vs.length = ps.length) (r : Vals vs us)
    (x : InCallC s s.heap.objs.size (bindL (envOfC qual scope s.heap.objs.size f cd).kindOf (ps.zip us) fun _ => none) (cellsFrom (s.heap.objs.size + 1) scope.names []) (bindC (envOfC qual scope s.heap.objs.size f cd).kindOf (ps.zip us) fun _ => none) s1) :
    Inv (cxOf CX P w K mg base N qual scope f cd A outer s H E) [] (start N vs) H s1 := by
  have hpl : ps.length ≤ N.length := by have := congrArg List.length S.pre; rw [List.length_take] at this; omega
  obtain ⟨h1, tk, rfl, hk⟩ := x.done
  have noA : ∀ b : Addr, b ∉ (cxOf CX P w K mg base N qual scope f cd A outer s H E).ex := fun b z => absurd (show b ∈ ([] : List Addr) from z) (by simp)
  refine ⟨⟨e0.mod, S.kind, rfl, rfl, Nat.le_refl _, fun y z c h1 h2 => ?_, fun y hy => ?_, fun y c _ h => ?_, fun _ => hd, Around.frames_deeper e0.frames, .inr ⟨rfl, rfl⟩, fun b z => absurd z (noA b), e0.bs, e0.bsz, fun b _ _ => noA b, fun b z => absurd z (noA b), e0.funs, e0.frf⟩,
    rfl, e0.bare, Un.kept hk, ⟨_, x.toInCall.ns, fun i y v h1 h2 h3 => ?_⟩, fun y c h => ⟨_, x.cell y c h⟩, e0.hok.fresh (Nat.le_refl _), fun y c h => ?_, fun p hp => absurd (show p ∈ ([] : List (Addr × Obj)) from hp) (by simp), e0.hok.kept hk, ?_⟩
  · exact name_of_addr x.apart (PySem.mem_of_lookup h1) (PySem.mem_of_lookup h2)
  · have hy : scope.names.lookup y = some .cell ∨ scope.names.lookup y = some .free := hy
    rcases hy with hy | hy
    · exact cell_has hy
    · exact absurd rfl (S.nofree _ (PySem.mem_of_lookup hy))
  · exact Nat.le_of_lt (x.above y c (PySem.mem_of_lookup h))
  · have hi : i < vs.length := by
      unfold start at h2
      by_cases hi : i < vs.length
      · exact hi
      · rw [List.getElem?_append_right (by simpa using hi)] at h2
        rw [List.getElem?_replicate] at h2
        split at h2 <;> cases h2
    have ha : vs[i]? = some v := by
      unfold start at h2
      rw [List.getElem?_append_left (by simpa using hi), List.getElem?_map] at h2
      cases e : vs[i]? with
      | none => rw [e] at h2; cases h2
      | some a => rw [e] at h2; cases h2; rfl
    obtain ⟨u, hu, rv⟩ := r.get ha
    have hp : ps[i]? = some y := by
      rw [← S.pre, List.getElem?_take_of_lt (by omega)]; exact h1
    have ndP : ps.Nodup := by rw [← S.pre]; exact S.nd.sublist (List.take_sublist _ _)
    refine ⟨u, rv, ?_⟩
    rcases S.par y (List.mem_of_getElem? hp) with k | k
    · exact .inl ⟨k, bindL_get ndP hp hu k⟩
    · obtain ⟨c, e⟩ := cell_has (n := s.heap.objs.size + 1) k
      refine .inr ⟨.inl k, c, e, ?_⟩
      have q := x.cell y c e
      rw [bindC_get ndP hp hu (by show scope.names.lookup y ≠ _; rw [k]; decide)] at q
      exact q
  · exact e0.hok.fresh (Nat.le_of_lt (x.above y c (PySem.mem_of_lookup h)))
  · unfold start
    show _ = N.length
    rw [List.length_append, List.length_map, List.length_replicate]
    omega
theorem fn_of {CX : CXT} {P : Program} {w : World} {K : PySem.W.Frag} {mg : Str → Option Value} {base : Heap} {k : Nat} {f : Addr} {name qual : Str} {params : Arguments} {body : List Stmt} {scope : Scope} {dV kV doc pm cdv ct oc : Value} {an od : Option Addr}
    {osl : Array (Option Value)} {N ps : List Str} {sp : Sp} (lk : K.lookup f = some ⟨oc, od, .func (PySem.W.fnOf name qual params body scope dV kV doc pm an cdv ct), osl⟩) (hcd : PySem.W.codeIn K cdv qual = true) (S : FnScope N ps scope)
    (len : ∀ vs H Q E, sp vs H Q E → vs.length = ps.length)
    (hbody : ∀ (A : Around) (outer : List Env) (s : Shared) (H : Hp) (vs : List V) (Q : VK) (E : XK), Room k (A.deeper (envOfC qual scope s.heap.objs.size f cdv)) → sp vs H Q E →
      ∃ t, PSs (cxOf CX P w K mg base N qual scope f cdv A outer s H E) body t ∧ t { nx := fun _ H' => Q .non H', rt := Q } (start N vs) H) :
    FnOk P w K mg base CX (k + 1) f (PySem.W.fnOf name qual params body scope dV kV doc pm an cdv ct) ps sp := by
  refine ⟨len, fun A outer s H args us vs Q E hr e0 hb r hsp => ?_⟩
  have hl := len _ _ _ _ hsp
  have KX : K.In s.heap := e0.mod.kin.keeps fun b o e => (e0.bs b o e).1
  have lim : s.heap.NoLimit := e0.mod.nolimit.keeps fun b o e => (e0.bs b o e).1
  have hkind : ∀ y ∈ ps.zip us, scope.names.lookup y.1 = some .local ∨ (scope.names.lookup y.1 = some .cell ∧ ((cellsFrom (s.heap.objs.size + 1) scope.names []).lookup y.1).isSome = true) := fun ⟨n, v⟩ hy => by
    rcases S.par n (List.of_mem_zip hy).1 with q | q
    · exact .inl q
    · exact .inr ⟨q, PySem.W.cellsFrom_some _ _ _ (.inl q)⟩
  refine codeAny_call_function hr.depth (KX _ _ lk) rfl S.co S.gen rfl (PySem.W.codeRec_of KX hcd) (hb _ _ _ _ ?_)
  refine wpAny_newFunctionEnv_cells S.kind hkind fun env he s1 x => ?_
  subst he
  refine ⟨lim.keeps x.toInCall.keep, codeAny_func ?_⟩
  obtain ⟨t, ht, hq⟩ := hbody A outer s H vs Q E (hr.deeper _) hsp
  have I : Inv (cxOf CX P w K mg base N qual scope f cdv A outer s H E) [] (start N vs) H s1 := inv_start S hr.hd e0 hl r x
  refine wpAny_mono (ht [] s1 (start N vs) H _ I hq) (fun fl s' hs => ?_) fun e s' hs => hs
  have fin : ∀ {σ' : St} {H' : Hp} {v : V} {u : Value}, Inv (cxOf CX P w K mg base N qual scope f cdv A outer s H E) [] σ' H' s' → RelV v u → Q v H' → CE outer P w H s Q u s' :=
    fun {σ' H' v u} J rv q => ⟨v, H', J.os, J.bare, J.base, J.hok, rv, q⟩
  cases fl with
  | ret u =>
    obtain ⟨v, σ', H', J, rv, q⟩ := hs
    exact fin J rv q
  | next =>
    obtain ⟨σ', H', J, q⟩ := hs
    exact fin (v := V.non) (u := Value.none) J rfl q
  | brk =>
    obtain ⟨_, _, _, q⟩ := hs
    exact False.elim q
  | cont =>
    obtain ⟨_, _, _, q⟩ := hs
    exact False.elim q
end L2
namespace L2
open PySem PySem.Spec PyProof.Rows
section
variable {X : Cx} {x : Str} {p pos : Pos} {e : Expr} {es : List Expr} {t : TA} {id T : String} {r : List V → Hp → VK → Prop}
def tCB (r : List V → Hp → VK → Prop) (t : TA) : TE := fun σ H Q => t σ H fun vs H1 => r vs H1 Q
theorem pe_callB (hc : CallR X (.builtin id) r) (hg : Gl X x) (hm : X.mg x = none) (hv : bootBuiltins x = some (.builtin id)) (ha : PA X (e :: es) t) (hn : x ≠ "__name__" := by decide) (hdb : (x == ("__debug__" : Str)) = false := by decide)
    (he : starEach (e :: es) X.env = (false, eval e X.env) :: starEach es X.env := by rfl) (hpl : (backTo pos (starEach es X.env)).any (·.1) = false := by rfl) : PE X (.Call (.Name x p) (e :: es) [] pos) (tCB r t) := by
  intro pins s σ H Q I h
  refine wpAny_Call_Name_kw (ld_blt I hg hm hv ?_ hn hdb)
  exact PyProof.Rows.callWith_builtin1 (thn (ha pos pins s σ H _ I h) fun us s1 ⟨vs, H1, I1, r1, q1⟩ => hc pins s1 σ H1 vs us Q I1 r1 q1) he hpl
theorem pe_callTy (hc : CallR X (.type T) r) (hg : Gl X x) (hm : X.mg x = none) (hv : bootBuiltins x = some (.type T)) (ha : PA X (e :: es) t) (hn : x ≠ "__name__" := by decide) (hdb : (x == ("__debug__" : Str)) = false := by decide)
    (he : starEach (e :: es) X.env = (false, eval e X.env) :: starEach es X.env := by rfl) (hpl : (backTo pos (starEach es X.env)).any (·.1) = false := by rfl) : PE X (.Call (.Name x p) (e :: es) [] pos) (tCB r t) := by
  intro pins s σ H Q I h
  refine wpAny_Call_Name_kw (ld_blt I hg hm hv ?_ hn hdb)
  exact PyProof.Rows.callWith_type1 (thn (ha pos pins s σ H _ I h) fun us s1 ⟨vs, H1, I1, r1, q1⟩ => hc pins s1 σ H1 vs us Q I1 r1 q1) he hpl
end
end L2
namespace HT
open PySem PyProof.Rows
def lexLt : List Int → List Int → Bool
  | [], [] => false
  | [], _ :: _ => true
  | _ :: _, [] => false
  | x :: xs, y :: ys => if x = y then lexLt xs ys else decide (x < y)
section
open PySem.SeqAt
open PySem.AutoSeq1 (wpAny_loadPart')
open PySem.MeetsSeq PySem.MeetsSeq2 PySem.MeetsSeq3
end
section
variable {prog : Program} {w : World} {A : Around} {E : Value → Shared → Prop} {s : Shared}
def sIx (n d : Nat) : Option Int → Nat
  | none => d
  | some v => if v < 0 then (v + (n : Int)).toNat else min v.toNat n
theorem sIx_none (n d : Nat) : sIx n d none = d := rfl
theorem sIx_nat (n d k : Nat) : sIx n d (some (k : Int)) = min k n := by
  show (if (k : Int) < 0 then ((k : Int) + (n : Int)).toNat else min (k : Int).toNat n) = min k n
  rw [if_neg (by omega), Int.toNat_natCast]
theorem sIx_le (n d : Nat) (hd : d ≤ n) (o : Option Int) : sIx n d o ≤ n := by
  cases o with
  | none => exact hd
  | some v =>
    show (if v < 0 then (v + (n : Int)).toNat else min v.toNat n) ≤ n
    by_cases hv : v < 0
    · rw [if_pos hv]; omega
    · rw [if_neg hv]; exact Nat.min_le_right _ _
end
end HT
namespace L2
open PySem PySem.Spec PyProof.Rows
abbrev TO := St → Hp → (Option Int → Hp → Prop) → Prop
def PO (X : Cx) (e : Option Expr) (t : TO) : Prop :=
  ∀ (pins : List (Addr × Obj)) (s : Shared) (σ : St) (H : Hp) (Q : Option Int → Hp → Prop), Inv X pins σ H s → t σ H Q →
    wpAny (model X.prog X.w) X.A (evalPart e X.env) (fun u s' => ∃ o H', Inv X pins σ H' s' ∧ IsPart u o ∧ Q o H') X.xe s
def tNoPart : TO := fun _ H Q => Q none H
def tPart (t : TE) : TO := fun σ H Q => t σ H fun x H1 => ∃ i, x = .int i ∧ Q (some i) H1
section
variable {X : Cx} {e : Expr} {te : TE} {lo hi : Option Expr} {tl th : TO} {pos p2 : Pos}
theorem po_none : PO X none tNoPart := by
  intro pins s σ H Q I h
  rw [evalPart_none]
  exact wpAny_pure ⟨none, H, I, .none, h⟩
theorem po_some (h : PE X e te) : PO X (some e) (tPart te) := by
  intro pins s σ H Q I hw
  rw [evalPart_some]
  refine thn (h pins s σ H _ I hw) fun u s1 ⟨x, H1, I1, r1, q1⟩ => ?_
  obtain ⟨i, rfl, q⟩ := q1
  obtain ⟨t, rfl⟩ := r1
  exact ⟨some i, H1, I1, .int i t, q⟩
def SlR (X : Cx) (r : V → Option Int → Option Int → Hp → VK → Prop) : Prop :=
  ∀ (pins : List (Addr × Obj)) (s : Shared) (σ : St) (H : Hp) (x : V) (v vl vu : Value) (lo hi : Option Int) (sl : Addr) (Q : VK), Inv X pins σ H s → RelV x v → s.heap.IsSliceOf sl vl vu .none → IsPart vl lo → IsPart vu hi → r x lo hi H Q →
    ∃ T id, typeLookup (.type T) "__getitem__" = pure (some (.builtin id)) ∧ s.TypeIs v T ∧ wpAny (model X.prog X.w) X.A (getItem v (.ref sl)) (EP X pins σ Q) X.xe s
def tSl (r : V → Option Int → Option Int → Hp → VK → Prop) (te : TE) (tl th : TO) : TE := fun σ H Q => te σ H fun x H1 => tl σ H1 fun l H2 => th σ H2 fun u H3 => r x l u H3 Q
theorem pe_slice {r : V → Option Int → Option Int → Hp → VK → Prop} (hr : SlR X r) (he : PE X e te) (hl : PO X lo tl) (hu : PO X hi th) : PE X (.Subscript e (.Slice lo hi none p2) pos) (tSl r te tl th) := by
  intro pins s σ H Q I h
  refine Subscript_ (thn (he pins s σ H _ I h) fun v s1 ⟨x, H1, I1, r1, q1⟩ => ?_)
  refine wpAny_Slice (thn (hl pins s1 σ H1 _ I1 q1) fun vl s2 ⟨l, H2, I2, pl, q2⟩ => thn (hu pins s2 σ H2 _ I2 q2) fun vu s3 ⟨u, H3, I3, pu, q3⟩ => ?_)
  rw [evalPart_none]
  refine wpAny_pure ?_
  have I4 : Inv X pins σ H3 { s3 with heap := s3.heap.push { cls := .type "slice", data := .fields #[vl, vu, .none] } } := I3.kept (t' := s3.toks) fun b ob q => Heap.get?_push_of_some _ q
  obtain ⟨T, id, hT, ht, hg⟩ := hr pins { s3 with heap := s3.heap.push { cls := .type "slice", data := .fields #[vl, vu, .none] } } σ H3 x v vl vu l u s3.heap.objs.size Q I4 r1 (Heap.IsSliceOf.new ..) pl pu q3
  show wpAny (model X.prog X.w) X.A (subscriptTail e (.Slice lo hi none p2) v (.ref s3.heap.objs.size)) (EP X pins σ Q) X.xe { s3 with heap := s3.heap.push { cls := .type "slice", data := .fields #[vl, vu, .none] } }
  exact tail_any (ops := [.ref s3.heap.objs.size, v]) ht hT hg (by with_unfolding_all rfl)
def cutV (xs : List V) (lo hi : Option Int) : List V := (xs.drop (HT.sIx xs.length 0 lo)).take (HT.sIx xs.length xs.length hi - HT.sIx xs.length 0 lo)
theorem cutV_length (xs : List V) (lo hi : Option Int) : (cutV xs lo hi).length ≤ xs.length := by
  unfold cutV
  rw [List.length_take, List.length_drop]
  omega
end
end L2
namespace L2
open PySem PySem.Spec PyProof.Rows
def ixN (n : Nat) (i : Int) : Option Nat := if 0 ≤ i then (if i < n then some i.toNat else none) else if -(n : Int) ≤ i then some (i + n).toNat else none
def atI {α : Type} (xs : List α) (i : Int) : Option α := (ixN xs.length i).bind fun j => xs[j]?
theorem ixN_seq {n : Nat} {i : Int} {j : Nat} (h : ixN n i = some j) : seqIndex? i n = some j ∧ j < n ∧ -(n : Int) ≤ i ∧ i < n := by
  unfold ixN at h
  by_cases h0 : 0 ≤ i
  · rw [if_pos h0] at h
    by_cases h1 : i < n
    · rw [if_pos h1] at h
      have e : i.toNat = j := Option.some.inj h
      exact ⟨by rw [seqIndex_of h0 h1, e], by omega, by omega, h1⟩
    · rw [if_neg h1] at h; cases h
  · rw [if_neg h0] at h
    by_cases h1 : -(n : Int) ≤ i
    · rw [if_pos h1] at h
      have e : (i + n).toNat = j := Option.some.inj h
      exact ⟨by rw [seqIndex_neg (by omega) h1, e], by omega, h1, by omega⟩
    · rw [if_neg h1] at h; cases h
theorem atI_get {α : Type} {xs : List α} {i : Int} {v : α} (h : atI xs i = some v) : ∃ j, seqIndex? i xs.length = some j ∧ xs[j]? = some v ∧ j < xs.length ∧ -(xs.length : Int) ≤ i ∧ i < xs.length := by
  unfold atI at h
  cases e : ixN xs.length i with
  | none => rw [e] at h; cases h
  | some j =>
    rw [e] at h
    obtain ⟨h1, h2, h3, h4⟩ := ixN_seq e
    exact ⟨j, h1, h, h2, h3, h4⟩
theorem atI_nat {α : Type} {xs : List α} {j : Nat} {v : α} (h : xs[j]? = some v) : atI xs (j : Int) = some v := by
  have hj : j < xs.length := (List.getElem?_eq_some_iff.mp h).1
  have e : ixN xs.length (j : Int) = some j := by
    unfold ixN
    rw [if_pos (by omega), if_pos (by omega)]; simp
  unfold atI; rw [e]; exact h
def PlainIx (b : Expr) : Prop := ∀ o i, subscripted b false o i = operate [o, i] (getItem o i)
def IxR (X : Cx) (r : R2) : Prop :=
  ∀ (value slice : Expr) (pins : List (Addr × Obj)) (s : Shared) (σ : St) (H : Hp) (x y : V) (v u : Value) (Q : VK), Inv X pins σ H s → RelV x v → RelV y u → r x y H Q →
    subscripted slice false v u = operate [v, u] (getItem v u) → wpAny (model X.prog X.w) X.A (subscriptTail value slice v u) (EP X pins σ Q) X.xe s
def MtR (X : Cx) (id : String) (r : V → List V → Hp → VK → Prop) : Prop :=
  ∀ (pins : List (Addr × Obj)) (s : Shared) (σ : St) (H : Hp) (x : V) (xs : List V) (v : Value) (us : List Value) (Q : VK), Inv X pins σ H s → RelV x v → Vals xs us → r x xs H Q →
    wpAny (model X.prog X.w) X.A (call (.builtin id) (v :: us)) (EP X pins σ Q) X.xe s
section
variable {X : Cx} {a b : Expr} {ta tb : TE} {pos : Pos}
theorem pe_ix {r : R2} (hr : IxR X r) (ha : PE X a ta) (hb : PE X b tb) (hs : PlainIx b) : PE X (.Subscript a b pos) (tOp r ta tb) := by
  intro pins s σ H Q I h
  exact Subscript_ (binT ha hb I h fun v u s2 x y H2 I2 rx ry q => hr a b pins s2 σ H2 x y v u Q I2 rx ry q (hs _ _))
def rIxL (K : PySem.W.Frag) : R2 := fun x y H Q => ∃ p xs i v, x = .ref p ∧ y = .int i ∧ SqL K H p xs ∧ atI xs i = some v ∧ Q v H
def rIxS : R2 := fun x y H Q => ∃ z i c, x = .str z ∧ y = .int i ∧ z.length ≤ sizeLine ∧ atI z.cps.toList i = some c ∧ Q (.str ⟨#[c]⟩) H
theorem ix_list : IxR X (rIxL X.K) := by
  intro value slice pins s σ H x y v u Q I rx ry h hs
  obtain ⟨p, xs, i, z, rfl, rfl, hq, he, q⟩ := h
  cases rx
  obtain ⟨t, rfl⟩ := ry
  obtain ⟨its, r, pl, hz⟩ := I.list hq
  obtain ⟨j, h1, h2, h3, h4, h5⟩ := atI_get he
  obtain ⟨w, ew, rw'⟩ := r.get h2
  have hl := r.length
  have hn := line63
  have fin : EP X pins σ Q w s := ⟨z, H, I, rw', q⟩
  by_cases h0 : 0 ≤ i
  · have hj : i.toNat = j := by
      rw [seqIndex_of h0 h5] at h1
      exact Option.some.inj h1
    exact item_listR pl.isList h0 (by omega) (by rw [hj]; simpa using ew) fin hs
  · have hj : (i + (its.toArray.size : Int)).toNat = j := by
      rw [seqIndex_neg (by omega) h4] at h1
      rw [List.size_toArray, ← hl]
      exact Option.some.inj h1
    exact subscriptTail_builtinR (x := w) pl.isList.typeIs slot_list_getitem.lookup
      (wpAny_getItem_list_neg (Q := fun r s' => r = w ∧ EP X pins σ Q r s') pl.isList (by omega) (by rw [List.size_toArray] <;> omega) (by omega) (by rw [hj]; simpa using ew) ⟨rfl, fin⟩) hs
theorem ix_str : IxR X rIxS := by
  intro value slice pins s σ H x y v u Q I rx ry h hs
  obtain ⟨z, i, c, rfl, rfl, hz, he, q⟩ := h
  obtain ⟨t, rfl⟩ := rx
  obtain ⟨t', rfl⟩ := ry
  obtain ⟨j, h1, h2, h3, h4, h5⟩ := atI_get he
  have hl : z.cps.toList.length = z.length := by simp [Str.length]
  rw [hl] at h1 h4 h5
  have hn := line63
  exact tail_any (typeIs_str s z t) slot_str_getitem.lookup (getItem_str (c := c) (by
    have e1 : decide (i < -(2 ^ 63 : Int)) = false := decide_eq_false (by omega)
    have e2 : decide (i ≥ 2 ^ 63) = false := decide_eq_false (by omega)
    rw [e1, e2, Bool.or_false]) (by rw [h1]; simpa using h2) ⟨.str ⟨#[c]⟩, H, I.tok _, ⟨_, rfl⟩, q⟩) hs
theorem mapSeq_set (its : List Value) (n j : Nat) (u : Value) : Obj.mapSeq (·.setIfInBounds j u) { cls := .type "list", data := .seq its.toArray n } = { cls := .type "list", data := .seq (its.set j u).toArray n } := by
  simp [Obj.mapSeq]
theorem Inv.lst {pins : List (Addr × Obj)} {σ : St} {H : Hp} {s : Shared} {p : Addr} {xs : List V} (I : Inv X pins σ H s) (h : H p = some (.lst xs)) :
    ∃ (its : List Value) (n : Nat), Vals xs its ∧ s.heap.get? p = some { cls := .type "list", data := .seq its.toArray n } ∧ xs.length ≤ sizeLine := by
  obtain ⟨z, its, n, r, e⟩ := I.hok p _ h
  exact ⟨its, n, r, e, z⟩
theorem Inv.lstUpd {pins : List (Addr × Obj)} {σ : St} {H : Hp} {s : Shared} {p : Addr} {xs ys : List V} {its its' : List Value} {n n' : Nat} {f : Obj → Obj} (I : Inv X pins σ H s) (h : H p = some (.lst xs))
    (ho : s.heap.get? p = some { cls := .type "list", data := .seq its.toArray n }) (hf : f { cls := .type "list", data := .seq its.toArray n } = { cls := .type "list", data := .seq its'.toArray n' }) (r : Vals ys its') (hz : ys.length ≤ sizeLine) (t : Nat) :
    Inv X pins σ (upd H p (.lst ys)) { s with heap := s.heap.update p f, toks := t } := by
  have e : (s.heap.update p f).get? p = some { cls := .type "list", data := .seq its'.toArray n' } := by
    rw [Heap.get?_update_self f ho (by rw [hf] <;> rfl), hf]
  refine I.write (x := p) (e := p) (by rw [h]; trivial) (.inl rfl) (fun b u hb q => (Heap.get?_update_other _ _ (Ne.symm hb)).trans q) ⟨_, e⟩ ?_
  exact ⟨hz, its', n', r, e⟩
def rSetL : V → V → V → Hp → (Hp → Prop) → Prop := fun o i v H Q => ∃ p xs k j, o = .ref p ∧ i = .int k ∧ H p = some (.lst xs) ∧ ixN xs.length k = some j ∧ Q (upd H p (.lst (xs.set j v)))
theorem set_list : PSet X rSetL := by
  intro pins s σ H o i v ov iv u Q I ro ri rv h
  obtain ⟨p, xs, k, j, rfl, rfl, hp, hj, q⟩ := h
  cases ro
  obtain ⟨t, rfl⟩ := ri
  obtain ⟨its, n, r, ho, hz⟩ := I.lst hp
  obtain ⟨h1, h2, h3, h4⟩ := ixN_seq hj
  have hl := r.length
  have hn := line63
  have I' : Inv X pins σ (upd H p (.lst (xs.set j v))) { s with heap := s.heap.update p (Obj.mapSeq (·.setIfInBounds j u)) } :=
    I.lstUpd hp ho (mapSeq_set its n j u) (r.set rv j) (by rw [List.length_set]; exact hz) s.toks
  by_cases h0 : 0 ≤ k
  · have hk : k.toNat = j := by
      rw [seqIndex_of h0 h4] at h1
      exact Option.some.inj h1
    exact PySem.W.ki_setAt ho h0 (by omega) (by rw [List.size_toArray, ← hl]; exact h4) (by rw [hk]; exact ⟨_, I', q⟩)
  · have hk : (k + (its.toArray.size : Int)).toNat = j := by
      rw [seqIndex_neg (by omega) h3] at h1
      rw [List.size_toArray, ← hl]
      exact Option.some.inj h1
    exact PySem.W.ki_setBack ho (by omega) (by rw [List.size_toArray, ← hl]; exact h3) (by omega) (by rw [hk]; exact ⟨_, I', q⟩)
theorem slice_bounds (lo hi : Option Int) (n : Nat) : (sliceBounds lo hi none n).1 = ((HT.sIx n 0 lo : Nat) : Int) ∧ (sliceBounds lo hi none n).2.1 = ((HT.sIx n n hi : Nat) : Int) ∧ (sliceBounds lo hi none n).2.2 = 1 := by
  refine ⟨?_, ?_, rfl⟩
  · cases lo with
    | none => simp [sliceBounds, HT.sIx]
    | some i =>
      simp only [sliceBounds, HT.sIx, Option.getD_none, show (1 : Int) > 0 by decide, if_true]
      by_cases h : i < 0
      · simp only [h, if_true] <;> omega
      · simp only [h, if_false] <;> omega
  · cases hi with
    | none => simp [sliceBounds, HT.sIx]
    | some i =>
      simp only [sliceBounds, HT.sIx, Option.getD_none, show (1 : Int) > 0 by decide, if_true]
      by_cases h : i < 0
      · simp only [h, if_true] <;> omega
      · simp only [h, if_false] <;> omega
theorem slicePick_cut (its : List Value) (lo hi : Option Int) : slicePick its.toArray lo hi none = ((its.drop (HT.sIx its.length 0 lo)).take (HT.sIx its.length its.length hi - HT.sIx its.length 0 lo)).toArray := by
  obtain ⟨h1, h2, h3⟩ := slice_bounds lo hi its.toArray.size
  unfold slicePick
  rw [h1, h2, h3]
  simp only [sliceRange_one, pick_run, List.size_toArray] <;> rfl
def rSlL (K : PySem.W.Frag) : V → Option Int → Option Int → Hp → VK → Prop := fun x lo hi H Q => ∃ a xs, x = .ref a ∧ SqL K H a xs ∧ ∀ p, H p = none → Q (.ref p) (upd H p (.lst (cutV xs lo hi)))
theorem sl_list : SlR X (rSlL X.K) := by
  intro pins s σ H x v vl vu lo hi sl Q I rx hs pl pu h
  obtain ⟨a, xs, rfl, hx, q⟩ := h
  cases rx
  obtain ⟨its, r, ht, hz⟩ := I.list hx
  have hlen := r.length
  refine ⟨"list", _, slot_list_getitem.lookup, ht.isList.typeIs, ?_⟩
  refine wpAny_getItem_list_slice ht.isList hs pl pu .none (by simp) ?_ (by rw [List.size_toArray] <;> omega)
  rw [slicePick_cut, ← hlen]
  refine ⟨.ref s.heap.objs.size, _, I.laid (t' := s.toks) (o := .lst (cutV xs lo hi)) (fun b ob q => Heap.get?_push_of_some _ q) (Nat.le_refl _) ?_, rfl, q _ (I.hok.fresh (Nat.le_refl _))⟩
  exact ⟨Nat.le_trans (cutV_length xs lo hi) hz, _, 0, (r.drop (HT.sIx xs.length 0 lo)).take (HT.sIx xs.length xs.length hi - HT.sIx xs.length 0 lo), Heap.get?_push_size _ rfl⟩
def flatV : V → Bool
  | .non => true
  | .bl _ => true
  | .int _ => true
  | .str _ => true
  | _ => false
def eqV : V → V → Bool
  | .non, .non => true
  | .bl a, .bl b => a == b
  | .bl a, .int b => (if a then 1 else 0) == b
  | .int a, .bl b => a == (if b then 1 else 0)
  | .int a, .int b => a == b
  | .str a, .str b => a == b
  | _, _ => false
theorem eqAt_V {A : Around} {s : Shared} {y x : V} {u v : Value} (ry : RelV y u) (rx : RelV x v) (fy : flatV y = true) (fx : flatV x = true) : SeqAt.EqAt A s u v (eqV y x) := by
  cases y with
  | non =>
    cases ry
    cases x with
    | non => cases rx; exact SeqAt.EqAt.same _
    | bl b => cases rx; exact SeqAt.EqAt.none_bool b
    | int b => obtain ⟨t, rfl⟩ := rx; exact SeqAt.EqAt.none_int b t
    | str b => obtain ⟨t, rfl⟩ := rx; exact SeqAt.EqAt.none_str b t
    | _ => exact absurd (show false = true from fx) Bool.false_ne_true
  | bl a =>
    cases ry
    cases x with
    | non => cases rx; exact SeqAt.EqAt.bool_none a
    | bl b => cases rx; exact SeqAt.EqAt.bool_bool a b
    | int b => obtain ⟨t, rfl⟩ := rx; exact SeqAt.EqAt.bool_int a b t
    | str b => obtain ⟨t, rfl⟩ := rx; exact SeqAt.EqAt.bool_str a b t
    | _ => exact absurd (show false = true from fx) Bool.false_ne_true
  | int a =>
    obtain ⟨t', rfl⟩ := ry
    cases x with
    | non => cases rx; exact SeqAt.EqAt.int_none a t'
    | bl b => cases rx; exact SeqAt.EqAt.int_bool a t' b
    | int b => obtain ⟨t, rfl⟩ := rx; exact SeqAt.EqAt.int_int a t' b t
    | str b => obtain ⟨t, rfl⟩ := rx; exact SeqAt.EqAt.int_str a t' b t
    | _ => exact absurd (show false = true from fx) Bool.false_ne_true
  | str a =>
    obtain ⟨t', rfl⟩ := ry
    cases x with
    | non => cases rx; exact SeqAt.EqAt.str_none a t'
    | bl b => cases rx; exact SeqAt.EqAt.str_bool a t' b
    | int b => obtain ⟨t, rfl⟩ := rx; exact SeqAt.EqAt.str_int a t' b t
    | str b => obtain ⟨t, rfl⟩ := rx; exact SeqAt.EqAt.str_str a t' b t
    | _ => exact absurd (show false = true from fx) Bool.false_ne_true
  | _ => exact absurd (show false = true from fy) Bool.false_ne_true
def eqU (x : V) (u : Value) : Bool := match u with
  | .none => eqV .non x
  | .bool b => eqV (.bl b) x
  | .int i _ => eqV (.int i) x
  | .str z _ => eqV (.str z) x
  | _ => false
theorem eqU_of {x y : V} {u : Value} (r : RelV y u) (f : flatV y = true) : eqU x u = eqV y x := by
  cases y with
  | non => cases r; rfl
  | bl b => cases r; rfl
  | int i => obtain ⟨t, rfl⟩ := r; rfl
  | str z => obtain ⟨t, rfl⟩ := r; rfl
  | _ => exact absurd (show false = true from f) Bool.false_ne_true
theorem any_eqU {x : V} : ∀ {xs : List V} {us : List Value}, Vals xs us → xs.all flatV = true → us.any (eqU x) = xs.any fun y => eqV y x
  | _, _, .nil, _ => rfl
  | y :: xs, u :: us, .cons r t, f => by
    rw [List.all_cons, Bool.and_eq_true] at f
    rw [List.any_cons, List.any_cons, eqU_of r f.1, any_eqU t f.2]
theorem mem_eqAt {A : Around} {s : Shared} {x : V} {v : Value} (rx : RelV x v) (fx : flatV x = true) : ∀ {xs : List V} {us : List Value}, Vals xs us → xs.all flatV = true → ∀ u ∈ us, SeqAt.EqAt A s u v (eqU x u)
  | _, _, .nil, _ => fun u hu => by cases hu
  | y :: xs, u :: us, .cons r t, f => fun u' hu => by
    rw [List.all_cons, Bool.and_eq_true] at f
    rcases List.mem_cons.mp hu with rfl | hu
    · rw [eqU_of r f.1]; exact eqAt_V r rx f.1 fx
    · exact mem_eqAt rx fx t f.2 u' hu
def inV (x : V) (xs : List V) : Bool := xs.any fun y => eqV y x
def rIn (K : PySem.W.Frag) (neg : Bool) : R2 := fun x y H Q => ∃ p xs, y = .ref p ∧ (SqL K H p xs ∨ SqT K H p xs) ∧ flatV x = true ∧ xs.all flatV = true ∧ Q (.bl (if neg then !inV x xs else inV x xs)) H
theorem op_notIn_seq : OpR X (compareOp .NotIn) (rIn X.K true) := by
  intro pins s σ H x y v u Q I rx ry h
  obtain ⟨p, xs, rfl, hq, fx, fs, q⟩ := h
  cases ry
  rcases hq with hq | hq
  · obtain ⟨its, r, pl, hz⟩ := I.list hq
    refine SeqAt.notIn_listAt (eqU x) pl.isList (fun w hw => mem_eqAt rx fx r fs w (by simpa using hw)) ⟨.bl _, H, I, rfl, ?_⟩
    rw [show its.toArray.any (eqU x) = its.any (eqU x) by simp, any_eqU r fs]
    exact q
  · obtain ⟨its, r, pl, hz⟩ := I.tuple hq
    refine SeqAt.notIn_tupleAt (eqU x) pl (fun w hw => mem_eqAt rx fx r fs w (by simpa using hw)) ⟨.bl _, H, I, rfl, ?_⟩
    rw [show its.toArray.any (eqU x) = its.any (eqU x) by simp, any_eqU r fs]
    exact q
theorem call_len_seq : CallR X (.builtin "len") (fun xs H Q => ∃ p ys, xs = [.ref p] ∧ (SqL X.K H p ys ∨ SqT X.K H p ys) ∧ Q (.int ys.length) H) := by
  intro pins s σ H xs us Q I r h
  obtain ⟨p, ys, rfl, hq, q⟩ := h
  obtain ⟨u, rfl, rx⟩ := vals1 r
  cases rx
  have hn := line63
  rcases hq with hq | hq
  · obtain ⟨its, r', pl, hz⟩ := I.list hq
    have hlen := r'.length
    exact Calls.call_len_list pl.isList (by simp only [List.size_toArray] <;> omega) ⟨.int ys.length, H, I.tok _, ⟨s.toks + 1, by rw [List.size_toArray, hlen]⟩, q⟩
  · obtain ⟨its, r', pl, hz⟩ := I.tuple hq
    have hlen := r'.length
    exact len_tuple pl (by simp only [List.size_toArray] <;> omega) ⟨.int ys.length, H, I.tok _, ⟨s.toks + 1, by rw [List.size_toArray, hlen]⟩, q⟩
theorem call_len_str : CallR X (.builtin "len") (fun xs H Q => ∃ z, xs = [.str z] ∧ z.length ≤ sizeLine ∧ Q (.int z.length) H) := by
  intro pins s σ H xs us Q I r h
  obtain ⟨z, rfl, hz, q⟩ := h
  obtain ⟨u, rfl, t, rfl⟩ := vals1 r
  have hn := line63
  exact len_str (by omega) ⟨.int z.length, H, I.tok _, ⟨_, rfl⟩, q⟩
theorem call_tuple_of : CallR X (.type "tuple") (fun xs H Q => ∃ p ys, xs = [.ref p] ∧ ((SqL X.K H p ys ∧ ∀ l, H l = none → Q (.ref l) (upd H l (.tup ys))) ∨ (SqT X.K H p ys ∧ Q (.ref p) H))) := by
  intro pins s σ H xs us Q I r h
  obtain ⟨p, ys, rfl, h⟩ := h
  obtain ⟨u, rfl, rx⟩ := vals1 r
  cases rx
  rcases h with ⟨hq, q⟩ | ⟨hq, q⟩
  · obtain ⟨its, r', pl, hz⟩ := I.list hq
    have hlen := r'.length
    refine call_tuple_list pl.isList (fun h' kp => ?_) (by simp only [List.size_toArray] <;> omega)
    have I1 : Inv X pins σ H { s with heap := h' } := I.kept (t' := s.toks) kp
    have I2 : Inv X pins σ (upd H h'.objs.size (.tup ys)) { s with heap := h'.push { cls := .type "tuple", data := .seq its.toArray } } :=
      I1.laid (t' := s.toks) (fun b o e => Heap.get?_push_of_some _ e) (Nat.le_refl _) (show ObjOk X.prog X.w _ _ _ (.tup ys) from ⟨hz, its, r', IsTup.new _ _⟩)
    exact ⟨.ref h'.objs.size, _, I2, rfl, q _ (I1.hok.fresh (Nat.le_refl _))⟩
  · obtain ⟨its, r', pl, hz⟩ := I.tuple hq
    exact call_tuple_same pl ⟨.ref p, H, I, rfl, q⟩
def tyV (K : PySem.W.Frag) (T : String) (x : V) (H : Hp) : Prop := match x with
  | .str _ => T = "str"
  | .int _ => T = "int"
  | .ref p => (T = "list" ∧ ∃ xs, SqL K H p xs) ∨ (T = "tuple" ∧ ∃ o, K.lookup p = some o ∧ o.cls = .type "tuple" ∧ o.dict = none) ∨
      (T = "dict" ∧ ((∃ kvs, H p = some (.dK kvs)) ∨ ∃ kvs, H p = some (.dT kvs))) ∨ (T = "set" ∧ ∃ S n, H p = some (.set S n))
  | _ => False
theorem tyV_is {pins : List (Addr × Obj)} {σ : St} {H : Hp} {s : Shared} {T : String} {x : V} {v : Value} (I : Inv X pins σ H s) (r : RelV x v) (ty : tyV X.K T x H) :
    s.TypeIs v T ∧ ∀ a, v = .ref a → ∃ ob, s.heap.get? a = some ob ∧ ob.dict = none := by
  cases x with
  | str z =>
    obtain ⟨t, rfl⟩ := r
    cases (show T = "str" from ty)
    exact ⟨typeIs_str s z t, fun _ e => nomatch e⟩
  | int i =>
    obtain ⟨t, rfl⟩ := r
    cases (show T = "int" from ty)
    exact ⟨typeIs_int s i t, fun _ e => nomatch e⟩
  | ref p =>
    cases r
    rcases ty with ⟨rfl, xs, hq⟩ | ⟨rfl, o, hk, hc, hd⟩ | ⟨rfl, hk⟩ | ⟨rfl, S, n, hk⟩
    · obtain ⟨its, _, pl, _⟩ := I.list hq
      refine ⟨pl.isList.typeIs, fun a e => ?_⟩
      cases e
      obtain ⟨o, n, e, c, hd, _⟩ := pl
      exact ⟨o, e, hd⟩
    · refine ⟨⟨o, I.kIn p o hk, hc⟩, fun a e => ?_⟩
      cases e
      exact ⟨o, I.kIn _ o hk, hd⟩
    · have z : ∃ o, s.heap.get? p = some o ∧ o.ExactDict := by
        rcases hk with ⟨kvs, hk⟩ | ⟨kvs, hk⟩
        · obtain ⟨_, _, _, _, o, _, _, e, ex, _⟩ := I.hok p _ hk
          exact ⟨o, e, ex⟩
        · obtain ⟨_, _, _, _, o, _, _, e, ex, _⟩ := I.hok p _ hk
          exact ⟨o, e, ex⟩
      obtain ⟨o, e, ex⟩ := z
      refine ⟨⟨o, e, ex.1⟩, fun a e2 => ?_⟩
      cases e2
      exact ⟨o, e, ex.2.1⟩
    · obtain ⟨o, _, _, _, e, ex, _⟩ := I.hok p _ hk
      refine ⟨⟨o, e, ex.1⟩, fun a e2 => ?_⟩
      cases e2
      exact ⟨o, e, ex.2.1⟩
  | _ => exact False.elim ty
def tBM (K : PySem.W.Frag) (T : String) (r : V → List V → Hp → VK → Prop) (to : TE) (t : TA) : TE := fun σ H Q => to σ H fun x H1 => tyV K T x H1 ∧ t σ H1 fun xs H2 => r x xs H2 Q
variable {o e : Expr} {es : List Expr} {to : TE} {t : TA} {name : Str} {apos cpos : Pos} {T id : String} {r : V → List V → Hp → VK → Prop}
theorem pe_bm (pa : PlainAttrs T) (slot : Slot T name id) (hty : typeOf (.builtin id) = pure (.type "method_descriptor")) (hm : MtR X id r) (ho : PE X o to) (ha : PA X (e :: es) t)
    (hbase : attributeBase o name X.env (eval o X.env) = eval o X.env := by rfl)
    (hfew : ((backTo cpos (starEach (e :: es) X.env)).all (fun x => !x.1) && (backToKw cpos (keywordEach [] X.env)).all (fun x => x.1.isSome)
      && decide ((e :: es).length + ([] : List Keyword).length + (if ([] : List Keyword).isEmpty then 0 else 1) < 30)) = true := by rfl)
    (hline : (apos.endLine == cpos.line) = true := by rfl) (hs : starEach (e :: es) X.env = (false, eval e X.env) :: starEach es X.env := by rfl) (hplain : (backTo cpos (starEach es X.env)).any (·.1) = false := by rfl) :
    PE X (.Call (.Attribute o name apos) (e :: es) [] cpos) (tBM X.K T r to t) := by
  intro pins s σ H Q I h
  refine wpAny_Call_method_late hbase hfew hline rfl (thn (ho pins s σ H _ I h) fun v s1 ⟨x, H1, I1, r1, ty, q1⟩ => ?_)
  obtain ⟨h1, h2⟩ := tyV_is I1 r1 ty
  refine ⟨T, id, pa, slot, hty, h1, h2, ?_⟩
  have hA := ha cpos pins s1 σ H1 _ I1 q1
  rw [hs] at hA ⊢
  refine Calls.callWith_builtin (by show (false || (backTo cpos (starEach es X.env)).any (·.1)) = false; rw [hplain] <;> rfl) (Calls.evalArgs_plain ?_)
  exact thn hA fun us s2 ⟨vs, H2, I2, r2, q2⟩ => hm pins s2 σ H2 x vs v us Q I2 r1 r2 q2
/- xs.append(e), list.index on a module's tuple .. are MtR facts of 06m -/
end
end L2
namespace L2
open PySem PySem.Spec PyProof.Rows
def MtM (X : Cx) (id : String) (r : V → List V → Hp → VK → Prop) : Prop :=
  ∀ (pins : List (Addr × Obj)) (s : Shared) (σ : St) (H : Hp) (x : V) (xs : List V) (v : Value) (us : List Value) (Q : VK), Inv X pins σ H s → RelV x v → Vals xs us → r x xs H Q →
    wpAny (model X.prog X.w) X.A (call (.builtin id) (v :: us)) (EP X pins σ Q) X.xe s
theorem Vals.one : ∀ {x : V} {us : List Value}, Vals [x] us → ∃ u, us = [u] ∧ RelV x u
  | _, _, .cons r .nil => ⟨_, rfl, r⟩
theorem Vals.two : ∀ {x y : V} {us : List Value}, Vals [x, y] us → ∃ u v, us = [u, v] ∧ RelV x u ∧ RelV y v
  | _, _, _, .cons r (.cons q .nil) => ⟨_, _, rfl, r, q⟩
theorem Vals.rep {xs : List V} {us : List Value} (h : Vals xs us) : ∀ k : Nat, Vals (List.replicate k xs).flatten (List.replicate k us).flatten
  | 0 => .nil
  | k + 1 => by
    rw [List.replicate_succ, List.replicate_succ, List.flatten_cons, List.flatten_cons]
    exact Vals.append h (Vals.rep h k)
theorem foldl_rep (its : List Value) : ∀ (k : Nat) (acc : List Value),
    List.foldl (fun x1 x2 => x1 ++ x2) acc.toArray (List.replicate k its.toArray) = (acc ++ (List.replicate k its).flatten).toArray
  | 0, acc => by simp
  | k + 1, acc => by
    have e : acc.toArray ++ its.toArray = (acc ++ its).toArray := by simp
    have e2 : (acc ++ its) ++ (List.replicate k its).flatten = acc ++ (List.replicate (k + 1) its).flatten := by
      rw [List.replicate_succ, List.flatten_cons, List.append_assoc]
    rw [← e2, ← foldl_rep its k (acc ++ its), ← e, List.replicate_succ, List.foldl_cons]
section
variable {X : Cx} {pins : List (Addr × Obj)} {σ : St} {H : Hp} {s : Shared} {l b : Addr} {xs ys zs : List V}
theorem Inv.lset {its its' : List Value} {n : Nat} {f : Array Value → Array Value} {t' : Nat} (I : Inv X pins σ H s) (hH : H l = some (.lst xs))
    (e : s.heap.get? l = some { cls := .type "list", data := .seq its.toArray n }) (hf : f its.toArray = its'.toArray) (hv : Vals ys its') (hz : ys.length ≤ sizeLine) :
    Inv X pins σ (upd H l (.lst ys)) { s with heap := s.heap.update l (Obj.mapSeq f), toks := t' } := by
  have q := PySem.IsL.update e f
  rw [hf] at q
  refine I.write (x := l) (e := l) (by rw [hH]; exact trivial) (.inl rfl) (fun b' u hb hu => (Heap.get?_update_other s.heap (Obj.mapSeq f) (Ne.symm hb)).trans hu) ⟨_, q⟩ ?_
  exact ⟨hz, its', _, hv, q⟩
theorem Inv.lnew {its : List Value} {t' : Nat} (I : Inv X pins σ H s) (hv : Vals ys its) (hz : ys.length ≤ sizeLine) :
    Inv X pins σ (upd H s.heap.objs.size (.lst ys)) { s with heap := s.heap.push { cls := .type "list", data := .seq its.toArray }, toks := t' } :=
  I.laid (fun _ _ q => Heap.get?_push_of_some _ q) (Nat.le_refl _) ⟨hz, its, 0, hv, Heap.get?_push_size _ rfl⟩
theorem Inv.fresh (I : Inv X pins σ H s) : H s.heap.objs.size = none := I.hok.fresh (Nat.le_refl _)
theorem Inv.lstM (I : Inv X pins σ H s) (hH : H l = some (.lst xs)) : xs.length ≤ sizeLine ∧ ∃ (its : List Value) (n : Nat), Vals xs its ∧ xs.length = its.length ∧ s.heap.get? l = some { cls := .type "list", data := .seq its.toArray n } := by
  obtain ⟨z, its, n, r, e⟩ := I.hok l _ hH
  exact ⟨z, its, n, r, r.length, e⟩
theorem notLongL {n : Nat} (h : n ≤ sizeLine) : Builtin.List.listTooLong n = false := by
  unfold Builtin.List.listTooLong
  exact decide_eq_false (by omega)
end
section
variable {X : Cx}
def rAppend : V → List V → Hp → VK → Prop := fun x vs H Q => ∃ l xs y, x = .ref l ∧ vs = [y] ∧ H l = some (.lst xs) ∧ xs.length < sizeLine ∧ Q .non (upd H l (.lst (xs ++ [y])))
theorem mt_append : MtM X "list.append" rAppend := by
  intro pins s σ H x vs v us Q I rx rv h
  obtain ⟨l, xs, y, rfl, rfl, hH, hz, q⟩ := h
  cases rx
  obtain ⟨u, rfl, ru⟩ := rv.one
  obtain ⟨z, its, n, r, hl, e⟩ := I.lstM hH
  refine call_meets F.slot_list_append ⟨_, e, rfl⟩ F.entry_list_append (F.args_list_append_2 _ _) (PySem.list_append l its.toArray n u (by rw [List.size_toArray]; omega)) ⟨e, ?_⟩
  refine ⟨.non, _, I.lset (its' := its ++ [u]) hH e (by simp) (r.append (.cons ru .nil)) ?_, rfl, q⟩
  rw [List.length_append, List.length_singleton]
  omega
def rRep : R2 := fun x y H Q => ∃ l k xs, x = .ref l ∧ y = .int k ∧ H l = some (.lst xs) ∧ -(2 ^ 63) ≤ k ∧ k < 2 ^ 63 ∧ xs.length * k.toNat ≤ sizeLine ∧
  ∀ p, H p = none → Q (.ref p) (upd H p (.lst (List.replicate k.toNat xs).flatten))
theorem len_rep {α : Type} (xs : List α) (k : Nat) : (List.replicate k xs).flatten.length = k * xs.length := by
  induction k with
  | zero => simp
  | succ k ih => rw [List.replicate_succ, List.flatten_cons, List.length_append, ih, Nat.succ_mul, Nat.add_comm]
theorem op_rep : OpR X (binaryOp .Mult) rRep := by
  intro pins s σ H x y v u Q I rx ry h
  obtain ⟨l, k, xs, rfl, rfl, hH, h1, h2, hz, q⟩ := h
  cases rx
  obtain ⟨t, rfl⟩ := ry
  obtain ⟨z, its, n, r, hl, e⟩ := I.lstM hH
  have hlen : its.toArray.size * k.toNat ≤ sizeLine := by rw [List.size_toArray, ← hl]; exact hz
  have hcap : ¬ its.toArray.size * k.toNat > (2 ^ 63 - 1) / 8 := by
    have : (sizeLine : Nat) ≤ (2 ^ 63 - 1) / 8 := by decide
    omega
  have hfit : ¬ (!Builtin.List.listFitsIndex k) = true := by
    rw [fitsIndex_both h1 h2]
    exact Bool.false_ne_true
  have hlong : ¬ Builtin.List.listTooLong (its.toArray.size * k.toNat) = true := by
    rw [notLongL hlen]
    exact Bool.false_ne_true
  have hnew : List.foldl (fun x1 x2 => x1 ++ x2) #[] (List.replicate (if its.toArray.isEmpty = true then 0 else k.toNat) its.toArray) = (List.replicate k.toNat its).flatten.toArray := by
    have f0 : ∀ m : Nat, List.foldl (fun x1 x2 => x1 ++ x2) #[] (List.replicate m its.toArray) = (List.replicate m its).flatten.toArray := fun m => by
      have := foldl_rep its m []
      rw [List.nil_append] at this
      exact this
    rw [f0]
    cases its with
    | nil => simp
    | cons a r' => rw [if_neg (by simp)]
  refine wpAny_binaryOp_repeat_ref (T := "list") (U := "int") (by decide) ⟨_, e, rfl⟩ (fun s' => typeIs_int s' k t) noFill_list_mul F.fills_int_mul F.slot_int_rmul repeat_list F.slot_int_index.lookup
    (call_meets F.slot_int_rmul (typeIs_int s k t) F.entry_int_rmul (F.args_int_rmul_2 _ _) (int___rmul___int_list k t l its.toArray n)
      ⟨e, rfl, ⟨_, e, rfl⟩, call_meets F.slot_list_mul ⟨_, e, rfl⟩ F.entry_list_mul (F.args_list_mul_2 _ _) (AutoListH.list___mul___list_int_3 l its.toArray n k t hfit hcap hlong) ⟨e, ?_⟩⟩)
  rw [hnew]
  exact ⟨.ref _, _, I.lnew (t' := s.toks) (r.rep k.toNat) (by rw [len_rep, Nat.mul_comm]; exact hz), rfl, q _ I.fresh⟩
end
section
variable {prog : Program} {w : World} {A : Around} {E : Value → Shared → Prop} {s : Shared}
set_option maxRecDepth 100000 in
end
section
variable {X : Cx}
end
end L2
namespace Att
open PySem PySem.W PySem.Calls PyProof.Rows
theorem ints_of_wellAll {P : Params} {h : Heap} : ∀ (ns : List Int) (vs : List Value), WellAll P h vs (ns.map WData.int) → IntsAre vs ns := by
  intro ns
  induction ns with
  | nil =>
    intro vs w
    rw [List.map_nil] at w
    cases w
    exact .nil
  | cons n ns ih =>
    intro vs w
    rw [List.map_cons] at w
    cases w with
    | cons a b =>
      cases a
      exact .cons _ _ (ih _ b)
theorem script_of {l : OpenLaw} {n : Nat} (hn : l.most = some n) {P : Params} {h : Heap} {args : List WData} {vals : List Value}
    (hpre : l.row.toRowW.claim.pre args = true) (hwl : WellAll P h vals args) :
    ∃ a vs ns, vals = [Value.ref a] ∧ args = [WData.list (ns.map WData.int)] ∧ h.get? a = some { cls := .type "list", data := .seq vs.toArray } ∧ IntsAre vs ns ∧ ns.length ≤ n := by
  have hsh : WShape.hasAll [] args [.list .int] = true := (pre_splitW hpre).1
  have hc : l.pre.holds [] { args := args } = true := (pre_splitW hpre).2
  obtain ⟨d, r, rfl, h1, h2⟩ := hasAllW_cons hsh
  obtain rfl := hasAllW_nil h2
  obtain ⟨xs, rfl, h3⟩ := hasW_list h1
  obtain ⟨ns, rfl⟩ := items_int h3
  have hlen : ns.length ≤ n := by
    unfold OpenLaw.pre at hc
    have h4 : (WTm.not (.lt (.lit (.int (n : Int))) (.len (.arg 0)))).holds [] { args := [.list (ns.map .int)] } = true := by
      have h4 := (holds_andW hc).1
      rw [hn] at h4
      exact h4
    have h5 := condW_of h4 (w_not (w_lt w_lit (w_len_list (w_arg rfl))))
    rw [List.length_map] at h5
    refine Nat.le_of_not_lt fun q => ?_
    have q' : (n : Int) < ((ns.length : Nat) : Int) := by omega
    first
      | (rw [decide_eq_true q'] at h5; exact absurd h5 (by decide))
      | (simp at h5; omega)
  cases hwl with
  | cons w1 w2 =>
    cases w2
    cases w1 with
    | list ho hall => exact ⟨_, _, ns, rfl, rfl, ho, ints_of_wellAll ns _ hall, hlen⟩
theorem post_true (l : OpenLaw) (args : List WData) : l.row.toRowW.claim.post args (.bool true) args = true :=
  postW_of (r := l.row.toRowW) (X := (true == true))
    (show WShape.has [] (.bool true) .bool = true by first | rfl | decide | simp [WShape.has, WShape.arms, WShape.armsAll])
    (show (WTm.eq .res (.lit (.bool true))).value [] { args := args, res := some (.bool true), after := args } = some (.bool (true == true)) from w_eq_bool (w_res rfl) w_lit) rfl
theorem attach_call {l : OpenLaw} {n : Nat} {q : Program} {loose : List Str} {XP : (Str → Option Value) → Heap → Prop} {YP : World → Heap → Prop} {d : DefRec}
    (hn : l.most = some n) (hdf : d.params.defaults = [])
    (call : ∀ (w : World) (s₀ s₁ : Shared) (mg mb : Str → Option Value) (fa : Addr) (o : Obj) (pm cd doc : Value) (a : Addr) (vs : List Value) (ns : List Int),
      Ground q loose [] XP w s₀ mg mb s₁.heap → YP w s₁.heap →
      s₁.heap.get? fa = some o → o.data = .func (docDef d.name d.params d.body d.scope pm cd doc) → s₁.heap.CodeRec cd d.name → mg d.name = some (.ref fa) →
      s₁.heap.get? a = some { cls := .type "list", data := .seq vs.toArray } → IntsAre vs ns → ns.length ≤ n → s₁.gens = #[] →
      codeAny (model l.prog w) callerA (.call (.ref fa) ⟨[.ref a], []⟩) (fun r s' => r = .ok (.ret (.bool true)) ∧ OldK s₁.heap s'.heap ∧ s'.os = s₁.os ∧ AllBare s'.gens) s₁) :
    WalkO q loose XP YP l.row.toRowW d [] (fun f vs => PySem.call f vs) := by
  intro w s₀ s₁ mg mb G Y fa o pm cd doc dV kV ho hd hcd hD hmg hg args vals as hpre hlay hrd hwl hlo
  obtain rfl : dV = .none := Dflts.none hD hdf
  obtain rfl : kV = .none := Dflts.noKw hD
  obtain ⟨a, vs, ns, rfl, rfl, hobj, hints, hlen⟩ := script_of hn hpre hwl
  refine enter_call (codeAny_mono (call w s₀ s₁ mg mb fa o pm cd doc a vs ns G Y ho (fd_plain hd) hcd hmg hobj hints hlen hg) fun r s' hq => ?_)
  obtain ⟨rfl, h2, h3, h4⟩ := hq
  exact ⟨.inl ⟨.bool true, .bool true, [], rfl, fun _ => rfl, .bool true, post_true l _, fun _ => ⟨List.Pairwise.nil, fun _ hm => (nomatch hm)⟩⟩, h2, h3, h4⟩
section
variable {prog : Program} {w : World} {A : Around} {E : Value → Shared → Prop} {s : Shared} {K : Frag}
def ledger (h : Heap) (L d : Addr) : List (Addr × Obj) := (List.range h.objs.size).filterMap fun a => if a = L ∨ a = d then none else (h.get? a).map fun o => (a, o)
end
end Att
namespace L2
open PySem PySem.Spec PyProof.Rows
theorem vals_ints : ∀ {vs : List Value} {ns : List Int}, IntsAre vs ns → Vals (ns.map V.int) vs
  | _, _, .nil => .nil
  | _, _, .cons n t h => .cons ⟨t, rfl⟩ (vals_ints h)
def Only (H : Hp) : Prop := ∀ b, H b = none ∨ ∃ o xs, H b = some (.frz o (.lst xs))
theorem law_call {P : Program} {w : World} {K : PySem.W.Frag} {mg mb : Str → Option Value} {CX : CXT} {k : Nat} {fa a : Addr} {fd : FuncData} {x : Str} {sp : Sp} {s₁ : Shared} {vs : List Value} {ns : List Int}
    (KX : K.In s₁.heap) (hns : s₁.heap.Ns mainGlobals mg) (hb : s₁.heap.Ns builtinsNs mb) (hbb : ∀ x : Str, x ≠ "__name__" → mb x = bootBuiltins x) (hlim : s₁.heap.NoLimit) (hg : s₁.gens = #[])
    (ha : s₁.heap.get? a = some { cls := .type "list", data := .seq vs.toArray }) (hi : IntsAre vs ns) (hl : ns.length ≤ sizeLine) (hr : Room k callerA)
    (F : ∀ base : Heap, K.In base → base.Ns mainGlobals mg → FnOk P w K mg base CX k fa fd [x] sp) (hbind : ∀ (s : Shared) (u : Value), BindsTo s fd ⟨[u], []⟩ [(x, u)])
    (hsp : ∀ H : Hp, Only H → SqL K H a (ns.map V.int) → sp [.ref a] H (fun v _ => v = .bl true) fun _ _ _ => False)
    (hCX : ∀ H e s', CX [] H s₁ (fun _ _ _ => False) e s' → False) :
    codeAny (model P w) callerA (.call (.ref fa) ⟨[.ref a], []⟩) (fun r s' => r = .ok (.ret (.bool true)) ∧ OldK s₁.heap s'.heap ∧ s'.os = s₁.os ∧ AllBare s'.gens) s₁ := by
  have rv := vals_ints hi
  have lenV := hi.length
  have core : ∀ H : Hp, Only H → SqL K H a (ns.map V.int) → HOk P w H s₁.heap → (∀ b, H b ≠ none → b = a) → (H a ≠ none → K.lookup a = none) →
      codeAny (model P w) callerA (.call (.ref fa) ⟨[.ref a], []⟩) (fun r s' => r = .ok (.ret (.bool true)) ∧ OldK s₁.heap s'.heap ∧ s'.os = s₁.os ∧ AllBare s'.gens) s₁ := by
    intro H hO hS hok hA hK
    have base_of : ∀ {b : Addr} {o : Obj}, s₁.heap.get? b = some o → H b = none → (hidT s₁.heap H).get? b = some o := fun e n => hidT_get e n
    have noA : ∀ {b : Addr} {o : Obj} {es : Array DictEntry} {ep : Nat}, s₁.heap.get? b = some o → o.data = .dict es ep → H b = none := fun {b o es ep} e d => by
      cases q : H b with
      | none => rfl
      | some u =>
        have e' : b = a := hA b (by rw [q]; simp)
        subst e'
        rw [ha] at e; cases e
        have d' : Data.seq vs.toArray _ = Data.dict es ep := d
        cases d'
    have nsK : ∀ {b : Addr} {m : Str → Option Value}, s₁.heap.Ns b m → (hidT s₁.heap H).Ns b m := fun {b m} ⟨o, es, ep, e, d, r⟩ => ⟨o, es, ep, base_of e (noA e d), d, r⟩
    have hKb : K.In (hidT s₁.heap H) := fun b o e => base_of (KX b o e) (by
      cases q : H b with
      | none => rfl
      | some u =>
        have e' : b = a := hA b (by rw [q]; simp)
        subst e'
        rw [hK (by rw [q]; simp)] at e; cases e)
    have hM : Mod K mg (hidT s₁.heap H) := ⟨hKb, nsK hns, ⟨mb, nsK hb, hbb⟩, let ⟨mc, h1, h2⟩ := hlim; ⟨mc, nsK h1, h2⟩⟩
    have e0 : Env0 P w K mg (hidT s₁.heap H) callerA [] s₁ H := ⟨rfl, hM, fun b o e => of_hidT e, Nat.le_of_eq (hidT_size _ _), trivial, fun b hb => absurd (show b ∈ ([] : List Addr) from hb) (by simp), hok, .of_eq hg⟩
    refine codeAny_mono ((F _ hKb (nsK hns)).run callerA [] s₁ H ⟨[.ref a], []⟩ [.ref a] [.ref a] _ _ hr e0 (hbind s₁ (.ref a)) (.cons rfl .nil) (hsp H hO hS)) fun r s' h => ?_
    cases r with
    | error e => exact (hCX H e s' h).elim
    | ok fl =>
      cases fl with
      | next => exact False.elim h
      | brk => exact False.elim h
      | cont => exact False.elim h
      | ret u =>
        obtain ⟨v, H', os, bare, un, hok', r', q⟩ := h
        have q' : v = .bl true := q
        subst q'
        obtain rfl : u = Value.bool true := r'
        refine ⟨rfl, OldK.of_keep fun b o e => ?_, os, bare⟩
        cases q : H b with
        | none => exact un.keep b o e q (by intro z; exact absurd (show b ∈ ([] : List Addr) from z) (by simp)) (by simp)
        | some u =>
          rcases hO b with z | ⟨ob, xs, z⟩
          · rw [q] at z; cases z
          · have z2 := un.frzs b ob _ z
            obtain ⟨e1, _⟩ := hok b _ z
            obtain ⟨e2, _⟩ := hok' b _ z2
            rw [e] at e1; cases e1
            exact e2
  cases hk : K.lookup a with
  | some o =>
    have e := KX a o hk
    rw [ha] at e
    cases e
    refine core (fun _ => none) (fun _ => .inl rfl) (.inr ⟨_, vs.toArray, _, hk, rfl, rfl, rfl, by rw [List.size_toArray, lenV]; exact hl, by simpa using rv⟩) (fun b u z => by have z' : (none : Option HO) = some u := z; cases z') (fun b z => absurd rfl z) fun z => absurd rfl z
  | none =>
    refine core (fun b => if b = a then some (.frz { cls := .type "list", data := .seq vs.toArray } (.lst (ns.map V.int))) else none) (fun b => ?_) (.inl (.inr ⟨{ cls := .type "list", data := .seq vs.toArray }, if_pos rfl⟩)) (fun b u z => ?_) (fun b z => ?_) fun _ => hk
    · by_cases hb : b = a
      · exact .inr ⟨_, _, if_pos hb⟩
      · exact .inl (if_neg hb)
    · by_cases hb : b = a
      · have z' := (if_pos hb).symm.trans z
        cases z'
        subst hb
        exact ⟨ha, by rw [List.length_map]; exact hl, vs, _, rv, ha⟩
      · have z' := (if_neg hb).symm.trans z
        cases z'
    · by_cases hb : b = a
      · exact hb
      · exact absurd (if_neg hb) z
end L2
namespace L2
open PySem PySem.Spec PyProof.Rows
abbrev KOf {K : PySem.W.Frag} {h : Heap} (_ : K.In h) : PySem.W.Frag := K
theorem walk_of {l : PySem.W.OpenLaw} {n k : Nat} {q : Program} {loose : List Str} {XP : (Str → Option Value) → Heap → Prop} {YP : World → Heap → Prop} {d : DefRec} {K : Params → PySem.W.Frag} {CX : World → CXT} {sp : World → Sp} {x : Str}
    (hn : l.most = some n) (hn2 : n ≤ sizeLine) (hdf : d.params.defaults = []) (hr : Room k callerA)
    (hY : ∀ (w : World) (h : Heap), YP w h → (K w.params).In h)
    (F : ∀ (w : World) (mg : Str → Option Value) (fa : Addr) (h : Heap), (K w.params).In h → h.Ns mainGlobals mg → mg d.name = some (.ref fa) →
      ∃ fd : FuncData, (∀ (s : Shared) (u : Value), BindsTo s fd ⟨[u], []⟩ [(x, u)]) ∧
        ∀ base : Heap, (K w.params).In base → base.Ns mainGlobals mg → FnOk l.prog w (K w.params) mg base (CX w) k fa fd [x] (sp w))
    (hsp : ∀ (w : World) (H : Hp) (a : Addr) (ns : List Int), ns.length ≤ n → Only H → SqL (K w.params) H a (ns.map V.int) → sp w [.ref a] H (fun v _ => v = .bl true) fun _ _ _ => False)
    (hCX : ∀ (w : World) (H : Hp) (s : Shared) (e : Value) (s' : Shared), CX w [] H s (fun _ _ _ => False) e s' → False) :
    PySem.W.WalkO q loose XP YP l.row.toRowW d [] (fun f vs => PySem.call f vs) := by
  refine Att.attach_call hn hdf fun w s₀ s₁ mg mb fa o pm cd doc a vs ns G Y ho hd hcd hmg hobj hints hlen hg => ?_
  have KX := hY w _ Y
  obtain ⟨fd, hb, hF⟩ := F w mg fa _ KX G.T.g hmg
  exact law_call KX G.T.g G.T.b G.T.builtins G.T.nolimit hg hobj hints (Nat.le_trans hlen hn2) hr hF hb (fun H hO hS => hsp w H a ns hlen hO hS) fun H e s' => hCX w H s₁ e s'
end L2
/- THE LAST THEOREM (shape; LID, My.* are yours):
   My.Adr: a structure of the addresses that your layer names (classes, functions); My.Txt K t: a structure (Prop) of the equations over K;
   My.txt_mk : {K} {implicit addresses ..} (e1 : nsIn K mainGlobals "law" = some (some (.ref f))) (e2 : K.lookup f = some ⟨oc, od, .func (fnOf "law" "law" params body scope dV kV doc pm an cdv ct), sl⟩) (e3 : codeIn K cdv "law" = true) .. : ∃ t, My.Txt K t
set_option maxRecDepth 100000 in
set_option maxHeartbeats 0 in
theorem PySem.Challenge.cw_LID_holds : PySem.Challenge.rw_LID.Holds := by
  w_on; o_law; k_head; (case hw => w_witness2)
  k_fill
  refine L2.walk_of (l := PySem.Challenge.rw_LID) (n := 63) (k := 40) (x := "script") (CX := fun w => ..) (sp := fun _ => My.sp_law) rfl (by decide) rfl ⟨rfl, by decide, by decide⟩ (fun w h Y => PySem.W.kIn_of Y) ?F ?S ?C
  case F =>
    intro w mg fa h KX G hmg
    have T : ∃ t, My.Txt (L2.KOf KX) t := by
      dsimp only [L2.KOf]                          -- K must stand as «<heap const> w.params» for k_is
      refine' My.txt_mk ?e1 ?e2 ?e3 ..
      (case e1 => PySem.W.k_is)                    -- in the order: a name -> its address -> its object -> its parts
      (case e2 => PySem.W.k_is)
      ..
    obtain ⟨t, T⟩ := T
    have e0 := hmg.symm.trans (PySem.W.mg_of KX G T.law)
    cases e0                                       -- fa is the law's own address
    exact ⟨_, fun s u => .of_eq rfl, fun base kb nb => My.law_fn T kb nb⟩     -- if «.of_eq rfl» comes too early: refine' ⟨_, ?b, fun base kb nb => My.law_fn T kb nb⟩; exact fun s u => .of_eq rfl
  case S => exact fun w H a ns hl hO hS => ..
  case C => exact ..
(the tactic k_is has no namespace: write k_is) -/
namespace L2
open PySem PySem.Spec PyProof.Rows
def inClass (s : Stmt) (j : Nat) : Stmt := match s with
  | .ClassDef _ _ _ body _ _ _ _ _ _ _ => body.getD j (.Pass ⟨0, 0, 0, 0⟩)
  | _ => .Pass ⟨0, 0, 0, 0⟩
def defArgs (s : Stmt) : Arguments := match s with
  | .FunctionDef _ a _ _ _ _ _ _ _ _ => a
  | _ => { posonlyargs := [], args := [], vararg := none, kwonlyargs := [], kw_defaults := [], kwarg := none, defaults := [] }
def defBody (s : Stmt) : List Stmt := match s with
  | .FunctionDef _ _ b _ _ _ _ _ _ _ => b
  | _ => []
def defScope (s : Stmt) : Scope := match s with
  | .FunctionDef _ _ _ _ _ _ sc _ _ _ => sc
  | _ => { kind := .function, names := [], isGenerator := false, isCoroutine := false }
abbrev CX0 : CXT := fun _ _ _ _ _ _ => False
abbrev E0 : XK := fun _ _ _ => False
theorem pass0 {X : Cx} : Passes CX0 X E0 := fun _ _ _ _ _ _ _ h => h.elim
structure Fun (K : PySem.W.Frag) (x qual : Str) (st : Stmt) (f : Addr) (fd : FuncData) : Prop where
  ex : ∃ (oc : Value) (od : Option Addr) (kV doc pm : Value) (an : Option Addr) (cdv ct : Value) (osl : Array (Option Value)),
    fd = PySem.W.fnOf x qual (defArgs st) (defBody st) (defScope st) .none kV doc pm an cdv ct ∧ K.lookup f = some ⟨oc, od, .func fd, osl⟩ ∧ PySem.W.codeIn K cdv qual = true
  kp : PySem.W.keepIn K (.ref f) = true
section
variable {P : Program} {w : World} {K : PySem.W.Frag} {mg : Str → Option Value} {base : Heap}
theorem Fun.ok {x qual : Str} {st : Stmt} {f : Addr} {fd : FuncData} {N ps : List Str} {k : Nat} {sp : Sp} (F : Fun K x qual st f fd) (S : FnScope N ps (defScope st)) (len : ∀ vs H Q E, sp vs H Q E → vs.length = ps.length)
    (hbody : ∀ (cdv : Value) (A : Around) (outer : List Env) (s : Shared) (H : Hp) (vs : List V) (Q : VK) (E : XK), Room k (A.deeper (envOfC qual (defScope st) s.heap.objs.size f cdv)) → sp vs H Q E →
      ∃ t, PSs (cxOf CX0 P w K mg base N qual (defScope st) f cdv A outer s H E).nox (defBody st) t ∧ t { nx := fun _ H' => Q .non H', rt := Q } (start N vs) H) : FnOk P w K mg base CX0 (k + 1) f fd ps sp := by
  obtain ⟨oc, od, kV, doc, pm, an, cdv, ct, osl, rfl, lk, hcd⟩ := F.ex
  refine fn_of lk hcd S len fun A outer s H vs Q E hr hsp => ?_
  obtain ⟨t, h, q⟩ := hbody cdv A outer s H vs Q E hr hsp
  exact ⟨t, h.nox, q⟩
theorem Fun.binds {x qual : Str} {st : Stmt} {f : Addr} {fd : FuncData} {ps : List Str} (F : Fun K x qual st f fd)
    (h : ∀ (kV doc pm : Value) (an : Option Addr) (cdv ct : Value) (us : List Value), us.length = ps.length → bindArgs (PySem.W.fnOf x qual (defArgs st) (defBody st) (defScope st) .none kV doc pm an cdv ct) ⟨us, []⟩ = pure (ps.zip us)) : Binds K fd ps [] := by
  obtain ⟨oc, od, kV, doc, pm, an, cdv, ct, osl, rfl, lk, hcd⟩ := F.ex
  exact .all (h kV doc pm an cdv ct)
theorem fun_mk {x qual : Str} {st : Stmt} {f : Addr} {oc : Value} {od an : Option Addr} {osl : Array (Option Value)} {kV doc pm cdv ct : Value} (l : K.lookup f = some ⟨oc, od, .func (PySem.W.fnOf x qual (defArgs st) (defBody st) (defScope st) .none kV doc pm an cdv ct), osl⟩)
    (c : PySem.W.codeIn K cdv qual = true) (k : PySem.W.keepIn K (.ref f) = true) : Fun K x qual st f (PySem.W.fnOf x qual (defArgs st) (defBody st) (defScope st) .none kV doc pm an cdv ct) := ⟨⟨oc, od, kV, doc, pm, an, cdv, ct, osl, rfl, l, c⟩, k⟩
end
section
variable {X : Cx}
theorem pv (i : Nat) {x : Str} {pos : Pos} (hN : X.N[i]? = some x := by rfl) (hv : Vis X.env.scope x := by first | exact Or.inl rfl | exact Or.inr (Or.inl rfl) | exact Or.inr (Or.inr rfl)) (hd : (x == ("__debug__" : Str)) = false := by decide)
    (hcd : (x == ("__classdict__" : Str)) = false := by decide) : PE X (.Name x pos) (tVar i) := pe_var hN hv hd hcd
end
theorem iteF {A B : Prop} (h : B) : if false = true then A else B := by
  rw [if_neg Bool.false_ne_true]
  exact h
theorem iteT {A B : Prop} (h : A) : if true = true then A else B := by
  rw [if_pos rfl]
  exact h
theorem ite2 {c A B : Prop} [Decidable c] (h1 : c → A) (h2 : ¬ c → B) : if c then A else B := by
  by_cases h : c
  · rw [if_pos h]
    exact h1 h
  · rw [if_neg h]
    exact h2 h
theorem iteNS {c A B : Prop} [Decidable c] (hc : c) (h : B) : if (!decide c) = true then A else B := by
  rw [decide_eq_true hc]
  exact iteF h
def Same (H H' : Hp) : Prop := ∀ b o, H b = some o → H' b = some o
theorem Same.refl (H : Hp) : Same H H := fun _ _ h => h
theorem Same.trans {H H1 H2 : Hp} (a : Same H H1) (b : Same H1 H2) : Same H H2 := fun c o h => b c o (a c o h)
theorem Same.seq {K : PySem.W.Frag} {H H' : Hp} {a : Addr} {xs : List V} (e : Same H H') (h : SqL K H a xs) : SqL K H' a xs := by
  rcases h with (h | ⟨o, h⟩) | h
  · exact .inl (.inl (e _ _ h))
  · exact .inl (.inr ⟨o, e _ _ h⟩)
  · exact .inr h
end L2
set_option maxHeartbeats 4000000
namespace L2
open PySem PySem.Spec PyProof.Rows
section
variable {X : Cx}
theorem call_isinst : CallR X (.builtin "isinstance") (fun xs H Q => ∃ x T t b, xs = [x, .ty T] ∧ TyOf X.K H x t ∧ PySem.W.kitOne X.K t (.type T) = some b ∧ Q (.bl b) H) := by
  intro pins s σ H xs us Q I r h
  obtain ⟨x, T, t, b, rfl, ty, e, q⟩ := h
  obtain ⟨u, c, rfl, rx, rc⟩ := vals2 r
  cases (show c = Value.type T from rc)
  exact isinst_ok I rx ty e fun tk => ⟨.bl b, H, I.tok tk, rfl, q⟩
end
section
variable {X : Cx}
def cutS (z : Str) (lo hi : Option Int) : Str := ⟨((z.cps.toList.drop (HT.sIx z.length 0 lo)).take (HT.sIx z.length z.length hi - HT.sIx z.length 0 lo)).toArray⟩
theorem sIx_clip (n d : Nat) (v : Int) : max (0 : Int) (min (if v < 0 then v + (n : Int) else v) (n : Int)) = ((HT.sIx n d (some v) : Nat) : Int) := by
  show _ = (((if v < 0 then (v + (n : Int)).toNat else min v.toNat n) : Nat) : Int)
  by_cases hv : v < 0
  · simp only [if_pos hv]; omega
  · simp only [if_neg hv]; omega
theorem strIx_eq (lo hi : Option Int) (n : Nat) : Builtin.Str.strSliceIndices lo hi 1 n = (List.range (HT.sIx n n hi - HT.sIx n 0 lo)).map (fun k => HT.sIx n 0 lo + k) := by
  have h1 : (1 : Int) > 0 := by decide
  have hb : HT.sIx n n hi ≤ n := HT.sIx_le _ _ (Nat.le_refl _) hi
  have ha : HT.sIx n 0 lo ≤ n := HT.sIx_le _ _ (Nat.zero_le _) lo
  have key : ∀ a b : Nat, sliceRange (a : Int) (b : Int) 1 = (List.range (b - a)).map (fun k => a + k) := fun a b => sliceRange_one a b
  unfold Builtin.Str.strSliceIndices
  simp only [h1, if_true]
  cases lo with
  | none =>
    cases hi with
    | none => exact key 0 n
    | some v =>
      dsimp only
      rw [sIx_clip n n v]
      exact key 0 _
  | some u =>
    cases hi with
    | none =>
      dsimp only
      rw [sIx_clip n 0 u]
      exact key _ n
    | some v =>
      dsimp only
      rw [sIx_clip n n v, sIx_clip n 0 u]
      exact key _ _
theorem strPick_eq (z : Str) (lo hi : Option Int) : (Builtin.Str.strSliceIndices lo hi 1 z.length).filterMap (z.cps[·]?) = (z.cps.toList.drop (HT.sIx z.length 0 lo)).take (HT.sIx z.length z.length hi - HT.sIx z.length 0 lo) := by
  rw [strIx_eq]
  exact pick_run z.cps _ _
theorem strSlice_eq (z : Str) (lo hi : Option Int) : (if ((1 : Int) == 1 && (Builtin.Str.strSliceIndices lo hi 1 z.length).length == z.length) = true then z else ⟨((Builtin.Str.strSliceIndices lo hi 1 z.length).filterMap (z.cps[·]?)).toArray⟩) = cutS z lo hi := by
  rw [strPick_eq]
  split
  · rename_i h
    have hl : HT.sIx z.length z.length hi - HT.sIx z.length 0 lo = z.length := by
      rw [strIx_eq] at h
      simpa using h
    have hb : HT.sIx z.length z.length hi ≤ z.length := HT.sIx_le _ _ (Nat.le_refl _) hi
    have h0 : HT.sIx z.length 0 lo = 0 := by
      by_cases q : z.length = 0
      · have ha : HT.sIx z.length 0 lo ≤ z.length := HT.sIx_le _ _ (Nat.zero_le _) lo
        omega
      · omega
    unfold cutS
    rw [hl, h0, List.drop_zero, List.take_of_length_le (by simp [Str.length])]
  · rfl
def rSlS : V → Option Int → Option Int → Hp → VK → Prop := fun x lo hi H Q => ∃ z, x = .str z ∧ z.length ≤ sizeLine ∧ Q (.str (cutS z lo hi)) H
theorem cutS_len (z : Str) (lo hi : Option Int) : (cutS z lo hi).length ≤ z.length := by
  show (List.take _ (List.drop _ z.cps.toList)).toArray.size ≤ z.cps.size
  rw [List.size_toArray, List.length_take, List.length_drop, Array.length_toList]
  omega
theorem sl_str : SlR X rSlS := by
  intro pins s σ H x v vl vu lo hi sl Q I rx hs pl pu h
  obtain ⟨z, rfl, hz, q⟩ := h
  obtain ⟨t, rfl⟩ := rx
  refine ⟨"str", _, F.slot_str_getitem.lookup, typeIs_str _ _ _, ?_⟩
  have fin : ∀ (l u : Option (Int × Tok)), l.map (·.1) = lo → u.map (·.1) = hi → (sliceMade z t l u none).post (EP X pins σ Q) s := fun l u el eu => by
    subst el; subst eu
    refine post_val_or_str ?_
    have e := strSlice_eq z (l.map (·.1)) (u.map (·.1))
    have e' : (if (((none : Option (Int × Tok)).map (·.1)).getD 1 == 1 && (slicePicked z l u none).length == z.length) = true then z else ⟨((slicePicked z l u none).filterMap (z.cps[·]?)).toArray⟩) = cutS z (l.map (·.1)) (u.map (·.1)) := e
    rw [e']
    exact ⟨Nat.le_trans (cutS_len _ _ _) hz, fun t' k => ⟨.str _, H, I.tok k, ⟨t', rfl⟩, q⟩⟩
  cases pl with
  | none =>
    cases pu with
    | none => exact wpAny_getItem_str_slice (l := none) (u := none) (st := none) hs rfl (fin none none rfl rfl)
    | int j tj => exact wpAny_getItem_str_slice (l := none) (u := some (j, tj)) (st := none) hs rfl (fin none (some (j, tj)) rfl rfl)
  | int i ti =>
    cases pu with
    | none => exact wpAny_getItem_str_slice (l := some (i, ti)) (u := none) (st := none) hs rfl (fin (some (i, ti)) none rfl rfl)
    | int j tj => exact wpAny_getItem_str_slice (l := some (i, ti)) (u := some (j, tj)) (st := none) hs rfl (fin (some (i, ti)) (some (j, tj)) rfl rfl)
end
mutual
inductive RdV (K : PySem.W.Frag) (H : Hp) : V → PyData → Prop where
  | non : RdV K H .non .none
  | bl (b : Bool) : RdV K H (.bl b) (.bool b)
  | int (i : Int) : RdV K H (.int i) (.int i)
  | str (x : Str) : RdV K H (.str x) (.str x)
  | lst {a : Addr} {xs : List V} {ds : List PyData} : SqL K H a xs → RdAll K H xs ds → RdV K H (.ref a) (.list ds)
  | tup {a : Addr} {xs : List V} {ds : List PyData} : SqT K H a xs → RdAll K H xs ds → RdV K H (.ref a) (.tuple ds)
inductive RdAll (K : PySem.W.Frag) (H : Hp) : List V → List PyData → Prop where
  | nil : RdAll K H [] []
  | cons {v : V} {vs : List V} {d : PyData} {ds : List PyData} : RdV K H v d → RdAll K H vs ds → RdAll K H (v :: vs) (d :: ds)
end
section
variable {X : Cx} {pins : List (Addr × Obj)} {σ : St} {H : Hp} {s : Shared}
mutual
theorem RdV.reads (I : Inv X pins σ H s) : ∀ {v : V} {d : PyData} {u : Value}, RdV X.K H v d → RelV v u → ∃ as, Reads s.heap u d as
  | _, _, u, .non, r => by cases (show u = Value.none from r); exact ⟨_, .none⟩
  | _, _, u, .bl b, r => by cases (show u = Value.bool b from r); exact ⟨_, .bool b⟩
  | _, _, u, .int i, r => by obtain ⟨t, e⟩ := (show ∃ t, u = Value.int i t from r); cases e; exact ⟨_, .int i t⟩
  | _, _, u, .str x, r => by obtain ⟨t, e⟩ := (show ∃ t, u = Value.str x t from r); cases e; exact ⟨_, .str x t⟩
  | _, _, u, @RdV.lst _ _ a xs ds hq hr, r => by
    cases (show u = Value.ref a from r)
    obtain ⟨its, rv, ⟨o, n, e, c, _, dt⟩, _⟩ := I.list hq
    obtain ⟨as, q⟩ := RdAll.reads I hr rv
    exact ⟨_, .list e c dt (by simpa using q)⟩
  | _, _, u, @RdV.tup _ _ a xs ds hq hr, r => by
    cases (show u = Value.ref a from r)
    obtain ⟨its, rv, ⟨o, e, c, n, dt⟩, _⟩ := I.tuple hq
    obtain ⟨as, q⟩ := RdAll.reads I hr rv
    exact ⟨_, .tuple e c dt (by simpa using q)⟩
theorem RdAll.reads (I : Inv X pins σ H s) : ∀ {vs : List V} {ds : List PyData} {us : List Value}, RdAll X.K H vs ds → Vals vs us → ∃ as, ReadsAll s.heap us ds as
  | _, _, _, .nil, r => by cases r; exact ⟨_, .nil⟩
  | _, _, _, .cons h t, r => by
    cases r with
    | cons r1 r2 =>
      obtain ⟨as, q⟩ := RdV.reads I h r1
      obtain ⟨bs, q2⟩ := RdAll.reads I t r2
      exact ⟨_, .cons q q2⟩
end
end
section
variable {X : Cx}
end
mutual
theorem eqv_self : ∀ d : PyData, d.canLay0 = true → PyData.eqv d d = true
  | .none, _ => by simp [PyData.eqv]
  | .bool _, _ => by simp [PyData.eqv]
  | .int _, _ => by simp [PyData.eqv]
  | .str _, _ => by simp [PyData.eqv]
  | .list xs, h => by
    simp only [PyData.eqv]
    exact eqvAll_self xs (by simpa [PyData.canLay0] using h)
  | .tuple xs, h => by
    simp only [PyData.eqv]
    exact eqvAll_self xs (by simpa [PyData.canLay0] using h)
  | .dict _, h => by simp [PyData.canLay0] at h
theorem eqvAll_self : ∀ ds : List PyData, PyData.canLayAll0 ds = true → PyData.eqvAll ds ds = true
  | [], _ => by simp [PyData.eqvAll]
  | d :: ds, h => by
    simp only [PyData.canLayAll0, Bool.and_eq_true] at h
    simp only [PyData.eqvAll, Bool.and_eq_true]
    exact ⟨eqv_self d h.1, eqvAll_self ds h.2⟩
end
theorem in_one (z : Str) (c : Nat) : (!(Builtin.Str.occurrences z ⟨#[c]⟩ 0 z.length 1).isEmpty) = decide (c ∈ z.cps.toList) := PySem.StrLaws.found_one z c
theorem op_in_one {X : Cx} : OpR X (compareOp .In) (fun x y H Q => ∃ c z, x = .str ⟨#[c]⟩ ∧ y = .str z ∧ Q (.bl (decide (c ∈ z.cps.toList))) H) := by
  intro pins s σ H x y v u Q I rx ry h
  obtain ⟨c, z, e1, e2, q⟩ := h
  exact op_in_str pins s σ H x y v u Q I rx ry ⟨_, _, e1, e2, by rw [in_one]; exact q⟩
end L2
namespace L2
open PySem PySem.Spec PyProof.Rows
structure Fn (P : Program) (w : World) (K : PySem.W.Frag) (mg : Str → Option Value) (base : Heap) (k : Nat) (x : Str) (ps : List Str) (sp : Sp) : Prop where
  ex : ∃ (f : Addr) (fd : FuncData), FnOk P w K mg base CX0 k f fd ps sp ∧ Binds K fd ps [] ∧ PySem.W.keepIn K (.ref f) = true ∧ mg x = some (.ref f)
theorem pe_fn {X : Cx} {k k' : Nat} {x : Str} {ps : List Str} {sp : Sp} {p pos : Pos} {e : Expr} {es : List Expr} {t : TA} (F : Fn X.prog X.w X.K X.mg X.base k x ps sp) (hr : Room k' X.A) (ha : PA X (e :: es) t) (hk : k ≤ k' := by decide) (hg : Gl X x := by rfl)
    (hdb : (x == ("__debug__" : Str)) = false := by decide) (he : starEach (e :: es) X.env = (false, eval e X.env) :: starEach es X.env := by rfl) (hpl : (backTo pos (starEach es X.env)).any (·.1) = false := by rfl) :
    PE X (.Call (.Name x p) (e :: es) [] pos) (tCall sp [] E0 t) := by
  obtain ⟨f, fd, h1, h2, h3, h4⟩ := F.ex
  exact pe_call h1 (hr.mono hk) hg h4 h3 h2 .nil pass0 ha hdb he hpl
theorem iteP {c A B : Prop} [Decidable c] (hc : c) (h : A) : if decide c = true then A else B := by
  rw [decide_eq_true hc]
  exact iteT h
theorem iteN {c A B : Prop} [Decidable c] (hc : ¬ c) (h : B) : if decide c = true then A else B := by
  rw [decide_eq_false hc]
  exact iteF h
theorem same_new {H : Hp} {p : Addr} (h : H p = Option.none) (o : HO) : Same H (upd H p o) := fun b u q => by rw [upd_ne (ne_of_none q h)]; exact q
def S (l : List Nat) : Str := ⟨l.toArray⟩
theorem S_list (l : List Nat) : (S l).cps.toList = l := by simp [S]
theorem S_len (l : List Nat) : (S l).length = l.length := by simp [S, Str.length]
theorem S_self (z : Str) : S z.cps.toList = z := by cases z; simp [S]
theorem S_inj {a b : List Nat} (h : S a = S b) : a = b := by
  have := congrArg (fun z : Str => z.cps.toList) h
  simpa [S_list] using this
theorem S_app (a b : List Nat) : S a ++ S b = S (a ++ b) := by
  show Str.append (S a) (S b) = S (a ++ b)
  simp [Str.append, S]
end L2
namespace L2
open PySem PySem.Spec PyProof.Rows
def tCut (t : TS) : TS := fun D σ H => ∃ R : St → Hp → Prop, t { D with nx := R } σ H ∧ ∀ σ' H', R σ' H' → D.nx σ' H'
theorem ps_cut {X : Cx} {st : Stmt} {t : TS} (h : PS X st t) : PS X st (tCut t) := by
  intro pins s σ H D I hw
  obtain ⟨R, h1, h2⟩ := hw
  refine thn (h pins s σ H { D with nx := R } I h1) fun f s1 q => ?_
  cases f with
  | next =>
    obtain ⟨σ', H', I', q⟩ := q
    exact ⟨σ', H', I', h2 _ _ q⟩
  | brk => exact q
  | cont => exact q
  | ret v => exact q
theorem depth_strs : ∀ xs : List Str, PyData.depthAll (xs.map PyData.str) = 0
  | [] => by simp [PyData.depthAll]
  | x :: r => by simp [PyData.depthAll, PyData.depth, depth_strs r]
end L2
namespace L2
open PySem PySem.Spec PyProof.Rows
structure DefAt (K : PySem.W.Frag) (x : Str) (st : Stmt) : Prop where
  ex : ∃ (f : Addr) (oc : Value) (od : Option Addr) (kV doc pm : Value) (an : Option Addr) (cdv ct : Value) (osl : Array (Option Value)),
    PySem.W.nsIn K mainGlobals x = some (some (.ref f)) ∧ K.lookup f = some ⟨oc, od, .func (PySem.W.fnOf x x (defArgs st) (defBody st) (defScope st) .none kV doc pm an cdv ct), osl⟩ ∧ PySem.W.codeIn K cdv x = true ∧ PySem.W.keepIn K (.ref f) = true
theorem DefAt.mk' {K : PySem.W.Frag} {x : Str} {st : Stmt} {f : Addr} {oc : Value} {od : Option Addr} {kV doc pm : Value} {an : Option Addr} {cdv ct : Value} {osl : Array (Option Value)}
    (a : PySem.W.nsIn K mainGlobals x = some (some (.ref f))) (l : K.lookup f = some ⟨oc, od, .func (PySem.W.fnOf x x (defArgs st) (defBody st) (defScope st) .none kV doc pm an cdv ct), osl⟩) (c : PySem.W.codeIn K cdv x = true) (k : PySem.W.keepIn K (.ref f) = true) : DefAt K x st :=
  ⟨f, oc, od, kV, doc, pm, an, cdv, ct, osl, a, l, c, k⟩
theorem DefAt.fn {P : Program} {w : World} {K : PySem.W.Frag} {mg : Str → Option Value} {base h : Heap} {k : Nat} {x : Str} {st : Stmt} {ps : List Str} {sp : Sp} (D : DefAt K x st) (X : K.In h) (G : h.Ns mainGlobals mg)
    (ok : ∀ (f : Addr) (fd : FuncData), Fun K x x st f fd → FnOk P w K mg base CX0 k f fd ps sp)
    (hb : ∀ (kV doc pm : Value) (an : Option Addr) (cdv ct : Value) (us : List Value), us.length = ps.length → bindArgs (PySem.W.fnOf x x (defArgs st) (defBody st) (defScope st) .none kV doc pm an cdv ct) ⟨us, []⟩ = pure (ps.zip us)) : Fn P w K mg base k x ps sp := by
  obtain ⟨f, oc, od, kV, doc, pm, an, cdv, ct, osl, a, l, c, kp⟩ := D.ex
  have F := fun_mk (st := st) l c kp
  exact ⟨f, _, ok f _ F, F.binds hb, kp, PySem.W.mg_of X G a⟩
end L2
namespace K3
def letL : List Nat := [97, 98, 99, 100, 101, 102, 103, 104, 105, 106, 107, 108, 109, 110, 111, 112, 113, 114, 115, 116, 117, 118, 119, 120, 121, 122]
def figL : List Nat := [48, 49, 50, 51, 52, 53, 54, 55, 56, 57]
def sgnL : List Nat := [40, 41, 59, 58, 61, 124, 42]
theorem let_sgn : ∀ c ∈ letL, c ∉ sgnL := by decide
theorem fig_sgn : ∀ c ∈ figL, c ∉ sgnL := by decide
theorem fig_let : ∀ c ∈ figL, c ∉ letL := by decide
theorem sgn_32 : ∀ c ∈ sgnL, c ≠ 32 ∧ c ≠ 45 := by decide
theorem let_32 : ∀ c ∈ letL, c ≠ 32 ∧ c ≠ 45 := by decide
theorem fig_32 : ∀ c ∈ figL, c ≠ 32 ∧ c ≠ 45 := by decide
theorem n45 : 45 ∉ sgnL ∧ 45 ∉ letL ∧ (45 : Nat) ≠ 32 := by decide
theorem n32 : 32 ∉ letL ∧ 32 ∉ figL := by decide
structure Num (w : List Nat) : Prop where
  ne : w ≠ []
  len : w.length ≤ 60
  all : ∀ c ∈ w, c ∈ figL
  lead : w[0]? = some 48 → w.length = 1
inductive Word : List Nat → Prop where
  | sign {c : Nat} : c ∈ sgnL → Word [c]
  | name {w : List Nat} : w ≠ [] → w.length ≤ 8 → (∀ c ∈ w, c ∈ letL) → Word w
  | num {w : List Nat} : Num w → Word w
  | neg {w : List Nat} : Num w → w ≠ [48] → Word (45 :: w)
def Sep (w rest : List Nat) : Prop := ∀ a b, w.getLast? = some a → rest[0]? = some b → ¬ (a ∈ letL ∧ b ∈ letL) ∧ ¬ (a ∈ figL ∧ b ∈ figL)
theorem Sep.nil (w : List Nat) : Sep w [] := fun a b _ h => by simp at h
theorem Sep.blank (w r : List Nat) : Sep w (32 :: r) := fun a b _ h => by
  have e : 32 = b := by simpa using h
  subst e
  exact ⟨fun q => n32.1 q.2, fun q => n32.2 q.2⟩
theorem Word.ne {w : List Nat} (h : Word w) : w ≠ [] := by
  cases h with
  | sign _ => simp
  | name h _ _ => exact h
  | num h => exact h.ne
  | neg _ _ => simp
theorem Word.len {w : List Nat} (h : Word w) : w.length ≤ 61 := by
  cases h with
  | sign _ => simp
  | name _ h _ => omega
  | num h => have := h.len; omega
  | neg h _ => have := h.len; simp only [List.length_cons]; omega
theorem Word.head {w : List Nat} (h : Word w) : ∃ c r, w = c :: r ∧ c ≠ 32 := by
  cases h with
  | @sign c h => exact ⟨c, [], rfl, (sgn_32 c h).1⟩
  | name h _ a =>
    cases w with
    | nil => exact absurd rfl h
    | cons c r => exact ⟨c, r, rfl, (let_32 c (a c (by simp))).1⟩
  | num h =>
    cases w with
    | nil => exact absurd rfl h.ne
    | cons c r => exact ⟨c, r, rfl, (fig_32 c (h.all c (by simp))).1⟩
  | @neg w h _ => exact ⟨45, w, rfl, n45.2.2⟩
def run (L : List Nat) (t : List Nat) : List Nat := t.takeWhile fun c => decide (c ∈ L)
theorem run_eq {L w rest : List Nat} (h : ∀ c ∈ w, c ∈ L) (hr : ∀ b, rest[0]? = some b → b ∉ L) : run L (w ++ rest) = w := by
  unfold run
  induction w with
  | nil =>
    cases rest with
    | nil => rfl
    | cons b r =>
      have := hr b (by simp)
      simp [this]
  | cons c w ih =>
    have hc : c ∈ L := h c (by simp)
    rw [List.cons_append, List.takeWhile_cons, if_pos (by simpa using hc), ih (fun d hd => h d (by simp [hd]))]
theorem last_of {w : List Nat} (h : w ≠ []) : ∃ a, w.getLast? = some a ∧ a ∈ w := by
  refine ⟨w.getLast h, List.getLast?_eq_some_getLast h, List.getLast_mem h⟩
theorem Sep.let_of {w rest : List Nat} (s : Sep w rest) (h : w ≠ []) (a : ∀ c ∈ w, c ∈ letL) : ∀ b, rest[0]? = some b → b ∉ letL := fun b hb q => by
  obtain ⟨x, hx, hm⟩ := last_of h
  exact (s x b hx hb).1 ⟨a x hm, q⟩
theorem Sep.fig_of {w rest : List Nat} (s : Sep w rest) (h : w ≠ []) (a : ∀ c ∈ w, c ∈ figL) : ∀ b, rest[0]? = some b → b ∉ figL := fun b hb q => by
  obtain ⟨x, hx, hm⟩ := last_of h
  exact (s x b hx hb).2 ⟨a x hm, q⟩
theorem Sep.tail {c : Nat} {w rest : List Nat} (s : Sep (c :: w) rest) (h : w ≠ []) : Sep w rest := fun a b ha hb => s a b (by
  cases w with
  | nil => exact absurd rfl h
  | cons d w => rw [List.getLast?_cons_cons]; exact ha) hb
inductive Writ : List Nat → List (List Nat) → Prop where
  | nil : Writ [] []
  | blank {t ws} : Writ t ws → Writ (32 :: t) ws
  | word {w t ws} : Word w → Sep w t → Writ t ws → Writ (w ++ t) (w :: ws)
def D (n : Nat) : List Nat := (Nat.toDigits 10 n).map Char.toNat
theorem dig (d : Nat) (h : d < 10) : (Nat.digitChar d).toNat = 48 + d := by
  have : ∀ d : Nat, d < 10 → (Nat.digitChar d).toNat = 48 + d := by decide
  exact this d h
theorem fig_of (d : Nat) (h : d < 10) : 48 + d ∈ figL := by
  have : ∀ d : Nat, d < 10 → 48 + d ∈ figL := by decide
  exact this d h
theorem D_small {n : Nat} (h : n < 10) : D n = [48 + n] := by
  unfold D
  rw [Nat.toDigits_of_lt_base h]
  simp [dig n h]
theorem D_step {n : Nat} (h : ¬ n < 10) : D n = D (n / 10) ++ [48 + n % 10] := by
  have hm : n % 10 < 10 := Nat.mod_lt n (by decide)
  have t : Nat.toDigits 10 (n / 10) ++ Nat.toDigits 10 (n % 10) = Nat.toDigits 10 (10 * (n / 10) + n % 10) := Nat.toDigits_append_toDigits (by decide) (by omega) hm
  rw [Nat.div_add_mod] at t
  unfold D
  rw [← t, List.map_append, Nat.toDigits_of_lt_base hm]
  simp [dig _ hm]
theorem D_facts : ∀ (k n : Nat), n < 10 ^ (k + 1) → D n ≠ [] ∧ (D n).length ≤ k + 1 ∧ (∀ c ∈ D n, c ∈ figL) ∧ (n ≠ 0 → (D n)[0]? ≠ some 48)
  | 0, n, h => by
    have h' : n < 10 := by simpa using h
    rw [D_small h']
    refine ⟨by simp, by simp, fun c hc => ?_, fun hn => ?_⟩
    · have : c = 48 + n := by simpa using hc
      rw [this]; exact fig_of n h'
    · simp; exact hn
  | k + 1, n, h => by
    by_cases h10 : n < 10
    · rw [D_small h10]
      refine ⟨by simp, by simp, fun c hc => ?_, fun hn => ?_⟩
      · have : c = 48 + n := by simpa using hc
        rw [this]; exact fig_of n h10
      · simp; exact hn
    · have hd : n / 10 < 10 ^ (k + 1) := by
        have : n < 10 * 10 ^ (k + 1) := by rw [Nat.pow_succ] at h; omega
        omega
      obtain ⟨a, b, c, d⟩ := D_facts k (n / 10) hd
      rw [D_step h10]
      refine ⟨by simp, by simp; omega, fun x hx => ?_, fun _ => ?_⟩
      · rcases List.mem_append.mp hx with q | q
        · exact c x q
        · have : x = 48 + n % 10 := by simpa using q
          rw [this]; exact fig_of _ (Nat.mod_lt n (by decide))
      · have e : (D (n / 10) ++ [48 + n % 10])[0]? = (D (n / 10))[0]? := by
          cases q : D (n / 10) with
          | nil => exact absurd q a
          | cons x r => simp
        rw [e]
        exact d (by omega)
theorem D_num {n : Nat} (h : n < 10 ^ 60) : Num (D n) := by
  obtain ⟨a, b, c, d⟩ := D_facts 59 n h
  refine ⟨a, b, c, fun q => ?_⟩
  by_cases hn : n = 0
  · subst hn; rw [D_small (by decide)]; rfl
  · exact absurd q (d hn)
theorem D_ne {n : Nat} (h : n < 10 ^ 60) (hn : n ≠ 0) : D n ≠ [48] := fun q => by
  obtain ⟨a, b, c, d⟩ := D_facts 59 n h
  exact d hn (by rw [q]; rfl)
end K3
namespace K3
theorem seg_step {L : List Nat} {k e c : Nat} (hk : k ≤ e) (he : L[e]? = some c) : (L.drop k).take (e + 1 - k) = (L.drop k).take (e - k) ++ [c] := by
  have h1 : e + 1 - k = (e - k) + 1 := by omega
  rw [h1, List.take_add_one, List.getElem?_drop, show k + (e - k) = e by omega, he]
  rfl
theorem seg_stop {L sg : List Nat} {k e : Nat} (hk : k ≤ e) (hall : ∀ c ∈ (L.drop k).take (e - k), c ∈ sg) (hstop : ∀ c, L[e]? = some c → c ∉ sg) : run sg (L.drop k) = (L.drop k).take (e - k) := by
  have h := run_eq (L := sg) (w := (L.drop k).take (e - k)) (rest := (L.drop k).drop (e - k)) hall (fun b hb => by
    rw [List.drop_drop, show k + (e - k) = e by omega] at hb
    exact hstop b (by simpa [List.getElem?_drop] using hb))
  rw [List.take_append_drop] at h
  exact h
theorem Writ.len {t : List Nat} {ws : List (List Nat)} (h : Writ t ws) : ws.length ≤ t.length := by
  induction h with
  | nil => simp
  | blank _ ih => simp only [List.length_cons]; omega
  | word hw _ _ ih =>
    have : 0 < (_ : List Nat).length := List.length_pos_iff.mpr hw.ne
    simp only [List.length_cons, List.length_append]; omega
theorem Writ.words {t : List Nat} {ws : List (List Nat)} (h : Writ t ws) : ∀ w ∈ ws, Word w := by
  induction h with
  | nil => intro w hw; cases hw
  | blank _ ih => exact ih
  | word hw _ _ ih =>
    intro w h
    rcases List.mem_cons.mp h with q | q
    · rw [q]; exact hw
    · exact ih w q
theorem Writ.step {t : List Nat} {ws : List (List Nat)} (h : Writ t ws) (ht : t ≠ []) :
    (∃ r, t = 32 :: r ∧ Writ r ws) ∨ ∃ w r vs, t = w ++ r ∧ ws = w :: vs ∧ Word w ∧ Sep w r ∧ Writ r vs := by
  cases h with
  | nil => exact absurd rfl ht
  | blank h => exact .inl ⟨_, rfl, h⟩
  | word a b c => exact .inr ⟨_, _, _, rfl, rfl, a, b, c⟩
theorem log_small {n : Nat} (h : n < 10 ^ 61) : n.log2 < 1920 := by
  by_cases h0 : n = 0
  · subst h0; decide
  · have h1 : 10 ^ 61 ≤ 2 ^ 203 := by decide
    have h2 : 2 ^ 203 ≤ 2 ^ 1920 := Nat.pow_le_pow_right (by decide) (by decide)
    exact (Nat.log2_lt h0).mpr (Nat.lt_of_lt_of_le h (Nat.le_trans h1 h2))
end K3
namespace K8
open PySem L2 K3
def top (i : Nat) : Stmt := PySem.Challenge.pw_turnery_k08_woods_refused.main.body.getD i (.Pass ⟨0, 0, 0, 0⟩)
abbrev sWords : Stmt := top 12
abbrev sWordAt : Stmt := top 13
abbrev sNameAt : Stmt := top 14
abbrev sBelow : Stmt := top 15
abbrev sFigures : Stmt := top 16
abbrev sRun : Stmt := top 17
abbrev sReader : Stmt := top 19
abbrev sBegins : Stmt := top 20
abbrev sReadW : Stmt := top 25
abbrev sKindF : Stmt := top 26
abbrev sRowF : Stmt := top 27
abbrev sChkN : Stmt := top 28
abbrev sChkK : Stmt := top 29
abbrev sChkR : Stmt := top 30
abbrev sTwice : Stmt := top 31
abbrev sCell : Stmt := top 33
abbrev sWord : Stmt := top 34
abbrev sWood : Stmt := top 35
abbrev sText : Stmt := top 36
abbrev sForm : Stmt := top 37
abbrev sNumF : Stmt := top 38
abbrev sWoodF : Stmt := top 39
abbrev sTold : Stmt := top 40
abbrev sLaw : Stmt := top 41
abbrev LETS : Str := Str.ofString "abcdefghijklmnopqrstuvwxyz"
abbrev FIGS : Str := Str.ofString "0123456789"
abbrev SGNS : Str := Str.ofString "();:=|*"
theorem let_eq : LETS = S letL := by decide +kernel
theorem fig_eq : FIGS = S figL := by decide +kernel
theorem sgn_eq : SGNS = S sgnL := by decide +kernel
theorem let_cps : LETS.cps.toList = letL := by rw [let_eq, S_list]
theorem fig_cps : FIGS.cps.toList = figL := by rw [fig_eq, S_list]
theorem sgn_cps : SGNS.cps.toList = sgnL := by rw [sgn_eq, S_list]
theorem minus_eq : Str.ofString "-" = S [45] := by decide +kernel
theorem blank_eq : Str.ofString " " = S [32] := by decide +kernel
theorem zero_eq : Str.ofString "0" = S [48] := by decide +kernel
theorem none_eq : Str.ofString "" = S [] := by decide +kernel
theorem size_line : sizeLine = 16777216 := by decide
structure Gm (mg : Str → Option Value) : Prop where
  len : mg "len" = none
  isi : mg "isinstance" = none
  str : mg "str" = none
  lst : mg "list" = none
  rng : mg "range" = none
  tup : mg "tuple" = none
  int : mg "int" = none
  sum : mg "sum" = none
  lets : ∃ t, mg "LETTERS" = some (.str LETS t)
  figs : ∃ t, mg "FIGURES" = some (.str FIGS t)
  sgns : ∃ t, mg "SIGNS" = some (.str SGNS t)
  ml : ∃ t, mg "MOST_LETTERS" = some (.int 8 t)
  mf : ∃ t, mg "MOST_FIGURES" = some (.int 60 t)
def spRun : Sp := fun vs H Q _ => ∃ (z : List Nat) (k : Nat) (sg : List Nat), vs = [.str (S z), .int k, .str (S sg)] ∧ z.length ≤ 9000 ∧ k ≤ z.length ∧ Q (.str (S (run sg (z.drop k)))) H
def spFig : Sp := fun vs H Q _ => ∃ (z : List Nat) (k : Nat), vs = [.str (S z), .int k] ∧ z.length ≤ 9000 ∧ k ≤ z.length ∧ Num (run figL (z.drop k)) ∧ Q (.str (S (run figL (z.drop k)))) H
def spBelow : Sp := fun vs H Q _ => ∃ (z : List Nat) (k : Nat), vs = [.str (S z), .int k] ∧ z.length ≤ 9000 ∧ k ≤ z.length ∧ Num (run figL (z.drop k)) ∧ run figL (z.drop k) ≠ [48] ∧ Q (.str (S (run figL (z.drop k)))) H
def spNameAt : Sp := fun vs H Q _ => ∃ (z : List Nat) (k : Nat), vs = [.str (S z), .int k] ∧ z.length ≤ 9000 ∧ k ≤ z.length ∧ (run letL (z.drop k)).length ≤ 8 ∧ Q (.str (S (run letL (z.drop k)))) H
def spWordAt : Sp := fun vs H Q _ => ∃ (z : List Nat) (k : Nat) (w r : List Nat), vs = [.str (S z), .int k] ∧ z.length ≤ 9000 ∧ z.drop k = w ++ r ∧ Word w ∧ Sep w r ∧ Q (.str (S w)) H
def W (ws : List (List Nat)) : List V := ws.map fun w => V.str (S w)
def spWords : Sp := fun vs H Q _ => ∃ (z : List Nat) (ws : List (List Nat)), vs = [.str (S z)] ∧ z.length ≤ 9000 ∧ Writ z ws ∧ ∀ (l : Addr) (H' : Hp), Same H H' → H' l = some (.lst (W ws)) → H l = none → Q (.ref l) H'
theorem line_of {n : Nat} (h : n ≤ 9000) : n ≤ sizeLine := by rw [size_line]; omega
theorem atS {z : List Nat} {k : Nat} {c : Nat} (h : z[k]? = some c) : atI (S z).cps.toList (k : Int) = some c := by
  rw [S_list]; exact atI_nat h
theorem one_S (c : Nat) : (⟨#[c]⟩ : Str) = S [c] := rfl
theorem str_ne {a b : List Nat} (h : a ≠ b) : ¬ V.str (S a) = V.str (S b) := fun q => h (S_inj (by injection q))
section
variable {P : Program} {w : World} {K : PySem.W.Frag} {mg : Str → Option Value} {base : Heap} {f : Addr} {fd : FuncData}
theorem scRun : FnScope ["text", "start", "signs", "end"] ["text", "start", "signs"] (defScope sRun) := ⟨rfl, rfl, rfl, by decide +kernel, rfl, by decide +kernel, by decide +kernel⟩
theorem cut_seg (z : List Nat) {k e : Nat} (hk : k ≤ e) (he : e ≤ z.length) : cutS (S z) (some (k : Int)) (some (e : Int)) = S ((z.drop k).take (e - k)) := by
  unfold cutS
  rw [HT.sIx_nat, HT.sIx_nat, S_list, S_len, Nat.min_eq_left he, Nat.min_eq_left (Nat.le_trans hk he)]
  rfl
theorem ok_run (F : Fun K "run_at" "run_at" sRun f fd) (G : Gm mg) : FnOk P w K mg base CX0 1 f fd ["text", "start", "signs"] spRun := by
  refine F.ok scRun (fun vs H Q E h => ?_) (fun cdv A outer s H vs Q E hr h => ?_)
  · obtain ⟨z, k, sg, rfl, _⟩ := h
    rfl
  obtain ⟨z, k, sg, rfl, hz, hk, q⟩ := h
  have hzl : (S z).length ≤ sizeLine := by rw [S_len]; exact line_of hz
  refine ⟨_, pss_cons (ps_set (i := 3) scRun.nd rfl (Or.inl rfl) (pv 1))
    (pss_cons (ps_while PassesOwn.never (PW.pt (pw_and (pt_cmpR op_lt (pv 3) (pe_callB call_len_str rfl G.len PySem.boot_len (pa_cons (pv 0) pa_nil)) (nomark _))
        (pw_and1 (pt_cmpR op_in_one (pe_ix ix_str (pv 0) (pv 3) (fun _ _ => rfl)) (pv 2) (by with_unfolding_all rfl)))))
      (pss_one (ps_aug (i := 3) scRun.nd rfl (Or.inl rfl) pe_int ip_add)))
    (pss_one (ps_ret (pe_slice sl_str (pv 0) (po_some (pv 1)) (po_some (pv 3)))))), ?_⟩
  refine ⟨_, rfl, ?_⟩
  have fin : ∀ e : Nat, k ≤ e → e ≤ z.length → (∀ c ∈ (z.drop k).take (e - k), c ∈ sg) → (∀ c, z[e]? = some c → c ∉ sg) → Q (.str (cutS (S z) (some (k : Int)) (some (e : Int)))) H := fun e h1 h2 h3 h4 => by
    rw [cut_seg z h1 h2, ← seg_stop h1 h3 h4]
    exact q
  refine ⟨fun m σ H' => ∃ e : Nat, σ = [some (.str (S z)), some (.int (k : Int)), some (.str (S sg)), some (.int (e : Int))] ∧ H' = H ∧ k ≤ e ∧ e ≤ z.length ∧ (∀ c ∈ (z.drop k).take (e - k), c ∈ sg) ∧ m = z.length - e,
    ⟨_, k, rfl, rfl, Nat.le_refl _, hk, (by intro c hc; simp at hc), rfl⟩, ?_⟩
  rintro m σ H' ⟨e, rfl, rfl, h1, h2, h3, rfl⟩
  refine ⟨_, rfl, _, rfl, _, rfl, hzl, _, _, rfl, rfl, _, rfl, ?_⟩
  refine ite2 (fun c => ?_) (fun c => ?_)
  · have c' : (e : Int) < (((S z).length : Nat) : Int) := of_decide_eq_true c
    rw [S_len] at c'
    have he : e < z.length := by omega
    have hat : z[e]? = some z[e] := List.getElem?_eq_getElem he
    refine ⟨_, rfl, _, rfl, _, _, _, rfl, rfl, hzl, atS hat, _, rfl, _, _, rfl, rfl, _, rfl, ?_⟩
    refine ite2 (fun d => ?_) (fun d => ?_)
    · have d' : z[e] ∈ (S sg).cps.toList := of_decide_eq_true d
      rw [S_list] at d'
      refine ⟨_, fun σ' H'' q' => q', _, rfl, _, _, rfl, rfl, ?_⟩
      refine ⟨z.length - (e + 1), by omega, e + 1, rfl, rfl, by omega, by omega, ?_, rfl⟩
      rw [seg_step h1 hat]
      intro x hx
      rcases List.mem_append.mp hx with y | y
      · exact h3 x y
      · have : x = z[e] := by simpa using y
        rw [this]; exact d'
    · have d' : ¬ z[e] ∈ (S sg).cps.toList := of_decide_eq_false (Bool.eq_false_iff.mpr d)
      rw [S_list] at d'
      refine ⟨_, rfl, _, rfl, _, rfl, _, rfl, _, rfl, _, rfl, hzl, ?_⟩
      exact fin e h1 h2 h3 (fun x hx => by rw [hat] at hx; cases hx; exact d')
  · have c' : ¬ (e : Int) < (((S z).length : Nat) : Int) := of_decide_eq_false (Bool.eq_false_iff.mpr c)
    rw [S_len] at c'
    refine ⟨_, rfl, _, rfl, _, rfl, _, rfl, _, rfl, _, rfl, hzl, ?_⟩
    exact fin e h1 h2 h3 (fun x hx => by rw [List.getElem?_eq_none (by omega)] at hx; cases hx)
theorem scFig : FnScope ["text", "start", "figures"] ["text", "start"] (defScope sFigures) := ⟨rfl, rfl, rfl, by decide +kernel, rfl, by decide +kernel, by decide +kernel⟩
theorem ok_fig (F : Fun K "figures_at" "figures_at" sFigures f fd) (G : Gm mg) (R : Fn P w K mg base 1 "run_at" ["text", "start", "signs"] spRun) : FnOk P w K mg base CX0 2 f fd ["text", "start"] spFig := by
  obtain ⟨tf, hf⟩ := G.figs
  obtain ⟨tm, hm⟩ := G.mf
  refine F.ok scFig (fun vs H Q E h => ?_) (fun cdv A outer s H vs Q E hr h => ?_)
  · obtain ⟨z, k, rfl, _⟩ := h
    rfl
  obtain ⟨z, k, rfl, hz, hk, hn, q⟩ := h
  refine ⟨_, pss_cons (ps_set (i := 2) scFig.nd rfl (Or.inl rfl) (pe_fn R hr (pa_cons (pv 0) (pa_cons (pv 1) (pa_cons (pe_glob (v := .str FIGS) rfl hf ⟨_, rfl⟩) pa_nil)))))
    (pss_cons (ps_if (pt_cmpR op_eq (pv 2) pe_str (nomark _)) pss_never pss_nil)
    (pss_cons (ps_if (pt_cmpR op_gt (pe_callB call_len_str rfl G.len PySem.boot_len (pa_cons (pv 2) pa_nil)) (pe_glob (v := .int 60) rfl hm ⟨_, rfl⟩) (nomark _)) pss_never pss_nil)
    (pss_cons (ps_if (PW.pt (pw_and (pt_cmpR op_eq (pe_ix ix_str (pv 2) pe_int (fun _ _ => rfl)) pe_str (nomark _)) (pw_and1 (pt_cmpR op_gt (pe_callB call_len_str rfl G.len PySem.boot_len (pa_cons (pv 2) pa_nil)) pe_int (nomark _))))) pss_never pss_nil)
    (pss_one (ps_ret (pv 2)))))), ?_⟩
  refine ⟨_, rfl, _, rfl, z, k, figL, by rw [← fig_eq]; rfl, hz, hk, ?_⟩
  have hlen : (S (run figL (z.drop k))).length ≤ sizeLine := by rw [S_len]; exact line_of (Nat.le_trans hn.len (by omega))
  obtain ⟨c, r, hc⟩ : ∃ c r, run figL (z.drop k) = c :: r := by
    cases e : run figL (z.drop k) with
    | nil => exact absurd e hn.ne
    | cons c r => exact ⟨c, r, rfl⟩
  have h0 : (run figL (z.drop k))[0]? = some c := by rw [hc]; rfl
  refine ⟨_, rfl, rfl, _, rfl, iteN (by rw [none_eq]; exact str_ne hn.ne) ?_⟩
  refine ⟨_, rfl, _, rfl, hlen, _, _, rfl, rfl, _, rfl, iteN (by rw [S_len]; have := hn.len; omega) ?_⟩
  refine ⟨_, rfl, _, 0, c, rfl, rfl, hlen, atS h0, rfl, _, rfl, ?_⟩
  by_cases hc0 : c = 48
  · have hl : (run figL (z.drop k)).length = 1 := hn.lead (by rw [h0, hc0])
    refine iteP (by rw [hc0, one_S, zero_eq]) ⟨_, rfl, _, rfl, hlen, _, _, rfl, rfl, _, rfl, iteN (by rw [S_len, hl]; decide) ?_⟩
    exact ⟨_, rfl, q⟩
  · refine iteN (by rw [one_S, zero_eq]; exact str_ne (by simpa using hc0)) (iteF ?_)
    exact ⟨_, rfl, q⟩
theorem scBelow : FnScope ["text", "start", "figures"] ["text", "start"] (defScope sBelow) := ⟨rfl, rfl, rfl, by decide +kernel, rfl, by decide +kernel, by decide +kernel⟩
theorem ok_below (F : Fun K "below_zero_at" "below_zero_at" sBelow f fd) (R : Fn P w K mg base 2 "figures_at" ["text", "start"] spFig) : FnOk P w K mg base CX0 3 f fd ["text", "start"] spBelow := by
  refine F.ok scBelow (fun vs H Q E h => ?_) (fun cdv A outer s H vs Q E hr h => ?_)
  · obtain ⟨z, k, rfl, _⟩ := h
    rfl
  obtain ⟨z, k, rfl, hz, hk, hn, h48, q⟩ := h
  refine ⟨_, pss_cons (ps_set (i := 2) scBelow.nd rfl (Or.inl rfl) (pe_fn R hr (pa_cons (pv 0) (pa_cons (pv 1) pa_nil))))
    (pss_cons (ps_if (pt_cmpR op_eq (pv 2) pe_str (nomark _)) pss_never pss_nil)
    (pss_one (ps_ret (pv 2)))), ?_⟩
  refine ⟨_, rfl, _, rfl, z, k, rfl, hz, hk, hn, ?_⟩
  refine ⟨_, rfl, rfl, _, rfl, iteN (by rw [zero_eq]; exact str_ne h48) ?_⟩
  exact ⟨_, rfl, q⟩
theorem scNameAt : FnScope ["text", "start", "name"] ["text", "start"] (defScope sNameAt) := ⟨rfl, rfl, rfl, by decide +kernel, rfl, by decide +kernel, by decide +kernel⟩
theorem ok_nameAt (F : Fun K "name_at" "name_at" sNameAt f fd) (G : Gm mg) (R : Fn P w K mg base 1 "run_at" ["text", "start", "signs"] spRun) : FnOk P w K mg base CX0 2 f fd ["text", "start"] spNameAt := by
  obtain ⟨tf, hf⟩ := G.lets
  obtain ⟨tm, hm⟩ := G.ml
  refine F.ok scNameAt (fun vs H Q E h => ?_) (fun cdv A outer s H vs Q E hr h => ?_)
  · obtain ⟨z, k, rfl, _⟩ := h
    rfl
  obtain ⟨z, k, rfl, hz, hk, hn, q⟩ := h
  refine ⟨_, pss_cons (ps_set (i := 2) scNameAt.nd rfl (Or.inl rfl) (pe_fn R hr (pa_cons (pv 0) (pa_cons (pv 1) (pa_cons (pe_glob (v := .str LETS) rfl hf ⟨_, rfl⟩) pa_nil)))))
    (pss_cons (ps_if (pt_cmpR op_gt (pe_callB call_len_str rfl G.len PySem.boot_len (pa_cons (pv 2) pa_nil)) (pe_glob (v := .int 8) rfl hm ⟨_, rfl⟩) (nomark _)) pss_never pss_nil)
    (pss_one (ps_ret (pv 2)))), ?_⟩
  refine ⟨_, rfl, _, rfl, z, k, letL, by rw [← let_eq]; rfl, hz, hk, ?_⟩
  have hlen : (S (run letL (z.drop k))).length ≤ sizeLine := by rw [S_len]; exact line_of (by omega)
  refine ⟨_, rfl, _, rfl, hlen, _, _, rfl, rfl, _, rfl, iteN (by rw [S_len]; omega) ?_⟩
  exact ⟨_, rfl, q⟩
theorem scWordAt : FnScope ["text", "start", "first"] ["text", "start"] (defScope sWordAt) := ⟨rfl, rfl, rfl, by decide +kernel, rfl, by decide +kernel, by decide +kernel⟩
theorem drop_at {z : List Nat} {k c : Nat} {r : List Nat} (h : z.drop k = c :: r) : z[k]? = some c ∧ k < z.length ∧ z.drop (k + 1) = r := by
  have h1 : z[k]? = some c := by
    have : (z.drop k)[0]? = some c := by rw [h]; rfl
    simpa [List.getElem?_drop] using this
  refine ⟨h1, (List.getElem?_eq_some_iff.mp h1).1, ?_⟩
  rw [← List.tail_drop, h]; rfl
theorem ok_wordAt (F : Fun K "word_at" "word_at" sWordAt f fd) (G : Gm mg) (RN : Fn P w K mg base 2 "name_at" ["text", "start"] spNameAt) (RF : Fn P w K mg base 2 "figures_at" ["text", "start"] spFig)
    (RB : Fn P w K mg base 3 "below_zero_at" ["text", "start"] spBelow) : FnOk P w K mg base CX0 4 f fd ["text", "start"] spWordAt := by
  obtain ⟨ts, hs⟩ := G.sgns
  obtain ⟨tl, hl⟩ := G.lets
  obtain ⟨tf, hf⟩ := G.figs
  refine F.ok scWordAt (fun vs H Q E h => ?_) (fun cdv A outer s H vs Q E hr h => ?_)
  · obtain ⟨z, k, u, r, rfl, _⟩ := h
    rfl
  obtain ⟨z, k, u, r, rfl, hz, hd, hw, hsep, q⟩ := h
  have hzl : (S z).length ≤ sizeLine := by rw [S_len]; exact line_of hz
  refine ⟨_, pss_cons (ps_set (i := 2) scWordAt.nd rfl (Or.inl rfl) (pe_ix ix_str (pv 0) (pv 1) (fun _ _ => rfl)))
    (pss_cons (ps_if (pt_cmpR op_in_one (pv 2) (pe_glob (v := .str SGNS) rfl hs ⟨_, rfl⟩) (by with_unfolding_all rfl)) (pss_one (ps_ret (pv 2))) pss_nil)
    (pss_cons (ps_if (pt_cmpR op_in_one (pv 2) (pe_glob (v := .str LETS) rfl hl ⟨_, rfl⟩) (by with_unfolding_all rfl)) (pss_one (ps_ret (pe_fn RN hr (pa_cons (pv 0) (pa_cons (pv 1) pa_nil))))) pss_nil)
    (pss_cons (ps_if (pt_cmpR op_eq (pv 2) pe_str (nomark _)) (pss_one (ps_ret (pe_op op_add_str pe_str (pe_fn RB hr (pa_cons (pv 0) (pa_cons (pe_op op_add (pv 1) pe_int) pa_nil)))))) pss_nil)
    (pss_cons (ps_if (pt_cmpR op_in_one (pv 2) (pe_glob (v := .str FIGS) rfl hf ⟨_, rfl⟩) (by with_unfolding_all rfl)) (pss_one (ps_ret (pe_fn RF hr (pa_cons (pv 0) (pa_cons (pv 1) pa_nil))))) pss_nil)
    pss_never)))), ?_⟩
  obtain ⟨c, u', hu, _⟩ := hw.head
  have hd' : z.drop k = c :: (u' ++ r) := by rw [hd, hu]; rfl
  obtain ⟨hat, hkl, hd1⟩ := drop_at hd'
  refine ⟨_, rfl, _, rfl, _, _, _, rfl, rfl, hzl, atS hat, ?_⟩
  refine ⟨_, rfl, _, _, rfl, rfl, _, rfl, ?_⟩
  rw [sgn_cps]
  cases hw with
  | @sign d hs' =>
    have e : d = c := by injection hu
    subst e
    exact iteP hs' ⟨_, rfl, q⟩
  | name hne h8 hall =>
    have hc : c ∈ letL := hall c (by rw [hu]; simp)
    have hrun : run letL (z.drop k) = u := by rw [hd]; exact run_eq hall (hsep.let_of hne hall)
    refine iteN (let_sgn c hc) ⟨_, rfl, _, _, rfl, rfl, _, rfl, ?_⟩
    rw [let_cps]
    refine iteP hc ⟨_, rfl, _, rfl, z, k, rfl, hz, Nat.le_of_lt hkl, by rw [hrun]; exact h8, ?_⟩
    rw [hrun]; exact q
  | num hn =>
    have hc : c ∈ figL := hn.all c (by rw [hu]; simp)
    have hrun : run figL (z.drop k) = u := by rw [hd]; exact run_eq hn.all (hsep.fig_of hn.ne hn.all)
    refine iteN (fig_sgn c hc) ⟨_, rfl, _, _, rfl, rfl, _, rfl, ?_⟩
    rw [let_cps]
    refine iteN (fig_let c hc) ⟨_, rfl, rfl, _, rfl, iteN (by rw [one_S, minus_eq]; exact str_ne (by simpa using (fig_32 c hc).2)) ⟨_, rfl, _, _, rfl, rfl, _, rfl, ?_⟩⟩
    rw [fig_cps]
    refine iteP hc ⟨_, rfl, _, rfl, z, k, rfl, hz, Nat.le_of_lt hkl, by rw [hrun]; exact hn, ?_⟩
    rw [hrun]; exact q
  | @neg v hn h48 =>
    have e : 45 = c ∧ v = u' := by injection hu with h1 h2; exact ⟨h1, h2⟩
    obtain ⟨e1, e2⟩ := e
    subst e1; subst e2
    have hrun : run figL (z.drop (k + 1)) = v := by rw [hd1]; exact run_eq hn.all ((hsep.tail hn.ne).fig_of hn.ne hn.all)
    refine iteN n45.1 ⟨_, rfl, _, _, rfl, rfl, _, rfl, ?_⟩
    rw [let_cps]
    refine iteN n45.2.1 ⟨_, rfl, rfl, _, rfl, iteP (by rw [one_S, minus_eq]) ?_⟩
    refine ⟨_, rfl, _, rfl, _, _, rfl, rfl, z, k + 1, rfl, hz, hkl, by rw [hrun]; exact hn, by rw [hrun]; exact h48, ?_⟩
    rw [hrun]
    refine ⟨_, _, rfl, rfl, ?_, ?_⟩
    · rw [minus_eq, S_len, S_len]
      have := hn.len
      exact line_of (by simp; omega)
    · rw [minus_eq, S_app]; exact q
end
end K8
namespace K8
open PySem L2 K3
section
variable {P : Program} {w : World} {K : PySem.W.Frag} {mg : Str → Option Value} {base : Heap} {f : Addr} {fd : FuncData}
theorem scWords : FnScope ["text", "told", "start", "word"] ["text"] (defScope sWords) := ⟨rfl, rfl, rfl, by decide +kernel, rfl, by decide +kernel, by decide +kernel⟩
theorem W_app (a b : List (List Nat)) : W (a ++ b) = W a ++ W b := by simp [W]
theorem W_len (a : List (List Nat)) : (W a).length = a.length := by simp [W]
theorem ok_words (F : Fun K "words" "words" sWords f fd) (G : Gm mg) (R : Fn P w K mg base 4 "word_at" ["text", "start"] spWordAt) : FnOk P w K mg base CX0 5 f fd ["text"] spWords := by
  refine F.ok scWords (fun vs H Q E h => ?_) (fun cdv A outer s H vs Q E hr h => ?_)
  · obtain ⟨z, ws, rfl, _⟩ := h
    rfl
  obtain ⟨z, ws, rfl, hz, hW, q⟩ := h
  have hzl : (S z).length ≤ sizeLine := by rw [S_len]; exact line_of hz
  refine ⟨_, pss_cons (ps_if (pt_not (pt_val (pe_callB call_isinst rfl G.isi PyProof.Rows.boot_isinstance (pa_cons (pv 0) (pa_cons (pe_bltn (v := .ty "str") rfl G.str PyProof.Rows.boot_str rfl) pa_nil))))) pss_never pss_nil)
    (pss_cons (ps_set (i := 1) scWords.nd rfl (Or.inl rfl) (pe_lst pa_nil))
    (pss_cons (ps_set (i := 2) scWords.nd rfl (Or.inl rfl) pe_int)
    (pss_cons (ps_while PassesOwn.never (pt_cmpR op_lt (pv 2) (pe_callB call_len_str rfl G.len PySem.boot_len (pa_cons (pv 0) pa_nil)) (nomark _))
      (pss_one (ps_if (pt_cmpR op_eq (pe_ix ix_str (pv 0) (pv 2) (fun _ _ => rfl)) pe_str (nomark _))
        (pss_one (ps_aug (i := 2) scWords.nd rfl (Or.inl rfl) pe_int ip_add))
        (pss_cons (ps_set (i := 3) scWords.nd rfl (Or.inl rfl) (pe_fn R hr (pa_cons (pv 0) (pa_cons (pv 2) pa_nil))))
        (pss_cons (ps_expr (pe_bm PySem.F.plainAttrs_list PySem.F.slot_list_append PySem.F.type_list_append mt_append (pv 1) (pa_cons (pv 3) pa_nil)))
        (pss_one (ps_aug (i := 2) scWords.nd rfl (Or.inl rfl) (pe_callB call_len_str rfl G.len PySem.boot_len (pa_cons (pv 3) pa_nil)) ip_add)))))))
    (pss_one (ps_ret (pv 1)))))), ?_⟩
  refine ⟨_, rfl, _, "str", _, true, rfl, .str _, rfl, _, rfl, iteF ?_⟩
  refine ⟨(by show 0 ≤ sizeLine; decide), fun l hl => ?_⟩
  have hws := hW.len
  refine ⟨fun m σ H' => ∃ (k : Nat) (done rest : List (List Nat)) (wd : Option V), σ = [some (.str (S z)), some (.ref l), some (.int (k : Int)), wd] ∧ Same H H' ∧ H' l = some (.lst (W done)) ∧ done ++ rest = ws ∧ Writ (z.drop k) rest ∧ k ≤ z.length ∧ m = z.length - k,
    ⟨_, 0, [], ws, none, rfl, same_new hl _, upd_same, rfl, hW, Nat.zero_le _, rfl⟩, ?_⟩
  rintro m σ H' ⟨k, done, rest, wd, rfl, hsame, hl', hdr, hwr, hk, rfl⟩
  refine ⟨_, rfl, _, rfl, _, rfl, hzl, _, _, rfl, rfl, _, rfl, ?_⟩
  refine ite2 (fun c => ?_) (fun c => ?_)
  · have c' : (k : Int) < (((S z).length : Nat) : Int) := of_decide_eq_true c
    rw [S_len] at c'
    have hkl : k < z.length := by omega
    have hat : z[k]? = some z[k] := List.getElem?_eq_getElem hkl
    have hdk : z.drop k = z[k] :: z.drop (k + 1) := List.drop_eq_getElem_cons hkl
    refine ⟨_, fun σ' H'' q' => q', ?_⟩
    refine ⟨_, rfl, _, rfl, _, _, _, rfl, rfl, hzl, atS hat, rfl, _, rfl, ?_⟩
    rcases hwr.step (by rw [hdk]; exact List.cons_ne_nil _ _) with ⟨r, er, hr'⟩ | ⟨u, r, vs, er, ev, hu, hsep, hr'⟩
    · have e32 : z[k] = 32 ∧ z.drop (k + 1) = r := by rw [hdk] at er; injection er with h1 h2; exact ⟨h1, h2⟩
      refine iteP (by rw [e32.1, one_S, blank_eq]) ⟨_, rfl, _, _, rfl, rfl, ?_⟩
      exact ⟨z.length - (k + 1), by omega, k + 1, done, rest, wd, rfl, hsame, hl', hdr, by rw [e32.2]; exact hr', by omega, rfl⟩
    · obtain ⟨c0, u', hu0, h32⟩ := hu.head
      have ec : z[k] = c0 := by
        rw [hdk, hu0] at er
        injection er
      have hul : 0 < u.length := List.length_pos_iff.mpr hu.ne
      have hzk : z.length - k = u.length + r.length := by
        have := congrArg List.length er
        rw [List.length_drop, List.length_append] at this
        exact this
      refine iteN (by rw [ec, one_S, blank_eq]; exact str_ne (by simpa using h32)) ?_
      refine ⟨_, rfl, _, rfl, z, k, u, r, rfl, hz, er, hu, hsep, ?_⟩
      have hdl : done.length < 9000 := by
        have h1 : (done ++ rest).length = ws.length := by rw [hdr]
        rw [List.length_append, ev, List.length_cons] at h1
        omega
      refine ⟨_, rfl, .inl ⟨rfl, _, SqL.of hl'⟩, _, rfl, l, _, _, rfl, rfl, hl', by rw [W_len, size_line]; omega, ?_⟩
      have hul' : (S u).length ≤ sizeLine := by rw [S_len]; exact line_of (Nat.le_trans hu.len (by omega))
      refine ⟨_, rfl, _, rfl, _, rfl, hul', _, _, rfl, rfl, ?_⟩
      refine ⟨z.length - (k + u.length), by omega, k + u.length, done ++ [u], vs, some (.str (S u)), ?_, ?_, ?_, ?_, ?_, by omega, rfl⟩
      · rw [S_len]; rfl
      · intro b o hb
        have hne : b ≠ l := ne_of_none hb hl
        rw [upd_ne hne]; exact hsame b o hb
      · rw [upd_same, W_app]; rfl
      · rw [← hdr, ev, List.append_assoc]; rfl
      · rw [← List.drop_drop, er, List.drop_left]; exact hr'
  · have c' : ¬ (k : Int) < (((S z).length : Nat) : Int) := of_decide_eq_false (Bool.eq_false_iff.mpr c)
    rw [S_len] at c'
    have hnil : z.drop k = [] := List.drop_eq_nil_of_le (by omega)
    rw [hnil] at hwr
    have hre : rest = [] := by
      have := hwr.len
      exact List.length_eq_zero_iff.mp (by simpa using this)
    rw [hre, List.append_nil] at hdr
    refine ⟨_, rfl, q l H' hsame (by rw [← hdr]; exact hl') hl⟩
end
end K8
namespace L2
open PySem PySem.Spec PyProof.Rows
section
variable {κ : Type} [DecidableEq κ]
end
section
variable {P : Program} {w : World} {H : Hp} {h : Heap} {a : Addr}
end
section
variable {X : Cx} {pins : List (Addr × Obj)} {σ : St} {H : Hp} {s : Shared} {a : Addr} {y v : V} {u r : Value} {o : Option V} {A : Around} {E : Value → Shared → Prop}
end
section
variable {X : Cx} {pins : List (Addr × Obj)} {σ : St} {H : Hp} {s : Shared} {a : Addr} {kvs : List (Key × V)} {k : Key} {u : Value} {A : Around} {E : Value → Shared → Prop}
end
section
variable {X : Cx} {o i e value : Expr} {pos pos' tpos : Pos} {td ty tv : TE}
end
section
variable {X : Cx} {pos : Pos}
end
section
variable {X : Cx} {pins : List (Addr × Obj)} {σ : St} {H : Hp} {s : Shared} {a : Addr} {y d : V} {u r : Value} {o : Option V} {A : Around} {E : Value → Shared → Prop}
end
section
variable {X : Cx} {o e f : Expr} {apos cpos : Pos} {td ty tx : TE}
end
section
variable {X : Cx} {pins : List (Addr × Obj)} {σ : St} {H : Hp} {s : Shared} {a : Addr} {kvs : List (Key × V)} {A : Around} {E : Value → Shared → Prop}
end
section
variable {X : Cx} {pins : List (Addr × Obj)} {σ : St} {H : Hp} {s : Shared} {a : Addr} {y : V} {u : Value} {A : Around} {E : Value → Shared → Prop}
end
end L2
namespace L2
open PySem PySem.Spec PyProof.Rows
section
variable {X : Cx}
theorem Same.seqT {K : PySem.W.Frag} {H H' : Hp} {a : Addr} {xs : List V} (e : Same H H') (h : SqT K H a xs) : SqT K H' a xs := by
  rcases h with (h | ⟨o, h⟩) | h
  · exact .inl (.inl (e _ _ h))
  · exact .inl (.inr ⟨o, e _ _ h⟩)
  · exact .inr h
end
section
variable {X : Cx} {tg : Expr}
end
end L2
namespace TM
inductive Tree (α : Type) where
  | node (name : α) (mark : Int) (bs : List (Tree α))
variable {α : Type}
structure Rows (α : Type) where
  n : Nat
  nm : Nat → α
  mr : Nat → Int
  up : Nat → Nat
variable {R : Rows α}
section
variable {K : Nat → List Int} {B : Nat → Tree α} {o0 : Tree α}
def it (R : Rows α) : Nat → Nat → Nat
  | 0, s => s
  | j + 1, s => R.up (it R j s)
variable {B' : Nat → Tree α} {o : Tree α} {s : Nat}
end
end TM
namespace L2
open PySem PySem.Spec PyProof.Rows TM
theorem SqT.put {K : PySem.W.Frag} {H : Hp} {a d : Addr} {xs ys : List V} {o : HO} (h : SqT K H a xs) (hd : H d = some (.lst ys)) : SqT K (upd H d o) a xs := by
  rcases h with (h | ⟨ob, h⟩) | h
  · exact .inl (.inl (by rw [upd_ne (ne_of h hd (by intro z; cases z))]; exact h))
  · exact .inl (.inr ⟨ob, by rw [upd_ne (ne_of h hd (by intro z; cases z))]; exact h⟩)
  · exact .inr h
end L2
namespace L2
open PySem
def SameX (x : Addr) (H H' : Hp) : Prop := ∀ b u, b ≠ x → H b = some u → H' b = some u
theorem SameX.trans {x : Addr} {H H1 H2 : Hp} (a : SameX x H H1) (b : SameX x H1 H2) : SameX x H H2 := fun c u n e => b c u n (a c u n e)
theorem SameX.of {x : Addr} {H H' : Hp} (h : Same H H') : SameX x H H' := fun b u _ e => h b u e
theorem SameX.upd {x : Addr} {H : Hp} {o : HO} : SameX x H (upd H x o) := fun b u n e => by rw [upd_ne n]; exact e
theorem put_no {f g : Str} {v y : V} {r : List (Str × V)} (h : ¬ g = f) : putF f v ((g, y) :: r) = (g, y) :: putF f v r := by
  show (if g = f then _ else _) = _
  rw [if_neg h]
theorem put_yes {f : Str} {v y : V} {r : List (Str × V)} : putF f v ((f, y) :: r) = (f, v) :: r := by
  show (if f = f then _ else _) = _
  rw [if_pos rfl]
end L2
namespace L2
open PySem PySem.Spec PyProof.Rows
def lamArgs (e : Expr) : Arguments := match e with
  | .Lambda a _ _ _ => a
  | _ => { posonlyargs := [], args := [], vararg := none, kwonlyargs := [], kw_defaults := [], kwarg := none, defaults := [] }
def lamBody (e : Expr) : Expr := match e with
  | .Lambda _ b _ _ => b
  | _ => e
def lamScope (e : Expr) : Scope := match e with
  | .Lambda _ _ s _ => s
  | _ => { kind := .function, names := [], isGenerator := false, isCoroutine := false }
def lamPos (e : Expr) : Pos := match e with
  | .Lambda _ _ _ p => p
  | _ => ⟨0, 0, 0, 0⟩
def retOf (s : Stmt) : Expr := match (defBody s).getLast? with
  | some (.Return (some e) _) => e
  | _ => .Name "" ⟨0, 0, 0, 0⟩
def argOf (e : Expr) (i : Nat) : Expr := match e with
  | .Call _ as _ _ => as.getD i e
  | _ => e
def LamO (f : Addr) (fd : FuncData) : HO := .ext fun h => h.get? f = some { cls := .type "function", data := .func fd }
def CodO (c : Addr) (qual : Str) : HO := .ext fun h => h.CodeRec (.ref c) qual
def TbS (H : Hp) (T : Addr) (pos : Pos) (qual : Str) : Prop := H T = some (.tbl #[]) ∨ ∃ c, H T = some (.tbl #[rawInt pos.line, rawInt pos.col, .ref c]) ∧ H c = some (CodO c qual)
theorem TbS.at {H : Hp} {T : Addr} {pos : Pos} {qual : Str} (h : TbS H T pos qual) : ∃ ps, H T = some (.tbl ps) := by
  rcases h with h | ⟨c, h, _⟩
  · exact ⟨_, h⟩
  · exact ⟨_, h⟩
theorem TbS.same {H H' : Hp} {T : Addr} {pos : Pos} {qual : Str} (g : Same H H') (h : TbS H T pos qual) : TbS H' T pos qual := by
  rcases h with h | ⟨c, h, h2⟩
  · exact .inl (g _ _ h)
  · exact .inr ⟨c, g _ _ h, g _ _ h2⟩
theorem TbS.sameX {H H' : Hp} {T U : Addr} {pos : Pos} {qual : Str} {ps : Array Value} (hU : H U = some (.tbl ps)) (ne : T ≠ U) (g : SameX U H H') (h : TbS H T pos qual) : TbS H' T pos qual := by
  rcases h with h | ⟨c, h, h2⟩
  · exact .inl (g _ _ ne h)
  · exact .inr ⟨c, g _ _ ne h, g _ _ (ne_of h2 hU (by intro z; cases z)) h2⟩
def BtAt (mg : Str → Option Value) (base : Heap) : Prop := ∃ bm o, mg "__builtins__" = some (.ref bm) ∧ bm ≠ builtinsNs ∧ bm ≠ mainGlobals ∧ base.get? bm = some o ∧ o.cls = .type "module" ∧ o.dict = some builtinsNs ∧ o.data = .plain
section
variable {X : Cx}
theorem ext_lam {P : Program} {w : World} {H : Hp} {h : Heap} {f : Addr} {fd : FuncData} (e : h.get? f = some { cls := .type "function", data := .func fd }) : ObjOk P w H h f (LamO f fd) := ⟨e, ⟨_, e⟩, fun _ _ e1 k => k _ e1⟩
theorem ext_cod {P : Program} {w : World} {H : Hp} {h : Heap} {c : Addr} {qual : Str} (e : h.CodeRec (.ref c) qual) : ObjOk P w H h c (CodO c qual) := by
  refine ⟨e, ?_, fun h1 h2 e1 k => ?_⟩
  · obtain ⟨c', oc, vs, tq, z, hoc, _⟩ := e
    cases z
    exact ⟨_, hoc⟩
  · obtain ⟨c', oc, vs, tq, z, hoc, r⟩ := e1
    cases z
    exact ⟨c, oc, vs, tq, rfl, k _ hoc, r⟩
end
end L2
namespace L2
open PySem PySem.Spec PyProof.Rows
section
variable {X : Cx}
end
section
variable {P : Program} {w : World} {K : PySem.W.Frag} {mg : Str → Option Value} {base : Heap}
theorem code_of {x : Str} {f c T : Addr} {oc : Value} {od : Option Addr} {fd : FuncData} {sl : Array (Option Value)} (hn : PySem.W.nsIn K mainGlobals x = some (some (.ref f))) (lk : K.lookup f = some ⟨oc, od, .func fd, sl⟩) (h : PySem.W.tabIn K x = some (c, T)) : fd.code = .ref c := by
  unfold PySem.W.tabIn at h
  rw [hn] at h
  simp only [lk] at h
  split at h
  · rename_i c2 hc
    split at h
    · split at h
      · cases h; exact hc
      · cases h
    · cases h
  · cases h
end
end L2
namespace L2
open PySem PySem.Spec PyProof.Rows
def hidF (h : Heap) (H : Hp) (l : List Addr) : Heap := PySem.W.hideAll h (trk h H ++ l)
theorem hidF_size (h : Heap) (H : Hp) (l : List Addr) : (hidF h H l).objs.size = h.objs.size := PySem.W.hideAll_size _ _
theorem hidF_get {h : Heap} {H : Hp} {l : List Addr} {b : Addr} {o : Obj} (e : h.get? b = some o) (n : H b = none) (m : b ∉ l) : (hidF h H l).get? b = some o :=
  PySem.W.hideAll_get _ e fun hm => by
    rcases List.mem_append.mp hm with hm | hm
    · have q : (H b).isSome = true := (List.mem_filter.mp hm).2
      rw [n] at q; simp at q
    · exact m hm
theorem of_hidF {h : Heap} {H : Hp} {l : List Addr} {b : Addr} {o : Obj} (e : (hidF h H l).get? b = some o) : h.get? b = some o ∧ H b = none ∧ b ∉ l := by
  have e' : h.get? b = some o := PySem.W.of_hideAll (trk h H ++ l) e
  have no : ∀ m : b ∈ trk h H ++ l, False := fun m => by
    have z : (hidF h H l).get? b = none := PySem.W.hideAll_none (trk h H ++ l) m
    rw [z] at e; cases e
  refine ⟨e', ?_, fun m => no (List.mem_append_right _ m)⟩
  cases q : H b with
  | none => rfl
  | some x => exact (no (List.mem_append_left _ (List.mem_filter.mpr ⟨List.mem_range.mpr (Heap.lt_size e'), by simp [q]⟩))).elim
def Sub (g h : Heap) : Prop := ∀ b o, g.get? b = some o → h.get? b = some o
theorem Mod.sub {K : PySem.W.Frag} {mg : Str → Option Value} {g h : Heap} (s : Sub g h) (m : Mod K mg g) : Mod K mg h :=
  ⟨m.kin.keeps s, m.glob.keeps s, let ⟨mb, hb, q⟩ := m.blt; ⟨mb, hb.keeps s, q⟩, m.nolimit.keeps s⟩
theorem BtAt.sub {mg : Str → Option Value} {g h : Heap} (s : Sub g h) (b : BtAt mg g) : BtAt mg h := by
  obtain ⟨bm, ob, b1, b2, b3, b4, r⟩ := b
  exact ⟨bm, ob, b1, b2, b3, s _ _ b4, r⟩
theorem funs_to {h g base : Heap} : ∀ {l : List Env}, h.FunFrames base l → (∀ b ∈ frs l, g.get? b = none) → h.FunFrames g l
  | [], _, _ => trivial
  | env :: rest, hf, hn => by
    obtain ⟨h1, ⟨L, o, e1, e2, e3, e4⟩, r⟩ := hf
    refine ⟨h1, ⟨L, o, e1, hn L ?_, e3, e4⟩, funs_to r fun b hb => hn b ?_⟩
    · exact List.mem_filterMap.mpr ⟨env, List.mem_cons_self, e1⟩
    · obtain ⟨e, he, q⟩ := List.mem_filterMap.mp hb
      exact List.mem_filterMap.mpr ⟨e, List.mem_cons_of_mem _ he, q⟩
theorem Env0.sub {P : Program} {w : World} {K : PySem.W.Frag} {mg : Str → Option Value} {base : Heap} {A : Around} {outer : List Env} {s : Shared} {H : Hp} (e : Env0 P w K mg base A outer s H) : Sub base (hidF s.heap H (frs outer)) := fun b o h =>
  hidF_get (e.bs b o h).1 (e.bs b o h).2 fun m => by
    have := (e.funs.mem m).1
    rw [h] at this; cases this
theorem Env0.big {P : Program} {w : World} {K : PySem.W.Frag} {mg : Str → Option Value} {base : Heap} {A : Around} {outer : List Env} {s : Shared} {H : Hp} (e : Env0 P w K mg base A outer s H) : Env0 P w K mg (hidF s.heap H (frs outer)) A outer s H :=
  ⟨e.frames, e.mod.sub e.sub, fun b o h => ⟨(of_hidF h).1, (of_hidF h).2.1⟩, Nat.le_of_eq (hidF_size _ _ _), funs_to e.funs fun b hb => by
    cases q : (hidF s.heap H (frs outer)).get? b with
    | none => rfl
    | some o => exact absurd hb (of_hidF q).2.2, e.frf, e.hok, e.bare⟩
def Cells (X : Cx) (σ : St) (g : Heap) : Prop := ∀ (i : Nat) (x : Str) (v : V), X.N[i]? = some x → σ[i]? = some (some v) → X.env.scope.names.lookup x = some .cell → ∃ c u, X.env.cells.lookup x = some c ∧ g.IsCell c (some u) ∧ RelV v u
section
variable {X : Cx} {pins : List (Addr × Obj)} {σ : St} {H : Hp} {s : Shared}
theorem Inv.cells (I : Inv X pins σ H s) (hfn : ∀ x, X.fn x = true) : Cells X σ (hidF s.heap H (frs X.stack)) := by
  intro i x v h1 h2 h3
  obtain ⟨m, hns, hl⟩ := I.loc
  obtain ⟨u, rv, lk⟩ := hl i x v h1 h2 (.inr (.inl h3))
  rcases lk with ⟨k, _⟩ | ⟨_, c, hc, ic⟩
  · have k' : X.env.scope.names.lookup x = some .local := k
    rw [h3] at k'; cases k'
  refine ⟨c, u, hc, ?_, rv⟩
  obtain ⟨o, ho, r⟩ := ic
  refine ⟨o, hidF_get ho (I.freeC x c hc) (fun m => ?_), r⟩
  have hge := I.ok.cab x c (hfn x) hc
  have lt : ∀ b ∈ frs X.outer, b < X.s₀.heap.objs.size := fun b hb => by
    obtain ⟨_, o', ho', _⟩ := I.ok.funs.mem hb
    exact Heap.lt_size ho'
  rcases I.ok.stk with e | ⟨e, e2⟩
  · rw [e] at m
    exact absurd (lt c m) (Nat.not_lt.mpr hge)
  · rw [e] at m
    rcases List.mem_filterMap.mp m with ⟨env, he, hf⟩
    rcases List.mem_cons.mp he with rfl | he
    · rw [e2] at hf
      obtain rfl := Option.some.inj hf
      obtain ⟨o2, es, ep, h5, h6, _⟩ := hns
      rw [h5] at ho
      obtain rfl := Option.some.inj ho
      rw [h6] at r
      cases r
    · exact absurd (lt c (List.mem_filterMap.mpr ⟨env, he, hf⟩)) (Nat.not_lt.mpr hge)
end
abbrev lamFnC (qual : Str) (e : Expr) (cl : List (Str × Addr)) (pm : Value) (c : Addr) (ctv : Value) : FuncData := PySem.W.kla_fn "<lambda>" qual (lamArgs e) (lamBody e) (lamScope e) cl pm (.ref c) ctv
structure LamAtC (H : Hp) (f : Addr) (e : Expr) (cl : List (Str × Addr)) : Prop where
  ex : ∃ qual pm c ctv, H f = some (LamO f (lamFnC qual e cl pm c ctv)) ∧ H c = some (CodO c qual)
theorem LamAtC.same {H H' : Hp} {f : Addr} {e : Expr} {cl : List (Str × Addr)} (g : Same H H') (h : LamAtC H f e cl) : LamAtC H' f e cl := by
  obtain ⟨q, pm, c, ctv, h1, h2⟩ := h.ex
  exact ⟨q, pm, c, ctv, g _ _ h1, g _ _ h2⟩
def tLamC (T : Addr) (qual : Str) (e : Expr) (cl : List (Str × Addr)) : TE := fun σ H Q => TbS H T (lamPos e) qual ∧ ∀ f H', SameX T H H' → H f = none → LamAtC H' f e cl → TbS H' T (lamPos e) qual → Q (.ref f) H'
section
variable {X : Cx}
theorem pe_lamC {cl : List (Str × Addr)} {a : Arguments} {b : Expr} {sc : Scope} {pos : Pos} {c T : Addr} (hcode : X.env.code = .ref c) (hC : PySem.W.codeHdIn X.K c T = true) (hB : BtAt X.mg X.base) (hcl : closureFor sc X.env = pure cl := by rfl) (hdef : defaultsOf a X.env = ([], []) := by rfl) :
    PE X (.Lambda a b sc pos) (tLamC T (X.env.qual ++ "<lambda>") (.Lambda a b sc pos) cl) := by
  intro pins s σ H Q I h
  obtain ⟨ht, q⟩ := h
  obtain ⟨ps0, hT⟩ := ht.at
  obtain ⟨bm, ob, b1, b2, b3, b4, b5, b6, b7⟩ := hB
  have hbT : bm ≠ T := fun z => by have := (I.bs _ _ b4).2; rw [z, hT] at this; cases this
  have hg : s.heap.Ns mainGlobals X.mg := I.mod.glob.keeps I.bk
  have hgT : mainGlobals ≠ T := fun z => by
    obtain ⟨o, es, ep, e, _⟩ := I.mod.glob
    have := (I.bs _ _ e).2
    rw [z, hT] at this; cases this
  have hb : s.heap.BuiltinsAt X.mg T := ⟨bm, ob, b1, b2, b3, hbT, I.bk _ _ b4, b5, b6, b7⟩
  have hCd : PySem.W.CodeHd s.heap c T := PySem.W.codeHd_of_K I.kIn hC
  have hLT : X.env.locals ≠ T := fun z => by have := I.free; rw [z, hT] at this; cases this
  refine PySem.W.kla_eval hdef ?_
  rcases ht with h0 | ⟨c', h0, hc'⟩
  · have hP : s.heap.get? T = some (PySem.W.tabObj #[]) := I.hok T _ h0
    refine PySem.W.kla_makeFunction (mg := X.mg) hcl I.ok.glob hg hcode hCd hP trivial rfl hgT hb fun c' ctv h' tk hx hge hlt hrec htb => ?_
    obtain ⟨qual, hqual⟩ : ∃ qual, qual = X.env.qual ++ "<lambda>" := ⟨_, rfl⟩
    rw [← hqual] at hrec ⊢
    have hHc : H c' = none := I.hok.fresh hge
    have hHf : H h'.objs.size = none := I.hok.fresh (Nat.le_of_lt (Nat.lt_of_le_of_lt hge hlt))
    have nTc : T ≠ c' := ne_of_none h0 hHc
    have nTf : T ≠ h'.objs.size := ne_of_none h0 hHf
    have ncf : c' ≠ h'.objs.size := Nat.ne_of_lt hlt
    obtain ⟨fd, hfd⟩ : ∃ fd : FuncData, fd = lamFnC qual (.Lambda a b sc pos) cl ((X.mg "__name__").getD .none) c' ctv := ⟨_, rfl⟩
    have hob : PySem.W.kla_obj "<lambda>" qual a b sc cl ((X.mg "__name__").getD .none) c' ctv = { cls := .type "function", data := .func fd } := by rw [hfd]; rfl
    rw [hob]
    obtain ⟨ps, hps⟩ : ∃ ps : Array Value, ps = #[rawInt pos.line, rawInt pos.col, .ref c'] := ⟨_, rfl⟩
    have htb' : h'.get? T = some { cls := .none, data := .fields ps } := by rw [hps]; exact htb
    obtain ⟨H', hH'⟩ : ∃ H' : Hp, H' = upd (upd (upd H T (.tbl ps)) c' (CodO c' qual)) h'.objs.size (LamO h'.objs.size fd) := ⟨_, rfl⟩
    have eF : H' h'.objs.size = some (LamO h'.objs.size fd) := by rw [hH']; exact upd_same
    have eC : H' c' = some (CodO c' qual) := by rw [hH', upd_ne ncf]; exact upd_same
    have eT : H' T = some (.tbl ps) := by rw [hH', upd_ne nTf, upd_ne nTc]; exact upd_same
    have eO : ∀ x, x ≠ T → x ≠ c' → x ≠ h'.objs.size → H' x = H x := fun x n1 n2 n3 => by rw [hH', upd_ne n3, upd_ne n2, upd_ne n1]
    have eK : ∀ x u, H x = some u → x ≠ T → H' x = some u := fun x u e n1 => by rw [eO x n1 (ne_of_none e hHc) (ne_of_none e hHf)]; exact e
    have hpush : ∀ x o, h'.get? x = some o → (h'.push { cls := .type "function", data := .func fd }).get? x = some o := fun x o e => Heap.get?_push_of_some _ e
    have J : Inv X pins σ H' { s with heap := h'.push { cls := .type "function", data := .func fd }, toks := tk } := by
      refine I.step (g' := s.gens) (d' := s.drawn) (ch := []) (fun _ z => nomatch z) (fun x o _ _ _ e n => ?_) (fun x o _ _ _ e n => ?_) (fun x o _ e n => ?_) (fun x o _ e => ?_) (fun x xs e => ?_) (fun x o u e => ?_) (fun x qs e => ?_) (fun m hn => ?_) (fun x o e => ?_) I.bare
      · exact hpush _ _ (hx _ _ (fun z => by rw [z, hT] at n; cases n) e)
      · exact ⟨o.slots, hpush _ _ (hx _ _ (fun z => by rw [z, hT] at n; cases n) e)⟩
      · have lx := Heap.lt_size e
        rw [eO x (fun z => by rw [z, hT] at n; cases n) (Nat.ne_of_lt (Nat.lt_of_lt_of_le lx hge)) (Nat.ne_of_lt (Nat.lt_trans (Nat.lt_of_lt_of_le lx hge) hlt))]
        exact n
      · by_cases z : x = T
        · exact ⟨_, hpush _ _ (z ▸ htb')⟩
        · exact ⟨o, hpush _ _ (hx _ _ z e)⟩
      · exact eK x _ e (ne_of e h0 (by intro z; cases z))
      · exact eK x _ e (ne_of e h0 (by intro z; cases z))
      · by_cases z : x = T
        · subst z
          rw [h0] at e
          cases e
          exact ⟨ps, by rw [eT]; simp⟩
        · exact ⟨#[], by rw [eK x _ e z]; simp⟩
      · exact (hn.extBut hx hLT).push _
      · by_cases z1 : x = h'.objs.size
        · subst z1
          rw [eF] at e
          cases e
          exact ext_lam (Heap.get?_push_size _ rfl)
        by_cases z2 : x = c'
        · subst z2
          rw [eC] at e
          cases e
          refine ext_cod ?_
          obtain ⟨c2, oc, vs, tq, z, hoc, r⟩ := hrec
          exact ⟨c2, oc, vs, tq, z, hpush _ _ hoc, r⟩
        by_cases z3 : x = T
        · subst z3
          rw [eT] at e
          cases e
          exact hpush _ _ htb'
        rw [eO x z3 z2 z1] at e
        refine (I.hok x o e).stay (fun y u hy r => ?_) (fun y r => ?_) fun y xs r => ?_
        · refine hpush _ _ (hx _ _ (fun z => ?_) r)
          rcases hy with hy | hy
          · exact z3 (hy.symm.trans z)
          · rw [z, hT] at hy; cases hy
        · exact eK y _ r (ne_of r h0 (by intro z; cases z))
        · exact eK y _ r (ne_of r h0 (by intro z; cases z))
    refine ⟨.ref h'.objs.size, H', J, rfl, q h'.objs.size H' (fun x u n e => eK x u e n) hHf ⟨qual, _, c', ctv, by rw [eF, hfd], eC⟩ ?_⟩
    refine .inr ⟨c', ?_, by rw [← hqual]; exact eC⟩
    rw [eT, hps]; rfl
  · have hP : s.heap.get? T = some (PySem.W.tabObj #[rawInt pos.line, rawInt pos.col, .ref c']) := I.hok T _ h0
    have hf : codeAmong pos (#[rawInt pos.line, rawInt pos.col, Value.ref c'] : Array Value).toList = some (.ref c') := by
      show (if ((pos.line : Int) == (pos.line : Int) && (pos.col : Int) == (pos.col : Int)) = true then some (Value.ref c') else _) = _
      simp
    refine PySem.W.kla_makeFunctionHit (mg := X.mg) hcl I.ok.glob hg hcode hCd hP trivial hf hb fun ctv h' tk hk hsz => ?_
    obtain ⟨qual, hqual⟩ : ∃ qual, qual = X.env.qual ++ "<lambda>" := ⟨_, rfl⟩
    rw [← hqual]
    have hHf : H h'.objs.size = none := I.hok.fresh hsz
    refine ⟨.ref h'.objs.size, upd H h'.objs.size (LamO h'.objs.size (lamFnC qual (.Lambda a b sc pos) cl ((X.mg "__name__").getD .none) c' ctv)), I.laid (t' := tk) (fun x o e => Heap.get?_push_of_some _ (hk _ _ e)) hsz (ext_lam (Heap.get?_push_size _ rfl)), rfl, ?_⟩
    have g := same_new hHf (LamO h'.objs.size (lamFnC qual (.Lambda a b sc pos) cl ((X.mg "__name__").getD .none) c' ctv))
    refine q h'.objs.size _ (SameX.of g) hHf ⟨qual, _, c', ctv, upd_same, g _ _ (by rw [hqual]; exact hc')⟩ (.inr ⟨c', g _ _ h0, g _ _ hc'⟩)
end
end L2
namespace L2
open PySem PySem.Spec PyProof.Rows
abbrev envL (qual : Str) (scope : Scope) (cl : List (Str × Addr)) (L f : Addr) (cd : Value) : Env := newEnv scope L mainGlobals cl (qual ++ Str.ofString ".<locals>.") (some f) cd none builtinsNs
def cxL (CX : CXT) (P : Program) (w : World) (K : PySem.W.Frag) (mg : Str → Option Value) (base : Heap) (N : List Str) (qual : Str) (scope : Scope) (cl : List (Str × Addr)) (f : Addr) (cd : Value) (A : Around) (outer : List Env) (s : Shared) (H : Hp) (E : XK) : Cx :=
  { prog := P, w := w, K := K, mg := mg, base := base, A := A.deeper (envL qual scope cl s.heap.objs.size f cd), N := N, s₀ := s, H₀ := H, env := envL qual scope cl s.heap.objs.size f cd, outer := outer, stack := envL qual scope cl s.heap.objs.size f cd :: outer, ex := [], fn := fun _ => false, calm := true, pn := [],
    xe := fun e s' => wpAny (model P w) (A.deeper (envL qual scope cl s.heap.objs.size f cd)) (leaving (envL qual scope cl s.heap.objs.size f cd) e) (fun _ s'' => CX outer H s E e s'') (fun e' s'' => CX outer H s E e' s'') s' }
structure ClAt (base : Heap) (N : List Str) (cl : List (Str × Addr)) (vs : List V) : Prop where
  len : vs.length = N.length
  val : ∀ (i : Nat) (x : Str) (v : V), N[i]? = some x → vs[i]? = some v → ∃ c u, cl.lookup x = some c ∧ base.IsCell c (some u) ∧ RelV v u
  cel : ∀ x c, cl.lookup x = some c → ∃ u, base.IsCell c u
  inj : ∀ x y c, cl.lookup x = some c → cl.lookup y = some c → x = y
section
variable {X : Cx}
end
end L2
namespace L2
open PySem PySem.Spec PyProof.Rows
structure Mt (P : Program) (w : World) (K : PySem.W.Frag) (mg : Str → Option Value) (base : Heap) (C : Addr) (k : Nat) (m : Str) (ps : List Str) (sp : Sp) : Prop where
  ex : ∃ f fd, Meth K C m f ∧ FnOk P w K mg base CX0 k f fd ps sp ∧ Binds K fd ps []
section
variable {X : Cx} {C : Addr} {k k' : Nat} {m : Str} {ps : List Str} {sp : Sp} {o e : Expr} {es : List Expr} {ta : TE} {t : TA} {apos pos : Pos}
theorem pe_mt0 {pl : Sem Bool} (M : Mt X.prog X.w X.K X.mg X.base C k m ps sp) (c : Cls X.K C) (hr : Room k' X.A) (he : PE X o ta) (hk : k ≤ k' := by decide)
    (ht : eval (.Call (.Attribute o m apos) [] [] pos) X.env = (do
      let ov ← eval o X.env
      standAt apos.atName
      let (f, first) ← holding [ov] (getMethod ov m pl)
      callWith pos f first (backTo pos (starEach [] X.env)) (backToKw pos (keywordEach [] X.env))) := by rfl) :
    PE X (.Call (.Attribute o m apos) [] [] pos) (tMeth C m sp [] E0 ta tNil) := by
  obtain ⟨f, fd, h1, h2, h3⟩ := M.ex
  exact pe_meth0 (pl := pl) he c h1 h2 (hr.mono hk) h3 .nil pass0 ht
theorem pe_mt {pl : Sem Bool} (M : Mt X.prog X.w X.K X.mg X.base C k m ps sp) (c : Cls X.K C) (hr : Room k' X.A) (he : PE X o ta) (ha : PA X (e :: es) t) (hk : k ≤ k' := by decide)
    (hst : starEach (e :: es) X.env = (false, eval e X.env) :: starEach es X.env := by rfl) (hpl : (backTo pos (starEach es X.env)).any (·.1) = false := by rfl)
    (ht : eval (.Call (.Attribute o m apos) (e :: es) [] pos) X.env = (do
      let ov ← eval o X.env
      standAt apos.atName
      let (f, first) ← holding [ov] (getMethod ov m pl)
      callWith pos f first (backTo pos (starEach (e :: es) X.env)) (backToKw pos (keywordEach [] X.env))) := by rfl) :
    PE X (.Call (.Attribute o m apos) (e :: es) [] pos) (tMeth C m sp [] E0 ta t) := by
  obtain ⟨f, fd, h1, h2, h3⟩ := M.ex
  exact pe_meth (pl := pl) he c h1 h2 (hr.mono hk) h3 .nil pass0 ha hst hpl ht
end
end L2
namespace K3
open PySem L2
def sh (m : Int) : List Nat := if m < 0 then 45 :: D m.natAbs else D m.natAbs
theorem D_nil (n : Nat) : D n ≠ [] := by
  obtain ⟨k, hk⟩ : ∃ k, n < 10 ^ (k + 1) := ⟨n, Nat.lt_of_lt_of_le (Nat.lt_pow_self (by decide : 1 < 10)) (Nat.pow_le_pow_right (by decide) (Nat.le_succ n))⟩
  exact (D_facts k n hk).1
theorem sh_word {m : Int} (h : m.natAbs < 10 ^ 60) : Word (sh m) := by
  unfold sh
  by_cases c : m < 0
  · rw [if_pos c]; exact .neg (D_num h) (D_ne h (by omega))
  · rw [if_neg c]; exact .num (D_num h)
theorem sh_head (m : Int) : ∃ c r, sh m = c :: r ∧ (c ∈ figL ∨ c = 45) := by
  unfold sh
  by_cases c : m < 0
  · rw [if_pos c]; exact ⟨45, _, rfl, .inr rfl⟩
  · rw [if_neg c]
    cases q : D m.natAbs with
    | nil => exact absurd q (D_nil _)
    | cons x r =>
      obtain ⟨k, hk⟩ : ∃ k, m.natAbs < 10 ^ (k + 1) := ⟨m.natAbs, Nat.lt_of_lt_of_le (Nat.lt_pow_self (by decide : 1 < 10)) (Nat.pow_le_pow_right (by decide) (Nat.le_succ _))⟩
      exact ⟨x, r, rfl, .inl ((D_facts k _ hk).2.2.1 x (by rw [q]; exact List.mem_cons_self))⟩
end K3
namespace K8
open PySem L2 K3
abbrev sInit : Stmt := inClass sReader 0
abbrev sAhead : Stmt := inClass sReader 1
abbrev sAtName : Stmt := inClass sReader 2
abbrev sPassed : Stmt := inClass sReader 4
abbrev sNeedEnd : Stmt := inClass sReader 6
abbrev sTakeName : Stmt := inClass sReader 7
abbrev sTakeWord : Stmt := inClass sReader 9
abbrev sInB : Stmt := inClass sReader 10
def rdV (l : Addr) (v : V) : List (Str × V) := [("found", .ref l), ("spot", v)]
def rd (l : Addr) (n : Nat) : List (Str × V) := rdV l (.int (n : Int))
theorem put_spot (l : Addr) (n : Nat) (v : V) : putF "spot" v (rd l n) = rdV l v := by
  unfold rd rdV
  rw [put_no (by decide +kernel), put_yes]
structure RdAt (C : Addr) (H : Hp) (r l : Addr) (ws : List (List Nat)) (n : Nat) : Prop where
  ins : ∃ dx, H r = some (.ins C dx (rd l n))
  fl : H l = some (.lst (W ws))
theorem RdAt.same {C : Addr} {H H' : Hp} {r l : Addr} {ws : List (List Nat)} {n : Nat} (g : Same H H') (h : RdAt C H r l ws n) : RdAt C H' r l ws n := by
  obtain ⟨⟨dx, h1⟩, h2⟩ := h
  exact ⟨⟨dx, g _ _ h1⟩, g _ _ h2⟩
structure RdT (K : PySem.W.Frag) (mg : Str → Option Value) (C : Addr) : Prop where
  cl : Cls K C
  nf : NoAttr K C "found"
  ns : NoAttr K C "spot"
  mgC : mg "Reader" = some (.ref C)
def ah (ws : List (List Nat)) (n : Nat) : List Nat := (ws[n]?).getD []
def beg (w sg : List Nat) : Bool := match w with
  | [] => false
  | c :: _ => decide (c ∈ sg)
def spBeg : Sp := fun vs H Q _ => ∃ (w sg : List Nat), vs = [.str (S w), .str (S sg)] ∧ w.length ≤ 100 ∧ Q (.bl (beg w sg)) H
def spAhead (C : Addr) : Sp := fun vs H Q _ => ∃ (r l : Addr) (ws : List (List Nat)) (n : Nat), vs = [.ref r] ∧ RdAt C H r l ws n ∧ n ≤ ws.length ∧ Q (.str (S (ah ws n))) H
def spAt (C : Addr) (sg : List Nat) : Sp := fun vs H Q _ => ∃ (r l : Addr) (ws : List (List Nat)) (n : Nat), vs = [.ref r] ∧ RdAt C H r l ws n ∧ n ≤ ws.length ∧ (ah ws n).length ≤ 100 ∧ Q (.bl (beg (ah ws n) sg)) H
def spPassed (C : Addr) : Sp := fun vs H Q _ => ∃ (r l : Addr) (ws : List (List Nat)) (n : Nat) (c : List Nat), vs = [.ref r, .str (S c)] ∧ RdAt C H r l ws n ∧ n ≤ ws.length ∧ (ah ws n ≠ c → Q (.bl false) H) ∧ (ah ws n = c → ∀ H', SameX r H H' → RdAt C H' r l ws (n + 1) → Q (.bl true) H')
def spTakeW (C : Addr) : Sp := fun vs H Q _ => ∃ (r l : Addr) (ws : List (List Nat)) (n : Nat), vs = [.ref r] ∧ RdAt C H r l ws n ∧ n ≤ ws.length ∧ ∀ H', SameX r H H' → RdAt C H' r l ws (n + 1) → Q (.str (S (ah ws n))) H'
def spInit (C : Addr) : Sp := fun vs H Q _ => ∃ (r dx : Addr) (z : List Nat) (ws : List (List Nat)), vs = [.ref r, .str (S z)] ∧ H r = some (.ins C dx []) ∧ z.length ≤ 9000 ∧ Writ z ws ∧ ∀ (l : Addr) (H' : Hp), SameX r H H' → RdAt C H' r l ws 0 → Q .non H'
theorem RdAt.step {C : Addr} {H : Hp} {r l dx : Addr} {ws : List (List Nat)} {n : Nat} (h : RdAt C H r l ws n) (hx : H r = some (.ins C dx (rd l n))) : RdAt C (upd H r (.ins C dx (putF "spot" (.int ((n : Int) + 1)) (rd l n)))) r l ws (n + 1) := by
  refine ⟨⟨dx, ?_⟩, ?_⟩
  · rw [upd_same, put_spot]; rfl
  · rw [upd_ne (ne_of h.fl hx (by intro z; cases z))]; exact h.fl
theorem ah_at {ws : List (List Nat)} {n : Nat} (h : n < ws.length) : (W ws)[n]? = some (.str (S (ah ws n))) := by
  unfold W ah
  rw [List.getElem?_map, List.getElem?_eq_getElem h]; rfl
section
variable {P : Program} {w : World} {K : PySem.W.Frag} {mg : Str → Option Value} {base : Heap} {f : Addr} {fd : FuncData} {C : Addr}
theorem scBegins : FnScope ["word", "signs"] ["word", "signs"] (defScope sBegins) := ⟨rfl, rfl, rfl, by decide +kernel, rfl, by decide +kernel, by decide +kernel⟩
theorem ok_begins (F : Fun K "begins_in" "begins_in" sBegins f fd) : FnOk P w K mg base CX0 1 f fd ["word", "signs"] spBeg := by
  refine F.ok scBegins (fun vs H Q E h => ?_) (fun cdv A outer s H vs Q E hr h => ?_)
  · obtain ⟨u, sg, rfl, _⟩ := h
    rfl
  obtain ⟨u, sg, rfl, hu, q⟩ := h
  refine ⟨_, (pss_one (ps_ret (pe_and (pe_cmpR op_ne (pv 0) pe_str (nomark _)) (pe_one (pe_cmpR op_in_one (pe_ix ix_str (pv 0) pe_int (fun _ _ => rfl)) (pv 1) (by with_unfolding_all rfl)))))), ?_⟩
  cases u with
  | nil =>
    refine ⟨_, rfl, rfl, _, rfl, ?_⟩
    have e : decide (V.str (S []) = V.str (Str.ofString "")) = true := decide_eq_true (by rw [none_eq])
    rw [e]
    exact iteF q
  | cons c u =>
    refine ⟨_, rfl, rfl, _, rfl, ?_⟩
    have e : decide (V.str (S (c :: u)) = V.str (Str.ofString "")) = false := decide_eq_false (by rw [none_eq]; exact str_ne (by simp))
    rw [e]
    refine iteT ⟨_, rfl, _, _, c, rfl, rfl, (by rw [S_len]; exact line_of (by omega)), atS (k := 0) rfl, _, rfl, _, _, rfl, rfl, ?_⟩
    rw [S_list]
    exact q
theorem scAhead : FnScope ["self"] ["self"] (defScope sAhead) := ⟨rfl, rfl, rfl, by decide +kernel, rfl, by decide +kernel, by decide +kernel⟩
theorem ok_ahead (F : Fun K "ahead" "Reader.ahead" sAhead f fd) (G : Gm mg) (T : RdT K mg C) : FnOk P w K mg base CX0 1 f fd ["self"] (spAhead C) := by
  refine F.ok scAhead (fun vs H Q E h => ?_) (fun cdv A outer s H vs Q E hr h => ?_)
  · obtain ⟨r, l, ws, n, rfl, _⟩ := h
    rfl
  obtain ⟨r, l, ws, n, rfl, hR, hn, q⟩ := h
  refine ⟨_, (pss_cons (ps_if (pt_cmpR op_eq (pe_fld (pv 0) rfl) (pe_callB call_len_seq rfl G.len PySem.boot_len (pa_cons (pe_fld (pv 0) rfl) pa_nil)) (nomark _)) (pss_one (ps_ret pe_str)) pss_nil)
    (pss_one (ps_ret (pe_ix ix_list (pe_fld (pv 0) rfl) (pe_fld (pv 0) rfl) (fun _ _ => rfl))))), ?_⟩
  obtain ⟨dx, hx⟩ := hR.ins
  refine ⟨_, rfl, r, C, dx, _, _, rfl, hx, T.cl, T.ns, rfl, _, rfl, r, C, dx, _, _, rfl, hx, T.cl, T.nf, rfl, l, _, rfl, .inl (SqL.of hR.fl), rfl, _, rfl, ?_⟩
  rw [W_len]
  by_cases h : n = ws.length
  · refine iteP (by rw [h]) ?_
    have e : ah ws n = [] := by unfold ah; rw [List.getElem?_eq_none (by omega)]; rfl
    rw [e] at q
    show Q (.str (Str.ofString "")) H
    rw [none_eq]; exact q
  · refine iteN (fun z => h (by injection z with z; omega)) ⟨_, rfl, r, C, dx, _, _, rfl, hx, T.cl, T.nf, rfl, _, rfl, r, C, dx, _, _, rfl, hx, T.cl, T.ns, rfl, l, _, _, _, rfl, rfl, SqL.of hR.fl, atI_nat (ah_at (by omega)), q⟩
theorem scAtName : FnScope ["self"] ["self"] (defScope sAtName) := ⟨rfl, rfl, rfl, by decide +kernel, rfl, by decide +kernel, by decide +kernel⟩
theorem ok_atName (F : Fun K "at_name" "Reader.at_name" sAtName f fd) (G : Gm mg) (T : RdT K mg C) (RB : Fn P w K mg base 1 "begins_in" ["word", "signs"] spBeg) (MA : Mt P w K mg base C 1 "ahead" ["self"] (spAhead C)) : FnOk P w K mg base CX0 2 f fd ["self"] (spAt C letL) := by
  obtain ⟨tl, hl⟩ := G.lets
  refine F.ok scAtName (fun vs H Q E h => ?_) (fun cdv A outer s H vs Q E hr h => ?_)
  · obtain ⟨r, l, ws, n, rfl, _⟩ := h
    rfl
  obtain ⟨r, l, ws, n, rfl, hR, hn, hw, q⟩ := h
  refine ⟨_, (pss_one (ps_ret (pe_fn RB hr (pa_cons (pe_mt0 MA T.cl hr (pv 0)) (pa_cons (pe_glob (v := .str LETS) rfl hl ⟨_, rfl⟩) pa_nil))))), ?_⟩
  obtain ⟨dx, hx⟩ := hR.ins
  refine ⟨_, rfl, r, dx, _, rfl, hx, rfl, r, l, ws, n, rfl, hR, hn, ah ws n, letL, ?_, hw, q⟩
  rw [← let_eq]; rfl
theorem scPassed : FnScope ["self", "sign"] ["self", "sign"] (defScope sPassed) := ⟨rfl, rfl, rfl, by decide +kernel, rfl, by decide +kernel, by decide +kernel⟩
theorem ok_passed (F : Fun K "passed" "Reader.passed" sPassed f fd) (T : RdT K mg C) (MA : Mt P w K mg base C 1 "ahead" ["self"] (spAhead C)) : FnOk P w K mg base CX0 2 f fd ["self", "sign"] (spPassed C) := by
  refine F.ok scPassed (fun vs H Q E h => ?_) (fun cdv A outer s H vs Q E hr h => ?_)
  · obtain ⟨r, l, ws, n, c, rfl, _⟩ := h
    rfl
  obtain ⟨r, l, ws, n, c, rfl, hR, hn, q1, q2⟩ := h
  refine ⟨_, (pss_cons (ps_if (pt_cmpR op_ne (pe_mt0 MA T.cl hr (pv 0)) (pv 1) (nomark _)) (pss_one (ps_ret pe_bl)) pss_nil)
    (pss_cons (ps_fldaug (pv 0) pe_int in_add)
    (pss_one (ps_ret pe_bl)))), ?_⟩
  obtain ⟨dx, hx⟩ := hR.ins
  refine ⟨_, rfl, r, dx, _, rfl, hx, rfl, r, l, ws, n, rfl, hR, hn, _, rfl, rfl, _, rfl, ?_⟩
  by_cases h : ah ws n = c
  · refine iteNS (by rw [h]) ⟨_, rfl, r, C, dx, _, _, rfl, hx, T.cl, T.ns, rfl, _, _, rfl, rfl, dx, _, hx, (by show 2 < 1000; decide), ?_⟩
    exact q2 h _ SameX.upd (hR.step hx)
  · have e : decide (V.str (S (ah ws n)) = V.str (S c)) = false := decide_eq_false (str_ne h)
    rw [e]
    exact iteT (q1 h)
theorem scTakeWord : FnScope ["self", "word"] ["self"] (defScope sTakeWord) := ⟨rfl, rfl, rfl, by decide +kernel, rfl, by decide +kernel, by decide +kernel⟩
theorem ok_takeWord (F : Fun K "take_word" "Reader.take_word" sTakeWord f fd) (T : RdT K mg C) (MA : Mt P w K mg base C 1 "ahead" ["self"] (spAhead C)) : FnOk P w K mg base CX0 2 f fd ["self"] (spTakeW C) := by
  refine F.ok scTakeWord (fun vs H Q E h => ?_) (fun cdv A outer s H vs Q E hr h => ?_)
  · obtain ⟨r, l, ws, n, rfl, _⟩ := h
    rfl
  obtain ⟨r, l, ws, n, rfl, hR, hn, q⟩ := h
  refine ⟨_, (pss_cons (ps_set (i := 1) scTakeWord.nd rfl (Or.inl rfl) (pe_mt0 MA T.cl hr (pv 0)))
    (pss_cons (ps_fldaug (pv 0) pe_int in_add)
    (pss_one (ps_ret (pv 1))))), ?_⟩
  obtain ⟨dx, hx⟩ := hR.ins
  refine ⟨_, rfl, r, dx, _, rfl, hx, rfl, r, l, ws, n, rfl, hR, hn, ?_⟩
  refine ⟨_, rfl, r, C, dx, _, _, rfl, hx, T.cl, T.ns, rfl, _, _, rfl, rfl, dx, _, hx, (by show 2 < 1000; decide), _, rfl, ?_⟩
  exact q _ SameX.upd (hR.step hx)
theorem scTakeName : FnScope ["self"] ["self"] (defScope sTakeName) := ⟨rfl, rfl, rfl, by decide +kernel, rfl, by decide +kernel, by decide +kernel⟩
theorem scNeedEnd : FnScope ["self", "word"] ["self"] (defScope sNeedEnd) := ⟨rfl, rfl, rfl, by decide +kernel, rfl, by decide +kernel, by decide +kernel⟩
theorem scInit : FnScope ["self", "text"] ["self", "text"] (defScope sInit) := ⟨rfl, rfl, rfl, by decide +kernel, rfl, by decide +kernel, by decide +kernel⟩
theorem ok_init (F : Fun K "__init__" "Reader.__init__" sInit f fd) (T : RdT K mg C) (RW : Fn P w K mg base 5 "words" ["text"] spWords) : FnOk P w K mg base CX0 6 f fd ["self", "text"] (spInit C) := by
  refine F.ok scInit (fun vs H Q E h => ?_) (fun cdv A outer s H vs Q E hr h => ?_)
  · obtain ⟨r, dx, z, ws, rfl, _⟩ := h
    rfl
  obtain ⟨r, dx, z, ws, rfl, hx, hz, hw, q⟩ := h
  refine ⟨_, (pss_cons (ps_fld (pv 0) (pe_fn RW hr (pa_cons (pv 1) pa_nil)) rfl)
    (pss_one (ps_fld (pv 0) pe_int rfl))), ?_⟩
  refine ⟨_, rfl, z, ws, rfl, hz, hw, fun l H' g' hl hl0 => ?_⟩
  have hx' := g' _ _ hx
  have ne : l ≠ r := fun e => by rw [e, hx] at hl0; cases hl0
  refine ⟨_, rfl, r, C, dx, _, rfl, hx', T.cl, T.nf, (by show 0 < 1000; decide), ?_⟩
  refine ⟨_, rfl, r, C, dx, _, rfl, upd_same, T.cl, T.ns, (by show 1 < 1000; decide), ?_⟩
  refine q l _ (((SameX.of g').trans SameX.upd).trans SameX.upd) ⟨⟨dx, ?_⟩, ?_⟩
  · rw [upd_same]
    show some (HO.ins C dx (putF "spot" _ (putF "found" _ []))) = _
    rw [show putF "found" (V.ref l) [] = ([("found", V.ref l)] : List (Str × V)) from rfl, put_no (by decide +kernel)]; rfl
  · rw [upd_ne ne, upd_ne ne]; exact hl
end
end K8
namespace L2
open PySem PySem.Spec PyProof.Rows
theorem law_callT {P : Program} {w : World} {K : PySem.W.Frag} {mg mb : Str → Option Value} {k : Nat} {fa a : Addr} {fd : FuncData} {x : Str} {sp : Sp} {s₁ : Shared} {vs : List Value} {ns : List Int} {Ts : List Addr}
    (KX : K.In s₁.heap) (hns : s₁.heap.Ns mainGlobals mg) (hb : s₁.heap.Ns builtinsNs mb) (hbb : ∀ x : Str, x ≠ "__name__" → mb x = bootBuiltins x) (hlim : s₁.heap.NoLimit) (hg : s₁.gens = #[]) (hbt : BtAt mg s₁.heap)
    (hTs : ∀ T ∈ Ts, s₁.heap.get? T = some { cls := .none, data := .fields #[] } ∧ isCodeTable s₁.heap T ∧ K.lookup T = none)
    (ha : s₁.heap.get? a = some { cls := .type "list", data := .seq vs.toArray }) (hi : IntsAre vs ns) (hl : ns.length ≤ sizeLine) (hr : Room k callerA)
    (F : ∀ base : Heap, K.In base → base.Ns mainGlobals mg → BtAt mg base → FnOk P w K mg base CX0 k fa fd [x] sp) (hbind : ∀ (s : Shared) (u : Value), BindsTo s fd ⟨[u], []⟩ [(x, u)])
    (hsp : ∀ H : Hp, SqL K H a (ns.map V.int) → (∀ T ∈ Ts, H T = some (.tbl #[])) → sp [.ref a] H (fun v _ => v = .bl true) fun _ _ _ => False) :
    codeAny (model P w) callerA (.call (.ref fa) ⟨[.ref a], []⟩) (fun r s' => r = .ok (.ret (.bool true)) ∧ OldK s₁.heap s'.heap ∧ s'.os = s₁.os ∧ AllBare s'.gens) s₁ := by
  have rv := vals_ints hi
  have lenV := hi.length
  have core : ∀ H : Hp, (∀ b, H b = none ∨ (b = a ∧ K.lookup a = none ∧ ∃ o xs, H b = some (.frz o (.lst xs))) ∨ (b ∈ Ts ∧ H b = some (.tbl #[]))) → SqL K H a (ns.map V.int) → (∀ T ∈ Ts, H T = some (.tbl #[])) → HOk P w H s₁.heap →
      codeAny (model P w) callerA (.call (.ref fa) ⟨[.ref a], []⟩) (fun r s' => r = .ok (.ret (.bool true)) ∧ OldK s₁.heap s'.heap ∧ s'.os = s₁.os ∧ AllBare s'.gens) s₁ := by
    intro H hO hS hT hok
    have base_of : ∀ {b : Addr} {o : Obj}, s₁.heap.get? b = some o → H b = none → (hidT s₁.heap H).get? b = some o := fun e n => hidT_get e n
    have noA : ∀ {b : Addr} {o : Obj}, s₁.heap.get? b = some o → (∀ xs n, o.data ≠ .seq xs n) → (∀ xs, o.data ≠ .fields xs) → H b = none := fun {b o} e d1 d2 => by
      rcases hO b with z | ⟨rfl, _⟩ | ⟨z, _⟩
      · exact z
      · rw [ha] at e; cases e
        exact absurd rfl (d1 _ _)
      · rw [(hTs b z).1] at e; cases e
        exact absurd rfl (d2 _)
    have nsK : ∀ {b : Addr} {m : Str → Option Value}, s₁.heap.Ns b m → (hidT s₁.heap H).Ns b m := fun {b m} ⟨o, es, ep, e, d, r⟩ => ⟨o, es, ep, base_of e (noA e (fun _ _ z => by rw [d] at z; cases z) (fun _ z => by rw [d] at z; cases z)), d, r⟩
    have hKb : K.In (hidT s₁.heap H) := fun b o e => base_of (KX b o e) (by
      rcases hO b with z | ⟨rfl, hk, _⟩ | ⟨z, _⟩
      · exact z
      · rw [hk] at e; cases e
      · rw [(hTs b z).2.2] at e; cases e)
    have hBt : BtAt mg (hidT s₁.heap H) := by
      obtain ⟨bm, o, b1, b2, b3, b4, b5, b6, b7⟩ := hbt
      exact ⟨bm, o, b1, b2, b3, base_of b4 (noA b4 (fun _ _ z => by rw [b7] at z; cases z) (fun _ z => by rw [b7] at z; cases z)), b5, b6, b7⟩
    have hM : Mod K mg (hidT s₁.heap H) := ⟨hKb, nsK hns, ⟨mb, nsK hb, hbb⟩, let ⟨mc, h1, h2⟩ := hlim; ⟨mc, nsK h1, h2⟩⟩
    have e0 : Env0 P w K mg (hidT s₁.heap H) callerA [] s₁ H := ⟨rfl, hM, fun b o e => of_hidT e, Nat.le_of_eq (hidT_size _ _), trivial, fun b hb => absurd (show b ∈ ([] : List Addr) from hb) (by simp), hok, .of_eq hg⟩
    refine codeAny_mono ((F _ hKb (nsK hns) hBt).run callerA [] s₁ H ⟨[.ref a], []⟩ [.ref a] [.ref a] _ _ hr e0 (hbind s₁ (.ref a)) (.cons rfl .nil) (hsp H hS hT)) fun r s' h => ?_
    cases r with
    | error e => exact h.elim
    | ok fl =>
      cases fl with
      | next => exact False.elim h
      | brk => exact False.elim h
      | cont => exact False.elim h
      | ret u =>
        obtain ⟨v, H', os, bare, un, hok', r', q⟩ := h
        have q' : v = .bl true := q
        subst q'
        obtain rfl : u = Value.bool true := r'
        refine ⟨rfl, ⟨fun b o e => ?_, fun b o e => un.there b o e (by simp)⟩, os, bare⟩
        rcases hO b with z | ⟨rfl, _, ob, xs, z⟩ | ⟨zT, z⟩
        · exact .inl (un.keep b o e z (by intro z; exact absurd (show b ∈ ([] : List Addr) from z) (by simp)) (by simp))
        · have z2 := un.frzs b ob _ z
          obtain ⟨e1, _⟩ := hok b _ z
          obtain ⟨e2, _⟩ := hok' b _ z2
          rw [e] at e1; cases e1
          exact .inl e2
        · obtain ⟨more, z2⟩ := un.tbls b _ z
          have e2 : s'.heap.get? b = some { cls := .none, data := .fields (#[] ++ more) } := hok' b _ z2
          obtain ⟨t1, t2, _⟩ := hTs b zT
          rw [t1] at e; cases e
          exact .inr (.inl ⟨t2, rfl, #[], more, rfl, e2⟩)
  have haT : ∀ T ∈ Ts, T ≠ a := fun T hT z => by
    have := (hTs T hT).1
    rw [z, ha] at this; cases this
  cases hk : K.lookup a with
  | some o =>
    have e := KX a o hk
    rw [ha] at e
    cases e
    refine core (fun b => if b ∈ Ts then some (.tbl #[]) else none) (fun b => ?_) (.inr ⟨_, vs.toArray, _, hk, rfl, rfl, rfl, by rw [List.size_toArray, lenV]; exact hl, by simpa using rv⟩) (fun T hT => if_pos hT) (fun b u z => ?_)
    · by_cases hb : b ∈ Ts
      · exact .inr (.inr ⟨hb, if_pos hb⟩)
      · exact .inl (if_neg hb)
    · by_cases hb : b ∈ Ts
      · have z' := (if_pos hb).symm.trans z
        cases z'
        exact (hTs b hb).1
      · have z' := (if_neg hb).symm.trans z
        cases z'
  | none =>
    refine core (fun b => if b = a then some (.frz { cls := .type "list", data := .seq vs.toArray } (.lst (ns.map V.int))) else if b ∈ Ts then some (.tbl #[]) else none) (fun b => ?_) (.inl (.inr ⟨{ cls := .type "list", data := .seq vs.toArray }, if_pos rfl⟩)) (fun T hT => (if_neg (haT T hT)).trans (if_pos hT)) (fun b u z => ?_)
    · by_cases hb : b = a
      · exact .inr (.inl ⟨hb, hk, _, _, if_pos hb⟩)
      · by_cases hbT : b ∈ Ts
        · exact .inr (.inr ⟨hbT, (if_neg hb).trans (if_pos hbT)⟩)
        · exact .inl ((if_neg hb).trans (if_neg hbT))
    · by_cases hb : b = a
      · have z' := (if_pos hb).symm.trans z
        cases z'
        subst hb
        exact ⟨ha, by rw [List.length_map]; exact hl, vs, _, rv, ha⟩
      · have z1 := (if_neg hb).symm.trans z
        by_cases hbT : b ∈ Ts
        · have z' := (if_pos hbT).symm.trans z1
          cases z'
          exact (hTs b hbT).1
        · have z' := (if_neg hbT).symm.trans z1
          cases z'
structure TabAt (q : Program) (K : PySem.W.Frag) (x : Str) (c T : Addr) : Prop where
  fnd : ∃ d, (recsOf q).find? (fun e => e.name == x) = some d
  tab : PySem.W.tabIn K x = some (c, T)
  hd : PySem.W.codeHdIn K c T = true
  no : K.lookup T = none
theorem walk_ofT {l : PySem.W.OpenLaw} {n k : Nat} {q : Program} {loose : List Str} {XP : (Str → Option Value) → Heap → Prop} {YP : World → Heap → Prop} {d : DefRec} {K : Params → PySem.W.Frag} {sp : World → Sp} {x : Str} {tabs : List (Str × Addr × Addr)}
    (hn : l.most = some n) (hn2 : n ≤ sizeLine) (hdf : d.params.defaults = []) (hr : Room k callerA)
    (hY : ∀ (w : World) (h : Heap), YP w h → (K w.params).In h)
    (htab : ∀ (w : World), ∀ p ∈ tabs, TabAt q (K w.params) p.1 p.2.1 p.2.2)
    (F : ∀ (w : World) (mg : Str → Option Value) (fa : Addr) (h : Heap), (K w.params).In h → h.Ns mainGlobals mg → mg d.name = some (.ref fa) →
      ∃ fd : FuncData, (∀ (s : Shared) (u : Value), BindsTo s fd ⟨[u], []⟩ [(x, u)]) ∧
        ∀ base : Heap, (K w.params).In base → base.Ns mainGlobals mg → BtAt mg base → FnOk l.prog w (K w.params) mg base CX0 k fa fd [x] (sp w))
    (hsp : ∀ (w : World) (H : Hp) (a : Addr) (ns : List Int), ns.length ≤ n → SqL (K w.params) H a (ns.map V.int) → (∀ p ∈ tabs, H p.2.2 = some (.tbl #[])) → sp w [.ref a] H (fun v _ => v = .bl true) fun _ _ _ => False) :
    PySem.W.WalkO q loose XP YP l.row.toRowW d [] (fun f vs => PySem.call f vs) := by
  refine Att.attach_call hn hdf fun w s₀ s₁ mg mb fa o pm cd doc a vs ns G Y ho hd hcd hmg hobj hints hlen hg => ?_
  have KX := hY w _ Y
  obtain ⟨fd, hb, hF⟩ := F w mg fa _ KX G.T.g hmg
  have hbt : BtAt mg s₁.heap := by
    obtain ⟨bm, ob, b1, b2, b3, b4, b5, b6⟩ := G.T.bmain
    have hbG : bm ≠ mainGlobals := fun q => by
      obtain ⟨o, es, ep, e, hd, _⟩ := G.T.g
      rw [q, e] at b3; cases b3; rw [hd] at b6; cases b6
    exact ⟨bm, ob, b1, b2, hbG, b3, b4, b5, b6⟩
  refine law_callT (Ts := tabs.map fun p => p.2.2) KX G.T.g G.T.b G.T.builtins G.T.nolimit hg hbt (fun T hT => ?_) hobj hints (Nat.le_trans hlen hn2) hr hF hb (fun H hS hT => hsp w H a ns hlen hS fun p hp => hT _ (List.mem_map.mpr ⟨p, hp, rfl⟩))
  obtain ⟨p, hp, rfl⟩ := List.mem_map.mp hT
  obtain ⟨⟨dd, hrec⟩, ht, _, hno⟩ := htab w p hp
  obtain ⟨hc, h0⟩ := PySem.W.tab_of G.T KX hrec ht
  exact ⟨h0, (hc.tab h0).isCodeTable, hno⟩
end L2
namespace L2
open PySem PySem.Spec PyProof.Rows
theorem ObjOk.there {P : Program} {w : World} {H : Hp} {h : Heap} {a : Addr} {o : HO} (x : ObjOk P w H h a o) : ∃ ob, h.get? a = some ob := by
  cases o with
  | lst xs => obtain ⟨_, _, _, _, e⟩ := x; exact ⟨_, e⟩
  | tup xs => obtain ⟨_, _, _, _, e, _⟩ := x; exact ⟨_, e⟩
  | dK kvs => obtain ⟨_, _, _, _, o, _, _, e, _⟩ := x; exact ⟨_, e⟩
  | dT kvs => obtain ⟨_, _, _, _, o, _, _, e, _⟩ := x; exact ⟨_, e⟩
  | set S n => obtain ⟨o, _, _, _, e, _⟩ := x; exact ⟨_, e⟩
  | ins C dx fs => obtain ⟨_, _, _, e, _⟩ := x; exact ⟨_, e⟩
  | own y => obtain ⟨_, e⟩ := x; exact ⟨_, e⟩
  | xd fs => obtain ⟨_, ⟨_, _, _, e, _⟩, _⟩ := x; exact ⟨_, e⟩
  | rng lo hi => obtain ⟨_, _, _, e⟩ := x; exact ⟨_, e⟩
  | frz ob u => obtain ⟨e, _⟩ := x; exact ⟨_, e⟩
  | tbl ps => exact ⟨_, (show h.get? a = some _ from x)⟩
  | met f y => exact ⟨_, (show h.get? a = some _ from x)⟩
  | ext φ => obtain ⟨_, e, _⟩ := x; exact e
def Cov (B : Heap) (fs : List Addr) (H' : Hp) (h h1 : Heap) : Prop := ∀ b o, h1.get? b = some o → (H' b ≠ none ∨ ∃ o', h.get? b = some o') → b ∉ fs → B.get? b = some o
structure Flw (P : Program) (w : World) (outer : List Env) (H : Hp) (s : Shared) (a : Addr) (cls : Value) (H' : Hp) (s' : Shared) : Prop where
  os : s'.os = s.os
  bare : AllBare s'.gens
  un : Un (frs outer) [] H H' s.heap s'.heap
  hok : HOk P w H' s'.heap
  fly : ∃ B t, Heap.FlyingW B outer a cls (.ref t) s'.heap ∧ Cov B (frs outer) H' s.heap s'.heap
def CX1 (P : Program) (w : World) : CXT := fun outer H s E e s' => ∃ (a : Addr) (cls : Value) (H' : Hp), e = .ref a ∧ Flw P w outer H s a cls H' s' ∧ E cls none H'
theorem un_fly {fs : List Addr} {H H' : Hp} {h h1 h2 B : Heap} (u : Un fs [] H H' h h1) (cov : Cov B fs H' h h1) (st : B.StaysIn h2) (up : h1.UpToSlots h2) (hfs : ∀ b ∈ fs, ∀ o, h1.get? b = some o → ∀ vs, o.data ≠ .fields vs) : Un fs [] H H' h h2 where
  keep := fun b o e n hb hx => st _ _ (cov b o (u.keep b o e n hb hx) (.inr ⟨o, e⟩) hb)
  slot := fun b o e n hb hx => by
    obtain ⟨sl, e1⟩ := u.slot b o e n hb hx
    obtain ⟨sl2, e2⟩ := up b _ e1 (hfs b hb _ e1)
    exact ⟨sl2, e2⟩
  free := u.free
  there := fun b o e hx => by
    obtain ⟨o1, e1⟩ := u.there b o e hx
    by_cases hb : b ∈ fs
    · obtain ⟨sl2, e2⟩ := up b _ e1 (hfs b hb _ e1)
      exact ⟨_, e2⟩
    · exact ⟨o1, st _ _ (cov b o1 e1 (.inr ⟨o, e⟩) hb)⟩
  tups := u.tups
  frzs := u.frzs
  tbls := u.tbls
theorem hok_fly {P : Program} {w : World} {fs : List Addr} {H' : Hp} {h h1 h2 B : Heap} (hok : HOk P w H' h1) (trk : ∀ b ∈ fs, H' b = none) (cov : Cov B fs H' h h1) (st : B.StaysIn h2) : HOk P w H' h2 := fun b u e => by
  refine (hok b u e).stay (fun c v hc r => ?_) (fun _ r => r) fun _ _ r => r
  have hne : H' c ≠ none := by
    rcases hc with rfl | hc
    · rw [e]; intro z; cases z
    · rw [hc]; intro z; cases z
  exact st _ _ (cov c v r (.inl hne) fun z => hne (trk c z))
section
variable {X : Cx} {pins : List (Addr × Obj)} {σ : St} {H H' : Hp} {s s' : Shared}
theorem frs_data {B : Heap} {l : List Env} {h : Heap} (hl : h.FunFrames B l) : ∀ b ∈ frs l, ∀ o, h.get? b = some o → ∀ vs, o.data ≠ .fields vs := fun b hb o e vs => by
  obtain ⟨_, o', e', d⟩ := hl.mem hb
  rw [e] at e'
  cases e'
  exact d vs
theorem free_un (I : Inv X pins σ H s) (u : Un (frs X.stack) [] H H' s.heap s'.heap) : ∀ b ∈ frs X.stack, H' b = none := fun b hb => by
  obtain ⟨_, o, ho, _⟩ := I.stack.mem hb
  exact u.free b o ho (I.stkFree b hb) (by simp)
theorem Inv.flown {h2 B : Heap} (I : Inv X pins σ H s) (os : s'.os = s.os) (bare : AllBare s'.gens) (un : Un (frs X.stack) [] H H' s.heap s'.heap) (hok : HOk X.prog X.w H' s'.heap) (hfr : s'.heap.FunFrames B X.stack) (cov : Cov B (frs X.stack) H' s.heap s'.heap) (st : B.StaysIn h2) (up : s'.heap.UpToSlots h2) :
    Inv X pins σ H' { s' with heap := h2 } :=
  I.call' (s' := { s' with heap := h2 }) (ch := []) os (un_fly un cov st up (frs_data hfr)) (hok_fly hok (free_un I un) cov st) bare (fun b z => absurd z (by simp))
theorem Cov.out {B h2 : Heap} {H0 : Hp} {s0 : Shared} (I : Inv X pins σ H s) (hH0 : X.H₀ = H0) (hs0 : X.s₀ = s0) (hex : X.ex = []) (un : Un (frs X.stack) [] H H' s.heap s'.heap) (hok : HOk X.prog X.w H' s'.heap) (cov : Cov B (frs X.stack) H' s.heap s'.heap) (st : B.StaysIn h2) : Cov B X.fs H' s0.heap h2 := fun b o e hb nb => by
  have key : ∃ o', s'.heap.get? b = some o' ∧ b ∉ frs X.stack ∧ (H' b ≠ none ∨ ∃ o', s.heap.get? b = some o') := by
    rcases hb with hb | ⟨o', hb⟩
    · cases hH : H' b with
      | none => exact absurd hH hb
      | some u =>
        obtain ⟨o', ho'⟩ := (hok b u hH).there
        refine ⟨o', ho', fun z => ?_, .inl (by intro z; cases z)⟩
        rw [free_un I un b z] at hH
        cases hH
    · have h1 : X.s₀.heap.get? b = some o' := by rw [hs0]; exact hb
      obtain ⟨o1, e1⟩ := I.base.there b o' h1 (by rw [hex]; simp)
      obtain ⟨o2, e2⟩ := un.there b o1 e1 (by simp)
      refine ⟨o2, e2, fun z => ?_, .inr ⟨o1, e1⟩⟩
      rcases List.mem_cons.mp (I.stkSub b z) with z | z
      · rw [z] at h1
        exact absurd (Nat.lt_of_lt_of_le (Heap.lt_size h1) I.ok.above) (Nat.lt_irrefl _)
      · exact nb z
  obtain ⟨o', h1, h2', h3⟩ := key
  have hB := cov b o' h1 h3 h2'
  have := st _ _ hB
  rw [e] at this
  cases this
  exact hB
end
section
variable {P : Program} {w : World} {K : PySem.W.Frag} {mg : Str → Option Value} {base : Heap} {N : List Str} {qual : Str} {scope : Scope} {f : Addr} {cd : Value} {A : Around} {outer : List Env} {s : Shared} {H : Hp} {E : XK}
theorem pass1 {E' : XK} (k : ∀ cls H', E' cls none H' → E cls none H') : Passes (CX1 P w) (cxOf (CX1 P w) P w K mg base N qual scope f cd A outer s H E) E' := by
  intro pins σ H1 s1 e s' I h
  obtain ⟨a, cls, H', rfl, F, q⟩ := h
  obtain ⟨B, t, hfl, cov⟩ := F.fly
  show wpAny (model P w) (A.deeper (envOfC qual scope s.heap.objs.size f cd)) (leaving (envOfC qual scope s.heap.objs.size f cd) (.ref a)) _ _ s'
  refine wpAny_leaves_onW I.ok.frames rfl hfl fun h2 hfl2 up => ?_
  have J := I.flown F.os F.bare F.un F.hok hfl.2.2.1 cov hfl2.1 up
  exact ⟨a, cls, H', rfl, ⟨J.os, J.bare, J.base, J.hok, B, t, hfl2, Cov.out I rfl rfl rfl F.un F.hok cov hfl2.1⟩, k _ _ q⟩
theorem raised {pins : List (Addr × Obj)} {σ : St} {H1 : Hp} {s1 : Shared} {a : Addr} {cls : Value} {args : List Value} {h' : Heap} (I : Inv (cxOf (CX1 P w) P w K mg base N qual scope f cd A outer s H E) pins σ H1 s1) (hx : Heap.MadeExcOf s1.heap h' a cls args) (q : E cls none H1) :
    (cxOf (CX1 P w) P w K mg base N qual scope f cd A outer s H E).xe (.ref a) { s1 with heap := h' } := by
  show wpAny (model P w) (A.deeper (envOfC qual scope s.heap.objs.size f cd)) (leaving (envOfC qual scope s.heap.objs.size f cd) (.ref a)) _ _ _
  obtain ⟨stk, hstk⟩ : ∃ stk, stk = envOfC qual scope s.heap.objs.size f cd :: outer := ⟨_, rfl⟩
  have hfr : s1.heap.FunFrames (PySem.W.hideAll s1.heap (frs stk)) stk := by
    have := I.stack
    rw [hstk]
    exact PySem.W.funFrames_hide this fun env he b hb => List.mem_filterMap.mpr ⟨env, he, hb⟩
  have cov : Cov (PySem.W.hideAll s1.heap (frs stk)) (frs stk) H1 s1.heap s1.heap := fun b o e _ nb => PySem.W.hideAll_get _ e nb
  refine wpAny_leaves_madeW (base := PySem.W.hideAll s1.heap (frs stk)) (h := s1.heap) I.ok.frames rfl (fun b o q => PySem.W.of_hideAll _ q) (hstk ▸ hfr) hx fun h2 t hfl2 tup hbt up => ?_
  subst hstk
  have up' : s1.heap.UpToSlots h2 := (Heap.UpToSlots.of_keeps hx.keeps).trans up
  have J := I.flown (s' := s1) rfl I.bare Un.refl I.hok hfr cov hfl2.1 up'
  exact ⟨a, cls, H1, rfl, ⟨J.os, J.bare, J.base, J.hok, _, t, hfl2, Cov.out (s' := s1) I rfl rfl rfl Un.refl I.hok cov hfl2.1⟩, q⟩
end
end L2
namespace L2
open PySem PySem.Spec PyProof.Rows
abbrev mroV : List Value := [.type "ValueError", .type "Exception", .type "BaseException", .type "object"]
theorem exc_obj {K : PySem.W.Frag} {h : Heap} {C : Addr} {bmB : List Value} {newId : String} (X : K.In h) (q : PySem.W.excIn K C bmB newId = true) :
    ∃ tl N nm qn bs hdct sn sub ab col dd k0 k1 k2 k3 k5 mN, h.get? C = some (excClassObj nm qn C N bs tl hdct sn sub ab col dd k0 k1 k2 k3 k5 newId) ∧ h.Ns N mN ∧ mN "__init__" = none ∧ OwnTail h bmB tl := by
  unfold PySem.W.excIn at q
  split at q
  · rename_i dd cd sl ho
    split at q
    · rename_i C' bm k0 k1 k2 k3 n k5 hm hs
      simp only [Bool.and_eq_true, beq_iff_eq, Bool.not_eq_true'] at q
      obtain ⟨⟨⟨⟨⟨e1, e2⟩, hdel⟩, ht⟩, hok⟩, hni⟩ := q
      subst e1 e2
      obtain ⟨nm, bs, mro, ns, qn, hd, sn, sub, ab, col, del⟩ := cd
      dsimp only at hm hdel hok hni
      subst hm hdel
      have hsl : sl = #[k0, k1, k2, k3, some (.builtin n), k5] := by
        obtain ⟨l⟩ := sl
        exact congrArg Array.mk hs
      subst hsl
      exact ⟨bm, ns, nm, qn, bs, hd, sn, sub, ab, col, dd, k0, k1, k2, k3, k5, _, X _ _ ho, .of_isNs (PySem.W.isNs_of_in X hok), PySem.W.nsMap_none_of_in X hok hni, PySem.W.tail_of_in X ht⟩
    · cases q
  · cases q
def sRaise (C : Addr) (E : XK) (t : TA) : TS := fun D σ H => t σ H fun vs H1 => vs.length ≤ sizeLine ∧ E (.ref C) none H1
section
variable {P : Program} {w : World} {K : PySem.W.Frag} {mg : Str → Option Value} {base : Heap} {N : List Str} {qual : Str} {scope : Scope} {f : Addr} {cd : Value} {A : Around} {outer : List Env} {s : Shared} {H : Hp} {E : XK}
theorem ps_raise {x : Str} {C : Addr} {newId Bn inN : String} {bmN : List Value} {e : Expr} {es : List Expr} {t : TA} {np cpos pos : Pos} (hm : mg x = some (.ref C)) (hq : PySem.W.excIn K C mroV newId = true) (Fn : ExcBaseFacts Bn newId inN bmN) (hBn : mroV.contains (.type Bn) = true)
    (ha : PA (cxOf (CX1 P w) P w K mg base N qual scope f cd A outer s H E) (e :: es) t) (hg : Gl (cxOf (CX1 P w) P w K mg base N qual scope f cd A outer s H E) x := by rfl) (hd : (x == ("__debug__" : Str)) = false := by decide)
    (he : starEach (e :: es) (envOfC qual scope s.heap.objs.size f cd) = (false, eval e (envOfC qual scope s.heap.objs.size f cd)) :: starEach es (envOfC qual scope s.heap.objs.size f cd) := by rfl) (hpl : (backTo cpos (starEach es (envOfC qual scope s.heap.objs.size f cd))).any (·.1) = false := by rfl) :
    PS (cxOf (CX1 P w) P w K mg base N qual scope f cd A outer s H E) (.Raise (some (.Call (.Name x np) (e :: es) [] cpos)) none pos) (sRaise C E t) := by
  intro pins s1 σ H1 D I h
  obtain ⟨tl, N', nm, qn, bs, hdct, sn, sub, ab, col, dd, k0, k1, k2, k3, k5, mN, hC, hN, hni, T⟩ := exc_obj (h := base) I.ok.mod.kin hq
  refine wpAny_Raise_call_subU (C := C) (nm := nm) (q := qn) (N := N') (bs := bs) (bm := tl) (hdct := hdct) (sn := sn) (sub := sub) (ab := ab) (col := col) (dd := dd) (k0 := k0) (k1 := k1) (k2 := k2) (k3 := k3) (k5 := k5)
    Fn hBn PySem.F.excBase_ValueError (mN := mN) (T.hasType PySem.F.excBase_ValueError.hasBase) (I.ok.hd rfl) ?_ hni (ld_glob I hg hm ⟨rfl, ?_⟩ hd)
  · show (backTo cpos (starEach (e :: es) (envOfC qual scope s.heap.objs.size f cd))).any (·.1) = false
    rw [he]
    show (false || (backTo cpos (starEach es (envOfC qual scope s.heap.objs.size f cd))).any (·.1)) = false
    rw [hpl]; rfl
  · have hw := ha cpos pins s1 σ H1 _ I h
    show wpAny (model P w) (A.deeper (envOfC qual scope s.heap.objs.size f cd)) (evalArgs (.ref C) true (backTo cpos (starEach (e :: es) (envOfC qual scope s.heap.objs.size f cd))) []) _ _ s1
    have hw' : wpAny (model P w) (A.deeper (envOfC qual scope s.heap.objs.size f cd)) (spliced (backTo cpos (starEach (e :: es) (envOfC qual scope s.heap.objs.size f cd)))) _ _ s1 := hw
    rw [he] at hw' ⊢
    refine Calls.evalArgs_plain (wpAny_mono hw' (fun us s2 h2 => ?_) fun _ _ y => y)
    obtain ⟨vs, H2, I2, r, hl, q⟩ := h2
    exact ⟨rfl, by rw [← r.length]; exact hl, I2.bk _ _ hC, hN.keeps I2.bk, T.keeps I2.bk, fun h' a hx => raised I2 hx q⟩
end
end L2
namespace L2
open PySem PySem.Spec PyProof.Rows
structure FnX (P : Program) (w : World) (K : PySem.W.Frag) (mg : Str → Option Value) (base : Heap) (k : Nat) (x : Str) (ps : List Str) (sp : Sp) : Prop where
  ex : ∃ (f : Addr) (fd : FuncData), FnOk P w K mg base (CX1 P w) k f fd ps sp ∧ Binds K fd ps [] ∧ PySem.W.keepIn K (.ref f) = true ∧ mg x = some (.ref f)
def PassE (X : Cx) (EE : St → XK) : Prop := ∀ (pins : List (Addr × Obj)) (σ : St) (H : Hp) (s : Shared) (e : Value) (s' : Shared), Inv X pins σ H s → CX1 X.prog X.w X.stack H s (EE σ) e s' → X.xe e s'
def tCallX (sp : Sp) (EE : St → XK) (t : TA) : TE := fun σ H Q => t σ H fun vs H1 => sp vs H1 Q (EE σ)
section
variable {X : Cx}
theorem pe_fnX {k k' : Nat} {x : Str} {ps : List Str} {sp : Sp} {EE : St → XK} {p pos : Pos} {e : Expr} {es : List Expr} {t : TA} (F : FnX X.prog X.w X.K X.mg X.base k x ps sp) (hr : Room k' X.A) (hx : PassE X EE) (ha : PA X (e :: es) t) (hk : k ≤ k' := by decide) (hg : Gl X x := by rfl)
    (hdb : (x == ("__debug__" : Str)) = false := by decide) (he : starEach (e :: es) X.env = (false, eval e X.env) :: starEach es X.env := by rfl) (hpl : (backTo pos (starEach es X.env)).any (·.1) = false := by rfl) :
    PE X (.Call (.Name x p) (e :: es) [] pos) (tCallX sp EE t) := by
  obtain ⟨f, fd, h1, h2, h3, h4⟩ := F.ex
  intro pins s σ H Q I h
  refine wpAny_Call_Name_kw (ld_glob I hg h4 ?_ hdb)
  refine PySem.W.callWith_K (h₀ := X.base) I.ok.mod.kin h3 (thn (ha pos pins s σ H _ I h) fun us s1 ⟨vs, H1, I1, r, q⟩ => ⟨I1.kIn, ?_⟩) he hpl
  have hl : us.length = ps.length := by rw [← r.length]; exact h1.len _ _ _ _ q
  have hb := h2 s1 us I1.kIn (by rw [List.append_nil]; exact hl)
  rw [List.append_nil] at hb
  refine wpAny_call (codeAny_mono (h1.run X.A X.stack s1 H1 ⟨us, []⟩ us vs Q (EE σ) (hr.mono hk) I1.env0 hb r q) fun r s' hq => ?_)
  cases r with
  | error e => exact hx pins σ H1 s1 e s' I1 hq
  | ok fl =>
    cases fl with
    | ret u => exact I1.after hq
    | next => exact False.elim hq
    | brk => exact False.elim hq
    | cont => exact False.elim hq
end
section
variable {P : Program} {w : World} {K : PySem.W.Frag} {mg : Str → Option Value} {base : Heap} {N : List Str} {qual : Str} {scope : Scope} {f : Addr} {cd : Value} {A : Around} {outer : List Env} {s : Shared} {H : Hp} {E : XK}
theorem passE {E' : XK} (k : ∀ cls H', E' cls none H' → E cls none H') : PassE (cxOf (CX1 P w) P w K mg base N qual scope f cd A outer s H E) (fun _ => E') := fun pins σ H1 s1 e s' I h => pass1 k pins σ H1 s1 e s' I h
theorem Fun.okX {x : Str} {st : Stmt} {fd : FuncData} {ps : List Str} {k : Nat} {sp : Sp} (F : Fun K x qual st f fd) (S : FnScope N ps (defScope st)) (len : ∀ vs H Q E, sp vs H Q E → vs.length = ps.length)
    (hbody : ∀ (cdv : Value) (A : Around) (outer : List Env) (s : Shared) (H : Hp) (vs : List V) (Q : VK) (E : XK), Room k (A.deeper (envOfC qual (defScope st) s.heap.objs.size f cdv)) → sp vs H Q E →
      ∃ t, PSs (cxOf (CX1 P w) P w K mg base N qual (defScope st) f cdv A outer s H E) (defBody st) t ∧ t { nx := fun _ H' => Q .non H', rt := Q } (start N vs) H) : FnOk P w K mg base (CX1 P w) (k + 1) f fd ps sp := by
  obtain ⟨oc, od, kV, doc, pm, an, cdv, ct, osl, rfl, lk, hcd⟩ := F.ex
  exact fn_of lk hcd S len fun A outer s H vs Q E hr hsp => hbody cdv A outer s H vs Q E hr hsp
theorem Fun.okXC {x : Str} {st : Stmt} {fd : FuncData} {ps : List Str} {k : Nat} {sp : Sp} {c T : Addr} (F : Fun K x qual st f fd) (hn : PySem.W.nsIn K mainGlobals x = some (some (.ref f))) (hT : PySem.W.tabIn K x = some (c, T)) (S : FnScope N ps (defScope st)) (len : ∀ vs H Q E, sp vs H Q E → vs.length = ps.length)
    (hbody : ∀ (A : Around) (outer : List Env) (s : Shared) (H : Hp) (vs : List V) (Q : VK) (E : XK), Room k (A.deeper (envOfC qual (defScope st) s.heap.objs.size f (.ref c))) → sp vs H Q E →
      ∃ t, PSs (cxOf (CX1 P w) P w K mg base N qual (defScope st) f (.ref c) A outer s H E) (defBody st) t ∧ t { nx := fun _ H' => Q .non H', rt := Q } (start N vs) H) : FnOk P w K mg base (CX1 P w) (k + 1) f fd ps sp := by
  obtain ⟨oc, od, kV, doc, pm, an, cdv, ct, osl, rfl, lk, hcd⟩ := F.ex
  have e : cdv = .ref c := code_of hn lk hT
  subst e
  exact fn_of lk hcd S len fun A outer s H vs Q E hr hsp => hbody A outer s H vs Q E hr hsp
end
abbrev Cx.pnd (X : Cx) (pins : List (Addr × Obj)) : Cx := { X with pn := X.pn ++ pins }
abbrev Cx.tryx (X : Cx) (pins : List (Addr × Obj)) (EE : St → XK) : Cx := { X with pn := X.pn ++ pins, xe := fun e s' => ∃ pins' σ H s, Inv (X.pnd pins) pins' σ H s ∧ CX1 X.prog X.w X.stack H s (EE σ) e s' }
abbrev Cx.mrk (X : Cx) (a : Addr) : Cx := { X with A := X.A.mark (some (.ref a)), calm := false, xe := fun _ _ => False }
section
variable {X : Cx} {pins : List (Addr × Obj)} {σ : St} {H : Hp} {s : Shared} {EE : St → XK} {a : Addr}
theorem Inv.toTry (I : Inv X pins σ H s) (EE : St → XK) : Inv (X.tryx pins EE) [] σ H s :=
  ⟨⟨I.ok.mod, I.ok.kind, I.ok.glob, I.ok.blt, I.ok.above, I.ok.inj, I.ok.has, I.ok.cab, I.ok.hd, I.ok.frames, I.ok.stk, I.ok.exf, I.ok.bs, I.ok.bsz, I.ok.noex, I.ok.exfs, I.ok.funs, I.ok.frf⟩, I.os, I.bare, I.base, I.loc, I.cell, I.free, I.freeC, fun p hp => I.pin p (by simpa using hp), I.hok, I.len⟩
theorem Inv.ofTry {p2 : List (Addr × Obj)} (I : Inv (X.tryx pins EE) p2 σ H s) : Inv X pins σ H s :=
  ⟨⟨I.ok.mod, I.ok.kind, I.ok.glob, I.ok.blt, I.ok.above, I.ok.inj, I.ok.has, I.ok.cab, I.ok.hd, I.ok.frames, I.ok.stk, I.ok.exf, I.ok.bs, I.ok.bsz, I.ok.noex, I.ok.exfs, I.ok.funs, I.ok.frf⟩, I.os, I.bare, I.base, I.loc, I.cell, I.free, I.freeC, fun p hp => I.pin p (List.mem_append_left _ hp), I.hok, I.len⟩
theorem Inv.ofTryP {p2 : List (Addr × Obj)} (I : Inv (X.tryx pins EE) p2 σ H s) : Inv (X.pnd pins) p2 σ H s :=
  ⟨⟨I.ok.mod, I.ok.kind, I.ok.glob, I.ok.blt, I.ok.above, I.ok.inj, I.ok.has, I.ok.cab, I.ok.hd, I.ok.frames, I.ok.stk, I.ok.exf, I.ok.bs, I.ok.bsz, I.ok.noex, I.ok.exfs, I.ok.funs, I.ok.frf⟩, I.os, I.bare, I.base, I.loc, I.cell, I.free, I.freeC, I.pin, I.hok, I.len⟩
theorem Inv.ofPnd {p2 : List (Addr × Obj)} (I : Inv (X.pnd pins) p2 σ H s) : Inv X pins σ H s :=
  ⟨⟨I.ok.mod, I.ok.kind, I.ok.glob, I.ok.blt, I.ok.above, I.ok.inj, I.ok.has, I.ok.cab, I.ok.hd, I.ok.frames, I.ok.stk, I.ok.exf, I.ok.bs, I.ok.bsz, I.ok.noex, I.ok.exfs, I.ok.funs, I.ok.frf⟩, I.os, I.bare, I.base, I.loc, I.cell, I.free, I.freeC, fun p hp => I.pin p (List.mem_append_left _ hp), I.hok, I.len⟩
theorem Inv.toMrk (I : Inv X pins σ H s) (a : Addr) (hf : (X.A.mark (some (.ref a))).frames = X.A.frames) : Inv (X.mrk a) pins σ H s :=
  ⟨⟨I.ok.mod, I.ok.kind, I.ok.glob, I.ok.blt, I.ok.above, I.ok.inj, I.ok.has, I.ok.cab, fun z => (nomatch z), hf.trans I.ok.frames, I.ok.stk, I.ok.exf, I.ok.bs, I.ok.bsz, I.ok.noex, I.ok.exfs, I.ok.funs, I.ok.frf⟩, I.os, I.bare, I.base, I.loc, I.cell, I.free, I.freeC, I.pin, I.hok, I.len⟩
theorem Inv.ofMrk (ok : X.Ok) (I : Inv (X.mrk a) pins σ H s) : Inv X pins σ H s := ⟨ok, I.os, I.bare, I.base, I.loc, I.cell, I.free, I.freeC, I.pin, I.hok, I.len⟩
theorem SP.ofTry {D : Ends} {fl : Flow} {s' : Shared} (h : SP (X.tryx pins EE) [] D fl s') : SP X pins D fl s' := by
  cases fl with
  | next => obtain ⟨σ', H', I, q⟩ := h; exact ⟨σ', H', I.ofTry, q⟩
  | brk => obtain ⟨σ', H', I, q⟩ := h; exact ⟨σ', H', I.ofTry, q⟩
  | cont => obtain ⟨σ', H', I, q⟩ := h; exact ⟨σ', H', I.ofTry, q⟩
  | ret u => obtain ⟨v, σ', H', I, r, q⟩ := h; exact ⟨v, σ', H', I.ofTry, r, q⟩
theorem SP.ofMrk {D : Ends} {fl : Flow} {s' : Shared} (ok : X.Ok) (h : SP (X.mrk a) pins D fl s') : SP X pins D fl s' := by
  cases fl with
  | next => obtain ⟨σ', H', I, q⟩ := h; exact ⟨σ', H', I.ofMrk ok, q⟩
  | brk => obtain ⟨σ', H', I, q⟩ := h; exact ⟨σ', H', I.ofMrk ok, q⟩
  | cont => obtain ⟨σ', H', I, q⟩ := h; exact ⟨σ', H', I.ofMrk ok, q⟩
  | ret u => obtain ⟨v, σ', H', I, r, q⟩ := h; exact ⟨v, σ', H', I.ofMrk ok, r, q⟩
theorem passT : PassE (X.tryx pins EE) EE := fun p2 σ H s e s' I h => ⟨p2, σ, H, s, I.ofTryP, h⟩
end
end L2
namespace L2
open PySem PySem.Spec PyProof.Rows
structure MtX (P : Program) (w : World) (K : PySem.W.Frag) (mg : Str → Option Value) (base : Heap) (C : Addr) (k : Nat) (m : Str) (ps : List Str) (sp : Sp) : Prop where
  ex : ∃ f fd, Meth K C m f ∧ FnOk P w K mg base (CX1 P w) k f fd ps sp ∧ Binds K fd ps []
section
variable {X : Cx}
theorem run_fnX {f : Addr} {fd : FuncData} {k : Nat} {ps : List Str} {sp : Heap → Sp} {EE : St → XK} {pins : List (Addr × Obj)} {σ : St} {H : Hp} {s : Shared} {Q : VK} {us : List Value} {vs : List V} (F : ∀ g : Heap, Sub X.base g → FnOk X.prog X.w X.K X.mg g (CX1 X.prog X.w) k f fd ps (sp g)) (hr : Room k X.A) (hb : Binds X.K fd ps []) (hx : PassE X EE) (hfn : ∀ x, X.fn x = true)
    (I : Inv X pins σ H s) (r : Vals vs us) (h : ∀ g : Heap, Sub X.base g → Cells X σ g → sp g vs H Q (EE σ)) : wpAny (model X.prog X.w) X.A (call (.ref f) us) (EP X pins σ Q) X.xe s := by
  have h' := h _ I.env0.sub (I.cells hfn)
  have hl : us.length = ps.length := by rw [← r.length]; exact (F _ I.env0.sub).len _ _ _ _ h'
  have hb' := hb s us I.kIn (by rw [List.append_nil]; exact hl)
  rw [List.append_nil] at hb'
  refine wpAny_call (codeAny_mono ((F _ I.env0.sub).run X.A X.stack s H ⟨us, []⟩ us vs Q (EE σ) hr I.env0.big hb' r h') fun r s' hq => ?_)
  cases r with
  | error e => exact hx pins σ H s e s' I hq
  | ok fl =>
    cases fl with
    | ret u => exact I.after hq
    | next => exact False.elim hq
    | brk => exact False.elim hq
    | cont => exact False.elim hq
theorem run_fnX1 {f : Addr} {fd : FuncData} {k : Nat} {ps : List Str} {sp : Sp} {EE : St → XK} {pins : List (Addr × Obj)} {σ : St} {H : Hp} {s : Shared} {Q : VK} {us : List Value} {vs : List V} (F : FnOk X.prog X.w X.K X.mg X.base (CX1 X.prog X.w) k f fd ps sp) (hr : Room k X.A) (hb : Binds X.K fd ps []) (hx : PassE X EE)
    (I : Inv X pins σ H s) (r : Vals vs us) (h : sp vs H Q (EE σ)) : wpAny (model X.prog X.w) X.A (call (.ref f) us) (EP X pins σ Q) X.xe s := by
  have hl : us.length = ps.length := by rw [← r.length]; exact F.len _ _ _ _ h
  have hb' := hb s us I.kIn (by rw [List.append_nil]; exact hl)
  rw [List.append_nil] at hb'
  refine wpAny_call (codeAny_mono (F.run X.A X.stack s H ⟨us, []⟩ us vs Q (EE σ) hr I.env0 hb' r h) fun r s' hq => ?_)
  cases r with
  | error e => exact hx pins σ H s e s' I hq
  | ok fl =>
    cases fl with
    | ret u => exact I.after hq
    | next => exact False.elim hq
    | brk => exact False.elim hq
    | cont => exact False.elim hq
def tMethX (C : Addr) (m : Str) (sp : Sp) (EE : St → XK) (ta : TE) (t : TA) : TE := fun σ H Q => ta σ H fun x H1 => ∃ a dx fs, x = .ref a ∧ H1 a = some (.ins C dx fs) ∧ fs.lookup m = none ∧ t σ H1 fun vs H2 => sp (.ref a :: vs) H2 Q (EE σ)
def tMethBX (X : Cx) (C : Addr) (m : Str) (sp : Heap → Sp) (EE : St → XK) (ta : TE) (t : TA) : TE := fun σ H Q => ta σ H fun x H1 => ∃ a dx fs, x = .ref a ∧ H1 a = some (.ins C dx fs) ∧ fs.lookup m = none ∧
  t σ H1 fun vs H2 => ∀ g : Heap, Sub X.base g → Cells X σ g → sp g (.ref a :: vs) H2 Q (EE σ)
section
variable {C : Addr} {k k' : Nat} {m : Str} {ps : List Str} {sp : Sp} {o e : Expr} {es : List Expr} {ta : TE} {t : TA} {apos pos : Pos} {EE : St → XK}
theorem pe_mtX0 {pl : Sem Bool} (M : MtX X.prog X.w X.K X.mg X.base C k m ps sp) (c : Cls X.K C) (hr : Room k' X.A) (hx : PassE X EE) (he : PE X o ta) (hk : k ≤ k' := by decide)
    (ht : eval (.Call (.Attribute o m apos) [] [] pos) X.env = (do
      let ov ← eval o X.env
      standAt apos.atName
      let (f, first) ← holding [ov] (getMethod ov m pl)
      callWith pos f first (backTo pos (starEach [] X.env)) (backToKw pos (keywordEach [] X.env))) := by rfl) :
    PE X (.Call (.Attribute o m apos) [] [] pos) (tMethX C m sp EE ta tNil) := by
  obtain ⟨f, fd, h1, h2, h3⟩ := M.ex
  intro pins s σ H Q I h
  refine PySem.W.methodCall_KW (pl := pl) (thn (he pins s σ H _ I h) fun u s1 ⟨x, H1, I1, rx, a, dx, fs, ex, ea, l, q⟩ => ?_) ht
  subst ex
  obtain rfl : u = Value.ref a := rx
  refine getmeth_ok I1 ea c h1 l ?_
  exact PySem.W.callWith_K0 (first := [.ref a]) I1.kIn h1.kp (run_fnX1 (us := [.ref a]) (vs := [.ref a]) h2 (hr.mono hk) h3 hx I1 (.cons rfl .nil) q)
theorem pe_mtX {pl : Sem Bool} (M : MtX X.prog X.w X.K X.mg X.base C k m ps sp) (c : Cls X.K C) (hr : Room k' X.A) (hx : PassE X EE) (he : PE X o ta) (ha : PA X (e :: es) t) (hk : k ≤ k' := by decide)
    (hst : starEach (e :: es) X.env = (false, eval e X.env) :: starEach es X.env := by rfl) (hpl : (backTo pos (starEach es X.env)).any (·.1) = false := by rfl)
    (ht : eval (.Call (.Attribute o m apos) (e :: es) [] pos) X.env = (do
      let ov ← eval o X.env
      standAt apos.atName
      let (f, first) ← holding [ov] (getMethod ov m pl)
      callWith pos f first (backTo pos (starEach (e :: es) X.env)) (backToKw pos (keywordEach [] X.env))) := by rfl) :
    PE X (.Call (.Attribute o m apos) (e :: es) [] pos) (tMethX C m sp EE ta t) := by
  obtain ⟨f, fd, h1, h2, h3⟩ := M.ex
  intro pins s σ H Q I h
  refine PySem.W.methodCall_KW (pl := pl) (thn (he pins s σ H _ I h) fun u s1 ⟨x, H1, I1, rx, a, dx, fs, ex, ea, l, q⟩ => ?_) ht
  subst ex
  obtain rfl : u = Value.ref a := rx
  refine getmeth_ok I1 ea c h1 l ?_
  refine PySem.W.callWith_K (first := [.ref a]) (h₀ := X.base) I.ok.mod.kin h1.kp (thn (ha pos pins s1 σ H1 _ I1 q) fun us s2 ⟨vs, H2, I2, r, q2⟩ => ⟨I2.kIn, ?_⟩) hst hpl
  exact run_fnX1 (us := .ref a :: us) (vs := .ref a :: vs) h2 (hr.mono hk) h3 hx I2 (.cons rfl r) q2
theorem pe_methBX {f : Addr} {fd : FuncData} {spB : Heap → Sp} {pl : Sem Bool} (he : PE X o ta) (c : Cls X.K C) (hm : Meth X.K C m f) (F : ∀ g : Heap, Sub X.base g → FnOk X.prog X.w X.K X.mg g (CX1 X.prog X.w) k f fd ps (spB g)) (hr : Room k X.A) (hb : Binds X.K fd ps []) (hx : PassE X EE) (hfn : ∀ x, X.fn x = true) (ha : PA X (e :: es) t)
    (hst : starEach (e :: es) X.env = (false, eval e X.env) :: starEach es X.env := by rfl) (hpl : (backTo pos (starEach es X.env)).any (·.1) = false := by rfl)
    (ht : eval (.Call (.Attribute o m apos) (e :: es) [] pos) X.env = (do
      let ov ← eval o X.env
      standAt apos.atName
      let (f, first) ← holding [ov] (getMethod ov m pl)
      callWith pos f first (backTo pos (starEach (e :: es) X.env)) (backToKw pos (keywordEach [] X.env))) := by rfl) :
    PE X (.Call (.Attribute o m apos) (e :: es) [] pos) (tMethBX X C m spB EE ta t) := by
  intro pins s σ H Q I h
  refine PySem.W.methodCall_KW (pl := pl) (thn (he pins s σ H _ I h) fun u s1 ⟨x, H1, I1, rx, a, dx, fs, ex, ea, l, q⟩ => ?_) ht
  subst ex
  obtain rfl : u = Value.ref a := rx
  refine getmeth_ok I1 ea c hm l ?_
  refine PySem.W.callWith_K (first := [.ref a]) (h₀ := X.base) I.ok.mod.kin hm.kp (thn (ha pos pins s1 σ H1 _ I1 q) fun us s2 ⟨vs, H2, I2, r, q2⟩ => ⟨I2.kIn, ?_⟩) hst hpl
  exact run_fnX (us := .ref a :: us) (vs := .ref a :: vs) F hr hb hx hfn I2 (.cons rfl r) q2
end
end
def CalX (P : Program) (w : World) (K : PySem.W.Frag) (mg : Str → Option Value) (base : Heap) (k : Nat) (e : Expr) (cl : List (Str × Addr)) (sp : Sp) : Prop :=
  ∀ (f : Addr) (A : Around) (outer : List Env) (s : Shared) (H : Hp) (Q : VK) (E : XK), Room k A → Env0 P w K mg base A outer s H → LamAtC H f e cl → sp [] H Q E →
    codeAny (model P w) A (.call (.ref f) ⟨[], []⟩) (CR (CX1 P w) outer P w H s Q E) s
theorem passL {P : Program} {w : World} {K : PySem.W.Frag} {mg : Str → Option Value} {base : Heap} {N : List Str} {qual : Str} {scope : Scope} {cl : List (Str × Addr)} {f : Addr} {cd : Value} {A : Around} {outer : List Env} {s : Shared} {H : Hp} {E : XK} : PassE (cxL (CX1 P w) P w K mg base N qual scope cl f cd A outer s H E) (fun _ => E) := by
  intro pins σ H1 s1 e s' I h
  obtain ⟨a, cls, H', rfl, F, q⟩ := h
  obtain ⟨B, t, hfl, cov⟩ := F.fly
  show wpAny (model P w) (A.deeper (envL qual scope cl s.heap.objs.size f cd)) (leaving (envL qual scope cl s.heap.objs.size f cd) (.ref a)) _ _ s'
  refine wpAny_leaves_onW I.ok.frames rfl hfl fun h2 hfl2 up => ?_
  have J := I.flown F.os F.bare F.un F.hok hfl.2.2.1 cov hfl2.1 up
  exact ⟨a, cls, H', rfl, ⟨J.os, J.bare, J.base, J.hok, B, t, hfl2, Cov.out I rfl rfl rfl F.un F.hok cov hfl2.1⟩, q⟩
theorem lam_runX {P : Program} {w : World} {K : PySem.W.Frag} {mg : Str → Option Value} {base : Heap} {k : Nat} {e : Expr} {cl : List (Str × Addr)} {N : List Str} {vs : List V} {sp : Sp} (hk : (lamScope e).kind = ScopeKind.function) (hco : (lamScope e).isCoroutine = false) (hge : (lamScope e).isGenerator = false) (hfree : ∀ y ∈ (lamScope e).names, y.2 ≠ NameKind.cell ∧ y.2 ≠ NameKind.local)
    (hN : ∀ x, (lamScope e).names.lookup x = some .free → ∃ c, cl.lookup x = some c) (hC : ClAt base N cl vs)
    (hbind : ∀ (qual : Str) (pm : Value) (c : Addr) (ctv : Value), bindArgs (lamFnC qual e cl pm c ctv) ⟨[], []⟩ = pure [])
    (hbody : ∀ (qual : Str) (f c : Addr) (A : Around) (outer : List Env) (s : Shared) (H : Hp) (Q : VK) (E : XK), Room k (A.deeper (envL qual (lamScope e) cl s.heap.objs.size f (.ref c))) → sp [] H Q E →
      ∃ t, PE (cxL (CX1 P w) P w K mg base N qual (lamScope e) cl f (.ref c) A outer s H E) (lamBody e) t ∧ t (vs.map some) H Q) : CalX P w K mg base (k + 1) e cl sp := by
  intro f A outer s H Q E hr e0 hL hsp
  obtain ⟨qual, pm, c, ctv, hf, hc⟩ := hL.ex
  have hfo : s.heap.get? f = some { cls := .type "function", data := .func (lamFnC qual e cl pm c ctv) } := (e0.hok f _ hf).1
  have hrec : s.heap.CodeRec (.ref c) qual := (e0.hok c _ hc).1
  have lim : s.heap.NoLimit := e0.mod.nolimit.keeps fun b o e => (e0.bs b o e).1
  refine PySem.W.kla_callFunE hr.depth hfo rfl hco hge rfl hrec ?_
  rw [hbind qual pm c ctv]
  refine wpAny_pure ?_
  refine wpAny_newFunctionEnv (fun y hy => (hfree y hy).1) (by intro y hy; simp at hy) (fun h1 hns hsb => ?_) hk
  have keep : ∀ b o, s.heap.get? b = some o → h1.get? b = some o := fun b o e => (hsb.2 b (Nat.ne_of_lt (Heap.lt_size e))).trans (Heap.get?_push_of_some _ e)
  refine ⟨lim.keeps keep, PySem.W.kla_codeExpr ?_⟩
  obtain ⟨t, ht, hq⟩ := hbody qual f c A outer s H Q E (hr.deeper _) hsp
  have inb : ∀ {x : Str} {cc : Addr} {u : Option Value}, base.IsCell cc u → h1.IsCell cc u ∧ H cc = none ∧ cc < s.heap.objs.size := fun {x cc u} ⟨o, ho, r⟩ => ⟨⟨o, keep _ _ (e0.bs _ _ ho).1, r⟩, (e0.bs _ _ ho).2, Heap.lt_size (e0.bs _ _ ho).1⟩
  have noA : ∀ b : Addr, b ∉ (cxL (CX1 P w) P w K mg base N qual (lamScope e) cl f (.ref c) A outer s H E).ex := fun b z => absurd (show b ∈ ([] : List Addr) from z) (by simp)
  have I : Inv (cxL (CX1 P w) P w K mg base N qual (lamScope e) cl f (.ref c) A outer s H E) [] (vs.map some) H { s with heap := h1, toks := s.toks + 0 } := by
    refine ⟨⟨e0.mod, hk, rfl, rfl, Nat.le_refl _, fun y z cc h1 h2 => hC.inj y z cc h1 h2, fun y hy => ?_, fun y cc h _ => ?_, fun _ => hr.hd, Around.frames_deeper e0.frames, .inr ⟨rfl, rfl⟩, fun b z => absurd z (noA b), e0.bs, e0.bsz, fun b _ _ => noA b, fun b z => absurd z (noA b), e0.funs, e0.frf⟩,
      rfl, e0.bare, Un.kept keep, ⟨_, hns, fun i y v h1 h2 h3 => ?_⟩, fun y cc h => ?_, e0.hok.fresh (Nat.le_refl _), fun y cc h => ?_, fun p hp => absurd (show p ∈ ([] : List (Addr × Obj)) from hp) (by simp), e0.hok.kept keep, ?_⟩
    · have hy : (lamScope e).names.lookup y = some .cell ∨ (lamScope e).names.lookup y = some .free := hy
      rcases hy with hy | hy
      · exact absurd rfl (hfree _ (PySem.mem_of_lookup hy)).1
      · exact hN y hy
    · cases h
    · have hv : vs[i]? = some v := by
        rw [List.getElem?_map] at h2
        cases q : vs[i]? with
        | none => rw [q] at h2; cases h2
        | some a => rw [q] at h2; cases h2; rfl
      obtain ⟨cc, u, e1, e2, e3⟩ := hC.val i y v h1 hv
      have h3 : (lamScope e).names.lookup y = some .local ∨ (lamScope e).names.lookup y = some .cell ∨ (lamScope e).names.lookup y = some .free := h3
      rcases h3 with k | k | k
      · exact absurd rfl (hfree _ (PySem.mem_of_lookup k)).2
      · exact absurd rfl (hfree _ (PySem.mem_of_lookup k)).1
      · exact ⟨u, e3, .inr ⟨.inr k, cc, e1, (inb (x := y) e2).1⟩⟩
    · obtain ⟨u, hu⟩ := hC.cel y cc h
      exact ⟨u, (inb (x := y) hu).1⟩
    · obtain ⟨u, hu⟩ := hC.cel y cc h
      exact (inb (x := y) hu).2.1
    · rw [List.length_map]; exact hC.len
  refine wpAny_mono (ht [] _ (vs.map some) H _ I hq) (fun u s' hs => ?_) fun e s' hs => hs
  obtain ⟨v, H', J, rv, q⟩ := hs
  exact ⟨v, H', J.os, J.bare, J.base, J.hok, rv, q⟩
def tCallX0 (i : Nat) (e : Expr) (cl : List (Str × Addr)) (sp : Sp) (EE : St → XK) : TE := fun σ H Q => ∃ f, σ[i]? = some (some (.ref f)) ∧ LamAtC H f e cl ∧ sp [] H Q (EE σ)
section
variable {X : Cx}
theorem pe_callX0 {i : Nat} {x : Str} {e : Expr} {cl : List (Str × Addr)} {sp : Sp} {k : Nat} {p pos : Pos} {EE : St → XK} (C : CalX X.prog X.w X.K X.mg X.base k e cl sp) (hr : Room k X.A) (hx : PassE X EE) (hN : X.N[i]? = some x := by rfl) (hv : Vis X.env.scope x := by first | exact Or.inl rfl | exact Or.inr (Or.inl rfl) | exact Or.inr (Or.inr rfl))
    (hd : (x == ("__debug__" : Str)) = false := by decide) (hcd : (x == ("__classdict__" : Str)) = false := by decide) :
    PE X (.Call (.Name x p) [] [] pos) (tCallX0 i e cl sp EE) := by
  intro pins s σ H Q I h
  obtain ⟨f, hs, hL, q2⟩ := h
  refine wpAny_Call_Name_kw (thn (pe_var (pos := p) hN hv hd hcd pins s σ H (fun v H1 => v = .ref f ∧ H1 = H) I ⟨.ref f, hs, rfl, rfl⟩) fun u s1 ⟨v, H1, I1, r1, ev, eH⟩ => ?_)
  subst ev eH
  obtain rfl : u = Value.ref f := r1
  refine PySem.W.callWith_of (P := fun h => ∃ fd, h.get? f = some { cls := .type "function", data := .func fd }) rfl
    (fun h ⟨fd, hf⟩ => ⟨.frame, .inl rfl, (PySem.W.Looks.ld (part := none) hf).andThen .now⟩) (PySem.evalArgs_none ⟨?_, ?_⟩)
  · obtain ⟨qual, pm, c, ctv, hf, hc⟩ := hL.ex
    exact ⟨_, (I1.hok f _ hf).1⟩
  · refine wpAny_call (codeAny_mono (C f X.A X.stack s1 H1 Q (EE σ) hr I1.env0 hL q2) fun r s' hq => ?_)
    cases r with
    | error e => exact hx pins σ H1 s1 e s' I1 hq
    | ok fl =>
      cases fl with
      | ret u => exact I1.after hq
      | next => exact False.elim hq
      | brk => exact False.elim hq
      | cont => exact False.elim hq
end
end L2
namespace L2
open PySem PySem.Spec PyProof.Rows
def rCatL (K : PySem.W.Frag) : R2 := fun x y H Q => ∃ l b xs zs, x = .ref l ∧ y = .ref b ∧ SqL K H l xs ∧ SqL K H b zs ∧ xs.length + zs.length ≤ sizeLine ∧ ∀ p, H p = none → Q (.ref p) (upd H p (.lst (xs ++ zs)))
theorem op_catL {X : Cx} : OpR X (binaryOp .Add) (rCatL X.K) := by
  intro pins s σ H x y v u Q I rx ry h
  obtain ⟨l, b, xs, zs, rfl, rfl, ha, hb, hz, q⟩ := h
  cases rx
  cases ry
  obtain ⟨its, r1, ⟨⟨c1, d1, t1, s1⟩, n1, g1, e1, f1, k1⟩, _⟩ := I.list ha
  obtain ⟨its2, r2, ⟨⟨c2, d2, t2, s2⟩, n2, g2, e2, f2, k2⟩, _⟩ := I.list hb
  simp only at e1 f1 k1 e2 f2 k2
  subst e1 f1 k1 e2 f2 k2
  have l1 := r1.length
  have l2 := r2.length
  refine concat_meets ⟨_, g1, rfl⟩ ⟨_, g2, rfl⟩ noFill_list_add seq_list_add PySem.F.slot_list_add PySem.F.entry_list_add (PySem.F.args_list_add_2 _ _) (list_addW l b _ _ n1 n2 none none s1 s2 (by rw [List.size_toArray, List.size_toArray]; omega)) ⟨g1, g2, ?_⟩
  have ea : its.toArray ++ its2.toArray = (its ++ its2).toArray := by simp
  rw [ea]
  exact ⟨.ref _, _, I.lnew (t' := s.toks) (r1.append r2) (by rw [List.length_append]; omega), rfl, q _ I.fresh⟩
theorem cutFrom (xs : List V) (k : Nat) : cutV xs (some (k : Int)) none = xs.drop k := by
  unfold cutV
  rw [HT.sIx_none, HT.sIx_nat]
  by_cases h : k ≤ xs.length
  · rw [Nat.min_eq_left h]
    exact List.take_of_length_le (by rw [List.length_drop]; omega)
  · rw [Nat.min_eq_right (by omega), List.drop_of_length_le (Nat.le_refl _), List.drop_of_length_le (by omega), List.take_nil]
theorem cutTo (xs : List V) (k : Nat) : cutV xs none (some (k : Int)) = xs.take k := by
  unfold cutV
  rw [HT.sIx_none, HT.sIx_nat, List.drop_zero, Nat.sub_zero]
  by_cases h : k ≤ xs.length
  · rw [Nat.min_eq_left h]
  · rw [Nat.min_eq_right (by omega), List.take_of_length_le (Nat.le_refl _), List.take_of_length_le (by omega)]
theorem ixN_nat {n k : Nat} (h : k < n) : ixN n (k : Int) = some k := by
  unfold ixN
  rw [if_pos (by omega), if_pos (by omega)]; simp
theorem size_line : sizeLine = 16777216 := by decide
theorem line_of {n : Nat} (h : n ≤ 5000) : n ≤ sizeLine := by rw [size_line]; omega
end L2
namespace L2
open PySem PySem.Spec PyProof.Rows
def tFInt (te : TE) : TE := fun σ H Q => te σ H fun v H1 => ∃ i : Int, v = .int i ∧ i.natAbs.log2 < 1920 ∧ Q (.str (toString i)) H1
def tFRep (te : TE) : TE := fun σ H Q => te σ H fun v H1 => ∃ x : Str, v = .str x ∧ (reprText x).length ≤ sizeLine ∧ Q (.str (reprText x)) H1
def tJoin3 (t1 t2 t3 : TE) : TE := fun σ H Q => t1 σ H fun v1 H1 => ∃ a : Str, v1 = .str a ∧ a.length ≤ 1000 ∧ t2 σ H1 fun v2 H2 => ∃ b : Str, v2 = .str b ∧ b.length ≤ 1000 ∧ t3 σ H2 fun v3 H3 => ∃ c : Str, v3 = .str c ∧ c.length ≤ 1000 ∧ Q (.str (Str.empty ++ a ++ b ++ c)) H3
def tJoin2 (t1 t2 : TE) : TE := fun σ H Q => t1 σ H fun v1 H1 => ∃ a : Str, v1 = .str a ∧ a.length ≤ 1000 ∧ t2 σ H1 fun v2 H2 => ∃ b : Str, v2 = .str b ∧ b.length ≤ 1000 ∧ Q (.str (Str.empty ++ a ++ b)) H2
section
variable {X : Cx} {e e1 e2 e3 : Expr} {te t1 t2 t3 : TE} {pos : Pos}
theorem pe_fint (he : PE X e te) : PE X (.FormattedValue e (-1) none pos) (tFInt te) := by
  intro pins s σ H Q I h
  refine PySem.wpAny_FormattedValue_plain (thn (he pins s σ H _ I h) fun u s1 ⟨x, H1, I1, r, i, ex, hd, q⟩ => ?_)
  subst ex
  obtain ⟨t, rfl⟩ := r
  exact wpAny_formatField_int hd ⟨.str (toString i), H1, I1.tok _, ⟨_, rfl⟩, q⟩
theorem pe_frep (he : PE X e te) : PE X (.FormattedValue e 114 none pos) (tFRep te) := by
  intro pins s σ H Q I h
  refine PySem.wpAny_FormattedValue_repr (thn (he pins s σ H _ I h) fun u s1 ⟨x, H1, I1, r, y, ex, hd, q⟩ => ?_)
  subst ex
  obtain ⟨t, rfl⟩ := r
  refine wpAny_pyReprObj_gives (T := "str") (typeIs_str _ _ _) PySem.F.slot_str_repr PySem.F.entry_str_repr (PySem.F.args_str_repr_1 _) (gives_str_repr y t) ?_ rfl hd
  exact wpAny_formatField_str ⟨.str (reprText y), H1, I1.tok _, ⟨_, rfl⟩, q⟩ ⟨.str (reprText y), H1, (I1.tok _).tok _, ⟨_, rfl⟩, q⟩ hd
theorem pe_join3 (h1 : PE X e1 t1) (h2 : PE X e2 t2) (h3 : PE X e3 t3) : PE X (.JoinedStr [e1, e2, e3] pos) (tJoin3 t1 t2 t3) := by
  intro pins s σ H Q I h
  refine wpAny_JoinedStr ?_
  have e0 : (Str.empty).length = 0 := rfl
  refine thn (h1 pins s σ H _ I h) fun u1 s1 ⟨x1, H1, I1, r1, a, ea, la, q1⟩ => ?_
  subst ea
  obtain ⟨ta, rfl⟩ := r1
  refine ⟨a, ta, rfl, line_of (by rw [strLen_append]; omega), ?_⟩
  refine thn (h2 pins s1 σ H1 _ I1 q1) fun u2 s2 ⟨x2, H2, I2, r2, b, eb, lb, q2⟩ => ?_
  subst eb
  obtain ⟨tb, rfl⟩ := r2
  refine ⟨b, tb, rfl, line_of (by rw [strLen_append, strLen_append]; omega), ?_⟩
  refine thn (h3 pins s2 σ H2 _ I2 q2) fun u3 s3 ⟨x3, H3, I3, r3, c, ec, lc, q3⟩ => ?_
  subst ec
  obtain ⟨tc, rfl⟩ := r3
  refine ⟨c, tc, rfl, line_of (by rw [strLen_append, strLen_append, strLen_append]; omega), line_of (by rw [strLen_append, strLen_append, strLen_append]; omega), ?_⟩
  exact ⟨.str (Str.empty ++ a ++ b ++ c), H3, I3.tok _, ⟨_, rfl⟩, q3⟩
theorem pe_join2 (h1 : PE X e1 t1) (h2 : PE X e2 t2) : PE X (.JoinedStr [e1, e2] pos) (tJoin2 t1 t2) := by
  intro pins s σ H Q I h
  refine wpAny_JoinedStr ?_
  have e0 : (Str.empty).length = 0 := rfl
  refine thn (h1 pins s σ H _ I h) fun u1 s1 ⟨x1, H1, I1, r1, a, ea, la, q1⟩ => ?_
  subst ea
  obtain ⟨ta, rfl⟩ := r1
  refine ⟨a, ta, rfl, line_of (by rw [strLen_append]; omega), ?_⟩
  refine thn (h2 pins s1 σ H1 _ I1 q1) fun u2 s2 ⟨x2, H2, I2, r2, b, eb, lb, q2⟩ => ?_
  subst eb
  obtain ⟨tb, rfl⟩ := r2
  refine ⟨b, tb, rfl, line_of (by rw [strLen_append, strLen_append]; omega), line_of (by rw [strLen_append, strLen_append]; omega), ?_⟩
  exact ⟨.str (Str.empty ++ a ++ b), H2, I2.tok _, ⟨_, rfl⟩, q2⟩
end
end L2
namespace L2
open PySem PySem.Spec PyProof.Rows
def ExcO (a : Addr) (cls : Value) : HO := .ext fun h => ∃ ob, h.get? a = some ob ∧ ob.cls = cls
section
variable {X : Cx} {pins : List (Addr × Obj)} {σ : St} {H H' : Hp} {s s' : Shared} {a : Addr}
theorem Inv.track {o : HO} (I : Inv X pins σ H s) (hn : H a = none) (h0 : ∀ ob, X.s₀.heap.get? a ≠ some ob) (hL : a ≠ X.env.locals) (hc : ∀ x c, X.env.cells.lookup x = some c → c ≠ a) (hp : ∀ p ∈ X.pn ++ pins, p.1 ≠ a) (ok : ObjOk X.prog X.w (upd H a o) s.heap a o) : Inv X pins σ (upd H a o) s := by
  have k : ∀ b u, H b = some u → upd H a o b = some u := fun b u e => by rw [upd_ne (ne_of_none e hn)]; exact e
  refine ⟨I.ok, I.os, I.bare, ⟨I.base.keep, I.base.slot, fun b ob e n hx => ?_, I.base.there, fun b xs e => k _ _ (I.base.tups b xs e), fun b ob u e => k _ _ (I.base.frzs b ob u e), fun b ps e => ?_⟩, I.loc, I.cell, ?_, fun x c e => ?_, fun p hp' => ?_, fun b u e => ?_, I.len⟩
  · rw [upd_ne (fun z => by rw [z] at e; exact h0 ob e)]; exact I.base.free b ob e n hx
  · obtain ⟨more, e1⟩ := I.base.tbls b ps e
    exact ⟨more, k _ _ e1⟩
  · rw [upd_ne (Ne.symm hL)]; exact I.free
  · rw [upd_ne (hc x c e)]; exact I.freeC x c e
  · obtain ⟨q1, q2, q3⟩ := I.pin p hp'
    exact ⟨q1, by rw [upd_ne (hp p hp')]; exact q2, q3⟩
  · by_cases z : b = a
    · subst z
      rw [upd_same] at e
      cases e
      exact ok
    · rw [upd_ne z] at e
      exact (I.hok b u e).stay (fun _ _ _ r => r) (fun c r => k _ _ r) fun c xs r => k _ _ r
theorem gone_ok {M : Model} {A : Around} {E : Value → Shared → Prop} {i : Nat} {n : Str} {pos : Pos} {Q : Unit → Shared → Prop} (I : Inv X pins σ H s) (hN : X.N.Nodup) (hi : X.N[i]? = some n) (hk : X.env.scope.names.lookup n = some .local)
    (h : ∀ s', Inv X pins (σ.set i none) H s' → Q () s') : wpAny M A (do bindName X.env n .none; unbindBehindTheSuite X.env n pos) Q E s := by
  obtain ⟨m, hn, hl⟩ := id I.loc
  have hcls : (X.env.scope.kind == .class || (X.env.scope.kind == .module && X.env.locals != X.env.globals)) = false := by rw [I.ok.kind]; rfl
  have hiσ : i < σ.length := by rw [I.len]; exact (List.getElem?_eq_some_iff.mp hi).1
  have cne := I.cne
  refine wpAny_nameGoes_keeps hk hn hcls fun h' v hn' hs => ?_
  obtain ⟨oL, _, _, hoL, _⟩ := id hn
  have tracked : HOk X.prog X.w H h' := fun b ob e => by
    refine (I.hok b ob e).stay (fun c w' hc q => (hs.2 c ?_).trans q) (fun _ q => q) fun _ _ q => q
    rintro rfl
    rcases hc with rfl | hc
    · rw [I.free] at e; cases e
    · rw [I.free] at hc; cases hc
  have neL : ∀ b o, X.s₀.heap.get? b = some o → b ≠ X.env.locals := fun b o e => Nat.ne_of_lt (Nat.lt_of_lt_of_le (Heap.lt_size e) I.ok.above)
  refine h _ ⟨I.ok, I.os, I.bare, ⟨fun b o e n hb hx => (hs.2 b (neL b o e)).trans (I.base.keep b o e n hb hx), fun b o e n hb hx => ?_, I.base.free, fun b o e hx => ?_, I.base.tups, I.base.frzs, I.base.tbls⟩, ⟨_, hn', fun j y v' e1 e2 e3 => ?_⟩, fun y c e => ?_, I.free, I.freeC, fun p hp => ?_, tracked, by simpa using I.len⟩
  · obtain ⟨sl, e1⟩ := I.base.slot b o e n hb hx
    exact ⟨sl, (hs.2 b (neL b o e)).trans e1⟩
  · obtain ⟨o', e1⟩ := I.base.there b o e hx
    exact ⟨o', (hs.2 b (neL b o e)).trans e1⟩
  · by_cases hj : j = i
    · subst hj
      rw [List.getElem?_set_self hiσ] at e2
      cases e2
    · rw [List.getElem?_set_ne (Ne.symm hj)] at e2
      obtain ⟨u', r', q⟩ := hl j y v' e1 e2 e3
      refine ⟨u', r', ?_⟩
      rcases q with ⟨k, e⟩ | ⟨k, c, e, z⟩
      · refine .inl ⟨k, ?_⟩
        have : y ≠ n := fun e => hj (nodup_ix hN e1 (e ▸ hi))
        simp [this, e]
      · exact .inr ⟨k, c, e, z.sameBut hs (cne y c e)⟩
  · obtain ⟨w', z⟩ := I.cell y c e
    exact ⟨w', z.sameBut hs (cne y c e)⟩
  · obtain ⟨e, n, ne, nf, d⟩ := I.pin p hp
    exact ⟨(hs.2 p.1 ne).trans e, n, ne, nf, d⟩
end
def Ends.gone (D : Ends) (i : Nat) : Ends := { nx := fun σ H => D.nx (σ.set i none) H, ct := fun σ H => D.ct (σ.set i none) H, bk := fun σ H => D.bk (σ.set i none) H, rt := D.rt }
section
variable {X : Cx}
end
end L2
namespace TM
variable {α : Type}
mutual
def sz : Tree α → Nat
  | .node _ _ bs => 1 + szs bs
def szs : List (Tree α) → Nat
  | [] => 0
  | t :: r => sz t + szs r
end
mutual
def pl : Tree α → List (List Int)
  | .node _ _ bs => [] :: pls 0 bs
def pls : Nat → List (Tree α) → List (List Int)
  | _, [] => []
  | i, t :: r => (pl t).map (List.cons (i : Int)) ++ pls (i + 1) r
end
open HT (lexLt)
variable {R : Rows α} {K : Nat → List Int} {B : Nat → Tree α} {o0 : Tree α}
end TM
namespace L2
open PySem PySem.Spec PyProof.Rows
def compX (X : Cx) (N' : List Str) (scope : Scope) (cl : List (Str × Addr)) (C : Addr) (fp : List Addr) (s₀ : Shared) (H₀ : Hp) : Cx :=
  { X with N := N', s₀ := s₀, H₀ := H₀, env := compEnvC scope cl C X.env, outer := X.stack, ex := fp, fn := fun _ => false, pn := [], xe := fun _ _ => False }
def PF (X : Cx) (ifs : List Expr) (t : TT) : Prop :=
  ∀ (pins : List (Addr × Obj)) (s : Shared) (σ : St) (H : Hp) (Q : Bool → Hp → Prop), Inv X pins σ H s → t σ H Q →
    wpAny (model X.prog X.w) X.A (forIn ifs true fun c r => if r = true then do let ok ← isTrue c X.env (eval c X.env); pure (ForInStep.yield ok) else pure (ForInStep.yield r)) (TP X pins σ Q) X.xe s
theorem pf_nil {X : Cx} : PF X [] (fun _ H Q => Q true H) := by
  intro pins s σ H Q I h
  rw [List.forIn_nil]
  exact wpAny_pure ⟨H, I, h⟩
structure OwnAt (X : Cx) (pins : List (Addr × Obj)) (H : Hp) (s : Shared) (C : Addr) : Prop where
  ns : ∃ m, s.heap.Ns C m
  free : H C = none
  loc : C ≠ X.env.locals
  above : X.s₀.heap.objs.size ≤ C
  cells : ∀ x c, X.env.cells.lookup x = some c → c ≠ C
  pins : ∀ p ∈ X.pn ++ pins, p.1 ≠ C
theorem OwnAt.go {X : Cx} {pins : List (Addr × Obj)} {σ : St} {H : Hp} {s : Shared} {C : Addr} {h' : Heap} (I : Inv X pins σ H s) (o : OwnAt X pins H s C) (hb : Heap.SameBut C s.heap h') : Inv X pins σ H { s with heap := h' } :=
  I.turned (t' := s.toks) (fun b u hb' e => (hb.2 b hb').trans e) o.free o.loc (.inr o.above) o.cells o.pins
def compW (n : Nat) (Pv : Nat → List V → Hp → Prop) : Nat → Nat → Hp → Prop := fun i m H => m = n - i ∧ i ≤ n ∧ ∃ ys, Pv i ys H
def compN (n : Nat) (Pv : Nat → List V → Hp → Prop) (acc : Addr) (i m : Nat) : VK := fun y H5 => ∃ ys, H5 acc = some (.lst ys) ∧ ys.length < sizeLine ∧ ∃ m', m' < m ∧ compW n Pv (i + 1) m' (upd H5 acc (.lst (ys ++ [y])))
theorem comp_next {n : Nat} {Pv : Nat → List V → Hp → Prop} {acc : Addr} {i : Nat} {y : V} {H5 : Hp} {ys : List V} (hi : i < n) (hacc : H5 acc = some (.lst ys)) (hl : ys.length < 5000) (hP : Pv (i + 1) (ys ++ [y]) (upd H5 acc (.lst (ys ++ [y])))) : compN n Pv acc i (n - i) y H5 :=
  ⟨ys, hacc, Nat.lt_trans hl (by decide), n - (i + 1), by omega, rfl, hi, _, hP⟩
end L2
namespace L2
open PySem PySem.Spec PyProof.Rows
end L2
namespace L2
open PySem PySem.Spec PyProof.Rows
section
variable {X : Cx}
end
end L2
namespace L2
open PySem PySem.Spec PyProof.Rows
theorem vals_items : ∀ {ns : List Int} {us : List Value}, Vals (ns.map V.int) us → ∃ xs : List (Int × Tok), us = xs.map (fun p => Value.int p.1 p.2) ∧ xs.map (·.1) = ns
  | [], _, .nil => ⟨[], rfl, rfl⟩
  | n :: ns, _, .cons r rr => by
    obtain ⟨t, e⟩ := r
    obtain ⟨xs, e1, e2⟩ := vals_items rr
    exact ⟨(n, t) :: xs, by rw [e, e1]; rfl, by rw [List.map_cons, e2]⟩
theorem items_arr (xs : List (Int × Tok)) : intItems xs.toArray = (xs.map (fun p => Value.int p.1 p.2)).toArray := by
  simp [intItems]
theorem num_at (xs : List (Int × Tok)) (j : Nat) : numAt xs.toArray j = (xs.map (·.1)).getD j 0 := by rw [numAt_eq]
theorem pre_sum (xs : List (Int × Tok)) (j : Nat) : preSum (numAt xs.toArray) j = ((xs.map (·.1)).take j).sum := by rw [preSum_eq]
def Fits (ns : List Int) : Prop := (∀ n ∈ ns, 0 ≤ n) ∧ ns.sum ≤ 1000000000
theorem sum_nonneg : ∀ {ns : List Int}, (∀ n ∈ ns, 0 ≤ n) → 0 ≤ ns.sum
  | [], _ => by simp
  | n :: ns, h => by
    have h1 := h n List.mem_cons_self
    have h2 := sum_nonneg (ns := ns) fun m hm => h m (List.mem_cons_of_mem _ hm)
    rw [List.sum_cons]; omega
theorem Fits.le {ns : List Int} (h : Fits ns) (j : Nat) : 0 ≤ (ns.take j).sum ∧ (ns.take j).sum ≤ ns.sum := by
  have h1 := sum_nonneg (ns := ns.take j) fun m hm => h.1 m (List.mem_of_mem_take hm)
  have h2 := sum_nonneg (ns := ns.drop j) fun m hm => h.1 m (List.mem_of_mem_drop hm)
  have h3 : ns.sum = (ns.take j).sum + (ns.drop j).sum := by rw [← List.sum_append, List.take_append_drop]
  omega
section
variable {X : Cx}
theorem call_sum (hc : X.calm = true) : CallR X (.builtin "sum") (fun xs H Q => ∃ l ns, xs = [.ref l] ∧ SqL X.K H l (ns.map V.int) ∧ Fits ns ∧ Q (.int ns.sum) H) := by
  intro pins s σ H xs us Q I r h
  obtain ⟨l, ns, rfl, hl, hf, q⟩ := h
  cases r with
  | cons r rr =>
    cases rr
    obtain rfl : _ = Value.ref l := r
    obtain ⟨its, rv, p, _⟩ := I.list hl
    obtain ⟨ys, rfl, e2⟩ := vals_items rv
    have hL : s.heap.IsList l (intItems ys.toArray) := by rw [items_arr]; exact p.isList
    refine sum_intList (I.ok.hd hc) hL (fun j hj => ?_) fun h' tk t' hk => ⟨.int ns.sum, H, I.kept (t' := tk) hk, ⟨t', ?_⟩, q⟩
    · have hjl : j < ns.length := by rw [← e2]; simpa using hj
      have a := hf.le (j + 1)
      have b := hf.1 _ (List.getElem_mem hjl)
      have c := hf.le j
      have d : (ns.take (j + 1)).sum = (ns.take j).sum + ns[j] := by rw [List.take_add_one, List.getElem?_eq_getElem hjl, List.sum_append]; simp
      have e := hf.2
      rw [num_at, pre_sum, e2]
      have f : ns.getD j 0 = ns[j] := by simp [List.getD, List.getElem?_eq_getElem hjl]
      rw [f]
      exact ⟨⟨by omega, by omega⟩, ⟨by omega, by omega⟩⟩
    · rw [pre_sum, e2, List.take_of_length_le]
      rw [← e2]; simp
end
section
variable {prog : Program} {w : World} {A : Around} {R : Result → Shared → Prop} {I : Addr} {fp wr : List Addr} {n : Nat} {P : Nat → Value → Prop} {St : Nat → Heap → Prop}
end
section
variable {prog : Program} {w : World} {A : Around} {E : Value → Shared → Prop} {s : Shared}
end
end L2
namespace Srt
open PySem PySem.W PyProof.Rows
variable {α β : Type} {O : KeyOrd} {key : Nat → O.α} {n : Nat}
def Ok (O : KeyOrd) (key : Nat → O.α) (n : Nat) (Q : α → Prop) : KasT α → Prop
  | .ret a => Q a
  | .ask i j k => i < n ∧ j < n ∧ Ok O key n Q (k (O.blt (key i) (key j)))
theorem Ok.bind {t : KasT α} {f : α → KasT β} {Q : β → Prop} : Ok O key n (fun a => Ok O key n Q (f a)) t → Ok O key n Q (t.bind f) := by
  induction t with
  | ret a => exact id
  | ask i j k ih => exact fun h => ⟨h.1, h.2.1, ih _ h.2.2⟩
theorem Ok.wp {cmp : Nat → Nat → (Bool → Shared → Prop) → Shared → Prop} {s : Shared} (hc : ∀ i j C, i < n → j < n → C (O.blt (key i) (key j)) s → cmp i j C s) {G : α → Shared → Prop} {Q : α → Prop} (hq : ∀ a, Q a → G a s) {t : KasT α} : Ok O key n Q t → t.kasWp cmp G s := by
  induction t with
  | ret a => exact hq a
  | ask i j k ih => exact fun h => hc i j _ h.1 h.2.1 (ih _ h.2.2)
def Pm (n : Nat) (p : Array Nat) : Prop := p.toList.Perm (List.range n)
theorem Pm.size {p : Array Nat} (h : Pm n p) : p.size = n := by
  have := h.length_eq
  simpa using this
theorem Pm.lt {p : Array Nat} (h : Pm n p) {i : Nat} (hi : i < n) : p.getD i 0 < n := by
  have hs : i < p.size := by rw [h.size]; exact hi
  have e : p.getD i 0 = p[i] := by simp [Array.getD, hs]
  rw [e]
  have : p[i] ∈ p.toList := by simp
  exact List.mem_range.mp (h.mem_iff.mp this)
theorem Pm.of {p q : Array Nat} (h : Pm n p) (e : q.Perm p) : Pm n q := (Array.perm_iff_toList_perm.mp e).trans h
variable (key) in
def kk (p : Array Nat) (i : Nat) : O.α := key (p.getD i 0)
theorem kk_congr {p q : Array Nat} {i j : Nat} (h : p[i]? = q[j]?) : kk key p i = kk key q j := by
  unfold kk
  rw [Array.getD_eq_getD_getElem?, Array.getD_eq_getD_getElem?, h]
variable (key) in
def Up (p : Array Nat) (k : Nat) : Prop := ∀ i j, i ≤ j → j < k → O.kle (kk key p i) (kk key p j)
variable (key) in
def Down (p : Array Nat) (k : Nat) : Prop := ∀ i j, i ≤ j → j < k → O.kle (kk key p j) (kk key p i)
theorem rev_kk {p : Array Nat} {i j : Nat} (hj : j ≤ p.size) (k : Nat) : kk key (kas_rev p i j) k = if i ≤ k ∧ k < j then kk key p (i + j - 1 - k) else kk key p k := by
  have e := getElem?_mirror_all (xs := p) (i := i) hj k
  unfold kas_rev
  by_cases h : i ≤ k ∧ k < j
  · rw [if_pos h] at e ⊢; exact kk_congr e
  · rw [if_neg h] at e ⊢; exact kk_congr e
theorem rev_same {p : Array Nat} {i j : Nat} (hj : j ≤ p.size) (heq : ∀ k, i ≤ k → k < j → kk key p k = kk key p (j - 1)) (k : Nat) : kk key (kas_rev p i j) k = kk key p k := by
  rw [rev_kk hj]
  by_cases h : i ≤ k ∧ k < j
  · rw [if_pos h, heq _ (by omega) (by omega), heq k h.1 h.2]
  · rw [if_neg h]
theorem Pm.rev {p : Array Nat} (h : Pm n p) (i j : Nat) : Pm n (kas_rev p i j) := h.of (mirror_perm _ _ _ _)
theorem grow_up {p : Array Nat} {m : Nat} (h1 : 1 ≤ m) (hs : Up key p m) (h : O.kle (kk key p (m - 1)) (kk key p m)) : Up key p (m + 1) := fun i j hij hj => by
  by_cases hjm : j < m
  · exact hs i j hij hjm
  · have : j = m := by omega
    subst this
    by_cases hi : i = j
    · subst hi; exact KeyOrd.kle_refl _
    · exact KeyOrd.kle_trans (hs i (j - 1) (by omega) (by omega)) h
theorem grow_down {p : Array Nat} {m : Nat} (h1 : 1 ≤ m) (hs : Down key p m) (h : O.kle (kk key p m) (kk key p (m - 1))) : Down key p (m + 1) := fun i j hij hj => by
  by_cases hjm : j < m
  · exact hs i j hij hjm
  · have : j = m := by omega
    subst this
    by_cases hi : i = j
    · subst hi; exact KeyOrd.kle_refl _
    · exact KeyOrd.kle_trans h (hs i (j - 1) (by omega) (by omega))
theorem asc_ok {p : Array Nat} (hP : Pm n p) {Q : Nat → Prop} : ∀ (f m : Nat), 1 ≤ m → m + f ≤ n → Up key p m → (∀ m', m ≤ m' → m' ≤ m + f → Up key p m' → (m' = m + f ∨ O.klt (kk key p m') (kk key p (m' - 1))) → Q m') → Ok O key n Q (kas_asc p f m)
  | 0, m, _, _, hs, h => h m (Nat.le_refl _) (Nat.le_refl _) hs (.inl rfl)
  | f + 1, m, h1, hn, hs, h => by
    refine ⟨hP.lt (by omega), hP.lt (by omega), ?_⟩
    show Ok O key n Q (if O.blt (kk key p m) (kk key p (m - 1)) = true then .ret m else kas_asc p f (m + 1))
    cases hb : O.blt (kk key p m) (kk key p (m - 1)) with
    | true =>
      rw [if_pos rfl]
      exact h m (Nat.le_refl _) (by omega) hs (.inr hb)
    | false =>
      rw [if_neg Bool.false_ne_true]
      exact asc_ok hP f (m + 1) (by omega) (by omega) (grow_up h1 hs hb) fun m' a b c d => h m' (by omega) (by omega) c (by rcases d with d | d; exact .inl (by omega); exact .inr d)
variable (key) in
def Tail (p : Array Nat) (m q : Nat) : Prop := q + 1 ≤ m ∧ ∀ i, m - (q + 1) ≤ i → i < m → kk key p i = kk key p (m - 1)
theorem desc_ok {Q : Array Nat × Nat × Nat → Prop} : ∀ (f : Nat) (p : Array Nat) (m q : Nat), Pm n p → 1 ≤ m → m + f ≤ n → Down key p m → Tail key p m q →
    (∀ p' m' q', Pm n p' → m ≤ m' → m' ≤ m + f → Down key p' m' → Tail key p' m' q' → Q (p', m', q')) → Ok O key n Q (kas_desc f p m q)
  | 0, p, m, q, hP, _, _, hs, ht, h => h p m q hP (Nat.le_refl _) (Nat.le_refl _) hs ht
  | f + 1, p, m, q, hP, h1, hn, hs, ht, h => by
    have hsz := hP.size
    refine ⟨hP.lt (by omega), hP.lt (by omega), ?_⟩
    show Ok O key n Q (if O.blt (kk key p m) (kk key p (m - 1)) = true then (if q > 0 then kas_desc f (kas_rev p (m - (q + 1)) m) (m + 1) 0 else kas_desc f p (m + 1) 0)
      else .ask (p.getD (m - 1) 0) (p.getD m 0) fun d => if d = true then .ret (p, m, q) else kas_desc f p (m + 1) (q + 1))
    have one : ∀ p' : Array Nat, Tail key p' (m + 1) 0 := fun p' => ⟨by omega, fun i a b => by congr 1; omega⟩
    cases hb : O.blt (kk key p m) (kk key p (m - 1)) with
    | true =>
      rw [if_pos rfl]
      have hd := grow_down h1 hs (KeyOrd.kle_of_klt hb)
      by_cases hq : q > 0
      · rw [if_pos hq]
        have e := rev_same (key := key) (p := p) (i := m - (q + 1)) (j := m) (by omega) ht.2
        refine desc_ok f _ (m + 1) 0 (hP.rev _ _) (by omega) (by omega) (fun i j a b => by rw [e, e]; exact hd i j a b) (one _) fun p' m' q' a b c d g => h p' m' q' a (by omega) (by omega) d g
      · rw [if_neg hq]
        exact desc_ok f p (m + 1) 0 hP (by omega) (by omega) hd (one _) fun p' m' q' a b c d g => h p' m' q' a (by omega) (by omega) d g
    | false =>
      rw [if_neg Bool.false_ne_true]
      refine ⟨hP.lt (by omega), hP.lt (by omega), ?_⟩
      show Ok O key n Q (if O.blt (kk key p (m - 1)) (kk key p m) = true then .ret (p, m, q) else kas_desc f p (m + 1) (q + 1))
      cases hc : O.blt (kk key p (m - 1)) (kk key p m) with
      | true =>
        rw [if_pos rfl]
        exact h p m q hP (Nat.le_refl _) (by omega) hs ht
      | false =>
        rw [if_neg Bool.false_ne_true]
        have he : kk key p m = kk key p (m - 1) := KeyOrd.kle_antisymm hc hb
        refine desc_ok f p (m + 1) (q + 1) hP (by omega) (by omega) (grow_down h1 hs hc) ⟨by have := ht.1; omega, fun i a b => ?_⟩ fun p' m' q' a b c d g => h p' m' q' a (by omega) (by omega) d g
        rw [Nat.add_sub_cancel]
        by_cases hi : i = m
        · rw [hi]
        · rw [he]; exact ht.2 i (by omega) (by omega)
theorem tail_ok {p : Array Nat} {m : Nat} (hP : Pm n p) (h1 : 1 ≤ m) (hm : m ≤ n) (hs : Down key p m) {Q : Nat × Array Nat → Prop} (h : ∀ m' p', Pm n p' → 1 ≤ m' → m' ≤ n → Up key p' m' → Q (m', p')) : Ok O key n Q (kas_tail3 m n p) := by
  have hsz := hP.size
  refine Ok.bind (asc_ok (hP.rev 0 m) (n - m) m h1 (by omega) (fun i j hij hj => ?_) fun m' a b c _ => h m' _ (hP.rev 0 m) (by omega) (by omega) c)
  rw [rev_kk (by omega), rev_kk (by omega), if_pos (by omega), if_pos (by omega)]
  exact hs _ _ (by omega) (by omega)
theorem descPart_ok {p : Array Nat} {m : Nat} (hP : Pm n p) (h1 : 1 ≤ m) (hm : m + 1 ≤ n) (hs : Down key p (m + 1)) {Q : Nat × Array Nat → Prop} (h : ∀ m' p', Pm n p' → 1 ≤ m' → m' ≤ n → Up key p' m' → Q (m', p')) : Ok O key n Q (kas_descPart m n p) := by
  refine Ok.bind (desc_ok (n - (m + 1)) p (m + 1) 0 hP (by omega) (by omega) hs ⟨by omega, fun i a b => by congr 1; omega⟩ fun p' m' q' a b c d g => ?_)
  have hsz := a.size
  show Ok O key n Q (if q' > 0 then kas_tail3 m' n (kas_rev p' (m' - (q' + 1)) m') else kas_tail3 m' n p')
  by_cases hq : q' > 0
  · rw [if_pos hq]
    have e := rev_same (key := key) (p := p') (i := m' - (q' + 1)) (j := m') (by omega) g.2
    exact tail_ok (a.rev _ _) (by omega) (by omega) (fun i j x y => by rw [e, e]; exact d i j x y) h
  · rw [if_neg hq]
    exact tail_ok a (by omega) (by omega) d h
theorem count_ok {p : Array Nat} (hP : Pm n p) (h1 : 1 ≤ n) {Q : Nat × Array Nat → Prop} (h : ∀ m' p', Pm n p' → 1 ≤ m' → m' ≤ n → Up key p' m' → Q (m', p')) : Ok O key n Q (kas_count n p) := by
  have hsz := hP.size
  refine Ok.bind (asc_ok hP (n - 1) 1 (Nat.le_refl _) (by omega) (fun i j a b => ?_) fun m a b c d => ?_)
  · have : i = j := by omega
    subst this; exact KeyOrd.kle_refl _
  · show Ok O key n Q (if (m == n) = true then .ret (m, p) else if m > 1 then .ask (p.getD 0 0) (p.getD (m - 1) 0) fun c => if c = true then .ret (m, p) else kas_descPart m n (kas_rev p 0 m) else kas_descPart m n p)
    by_cases hm : m = n
    · rw [if_pos (by simpa using hm)]
      exact h m p hP a (by omega) c
    · rw [if_neg (by simpa using hm)]
      have hlt : O.klt (kk key p m) (kk key p (m - 1)) := by
        rcases d with d | d
        · exact absurd (by omega) hm
        · exact d
      by_cases hg : m > 1
      · rw [if_pos hg]
        refine ⟨hP.lt (by omega), hP.lt (by omega), ?_⟩
        show Ok O key n Q (if O.blt (kk key p 0) (kk key p (m - 1)) = true then .ret (m, p) else kas_descPart m n (kas_rev p 0 m))
        cases hb : O.blt (kk key p 0) (kk key p (m - 1)) with
        | true =>
          rw [if_pos rfl]
          exact h m p hP a (by omega) c
        | false =>
          rw [if_neg Bool.false_ne_true]
          have hall : ∀ k, 0 ≤ k → k < m → kk key p k = kk key p (m - 1) := fun k _ hk =>
            KeyOrd.kle_antisymm (c k (m - 1) (by omega) (by omega)) (KeyOrd.kle_trans hb (c 0 k (by omega) hk))
          have e := rev_same (key := key) (p := p) (i := 0) (j := m) (by omega) hall
          refine descPart_ok (hP.rev _ _) (by omega) (by omega) (grow_down (by omega) (fun i j x y => ?_) ?_) h
          · rw [e, e, hall i (by omega) (by omega), hall j (by omega) y]; exact KeyOrd.kle_refl _
          · rw [e, e]; exact KeyOrd.kle_of_klt hlt
      · rw [if_neg hg]
        have : m = 1 := by omega
        subst this
        refine descPart_ok hP (Nat.le_refl _) (by omega) (grow_down (Nat.le_refl _) (fun i j x y => ?_) (KeyOrd.kle_of_klt hlt)) h
        have : i = j := by omega
        subst this; exact KeyOrd.kle_refl _
theorem place_ok {p : Array Nat} {k : Nat} (hP : Pm n p) (hk : k < n) (hs : Up key p k) {Q : Nat → Prop}
    (h : ∀ l, l ≤ k → (∀ i, i < l → O.kle (kk key p i) (kk key p k)) → (∀ i, l ≤ i → i < k → O.klt (kk key p k) (kk key p i)) → Q l) : ∀ (f l r : Nat), l ≤ r → r ≤ k → r - l ≤ f →
      (∀ i, i < l → O.kle (kk key p i) (kk key p k)) → (∀ i, r ≤ i → i < k → O.klt (kk key p k) (kk key p i)) → Ok O key n Q (kas_place p k f l r)
  | 0, l, r, a, b, c, d, e => by
    have : l = r := by omega
    subst this
    exact h l b d e
  | f + 1, l, r, a, b, c, d, e => by
    show Ok O key n Q (if l ≥ r then .ret l else .ask (p.getD k 0) (p.getD ((l + r) / 2) 0) fun c => if c = true then kas_place p k f l ((l + r) / 2) else kas_place p k f ((l + r) / 2 + 1) r)
    by_cases hge : l ≥ r
    · rw [if_pos hge]
      have : l = r := by omega
      subst this
      exact h l b d e
    · rw [if_neg hge]
      refine ⟨hP.lt hk, hP.lt (by omega), ?_⟩
      show Ok O key n Q (if O.blt (kk key p k) (kk key p ((l + r) / 2)) = true then kas_place p k f l ((l + r) / 2) else kas_place p k f ((l + r) / 2 + 1) r)
      cases hb : O.blt (kk key p k) (kk key p ((l + r) / 2)) with
      | true =>
        rw [if_pos rfl]
        exact place_ok hP hk hs h f l ((l + r) / 2) (by omega) (by omega) (by omega) d fun i x y => KeyOrd.klt_of_klt_of_kle hb (hs _ _ x y)
      | false =>
        rw [if_neg Bool.false_ne_true]
        exact place_ok hP hk hs h f ((l + r) / 2 + 1) r (by omega) b (by omega) (fun i x => KeyOrd.kle_trans (hs i ((l + r) / 2) (by omega) (by omega)) hb) e
theorem bubble_kk {p : Array Nat} {k d : Nat} (hs : k < p.size) (hd : d ≤ k) (i : Nat) : kk key (bubble p k d) i = if i = k - d then kk key p k else if k - d < i ∧ i ≤ k then kk key p (i - 1) else kk key p i := by
  have e := getElem?_bubble hs d hd i
  by_cases h1 : i = k - d
  · rw [if_pos h1] at e ⊢; exact kk_congr e
  · rw [if_neg h1] at e ⊢
    by_cases h2 : k - d < i ∧ i ≤ k
    · rw [if_pos h2] at e ⊢; exact kk_congr e
    · rw [if_neg h2] at e ⊢; exact kk_congr e
theorem bin_ok {Q : Array Nat → Prop} : ∀ (f : Nat) (p : Array Nat) (k : Nat), Pm n p → 1 ≤ k → k + f = n → Up key p k → (∀ p', Pm n p' → Up key p' n → Q p') → Ok O key n Q (kas_bin f p k)
  | 0, p, k, hP, _, hn, hs, h => h p hP (by rw [← hn]; exact hs)
  | f + 1, p, k, hP, h1, hn, hs, h => by
    have hsz := hP.size
    have hk : k < n := by omega
    refine Ok.bind (place_ok hP hk hs (fun l a b c => ?_) k 0 k (Nat.zero_le _) (Nat.le_refl _) (by omega) (fun i x => by omega) fun i x y => by omega)
    refine bin_ok f _ (k + 1) (hP.of (bubble_perm _ _ _)) (by omega) (by omega) (fun i j hij hj => ?_) h
    rw [bubble_kk (by omega) (by omega), bubble_kk (by omega) (by omega), show k - (k - l) = l by omega]
    repeat' split
    all_goals first
      | (exfalso; omega)
      | exact KeyOrd.kle_refl _
      | exact b _ (by omega)
      | exact KeyOrd.kle_of_klt (c _ (by omega) (by omega))
      | exact hs _ _ (by omega) (by omega)
theorem sort_ok (h1 : 1 ≤ n) {Q : Array Nat → Prop} (h : ∀ p, Pm n p → Up key p n → Q p) : Ok O key n Q (kas_sort n) := by
  have hP : Pm n (List.toArray (List.range n)) := List.Perm.refl _
  refine Ok.bind (count_ok hP h1 fun m p a b c d => ?_)
  show Ok O key n Q (if m < n then kas_bin (n - max m 1) p (max m 1) else .ret p)
  have hm : max m 1 = m := by omega
  by_cases hlt : m < n
  · rw [if_pos hlt, hm]
    exact bin_ok (n - m) p m a b (by omega) d h
  · rw [if_neg hlt]
    have : m = n := by omega
    subst this
    exact h p a d
end Srt
namespace L2
open PySem PySem.Spec PyProof.Rows PySem.W
section
variable {prog : Program} {w : World} {A : Around} {E : Value → Shared → Prop} {s : Shared}
end
section
variable {X : Cx}
end
end L2
namespace L2
open PySem PySem.Spec PyProof.Rows PySem.W
section
variable {prog : Program} {w : World} {A : Around} {E : Value → Shared → Prop} {s : Shared}
theorem sort_gen {a : Addr} {vs : List Value} {n : Nat} {P : PySem.Fin → Shared → Prop} (O : KeyOrd) (key : Nat → O.α) (κ : SortKind) (ho : s.heap.get? a = some (seqObj "list" vs.toArray n)) (h64 : vs.length < 64)
    (hk : ∀ (s' : Shared) (Q : SortKind → Shared → Prop), (∀ b o, b ≠ a → s.heap.get? b = some o → s'.heap.get? b = some o) → 2 ≤ vs.length → Q κ s' → wpAny (model prog w) A (keyKind' vs.toArray) Q E s')
    (hc : ∀ (s' : Shared) (i j : Nat) (C : Bool → Shared → Prop), (∀ b o, b ≠ a → s.heap.get? b = some o → s'.heap.get? b = some o) → i < vs.length → j < vs.length → C (O.blt (key i) (key j)) s' → wpAny (model prog w) A (keyLt' κ (vs.getD i Value.none) (vs.getD j Value.none)) C (fun _ _ => False) s')
    (h : ∀ p : Array Nat, Srt.Pm vs.length p → Srt.Up (O := O) key p vs.length → P (.done (.ret .none)) { s with heap := sortedHeap s.heap a vs (p.toList.map fun i => vs.getD i Value.none).toArray }) :
    wpAny (model prog w) A (Builtin.«list.sort» ⟨[.ref a], []⟩) P E s := by
  have hal : a < s.heap.objs.size := Heap.lt_size ho
  rw [list_sort_plain]
  refine wpAny_bind (listItems_at ho rfl ?_)
  refine wpAny_bind (listUpdate_at ho rfl ?_ (by rw [List.size_toArray, sizeLine_eq]; omega) (Nat.zero_le _))
  obtain ⟨e1, ho1⟩ : ∃ e1, (s.heap.update a (Obj.mapSeq fun _ => (#[] : Array Value))).get? a = some (seqObj "list" #[] e1) := ⟨_, get?_update_seq ho fun _ => #[]⟩
  refine wpAny_bind (seqEpoch_at ho1 rfl (wpAny_bind (wpAny_newTuple ?_ (by show vs.length ≤ _; rw [sizeLine_eq]; omega))))
  refine wpAny_bind (wpAny_newList (wpAny_holding ?_) (Nat.zero_le _))
  have keep : ∀ b o, b ≠ a → s.heap.get? b = some o → (((s.heap.update a (Obj.mapSeq fun _ => (#[] : Array Value))).push (seqObj "tuple" vs.toArray 0)).push (seqObj "list" #[] 0)).get? b = some o := fun b o hb e =>
    Heap.get?_push_of_some _ (Heap.get?_push_of_some _ ((Heap.get?_update_ne _ _ _ _ hb).trans e))
  have ho6 : (((s.heap.update a (Obj.mapSeq fun _ => (#[] : Array Value))).push (seqObj "tuple" vs.toArray 0)).push (seqObj "list" #[] 0)).get? a = some (seqObj "list" #[] e1) := Heap.get?_push_of_some _ (Heap.get?_push_of_some _ ho1)
  show wpAny (model prog w) A _ P E { s with heap := ((s.heap.update a (Obj.mapSeq fun _ => (#[] : Array Value))).push (seqObj "tuple" vs.toArray 0)).push (seqObj "list" #[] 0) }
  dsimp only
  have hz : vs.toArray.size = vs.length := List.size_toArray
  by_cases h2 : vs.toArray.size < 2
  · rw [if_pos h2, if_pos h2]
    refine wpAny_bind (wpAny_pure ?_)
    rw [StateT.run_pure]
    refine wpAny_bind (wpAny_pure ?_)
    dsimp only
    refine wpAny_bind (seqEpoch_at ho6 rfl ?_)
    have e2 : (arrOf (SortSt.mk' general' (vs.toArray.zip vs.toArray) #[] 7 none)).map (·.2) = vs.toArray := by
      show (vs.toArray.zip vs.toArray).map (·.2) = vs.toArray
      apply Array.toList_inj.mp
      rw [Array.toList_map, Array.toList_zip]
      exact List.map_snd_zip (Nat.le_refl _)
    rw [e2]
    refine wpAny_bind (listUpdate_at ho6 rfl ?_ (hsz2 := by show vs.toArray.size ≤ _; rw [sizeLine_eq]; omega))
    simp only [bne_self_eq_false, Bool.false_eq_true, if_false]
    have := h (List.range vs.length).toArray (List.Perm.refl _) (fun i j hij hj => by
      have : i = j := by omega
      subst this
      exact O.irrefl _)
    have e3 : ((List.range vs.length).toArray.toList.map fun i => vs.getD i Value.none) = vs := by
      apply List.ext_getElem (by simp)
      intro i a b
      simp at a
      simp [a]
    rw [e3] at this
    exact wpAny_pure this
  · rw [if_neg h2, if_neg h2]
    refine wpAny_bind ?_
    refine hk { s with heap := ((s.heap.update a (Obj.mapSeq fun _ => (#[] : Array Value))).push (seqObj "tuple" vs.toArray 0)).push (seqObj "list" #[] 0) } _ keep (by omega) ?_
    refine wpAny_bind (wpAny_mono (kat_run (Q := fun st' s' => ∃ p : Array Nat, Srt.Pm vs.length p ∧ Srt.Up (O := O) key p vs.length ∧ (arrOf st').map (·.2) = (p.toList.map fun i => vs.getD i Value.none).toArray ∧ failedOf st' = none ∧
        s' = { s with heap := ((s.heap.update a (Obj.mapSeq fun _ => (#[] : Array Value))).push (seqObj "tuple" vs.toArray 0)).push (seqObj "list" #[] 0) })
      (G := fun p s' => Srt.Pm vs.length p ∧ Srt.Up (O := O) key p vs.length ∧ s' = { s with heap := ((s.heap.update a (Obj.mapSeq fun _ => (#[] : Array Value))).push (seqObj "tuple" vs.toArray 0)).push (seqObj "list" #[] 0) })
      (vs := vs) (ks := vs) rfl (by omega) (by omega) (fun p st' s' hsz har hfl hg => ?_) ?_) (fun r s' hq => ?_) fun _ _ e => e)
    · obtain ⟨hP, hU, es⟩ := hg
      exact ⟨p, hP, hU, kat_snds rfl har, hfl, es⟩
    · refine Srt.Ok.wp (O := O) (key := key) (n := vs.length) (fun i j C hi hj hC => ?_) (Q := fun p => Srt.Pm vs.length p ∧ Srt.Up (O := O) key p vs.length) (fun p hp => ⟨hp.1, hp.2, rfl⟩) (Srt.sort_ok (by omega) fun p a b => ⟨a, b⟩)
      exact hc { s with heap := ((s.heap.update a (Obj.mapSeq fun _ => (#[] : Array Value))).push (seqObj "tuple" vs.toArray 0)).push (seqObj "list" #[] 0) } i j C keep hi hj hC
    · obtain ⟨p, o1, o2, o3, o4, rfl⟩ := hq
      obtain ⟨⟨⟩, st'⟩ := r
      dsimp only at o3 o4 ⊢
      refine wpAny_bind (seqEpoch_at ho6 rfl ?_)
      rw [o3]
      refine wpAny_bind (listUpdate_at ho6 rfl ?_ (hsz2 := by show (p.toList.map fun i => vs.getD i Value.none).toArray.size ≤ _; rw [List.size_toArray, List.length_map, o1.length_eq, List.length_range, sizeLine_eq]; omega))
      rw [o4]
      simp only [bne_self_eq_false, Bool.false_eq_true, if_false]
      exact wpAny_pure (h p o1 o2)
theorem sorted_gen {l : Addr} {vs : List Value} {Q : Value → Shared → Prop} (O : KeyOrd) (key : Nat → O.α) (κ : SortKind) (hl : s.heap.IsList l vs.toArray) (h64 : vs.length < 64)
    (hk : ∀ (s' : Shared) (E' : Value → Shared → Prop) (Q : SortKind → Shared → Prop), (∀ b o, s.heap.get? b = some o → s'.heap.get? b = some o) → 2 ≤ vs.length → Q κ s' → wpAny (model prog w) A.in1.in1 (keyKind' vs.toArray) Q E' s')
    (hc : ∀ (s' : Shared) (i j : Nat) (C : Bool → Shared → Prop), (∀ b o, s.heap.get? b = some o → s'.heap.get? b = some o) → i < vs.length → j < vs.length → C (O.blt (key i) (key j)) s' → wpAny (model prog w) A.in1.in1 (keyLt' κ (vs.getD i Value.none) (vs.getD j Value.none)) C (fun _ _ => False) s')
    (h : ∀ p : Array Nat, Srt.Pm vs.length p → Srt.Up (O := O) key p vs.length → Q (.ref (s.heap.objs.size + 1)) { s with heap := sortedAll s.heap vs (p.toList.map fun i => vs.getD i Value.none).toArray }) :
    wpAny (model prog w) A (call (.builtin "sorted") [.ref l]) Q E s := by
  refine Calls.call_function_entry kind_sorted plain_sorted entry_sorted (args_sorted1 _) ?_
  unfold Builtin.«sorted»
  refine wpAny_bind (m := checkCount "sorted" 1 1 _) (wpAny_pure ?_)
  refine wpAny_bind (collect_list hl ?_ (by rw [sizeLine_eq]; omega))
  refine wpAny_bind (wpAny_newList ?_ (by rw [sizeLine_eq]; omega))
  have hsz : ((s.heap.push (seqObj "list" #[] 0)).update s.heap.objs.size (Obj.mapSeq (· ++ vs.toArray))).objs.size = s.heap.objs.size + 1 := by rw [Heap.size_update, size_push']
  have hoL : (((s.heap.push (seqObj "list" #[] 0)).update s.heap.objs.size (Obj.mapSeq (· ++ vs.toArray))).push (seqObj "list" vs.toArray 0)).get? (s.heap.objs.size + 1) = some (seqObj "list" vs.toArray 0) := by
    rw [← hsz]; exact Heap.get?_push_size _ rfl
  have keep : ∀ b o, s.heap.get? b = some o → (((s.heap.push (seqObj "list" #[] 0)).update s.heap.objs.size (Obj.mapSeq (· ++ vs.toArray))).push (seqObj "list" vs.toArray 0)).get? b = some o := fun b o e => by
    have hlt : b < s.heap.objs.size := Heap.lt_size e
    exact Heap.get?_push_of_some _ ((Heap.get?_update_ne _ _ _ _ (Nat.ne_of_lt hlt)).trans (Heap.get?_push_of_some _ e))
  show wpAny _ _ _ _ _ { s with heap := ((s.heap.push (seqObj "list" #[] 0)).update s.heap.objs.size (Obj.mapSeq (· ++ vs.toArray))).push (seqObj "list" vs.toArray 0) }
  rw [hsz]
  refine wpAny_bind (wpAny_holding (wpAny_call_entry slot_list_sort ⟨_, hoL, rfl⟩ entry_list_sort ?_ (args_list_sort _)))
  have old : ∀ (s' : Shared), (∀ b o, b ≠ s.heap.objs.size + 1 → (((s.heap.push (seqObj "list" #[] 0)).update s.heap.objs.size (Obj.mapSeq (· ++ vs.toArray))).push (seqObj "list" vs.toArray 0)).get? b = some o → s'.heap.get? b = some o) → ∀ b o, s.heap.get? b = some o → s'.heap.get? b = some o := fun s' h b o e => by
    have hlt : b < s.heap.objs.size := Heap.lt_size e
    exact h b o (fun z => by rw [z] at hlt; exact absurd hlt (Nat.not_lt.mpr (Nat.le_succ _))) (keep b o e)
  refine sort_gen (A := A.in1.in1) O key κ hoL h64 (fun s' Q' hs h2 hq => hk s' _ Q' (old s' hs) h2 hq) (fun s' i j C hs hi hj hC => hc s' i j C (old s' hs) hi hj hC) fun p o1 o2 => ⟨_, rfl, wpAny_pure ⟨_, rfl, h p o1 o2⟩⟩
theorem pair_lt {x y : Addr} {fx sx fy sy : Value} {b : Bool} {C : Bool → Shared → Prop} (hx : s.heap.IsTuple x [fx, sx].toArray) (hy : s.heap.IsTuple y [fy, sy].toArray)
    (hne : x ≠ y → SeqAt.EqAt A s fx fy false ∧ wpAny (model prog w) A (oneLt' b fx fy) C (fun _ _ => False) s) (heq : x = y → SeqAt.EqAt A s fx fx true ∧ SeqAt.EqAt A s sx sx true ∧ C false s) :
    wpAny (model prog w) A (keyLt' (tuples' b) (.ref x) (.ref y)) C E s := by
  obtain ⟨ox, gx, cx, nx, dx⟩ := hx
  obtain ⟨oy, gy, cy, ny, dy⟩ := hy
  refine kat_lt gx dx gy dy ?_
  by_cases h : x = y
  · subst h
    obtain rfl := Option.some.inj (gx.symm.trans gy)
    rw [dx] at dy
    injection dy with e1 e2
    have e3 : [fx, sx] = [fy, sy] := by simpa using congrArg Array.toList e1
    injection e3 with e4 e5
    injection e5 with e6 e7
    subst e4 e6
    obtain ⟨q1, q2, q3⟩ := heq rfl
    show KatLex prog w A b _ C [(fx, fx), (sx, sx)] 0 s
    refine kat_cons (q1 _ _ _ _ (kat_yes (kat_cons (q2 _ _ _ _ (kat_yes (kat_nil ?_))))))
    exact q3
  · obtain ⟨q1, q2⟩ := hne h
    show KatLex prog w A b _ C [(fx, fy), (sx, sy)] 0 s
    refine kat_cons (q1 _ _ _ _ (kat_no ?_))
    have : (b && (0 : Nat) == 0) = b := by simp
    rw [this]
    exact q2
end
theorem out_gen {α : Type} {O : KeyOrd} {ts : List α} {d : α} {key : α → O.α} {p : Array Nat} (hP : Srt.Pm ts.length p) (hU : Srt.Up (O := O) (fun i => key (ts.getD i d)) p ts.length) :
    (p.toList.map fun i => ts.getD i d).Perm ts ∧ (p.toList.map fun i => ts.getD i d).Pairwise fun x y => O.blt (key y) (key x) = false := by
  constructor
  · have h1 := List.Perm.map (fun i => ts.getD i d) hP
    have e : (List.range ts.length).map (fun i => ts.getD i d) = ts := by
      apply List.ext_getElem (by simp)
      intro i a b
      simp at a
      simp [a]
    rwa [e] at h1
  · rw [List.pairwise_iff_getElem]
    intro i j hi hj hij
    have hsz := hP.size
    simp only [List.length_map, Array.length_toList] at hi hj
    have := hU i j (Nat.le_of_lt hij) (by omega)
    unfold KeyOrd.kle Srt.kk at this
    have ei : p.getD i 0 = p[i] := by simp [Array.getD, hi]
    have ej : p.getD j 0 = p[j] := by simp [Array.getD, hj]
    rw [ei, ej] at this
    simpa using this
theorem IsTuple.keeps {h h' : Heap} {a : Addr} {xs : Array Value} (k : ∀ b o, h.get? b = some o → h'.get? b = some o) (x : h.IsTuple a xs) : h'.IsTuple a xs := by
  obtain ⟨o, e, r⟩ := x
  exact ⟨o, k _ _ e, r⟩
section
variable {prog : Program} {w : World} {A : Around} {E : Value → Shared → Prop} {s : Shared}
end
section
variable {X : Cx}
theorem vals_mapF {α : Type} {f : α → Addr} : ∀ {ts : List α} {us : List Value}, Vals (ts.map fun t => V.ref (f t)) us → us = ts.map fun t => Value.ref (f t)
  | [], _, .nil => rfl
  | t :: ts, _, .cons r rr => by
    have e : _ = Value.ref (f t) := r
    rw [List.map_cons, ← vals_mapF rr, ← e]
theorem mapF_vals {α : Type} {f : α → Addr} : ∀ ts : List α, Vals (ts.map fun t => V.ref (f t)) (ts.map fun t => Value.ref (f t))
  | [] => .nil
  | t :: ts => .cons rfl (mapF_vals ts)
end
end L2
namespace L2
open PySem PySem.Spec PyProof.Rows
section
variable {prog : Program} {w : World} {A : Around} {E : Value → Shared → Prop} {s : Shared}
end
section
variable {X : Cx}
theorem vals_bools : ∀ {bs : List Bool} {us : List Value}, Vals (bs.map V.bl) us → us = bs.map Value.bool
  | [], _, .nil => rfl
  | b :: bs, _, .cons r rr => by
    have e : _ = Value.bool b := r
    rw [List.map_cons, ← vals_bools rr, ← e]
theorem call_allB (hc : X.calm = true) : CallR X (.builtin "all") (fun xs H Q => ∃ (l : Addr) (bs : List Bool), xs = [.ref l] ∧ SqL X.K H l (bs.map V.bl) ∧ Q (.bl (bs.all id)) H) := by
  intro pins s σ H xs us Q I r h
  obtain ⟨l, bs, rfl, hl, q⟩ := h
  cases r with
  | cons r rr =>
    cases rr
    obtain rfl : _ = Value.ref l := r
    obtain ⟨its, rv, p, _⟩ := I.list hl
    obtain rfl := vals_bools rv
    have hL := p.isList
    have hlt : l < s.heap.objs.size := by obtain ⟨_, e, _⟩ := hL; exact Heap.lt_size e
    refine call_all_walk (wpAny_pyIter_list hL ?_)
    refine ⟨s.heap.objs.size, [s.heap.objs.size, l], [s.heap.objs.size], (bs.map Value.bool).toArray.size, _, _, fun i => (bs[i]?).getD true, rfl, Walks.list (A := X.A.in1) (I.ok.hd hc) _ l (Nat.ne_of_lt hlt) (bs.map Value.bool).toArray,
      ⟨⟨_, Heap.get?_push_size _ rfl, rfl, rfl⟩, hL.push _⟩, fun i v s' Q' E' hP hQ => ?_, fun h' tk hk => ?_⟩
    · have hP' : (bs.map Value.bool)[i]? = some v := by simpa using hP
      rw [List.getElem?_map] at hP'
      cases eb : bs[i]? with
      | none => rw [eb] at hP'; simp at hP'
      | some b =>
        rw [eb] at hP'
        obtain rfl : Value.bool b = v := by simpa using hP'
        have hQ2 : Q' ((bs[i]?).getD true) s' := hQ
        rw [eb] at hQ2
        exact wpAny_truthy_bool hQ2
    · have e : ((List.range (bs.map Value.bool).toArray.size).all fun i => (bs[i]?).getD true) = bs.all id := by
        rw [List.size_toArray, List.length_map, Bool.eq_iff_iff, List.all_eq_true, List.all_eq_true]
        constructor
        · intro h x hx
          obtain ⟨i, hi, rfl⟩ := List.getElem_of_mem hx
          have := h i (List.mem_range.mpr hi)
          rw [List.getElem?_eq_getElem hi] at this
          exact this
        · intro h i hi
          have hi' := List.mem_range.mp hi
          rw [List.getElem?_eq_getElem hi']
          exact h _ (List.getElem_mem hi')
      rw [e]
      exact ⟨.bl _, H, I.kept (t' := tk) (fun b o eb => hk b o (fun hm => by rw [List.mem_singleton.mp hm] at eb; exact Nat.lt_irrefl _ (Heap.lt_size eb)) (Heap.get?_push_of_some _ eb)), rfl, q⟩
end
end L2
namespace L2
open PySem PySem.Spec PyProof.Rows PySem.W
section
variable {X : Cx}
end
@[reducible] def strOrd : KeyOrd := ⟨List Nat, fun a b => decide (a < b), fun a => strKind.irrefl a, fun a b c => strKind.trans a b c, fun a b c => strKind.negTrans a b c, fun a b => strKind.total a b⟩
abbrev PNx := Addr × Str × Addr × List Str
def PairN (h : Heap) (t : PNx) : Prop := ∃ (tk : Tok) (as : List Addr), h.IsTuple t.1 [Value.str t.2.1 tk, Value.ref t.2.2.1].toArray ∧ Reads h (.ref t.2.2.1) (.tuple (t.2.2.2.map PyData.str)) as
theorem PairN.keeps {h h' : Heap} {t : PNx} (k : ∀ b o, h.get? b = some o → h'.get? b = some o) (x : PairN h t) : PairN h' t := by
  obtain ⟨tk, as, h1, h2⟩ := x
  exact ⟨tk, as, IsTuple.keeps k h1, Reads.keeps k h2⟩
theorem rd_strs {K : PySem.W.Frag} {H : Hp} : ∀ p : List Str, RdAll K H (p.map V.str) (p.map PyData.str)
  | [] => .nil
  | i :: r => .cons (.str i) (rd_strs r)
theorem lay_strs : ∀ p : List Str, (∀ x ∈ p, PyData.strOk x = true) → PyData.canLayAll0 (p.map PyData.str) = true
  | [], _ => by simp [PyData.canLayAll0]
  | i :: r, h => by simp only [List.map_cons, PyData.canLayAll0, PyData.canLay0, lay_strs r fun x hx => h x (List.mem_cons_of_mem _ hx), h i List.mem_cons_self, Bool.and_self]
theorem pairN_tups {h : Heap} : ∀ {ts : List PNx}, (∀ t ∈ ts, PairN h t) → ∃ fs : List Value, KatTups h (ts.map fun t => Value.ref t.1) fs ∧ (∀ v ∈ fs, ∃ x t, v = Value.str x t) ∧ fs.length = ts.length
  | [], _ => ⟨[], KatTups.nil, fun v hv => (nomatch hv), rfl⟩
  | t :: r, ht => by
    obtain ⟨tk, as, ⟨o, go, gc, n, gd⟩, _⟩ := ht t List.mem_cons_self
    obtain ⟨fs, h1, h2, h3⟩ := pairN_tups fun u hu => ht u (List.mem_cons_of_mem _ hu)
    refine ⟨Value.str t.2.1 tk :: fs, KatTups.cons go gc gd rfl h1, fun v hv => ?_, by simp [h3]⟩
    rcases List.mem_cons.mp hv with rfl | hv
    · exact ⟨_, _, rfl⟩
    · exact h2 v hv
section
variable {prog : Program} {w : World} {A : Around} {E : Value → Shared → Prop} {s : Shared}
theorem pairN_lt {t u : PNx} {C : Bool → Shared → Prop} (ht : PairN s.heap t) (hu : PairN s.heap u) (hok : ∀ x ∈ t.2.2.2, PyData.strOk x = true) (hd : t.1 ≠ u.1 → t.2.1 ≠ u.2.1) (hA : A.units + 2 < cLine) (h : C (decide (t.2.1.cps.toList < u.2.1.cps.toList)) s) : wpAny (model prog w) A (keyLt' (tuples' true) (.ref t.1) (.ref u.1)) C E s := by
  obtain ⟨tk, as, h1, h4⟩ := ht
  obtain ⟨tk2, as2, g1, g4⟩ := hu
  have lay : (PyData.tuple (t.2.2.2.map PyData.str)).canLay0 = true := by simp only [PyData.canLay0]; exact lay_strs _ hok
  have dep : (PyData.tuple (t.2.2.2.map PyData.str)).depth ≤ 1 := by simp only [PyData.depth, depth_strs]; omega
  refine pair_lt h1 g1 (fun hne => ?_) (fun heq => ?_)
  · refine ⟨?_, oneLt_str h⟩
    have e := (eqGives_str t.2.1 u.2.1 tk tk2).at A s
    have : (t.2.1 == u.2.1) = false := by simpa using hd hne
    rw [this] at e
    exact e
  · refine ⟨?_, ?_, ?_⟩
    · have e := (eqGives_str t.2.1 t.2.1 tk tk).at A s
      simpa using e
    · have e := SeqAt.eqAt_reads _ _ A s _ _ _ _ h4 h4 lay lay (by omega)
      rw [eqv_self _ lay] at e
      exact e
    · have e1 : t.2.1 = u.2.1 := by
        obtain ⟨o, e, _, n, d⟩ := h1
        obtain ⟨o2, e2, _, n2, d2⟩ := g1
        rw [heq, e2] at e
        cases e
        rw [d] at d2
        injection d2 with z1 z2
        have z3 : [Value.str t.2.1 tk, Value.ref t.2.2.1] = [Value.str u.2.1 tk2, Value.ref u.2.2.1] := by simpa using congrArg Array.toList z1
        injection z3 with z4 z5
        injection z4
      rw [← e1, decide_eq_false (List.lt_irrefl _)] at h
      exact h
end
section
variable {X : Cx}
theorem call_sortedN (hu : X.A.units + 4 < cLine) : CallR X (.builtin "sorted") (fun xs H Q => ∃ (l : Addr) (ts : List PNx), xs = [.ref l] ∧ SqL X.K H l (ts.map fun t => V.ref t.1) ∧ (∀ t ∈ ts, SqT X.K H t.1 [.str t.2.1, .ref t.2.2.1] ∧ SqT X.K H t.2.2.1 (t.2.2.2.map V.str) ∧ ∀ x ∈ t.2.2.2, PyData.strOk x = true) ∧ (ts.map fun t => t.2.1).Nodup ∧ ts.length < 64 ∧
    ∀ (out : List PNx) p, out.Perm ts → (out.Pairwise fun x y => ¬ y.2.1.cps.toList < x.2.1.cps.toList) → H p = none → Q (.ref p) (upd H p (.lst (out.map fun t => V.ref t.1)))) := by
  intro pins s σ H xs us Q I r h
  obtain ⟨l, ts, rfl, hl, ht, hnd, h64, q⟩ := h
  cases r with
  | cons r rr =>
    cases rr
    obtain rfl : _ = Value.ref l := r
    obtain ⟨its, rv, p, _⟩ := I.list hl
    obtain rfl := vals_mapF rv
    have hP : ∀ t ∈ ts, PairN s.heap t := fun t htm => by
      obtain ⟨h1, h2, _⟩ := ht t htm
      obtain ⟨its1, r1, p1, _⟩ := I.tuple h1
      obtain ⟨u, v, rfl, ru, rv⟩ := r1.two
      cases (show v = Value.ref _ from rv)
      obtain ⟨tk, rfl⟩ := (show ∃ tk, u = Value.str _ tk from ru)
      obtain ⟨as, q4⟩ := (RdV.tup h2 (rd_strs _)).reads I (show RelV (.ref t.2.2.1) (.ref t.2.2.1) from rfl)
      exact ⟨tk, as, p1, q4⟩
    let d : PNx := (0, ⟨#[]⟩, 0, [])
    have gd : ∀ i, i < ts.length → (ts.map fun t => Value.ref t.1).getD i Value.none = .ref (ts.getD i d).1 := fun i hi => by simp [List.getD_eq_getElem?_getD, hi]
    have md : ∀ i, i < ts.length → ts.getD i d ∈ ts := fun i hi => by simp [List.getD_eq_getElem?_getD, hi]
    have ek : (Value.type "str" != Value.type "tuple") = true := by decide +kernel
    refine sorted_gen strOrd (fun i => (ts.getD i d).2.1.cps.toList) (tuples' true) p.isList (by simpa using h64) (fun s' E' Q' hs h2 hq => ?_) (fun s' i j C hs hi hj hC => ?_) fun pp o1 o2 => ?_
    · obtain ⟨fs, f1, f2, f3⟩ := pairN_tups (h := s'.heap) fun t htm => (hP t htm).keeps hs
      refine kat_kind (T := .type "str") f1 (by rw [f3]; rw [List.length_map] at h2; omega) (fun v hv => ?_) (by decide +kernel) (by rw [ek]; exact hq)
      obtain ⟨x, t, rfl⟩ := f2 v hv
      exact .now
    · rw [List.length_map] at hi hj
      rw [gd i hi, gd j hj]
      refine pairN_lt ((hP _ (md i hi)).keeps hs) ((hP _ (md j hj)).keeps hs) (ht _ (md i hi)).2.2 (fun hne he => hne ?_) (by show X.A.units + 1 + 1 + 2 < cLine; omega) hC
      have hij : i = j := by
        have a1 : (ts.map fun t => t.2.1)[i]'(by simpa using hi) = (ts.getD i d).2.1 := by simp [List.getD_eq_getElem?_getD, hi]
        have a2 : (ts.map fun t => t.2.1)[j]'(by simpa using hj) = (ts.getD j d).2.1 := by simp [List.getD_eq_getElem?_getD, hj]
        exact (List.getElem_inj hnd).mp (a1.trans (he.trans a2.symm))
      rw [hij]
    · rw [List.length_map] at o1 o2
      obtain ⟨w1, w2⟩ := out_gen (O := strOrd) (ts := ts) (d := d) (key := fun t => t.2.1.cps.toList) o1 o2
      have em : (pp.toList.map fun i => (ts.map fun t => Value.ref t.1).getD i Value.none) = (pp.toList.map fun i => ts.getD i d).map fun t => Value.ref t.1 := by
        rw [List.map_map]
        refine List.map_congr_left fun i hi => ?_
        exact gd i (List.mem_range.mp (o1.mem_iff.mp hi))
      rw [em]
      generalize pp.toList.map (fun i => ts.getD i d) = out at w1 w2
      obtain ⟨e, he⟩ := sortedAll_at s.heap (ts.map fun t => Value.ref t.1) (out.map fun t => Value.ref t.1).toArray
      have hfr : H (s.heap.objs.size + 1) = none := I.hok.fresh (Nat.le_succ _)
      refine ⟨.ref (s.heap.objs.size + 1), _, I.laid (t' := s.toks) (o := .lst (out.map fun t => V.ref t.1)) (fun b o g => sortedAll_old g) (Nat.le_succ _) ?_, rfl, q out _ w1 (w2.imp fun h => by simpa using h) hfr⟩
      exact ⟨by rw [List.length_map, w1.length_eq, sizeLine_eq]; omega, _, e, mapF_vals out, he⟩
end
end L2
namespace L2
open PySem PySem.Spec PyProof.Rows
section
variable {X : Cx} {pins : List (Addr × Obj)} {σ : St} {H : Hp} {s : Shared} {h' : Heap}
end
section
variable {X : Cx} {elts : List Expr} {k1 : Nat} {tpos : Pos}
end
end L2
namespace L2
open PySem PySem.Spec PyProof.Rows
section
variable {prog : Program} {w : World} {A : Around} {E : Value → Shared → Prop} {s : Shared} {it t : Addr} {i : Nat} {its : Array Value} {x : Value} {Q : Value → Shared → Prop}
end
section
variable {X : Cx} {elts : List Expr} {k1 : Nat} {tpos : Pos}
end
end L2
namespace L2
open PySem PySem.Spec PyProof.Rows
section
variable {X : Cx} {x : Str} {p pos : Pos} {e : Expr} {es : List Expr} {kws : List Keyword} {t tk : TA} {id : String} {ks : List Str} {r : List V → List V → Hp → VK → Prop}
end
end L2
namespace L2
open PySem PySem.Spec PyProof.Rows
structure CompG (X : Cx) (xs caps : List Str) (cap : List Nat) (scope : Scope) (cl : List (Str × Addr)) : Prop where
  clos : closureFor scope X.env = pure cl
  cell : ∀ y ∈ scope.names, y.2 ≠ .cell
  kind : scope.kind = .function
  names : ∀ y ∈ scope.names, y.2 = .local → scope.names.lookup y.1 = some .local
  lx : ∀ x ∈ xs, scope.names.lookup x = some .local
  nd : (xs ++ caps).Nodup
  from_ : ∀ y c, cl.lookup y = some c → X.env.cells.lookup y = some c
  has : ∀ y, ((relabel scope X.env).names.lookup y = some .cell ∨ (relabel scope X.env).names.lookup y = some .free) → ∃ c, cl.lookup y = some c
  len : cap.length = caps.length
  cps : ∀ (i : Nat) (y : Str), caps[i]? = some y → ∃ j, cap[i]? = some j ∧ X.N[j]? = some y ∧ X.env.scope.names.lookup y = some .cell ∧ (relabel scope X.env).names.lookup y = some .cell
def capV (cap : List Nat) (σ : St) : St := cap.map fun j => (σ[j]?).getD none
def tCompG (n : Nat) (wi : TI) (cap : List Nat) (g : TG) (tt : TT) (te : TE) : TE := fun σ H Q => wi σ H fun J H1 => ∀ acc, H1 acc = none → ∃ W : Nat → Nat → Hp → Prop, (∃ m, W 0 m (upd H1 acc (.lst []))) ∧ ∀ i m H2, W i m H2 →
  (J.stop i H2 ∧ Q (.ref acc) H2) ∨ (J.go i H2 ∧ ∀ x H3, J.yld i H2 x H3 → ∀ as : St, as.length = n → g x (as ++ capV cap σ) H3 fun σ4 H4 => (∃ bs : St, bs.length = n ∧ σ4 = bs ++ capV cap σ) ∧ tt σ4 H4 fun ok H5 => if ok = true then
    te σ4 H5 (fun y H6 => ∃ ys, H6 acc = some (.lst ys) ∧ ys.length < sizeLine ∧ ∃ m', m' < m ∧ W (i + 1) m' (upd H6 acc (.lst (ys ++ [y]))))
    else ∃ m', m' < m ∧ W (i + 1) m' H5)
theorem compG_core {X : Cx} {elt iter tg : Expr} {xs : List Str} {ifs : List Expr} {scope : Scope} {pos pos' : Pos} {wi : TI} {g : TG} {tt : TT} {te : TE} {cl : List (Str × Addr)} {caps : List Str} {cap : List Nat}
    (O : CompG X xs caps cap scope cl) (hc : X.calm = true) (hi : PI X tg iter wi) (hg : ∀ C fp s₀ H₀, PG (compX X (xs ++ caps) scope cl C fp s₀ H₀) tg g)
    (ht : ∀ C fp s₀ H₀, PF (compX X (xs ++ caps) scope cl C fp s₀ H₀) ifs tt) (he : ∀ C fp s₀ H₀, PE (compX X (xs ++ caps) scope cl C fp s₀ H₀) elt te)
    (hs : ∀ x, foldedSetIterable iter X.env x = pure x) {pins : List (Addr × Obj)} {s : Shared} {σ : St} {H : Hp} {Q : VK} {use : Option (Value → Sem Unit)} {QQ : Value → Shared → Prop} (I : Inv X pins σ H s)
    (h : tCompG xs.length wi cap g tt te σ H Q)
    (hfin : ∀ D C H' s', Inv X pins σ H' s' → OwnAt X pins H' s' C → Q (.ref D) H' → compPost (model X.prog X.w) X.A X.xe use QQ (.ref D) C (.ok .next) s') :
    wpAny (model X.prog X.w) X.A (comprehension (.ListComp elt [⟨tg, iter, ifs, 0⟩] scope pos) scope X.env pos' (newList []) false (eval iter X.env) use) QQ X.xe s := by
  refine wpAny_comprehension_free rfl hs O.clos O.kind O.names (thn (hi pins s σ H _ I h) fun v s1 h1 => thn h1 fun itv s2 h2 => ?_)
  obtain ⟨it, fp, tn, J, H1, e, I2, T, t0, f2, hR⟩ := h2
  subst e
  refine wpAny_newObj_type (wpAny_newFunctionEnv O.cell (by intro y hy; simp at hy) (fun h₁ hns hsb => ?_) O.kind)
  have hacc : H1 s2.heap.objs.size = none := I2.fresh
  obtain ⟨W, ⟨m0, w0⟩, turn⟩ := hR s2.heap.objs.size hacc
  have I3 : Inv X pins σ (upd H1 s2.heap.objs.size (.lst [])) { s2 with heap := s2.heap.push { cls := .type "list", data := .seq ([] : List Value).toArray } } := I2.lnew (t' := s2.toks) (ys := []) (its := []) .nil (Nat.zero_le _)
  generalize hs3 : ({ s2 with heap := s2.heap.push { cls := .type "list", data := .seq ([] : List Value).toArray } } : Shared) = s3 at hns hsb I3 ⊢
  generalize hD : s2.heap.objs.size = D at I3 w0 turn hacc ⊢
  generalize hH3 : upd H1 D (.lst []) = H3 at I3 w0
  have keep3 : ∀ b o, s3.heap.get? b = some o → h₁.get? b = some o := fun b o e => (hsb.2 b (Nat.ne_of_lt (Heap.lt_size e))).trans (Heap.get?_push_of_some _ e)
  have hfp3 : ∀ b ∈ fp, H3 b = none := fun b hb => by
    rw [← hH3, upd_ne]
    · exact (f2 b hb).1
    · intro z
      obtain ⟨o, e, _⟩ := T.obj _ _ t0 b hb
      exact absurd (Heap.lt_size e) (by rw [z, hD]; exact Nat.lt_irrefl _)
  have hCfresh : H3 s3.heap.objs.size = none := I3.fresh
  have hCfp : ∀ b ∈ fp, b ≠ s3.heap.objs.size := fun b hb z => by
    obtain ⟨o, e, _⟩ := T.obj _ _ t0 b hb
    have h2 : s3.heap.objs.size = s2.heap.objs.size + 1 := by rw [← hs3]; exact Heap.size_push ..
    exact absurd (Heap.lt_size e) (by rw [z, h2]; exact Nat.not_lt.mpr (Nat.le_succ _))
  have t3 : tn 0 h₁ := T.keep _ _ _ t0 fun b hb o e => keep3 b o (by rw [← hs3]; exact Heap.get?_push_of_some _ e)
  have ok' : (compX X (xs ++ caps) scope cl s3.heap.objs.size fp s3 H3).Ok := by
    refine ⟨I3.ok.mod, O.kind, I3.ok.glob, I3.ok.blt, Nat.le_refl _, fun y z c e1 e2 => I3.ok.inj y z c (O.from_ y c e1) (O.from_ z c e2), fun y hy => O.has y hy, fun y c z _ => (nomatch z), I3.ok.hd, I3.ok.frames, .inl rfl, fun b hb => ⟨hCfp b hb, fun y c e => ?_⟩, I3.bs, Nat.le_trans I3.ok.bsz I3.sz, fun b o e hb => ?_, fun b hb z => ?_, I3.stack, I3.stkFree⟩
    · exact (f2 b hb).2.2.2.2.1 y c (O.from_ y c e)
    · rcases (f2 b hb).2.2.2.1 with q | q
      · exact I3.ok.noex b o e q
      · exact absurd (Nat.lt_of_lt_of_le (Heap.lt_size e) (Nat.le_trans I3.ok.bsz q)) (Nat.lt_irrefl _)
    · rcases List.mem_cons.mp (I3.stkSub b z) with q | q
      · exact (f2 b hb).2.1 q
      · exact (f2 b hb).2.2.1 q
  have I4 : Inv (compX X (xs ++ caps) scope cl s3.heap.objs.size fp s3 H3) [] (List.replicate xs.length none ++ capV cap σ) H3 { s3 with heap := h₁, toks := s3.toks + ([] : List (Str × Value)).length } := by
    obtain ⟨m, hn, hl⟩ := id I3.loc
    refine ⟨ok', rfl, I3.bare, Un.kept keep3, ⟨_, hns, fun i y v e1 e2 e3 => ?_⟩, fun y c e => ?_, hCfresh, fun y c e => I3.freeC y c (O.from_ y c e), fun p hp => (nomatch hp), I3.hok.kept keep3, ?_⟩
    · by_cases hix : i < xs.length
      · rw [List.getElem?_append_left (by rw [List.length_replicate]; exact hix), List.getElem?_replicate, if_pos hix] at e2
        cases e2
      · have e1' : caps[i - xs.length]? = some y := by
          have e1'' : (xs ++ caps)[i]? = some y := e1
          rwa [List.getElem?_append_right (by omega)] at e1''
        obtain ⟨j, hj, hN, hk, hk'⟩ := O.cps _ y e1'
        have e2' : (σ[j]?).getD none = some v := by
          rw [List.getElem?_append_right (by rw [List.length_replicate]; omega), List.length_replicate] at e2
          unfold capV at e2
          simpa [hj] using e2
        have e2'' : σ[j]? = some (some v) := by
          cases q : σ[j]? with
          | none => rw [q] at e2'; cases e2'
          | some a => rw [q] at e2'; exact congrArg some e2'
        obtain ⟨u, r, l⟩ := hl j y v hN e2'' (.inr (.inl hk))
        refine ⟨u, r, ?_⟩
        rcases l with ⟨k, _⟩ | ⟨k, c, e, z⟩
        · have k' : X.env.scope.names.lookup y = some .local := k
          rw [hk] at k'; cases k'
        · obtain ⟨c', hc'⟩ := O.has y (.inl hk')
          have : c' = c := Option.some.inj ((O.from_ y c' hc').symm.trans e)
          subst this
          refine .inr ⟨.inl hk', c', hc', ?_⟩
          obtain ⟨o, ho, hd⟩ := z
          exact ⟨o, keep3 _ _ ho, hd⟩
    · obtain ⟨v, o, ho, hd⟩ := I3.cell y c (O.from_ y c e)
      exact ⟨v, o, keep3 _ _ ho, hd⟩
    · show (List.replicate xs.length none ++ capV cap σ).length = (xs ++ caps).length
      simp [capV, O.len]
  have fin : ∀ (H' : Hp) (σ' : St) (s' : Shared), Inv (compX X (xs ++ caps) scope cl s3.heap.objs.size fp s3 H3) [] σ' H' s' → Q (.ref D) H' →
      compPost (model X.prog X.w) X.A X.xe use QQ (.ref D) s3.heap.objs.size (.ok .next) s' := fun H' σ' s' I' q => by
    obtain ⟨m, hn, _⟩ := id I'.loc
    have hU : Un (frs X.stack) fp H3 H' s3.heap s'.heap := I'.base
    have hok2 : HOk X.prog X.w H' s'.heap := I'.hok
    have os' : s'.os = s3.os := I'.os
    have I6 : Inv X pins σ H' s' := I3.call' (ch := fp) os' hU hok2 I'.bare (fun b hb => ⟨(f2 b hb).2.2.2.1, (f2 b hb).2.1, (f2 b hb).2.2.2.2⟩)
    refine hfin D _ H' s' I6 ⟨⟨m, hn⟩, I'.free, Nat.ne_of_gt I3.lt, I3.sz, fun y c e z => ?_, fun p hp z => ?_⟩ q
    · obtain ⟨v, hv⟩ := I3.cell y c e
      exact absurd hv.lt (by rw [z]; exact Nat.lt_irrefl _)
    · exact absurd (Heap.lt_size (I3.pin p hp).1) (by rw [z]; exact Nat.lt_irrefl _)
  have stat : ∀ {H' : Hp}, (∀ b ∈ fp, H' b = none) → ∀ b ∈ fp, FpOk (compX X (xs ++ caps) scope cl s3.heap.objs.size fp s3 H3) [] H' b := fun hn b hb =>
    ⟨hn b hb, hCfp b hb, ok'.exfs b hb, .inl hb, fun y c e => (f2 b hb).2.2.2.2.1 y c (O.from_ y c e), fun p hp => (nomatch hp)⟩
  have loop : codeAny (model X.prog X.w) X.A (.compLoop (.ListComp elt [⟨tg, iter, ifs, 0⟩] scope pos) 0 (.ref it) (.ref D) (compEnvC scope cl s3.heap.objs.size X.env))
      (compPost (model X.prog X.w) X.A X.xe use QQ (.ref D) s3.heap.objs.size) { s3 with heap := h₁, toks := s3.toks + ([] : List (Str × Value)).length } := by
    refine codeAny_loop rfl (fun n s' => ∃ i as H', as.length = xs.length ∧ Inv (compX X (xs ++ caps) scope cl s3.heap.objs.size fp s3 H3) [] (as ++ capV cap σ) H' s' ∧ tn i s'.heap ∧ (∀ b ∈ fp, H' b = none) ∧ W i n H') ?_ m0 ⟨0, _, H3, List.length_replicate, I4, t3, hfp3, w0⟩
    rintro n s5 ⟨i, as, H5, has, I5, st5, fr5, w5⟩
    show wpAny _ _ ((compTurn (.ListComp elt [⟨tg, iter, ifs, 0⟩] scope pos) 0 (.ref it) (.ref D) (compEnvC scope cl s3.heap.objs.size X.env)).onRaise (fun x => do noteFrame x (compEnvC scope cl s3.heap.objs.size X.env); theTreesLotGoes x)) _ _ s5
    refine wpAny_noted ?_
    rw [compTurn_list]
    refine wpAny_bind (wpAny_standAt (wpAny_bind ?_))
    have bad : ∀ {M : Model} {A : Around} {α : Type} {t : Sem α} {P : α → Shared → Prop} {E' : Value → Shared → Prop} {s' : Shared}, wpAny M A t P (fun _ _ => False) s' → wpAny M A t P E' s' := fun h => wpAny_mono h (fun _ _ q => q) fun _ _ z => z.elim
    rcases turn i n H5 w5 with ⟨stop, qn⟩ | ⟨go, step⟩
    · refine bad (thn (T.done (compX X (xs ++ caps) scope cl s3.heap.objs.size fp s3 H3) rfl rfl rfl hc i [] s5 _ H5 (fun _ _ => False) I5 (stat fr5) st5 stop) fun r s6 ⟨hr, I6⟩ => ?_)
      subst hr
      exact wpAny_pure (fin H5 _ s6 I6 qn)
    · refine bad (thn (T.item (compX X (xs ++ caps) scope cl s3.heap.objs.size fp s3 H3) rfl rfl rfl hc i [] s5 _ H5 (fun _ _ => False) I5 (stat fr5) st5 go) fun r s6 ⟨u, hr, h6⟩ => ?_)
      subst hr
      refine wpAny_bind (bad (thn h6 fun _ s7 ⟨y, H7, I7, r7, y7, st7, fr7⟩ => ?_))
      have I7' := I7.pinned (stat fr7) (T.obj _ _ st7)
      have goal := step y H7 y7 as has
      refine wpAny_bind (bad (thn (hg s3.heap.objs.size fp s3 H3 _ s7 _ H7 y _ _ I7' r7 goal) fun _ s8 ⟨σ8, H8, I8, ⟨bs, hbs, eσ⟩, goal8⟩ => ?_))
      subst eσ
      refine wpAny_bind (bad (thn (ht s3.heap.objs.size fp s3 H3 _ s8 _ H8 _ I8 goal8) fun okb s9 ⟨H9, I9, q9⟩ => ?_))
      have again : ∀ {H10 : Hp} {s10 : Shared} {m' : Nat}, Inv (compX X (xs ++ caps) scope cl s3.heap.objs.size fp s3 H3) ([] ++ pinsAt fp s7.heap) (bs ++ capV cap σ) H10 s10 → m' < n → W (i + 1) m' H10 →
          ∃ m, m < n ∧ ∃ i as H', as.length = xs.length ∧ Inv (compX X (xs ++ caps) scope cl s3.heap.objs.size fp s3 H3) [] (as ++ capV cap σ) H' s10 ∧ tn i s10.heap ∧ (∀ b ∈ fp, H' b = none) ∧ W i m H' := fun {H10 s10 m'} I10 hm w10 => by
        refine ⟨m', hm, i + 1, bs, H10, hbs, I10.unpinned, T.keep _ _ _ st7 fun b hb o e => (I10.pin (b, o) (List.mem_append_right _ (List.mem_append_right _ (mem_pinsAt hb e)))).1, fun b hb => ?_, w10⟩
        obtain ⟨o, e, d⟩ := T.obj _ _ st7 b hb
        exact (I10.pin (b, o) (List.mem_append_right _ (List.mem_append_right _ (mem_pinsAt hb e)))).2.1
      cases okb with
      | false =>
        rw [if_neg Bool.false_ne_true] at q9
        obtain ⟨m', hm, w9⟩ := q9
        exact wpAny_pure ⟨rfl, again I9 hm w9⟩
      | true =>
        rw [if_pos rfl] at q9
        refine wpAny_bind (wpAny_bind (bad (thn (he s3.heap.objs.size fp s3 H3 _ s9 _ H9 _ I9 q9) fun yv s10 ⟨yy, H10, I10, r10, ys, hys, hlen, m', hm, w10⟩ => ?_)))
        refine wpAny_bind (bad (thn (mt_append (X := compX X (xs ++ caps) scope cl s3.heap.objs.size fp s3 H3) _ s10 _ H10 (.ref D) [yy] (.ref D) [yv] (fun _ H11 => W (i + 1) m' H11) I10 rfl (.cons r10 .nil) ⟨D, ys, yy, rfl, rfl, hys, hlen, w10⟩) fun _ s11 ⟨_, H11, I11, _, q11⟩ => ?_))
        exact wpAny_pure (wpAny_pure ⟨rfl, again I11 hm q11⟩)
  refine codeAny_compStart_list loop (T.self _ 0 _ _ _ t3 loop)
theorem pe_lcompG {X : Cx} {elt iter tg : Expr} {xs : List Str} {ifs : List Expr} {scope : Scope} {pos : Pos} {wi : TI} {g : TG} {tt : TT} {te : TE} {cl : List (Str × Addr)} {caps : List Str} {cap : List Nat}
    (O : CompG X xs caps cap scope cl) (hc : X.calm = true) (hi : PI X tg iter wi) (hg : ∀ C fp s₀ H₀, PG (compX X (xs ++ caps) scope cl C fp s₀ H₀) tg g)
    (ht : ∀ C fp s₀ H₀, PF (compX X (xs ++ caps) scope cl C fp s₀ H₀) ifs tt) (he : ∀ C fp s₀ H₀, PE (compX X (xs ++ caps) scope cl C fp s₀ H₀) elt te)
    (hs : ∀ x, foldedSetIterable iter X.env x = pure x := by intro _; rfl) :
    PE X (.ListComp elt [⟨tg, iter, ifs, 0⟩] scope pos) (tCompG xs.length wi cap g tt te) := by
  intro pins s σ H Q I h
  rw [eval_ListComp]
  exact compG_core (use := none) O hc hi hg ht he hs I h fun D C H' s' I' o q => by
    obtain ⟨m, hn⟩ := o.ns
    exact ⟨m, hn, fun h' hb => ⟨.ref D, H', o.go I' hb, rfl, q⟩⟩
theorem ps_setG {X : Cx} {elt iter tg : Expr} {xs : List Str} {y : Str} {py : Pos} {ifs : List Expr} {scope : Scope} {pos spos : Pos} {wi : TI} {g : TG} {tt : TT} {te : TE} {cl : List (Str × Addr)} {caps : List Str} {cap : List Nat} {i : Nat}
    (O : CompG X xs caps cap scope cl) (hc : X.calm = true) (hi : PI X tg iter wi) (hg : ∀ C fp s₀ H₀, PG (compX X (xs ++ caps) scope cl C fp s₀ H₀) tg g)
    (ht : ∀ C fp s₀ H₀, PF (compX X (xs ++ caps) scope cl C fp s₀ H₀) ifs tt) (he : ∀ C fp s₀ H₀, PE (compX X (xs ++ caps) scope cl C fp s₀ H₀) elt te)
    (hN : X.N.Nodup) (hy : X.N[i]? = some y) (hl : X.env.scope.names.lookup y = some .local)
    (hsw : swapsWith (.ListComp elt [⟨tg, iter, ifs, 0⟩] scope pos) (some (.Name y py)) spos.line X.env = pure true := by rfl)
    (hs : ∀ x, foldedSetIterable iter X.env x = pure x := by intro _; rfl) :
    PS X (.Assign [.Name y py] (.ListComp elt [⟨tg, iter, ifs, 0⟩] scope pos) spos) (tAsg (tCompG xs.length wi cap g tt te) (gName i)) := by
  intro pins s σ H D I h
  rw [exec_Assign_Name_used _ _ _ _ hsw]
  refine wpAny_bind (wpAny_standAt (wpAny_bind ?_))
  show wpAny _ X.A (do let _ ← comprehension (.ListComp elt [⟨tg, iter, ifs, 0⟩] scope pos) scope X.env _ (newList []) false (eval iter X.env) (some (assign (.Name y py) X.env))) _ _ s
  refine wpAny_bind (thn (compG_core (use := some (assign (.Name y py) X.env)) (QQ := fun _ s' => SP X pins D .next s') O hc hi hg ht he hs I h fun Dd C H' s' I' o q => ?_) fun _ s' hq => wpAny_pure (wpAny_pure hq))
  obtain ⟨m, hn⟩ := o.ns
  show wpAny _ X.A (assign (.Name y py) X.env (.ref Dd)) _ _ s'
  refine wpAny_assign_Name (store_ok2 (v := .ref Dd) I' hN hy (.inl hl) rfl (fun s2 I2 sb => ?_) (.inr hl))
  obtain ⟨a, sb, ha⟩ := sb
  have hCa : C ≠ a := by
    rcases ha with z | z
    · rw [z]; exact o.loc
    · exact Ne.symm (o.cells y a z)
  have o2 : OwnAt X pins H' s2 C := ⟨⟨m, hn.sameBut sb hCa⟩, o.free, o.loc, o.above, o.cells, o.pins⟩
  refine ⟨m, hn.sameBut sb hCa, fun h' hb => ?_⟩
  exact ⟨_, H', o2.go I2 hb, q⟩
section
variable {X : Cx} {xs caps : List Str} {cap : List Nat} {scope : Scope} {cl : List (Str × Addr)}
theorem pg_c1 {x : Str} {px : Pos} (O : CompG X [x] caps cap scope cl) : ∀ C fp s₀ H₀, PG (compX X ([x] ++ caps) scope cl C fp s₀ H₀) (.Name x px) (gName 0) := fun C fp s₀ H₀ =>
  pg_name (X := compX X ([x] ++ caps) scope cl C fp s₀ H₀) (i := 0) O.nd rfl (.inl (lookup_relabel_local (O.lx x (by simp)))) (.inr (lookup_relabel_local (O.lx x (by simp))))
theorem pg_c2 {x y : Str} {px py pos : Pos} {k : Nat} (O : CompG X [x, y] caps cap scope cl) (hc : X.calm = true) : ∀ C fp s₀ H₀, PG (compX X ([x, y] ++ caps) scope cl C fp s₀ H₀) (.Tuple [.Name x px, .Name y py] k pos) (gTup X.K 2 (gCons (gName 0) (gCons (gName 1) gNil))) := fun C fp s₀ H₀ =>
  pg_tup (X := compX X ([x, y] ++ caps) scope cl C fp s₀ H₀) hc (pgs_cons (pg_name (i := 0) O.nd rfl (.inl (lookup_relabel_local (O.lx x (by simp)))) (.inr (lookup_relabel_local (O.lx x (by simp)))))
    (pgs_cons (pg_name (i := 1) O.nd rfl (.inl (lookup_relabel_local (O.lx y (by simp)))) (.inr (lookup_relabel_local (O.lx y (by simp))))) pgs_nil))
end
theorem lookup_in {k : NameKind} {y : Str} : ∀ {l : List (Str × NameKind)}, l.lookup y = some k → (y, k) ∈ l
  | [], h => by simp at h
  | (n, j) :: r, h => by
    cases hx : y == n with
    | true =>
      simp only [List.lookup_cons, hx] at h
      have : y = n := by simpa using hx
      cases h
      rw [this]; exact List.mem_cons_self
    | false =>
      simp only [List.lookup_cons, hx] at h
      exact List.mem_cons_of_mem _ (lookup_in h)
theorem lookupA_in {y : Str} {c : Addr} : ∀ {l : List (Str × Addr)}, l.lookup y = some c → (y, c) ∈ l
  | [], h => by simp at h
  | (n, j) :: r, h => by
    cases hx : y == n with
    | true =>
      simp only [List.lookup_cons, hx] at h
      have : y = n := by simpa using hx
      cases h
      rw [this]; exact List.mem_cons_self
    | false =>
      simp only [List.lookup_cons, hx] at h
      exact List.mem_cons_of_mem _ (lookupA_in h)
theorem in_lookupA {y : Str} {c : Addr} : ∀ {l : List (Str × Addr)}, (y, c) ∈ l → ∃ c', l.lookup y = some c'
  | [], h => by cases h
  | (n, j) :: r, h => by
    cases hx : y == n with
    | true => exact ⟨j, by simp only [List.lookup_cons, hx]⟩
    | false =>
      simp only [List.lookup_cons, hx]
      rcases List.mem_cons.mp h with z | z
      · have : y = n := congrArg Prod.fst z
        rw [this] at hx
        simp at hx
      · exact in_lookupA z
theorem relabel_free {env : Env} {y : Str} (hf : env.scope.kind = .function) (hy : env.kindOf y = some .cell) : ∀ {names : List (Str × NameKind)}, names.lookup y = some .free →
    (names.map fun (n, k) => if (k == NameKind.free && env.scope.kind == .function && env.kindOf n == some .cell) then (n, NameKind.cell) else (n, k)).lookup y = some .cell
  | [], h => by simp at h
  | (n, k) :: r, h => by
    show List.lookup y ((if (k == NameKind.free && env.scope.kind == .function && env.kindOf n == some .cell) = true then (n, NameKind.cell) else (n, k)) :: _) = _
    cases hx : y == n with
    | true =>
      simp only [List.lookup_cons, hx] at h
      have e : y = n := by simpa using hx
      cases h
      rw [← e, hf, hy]
      simp
    | false =>
      simp only [List.lookup_cons, hx] at h
      have ih := relabel_free hf hy h
      split
      · simp only [List.lookup_cons, hx]; exact ih
      · simp only [List.lookup_cons, hx]; exact ih
def frees (names : List (Str × NameKind)) : List Str := names.filterMap fun z => if z.2 == NameKind.free then some z.1 else none
theorem closure_go {env : Env} : ∀ (names : List (Str × NameKind)) (caps : List Str) (cs : List Addr) (acc : List (Str × Addr)), frees names = caps → caps.map (fun y => env.cells.lookup y) = cs.map some →
    (forIn names acc fun (x : Str × NameKind) (r : List (Str × Addr)) => (if (x.2 == NameKind.free) = true then do let a ← cellOf env x.1; pure (ForInStep.yield ((x.1, a) :: r)) else pure (ForInStep.yield r) : Sem (ForInStep (List (Str × Addr))))) = (pure ((caps.zip cs).reverse ++ acc) : Sem (List (Str × Addr)))
  | [], caps, cs, acc, h1, h2 => by
    have : caps = [] := h1.symm
    subst this
    simp
  | (n, k) :: r, caps, cs, acc, h1, h2 => by
    rw [List.forIn_cons]
    by_cases hk : (k == NameKind.free) = true
    · have e1 : caps = n :: frees r := by
        rw [← h1]; unfold frees
        rw [List.filterMap_cons]
        simp only [hk, if_true]
      subst e1
      cases cs with
      | nil => simp at h2
      | cons c cs =>
        simp only [List.map_cons, List.cons.injEq] at h2
        have hcell : cellOf env n = pure c := by unfold cellOf; rw [h2.1]
        simp only [hk, if_true, hcell, pure_bind]
        rw [closure_go r _ cs ((n, c) :: acc) rfl h2.2]
        simp
    · have e1 : caps = frees r := by
        rw [← h1]; unfold frees
        rw [List.filterMap_cons]
        simp only [hk]
        rfl
      subst e1
      simp only [hk, if_false, pure_bind]
      exact closure_go r _ cs acc rfl h2
theorem closureFor_many {env : Env} {scope : Scope} {caps : List Str} {cs : List Addr} (hf : frees scope.names = caps) (hc : caps.map (fun y => env.cells.lookup y) = cs.map some) : closureFor scope env = pure (caps.zip cs).reverse := by
  have h := closure_go (env := env) scope.names caps cs [] hf hc
  rw [List.append_nil] at h
  unfold closureFor
  simp only [bind_pure]
  exact h
theorem CompG.many {X : Cx} {xs caps : List Str} {cap : List Nat} {cs : List Addr} {scope : Scope} (hk : scope.kind = .function) (hf : X.env.scope.kind = .function) (hfr : frees scope.names = caps)
    (hnc : ∀ z ∈ scope.names, z.2 ≠ .cell) (hl : ∀ y ∈ scope.names, y.2 = .local → scope.names.lookup y.1 = some .local) (hlx : ∀ x ∈ xs, scope.names.lookup x = some .local) (hnd : (xs ++ caps).Nodup)
    (hfl : ∀ y ∈ caps, scope.names.lookup y = some .free) (hce : caps.map (fun y => X.env.scope.names.lookup y) = caps.map fun _ => some .cell) (hcs : caps.map (fun y => X.env.cells.lookup y) = cs.map some)
    (hN : cap.map (fun j => X.N[j]?) = caps.map some) : CompG X xs caps cap scope (caps.zip cs).reverse := by
  have hlen : caps.length = cs.length := by simpa using congrArg List.length hcs
  have at_cs : ∀ (i : Nat) (y : Str), caps[i]? = some y → ∃ c, cs[i]? = some c ∧ X.env.cells.lookup y = some c := fun i y h => by
    have e := congrArg (fun l => l[i]?) hcs
    simp only [List.getElem?_map, h] at e
    cases q : cs[i]? with
    | none => rw [q] at e; simp at e
    | some c => rw [q] at e; exact ⟨c, rfl, by simpa using e⟩
  refine ⟨closureFor_many hfr hcs, hnc, hk, hl, hlx, hnd, fun y c h => ?_, fun y h => ?_, ?_, fun i y h => ?_⟩
  · have hm := lookupA_in h
    rw [List.mem_reverse] at hm
    obtain ⟨i, hi, e⟩ := List.getElem_of_mem hm
    have hi1 : i < caps.length := by rw [List.length_zip] at hi; omega
    have hi2 : i < cs.length := by rw [List.length_zip] at hi; omega
    rw [List.getElem_zip] at e
    obtain ⟨c', e1, e2⟩ := at_cs i caps[i] (List.getElem?_eq_getElem hi1)
    have e3 : caps[i] = y := congrArg Prod.fst e
    have e4 : cs[i] = c := congrArg Prod.snd e
    rw [List.getElem?_eq_getElem hi2, e4] at e1
    cases e1
    rw [← e3]; exact e2
  · have hm : y ∈ caps := by
      have aux : ∀ k : NameKind, (k = .cell ∨ k = .free) → (relabel scope X.env).names.lookup y = some k → y ∈ caps := fun k hk h => by
        have h1 := lookup_in h
        obtain ⟨z, hz, e⟩ := List.mem_map.mp h1
        obtain ⟨n, kk⟩ := z
        have hfree : kk = .free ∧ n = y := by
          dsimp only at e
          split at e
          · rename_i q
            simp only [Bool.and_eq_true] at q
            exact ⟨by simpa using q.1.1, congrArg Prod.fst e⟩
          · have e2 : kk = k := congrArg Prod.snd e
            refine ⟨?_, congrArg Prod.fst e⟩
            rcases hk with z | z
            · exact absurd (e2.trans z) (hnc _ hz)
            · exact e2.trans z
        rw [← hfr]
        refine List.mem_filterMap.mpr ⟨(n, kk), hz, ?_⟩
        rw [hfree.1, hfree.2]; rfl
      rcases h with h | h
      · exact aux _ (.inl rfl) h
      · exact aux _ (.inr rfl) h
    obtain ⟨i, hi, e⟩ := List.getElem_of_mem hm
    have hi2 : i < cs.length := by omega
    refine in_lookupA (c := cs[i]) ?_
    rw [List.mem_reverse]
    have hiz : i < (caps.zip cs).length := by rw [List.length_zip]; omega
    have := List.getElem_mem hiz
    rw [List.getElem_zip, e] at this
    exact this
  · have := congrArg List.length hN
    simpa using this
  · have e := congrArg (fun l => l[i]?) hN
    simp only [List.getElem?_map, h] at e
    have hm := List.mem_of_getElem? h
    cases q : cap[i]? with
    | none => rw [q] at e; simp at e
    | some j =>
      rw [q] at e
      have hcell : X.env.scope.names.lookup y = some .cell := by
        have e2 := congrArg (fun l => l[i]?) hce
        simpa only [List.getElem?_map, h, Option.map_some, Option.some.injEq] using e2
      exact ⟨j, rfl, by simpa using e, hcell, relabel_free hf hcell (hfl y hm)⟩
theorem compG_drive {J : It} {n N : Nat} {cs : St} {g : TG} {tt : TT} {te : TE} {H1 : Hp} {acc : Addr} {Q : Hp → Prop} (Pv : Nat → List V → Hp → Prop) (h0 : Pv 0 [] (upd H1 acc (.lst [])))
    (hstop : ∀ ys H, Pv N ys H → J.stop N H ∧ Q H)
    (hstep : ∀ i ys H, i < N → Pv i ys H → J.go i H ∧ ∀ x H3, J.yld i H x H3 → ∀ as : St, as.length = n → g x (as ++ cs) H3 fun σ4 H4 => (∃ bs : St, bs.length = n ∧ σ4 = bs ++ cs) ∧ tt σ4 H4 fun ok H5 => if ok = true then te σ4 H5 (compN N Pv acc i (N - i)) else ∃ m', m' < N - i ∧ compW N Pv (i + 1) m' H5) :
    ∃ W : Nat → Nat → Hp → Prop, (∃ m, W 0 m (upd H1 acc (.lst []))) ∧ ∀ i m H2, W i m H2 →
      (J.stop i H2 ∧ Q H2) ∨ (J.go i H2 ∧ ∀ x H3, J.yld i H2 x H3 → ∀ as : St, as.length = n → g x (as ++ cs) H3 fun σ4 H4 => (∃ bs : St, bs.length = n ∧ σ4 = bs ++ cs) ∧ tt σ4 H4 fun ok H5 => if ok = true then
        te σ4 H5 (fun y H6 => ∃ ys, H6 acc = some (.lst ys) ∧ ys.length < sizeLine ∧ ∃ m', m' < m ∧ W (i + 1) m' (upd H6 acc (.lst (ys ++ [y]))))
        else ∃ m', m' < m ∧ W (i + 1) m' H5) := by
  refine ⟨compW N Pv, ⟨N - 0, rfl, Nat.zero_le _, [], h0⟩, ?_⟩
  rintro i m H2 ⟨rfl, hi, ys, p⟩
  by_cases h : i < N
  · exact .inr (hstep i ys H2 h p)
  · have e : i = N := by omega
    subst e
    exact .inl (hstop ys H2 p)
abbrev CKon (N : Nat) (Pv : Nat → List V → Hp → Prop) (acc : Addr) (i : Nat) (te : TE) (σ : St) : Bool → Hp → Prop := fun ok H5 => if ok = true then te σ H5 (compN N Pv acc i (N - i)) else ∃ m', m' < N - i ∧ compW N Pv (i + 1) m' H5
abbrev CGoal (J : It) (n : Nat) (cs : St) (g : TG) (tt : TT) (te : TE) (H1 : Hp) (acc : Addr) (Q : Hp → Prop) : Prop :=
  ∃ W : Nat → Nat → Hp → Prop, (∃ m, W 0 m (upd H1 acc (.lst []))) ∧ ∀ i m H2, W i m H2 →
      (J.stop i H2 ∧ Q H2) ∨ (J.go i H2 ∧ ∀ x H3, J.yld i H2 x H3 → ∀ as : St, as.length = n → g x (as ++ cs) H3 fun σ4 H4 => (∃ bs : St, bs.length = n ∧ σ4 = bs ++ cs) ∧ tt σ4 H4 fun ok H5 => if ok = true then
        te σ4 H5 (fun y H6 => ∃ ys, H6 acc = some (.lst ys) ∧ ys.length < sizeLine ∧ ∃ m', m' < m ∧ W (i + 1) m' (upd H6 acc (.lst (ys ++ [y]))))
        else ∃ m', m' < m ∧ W (i + 1) m' H5)
section
variable {K : PySem.W.Frag} {a b acc : Addr} {xs zs : List V} {tt : TT} {te : TE} {cs : St} {H1 : Hp} {Q : Hp → Prop}
theorem c1_list (Pv : Nat → List V → Hp → Prop) (h0 : Pv 0 [] (upd H1 acc (.lst []))) (hl : ∀ i ys H, i ≤ xs.length → Pv i ys H → SqL K H a xs)
    (hs : ∀ i x ys H, i < xs.length → xs[i]? = some x → Pv i ys H → tt (some x :: cs) H (CKon xs.length Pv acc i te (some x :: cs))) (hd : ∀ ys H, Pv xs.length ys H → Q H) : CGoal (Itl K a) 1 cs (gName 0) tt te H1 acc Q := by
  refine compG_drive Pv h0 (fun ys H p => ⟨⟨xs, hl _ _ _ (Nat.le_refl _) p, Nat.le_refl _⟩, hd ys H p⟩) fun i ys H hi p => ⟨⟨xs, xs[i], hl _ _ _ (Nat.le_of_lt hi) p, List.getElem?_eq_getElem hi⟩, ?_⟩
  rintro x H3 ⟨rfl, hx⟩ as has
  obtain ⟨a0, rfl⟩ : ∃ a0, as = [a0] := List.length_eq_one_iff.mp has
  exact ⟨⟨[some x], rfl, rfl⟩, hs i x ys _ hi (hx xs (hl _ _ _ (Nat.le_of_lt hi) p)) p⟩
theorem c1_range {lo : Int} {n : Nat} (Pv : Nat → List V → Hp → Prop) (h0 : Pv 0 [] (upd H1 acc (.lst [])))
    (hs : ∀ i ys H, i < n → Pv i ys H → tt (some (.int (lo + i)) :: cs) H (CKon n Pv acc i te (some (.int (lo + i)) :: cs))) (hd : ∀ ys H, Pv n ys H → Q H) : CGoal (Itr lo n) 1 cs (gName 0) tt te H1 acc Q := by
  refine compG_drive Pv h0 (fun ys H p => ⟨Nat.le_refl _, hd ys H p⟩) fun i ys H hi p => ⟨hi, ?_⟩
  rintro x H3 ⟨rfl, rfl⟩ as has
  obtain ⟨a0, rfl⟩ : ∃ a0, as = [a0] := List.length_eq_one_iff.mp has
  exact ⟨⟨[some _], rfl, rfl⟩, hs i ys _ hi p⟩
theorem len_two {as : St} (h : as.length = 2) : ∃ a0 a1, as = [a0, a1] := by
  match as, h with
  | [a0, a1], _ => exact ⟨a0, a1, rfl⟩
theorem c2_list (Pv : Nat → List V → Hp → Prop) (h0 : Pv 0 [] (upd H1 acc (.lst []))) (hl : ∀ i ys H, i ≤ xs.length → Pv i ys H → SqL K H a xs)
    (hs : ∀ i x ys H, i < xs.length → xs[i]? = some x → Pv i ys H → ∃ p u v, x = .ref p ∧ SqT K H p [u, v] ∧ tt (some u :: some v :: cs) H (CKon xs.length Pv acc i te (some u :: some v :: cs))) (hd : ∀ ys H, Pv xs.length ys H → Q H) : CGoal (Itl K a) 2 cs (gTup K 2 (gCons (gName 0) (gCons (gName 1) gNil))) tt te H1 acc Q := by
  refine compG_drive Pv h0 (fun ys H p => ⟨⟨xs, hl _ _ _ (Nat.le_refl _) p, Nat.le_refl _⟩, hd ys H p⟩) fun i ys H hi p => ⟨⟨xs, xs[i], hl _ _ _ (Nat.le_of_lt hi) p, List.getElem?_eq_getElem hi⟩, ?_⟩
  rintro x H3 ⟨rfl, hx⟩ as has
  obtain ⟨a0, a1, rfl⟩ := len_two has
  obtain ⟨q, u, v, rfl, hq, h⟩ := hs i x ys _ hi (hx xs (hl _ _ _ (Nat.le_of_lt hi) p)) p
  exact ⟨q, [u, v], rfl, hq, rfl, u, [v], rfl, v, [], rfl, rfl, ⟨[some u, some v], rfl, rfl⟩, h⟩
end
end L2
namespace L2
open PySem PySem.Spec PyProof.Rows
section
variable {prog : Program} {w : World} {A : Around} {E : Value → Shared → Prop} {s : Shared}
end
section
variable {X : Cx} {elts : List Expr} {k1 : Nat} {tpos : Pos}
end
end L2
namespace K9
open PySem L2 TM
mutual
def td : Tree Str → PyData
  | .node n m bs => .tuple [.str n, .int m, .tuple (tds bs)]
def tds : List (Tree Str) → List PyData
  | [] => []
  | t :: r => td t :: tds r
end
abbrev KdT := Addr × Str × Addr × List PNx
def RowAt (K : PySem.W.Frag) (H : Hp) (t : PNx) : Prop := SqT K H t.1 [.str t.2.1, .ref t.2.2.1] ∧ SqT K H t.2.2.1 (t.2.2.2.map V.str)
def RowsL (K : PySem.W.Frag) (H : Hp) (lr : Addr) (rs : List PNx) : Prop := SqL K H lr (rs.map fun t => V.ref t.1) ∧ ∀ t ∈ rs, RowAt K H t
def WoodAt (K : PySem.W.Frag) (H : Hp) (w : Addr) (ks : List KdT) : Prop := SqL K H w (ks.map fun k => V.ref k.1) ∧ ∀ k ∈ ks, SqT K H k.1 [.str k.2.1, .ref k.2.2.1] ∧ RowsL K H k.2.2.1 k.2.2.2
theorem RowAt.same {K : PySem.W.Frag} {H H' : Hp} {t : PNx} (g : Same H H') (h : RowAt K H t) : RowAt K H' t := ⟨g.seqT h.1, g.seqT h.2⟩
theorem RowsL.same {K : PySem.W.Frag} {H H' : Hp} {lr : Addr} {rs : List PNx} (g : Same H H') (h : RowsL K H lr rs) : RowsL K H' lr rs := ⟨g.seq h.1, fun t ht => (h.2 t ht).same g⟩
theorem WoodAt.same {K : PySem.W.Frag} {H H' : Hp} {w : Addr} {ks : List KdT} (g : Same H H') (h : WoodAt K H w ks) : WoodAt K H' w ks := ⟨g.seq h.1, fun k hk => ⟨g.seqT (h.2 k hk).1, (h.2 k hk).2.same g⟩⟩
structure RowsOk (rs : List PNx) : Prop where
  nd : (rs.map fun t => t.2.1).Nodup
  len : rs.length ≤ 10
  nm : ∀ r ∈ rs, PyData.strOk r.2.1 = true
  kn : ∀ r ∈ rs, ∀ x ∈ r.2.2.2, PyData.strOk x = true
  kl : ∀ r ∈ rs, r.2.2.2.length ≤ 4
end K9
namespace L2
open PySem
theorem ClAt.one {base : Heap} {x1 : Str} {c1 : Addr} {v1 : V} {u1 : Value} (h1 : base.IsCell c1 (some u1)) (r1 : RelV v1 u1) : ClAt base [x1] [(x1, c1)] [v1] := by
  have l1 : List.lookup x1 [(x1, c1)] = some c1 := by simp [List.lookup]
  have any : ∀ x c, List.lookup x [(x1, c1)] = some c → x = x1 ∧ c = c1 := fun x c h => by
    by_cases e1 : x = x1
    · subst e1; rw [l1] at h; exact ⟨rfl, (Option.some.inj h).symm⟩
    · have b : (x == x1) = false := by simpa using e1
      simp [List.lookup, b] at h
  refine ⟨rfl, fun i x v e1 e2 => ?_, fun x c h => ?_, fun x y c a b => ?_⟩
  · match i, e1, e2 with
    | 0, e1, e2 => cases e1; cases e2; exact ⟨c1, u1, l1, h1, r1⟩
    | i + 1, e1, e2 => cases e1
  · obtain ⟨_, rfl⟩ := any x c h
    exact ⟨_, h1⟩
  · rw [(any x c a).1, (any y c b).1]
end L2
namespace K8
open PySem L2 K3 TM
structure Nm (w : List Nat) : Prop where
  ne : w ≠ []
  len : w.length ≤ 8
  all : ∀ c ∈ w, c ∈ letL
def SXs (Ts : List Addr) (r : Addr) (H H' : Hp) : Prop := ∀ b u, b ∉ Ts → b ≠ r → H b = some u → H' b = some u
theorem SXs.refl (Ts : List Addr) (r : Addr) (H : Hp) : SXs Ts r H H := fun _ _ _ _ e => e
theorem SXs.of {Ts : List Addr} {r : Addr} {H H' : Hp} (g : Same H H') : SXs Ts r H H' := fun b u _ _ e => g b u e
theorem SXs.ofT {Ts : List Addr} {T r : Addr} {H H' : Hp} (hT : T ∈ Ts) (g : SameX T H H') : SXs Ts r H H' := fun b u n _ e => g b u (fun z => n (z ▸ hT)) e
theorem SXs.ofR {Ts : List Addr} {r : Addr} {H H' : Hp} (g : SameX r H H') : SXs Ts r H H' := fun b u _ n e => g b u n e
theorem SXs.trans {Ts : List Addr} {r : Addr} {H H1 H2 : Hp} (a : SXs Ts r H H1) (b : SXs Ts r H1 H2) : SXs Ts r H H2 := fun c u n m e => b c u n m (a c u n m e)
structure TRs (C : Addr) (Ts : List Addr) (r : Addr) (H : Hp) : Prop where
  tb : ∀ T ∈ Ts, ∃ ps, H T = some (.tbl ps)
  ins : ∃ dx fs, H r = some (.ins C dx fs)
section
variable {C r : Addr} {Ts : List Addr} {H H' : Hp} {K : PySem.W.Frag}
theorem TRs.ne {b : Addr} {u : HO} (h : TRs C Ts r H) (e : H b = some u) (n1 : ∀ ps, u ≠ .tbl ps) (n2 : ∀ C dx fs, u ≠ .ins C dx fs) : b ∉ Ts ∧ b ≠ r := by
  obtain ⟨dx, fs, hr⟩ := h.ins
  refine ⟨fun z => ?_, fun z => by rw [z, hr] at e; exact n2 C dx fs (Option.some.inj e).symm⟩
  obtain ⟨ps, hT⟩ := h.tb b z
  rw [hT] at e; exact n1 ps (Option.some.inj e).symm
theorem TRs.keep {b : Addr} {u : HO} (h : TRs C Ts r H) (g : SXs Ts r H H') (e : H b = some u) (n1 : ∀ ps, u ≠ .tbl ps) (n2 : ∀ C dx fs, u ≠ .ins C dx fs) : H' b = some u := g b u (h.ne e n1 n2).1 (h.ne e n1 n2).2 e
theorem TRs.seqT {a : Addr} {xs : List V} (h : TRs C Ts r H) (g : SXs Ts r H H') (q : SqT K H a xs) : SqT K H' a xs := by
  rcases q with (q | ⟨o, q⟩) | q
  · exact .inl (.inl (h.keep g q (fun _ z => nomatch z) (fun _ _ _ z => nomatch z)))
  · exact .inl (.inr ⟨o, h.keep g q (fun _ z => nomatch z) (fun _ _ _ z => nomatch z)⟩)
  · exact .inr q
theorem TRs.lst {a : Addr} {xs : List V} (h : TRs C Ts r H) (g : SXs Ts r H H') (q : H a = some (.lst xs)) : H' a = some (.lst xs) := h.keep g q (fun _ z => nomatch z) (fun _ _ _ z => nomatch z)
theorem TRs.lam {f : Addr} {e : Expr} {cl : List (Str × Addr)} (h : TRs C Ts r H) (g : SXs Ts r H H') (q : LamAtC H f e cl) : LamAtC H' f e cl := by
  obtain ⟨qu, pm, c, ctv, h1, h2⟩ := q.ex
  exact ⟨qu, pm, c, ctv, h.keep g h1 (fun _ z => nomatch z) (fun _ _ _ z => nomatch z), h.keep g h2 (fun _ z => nomatch z) (fun _ _ _ z => nomatch z)⟩
end
structure ZOk (Ts : List Addr) (Z : Hp → Prop) : Prop where
  tb : ∀ H, Z H → ∀ T ∈ Ts, ∃ ps, H T = some (.tbl ps)
  sm : ∀ H H', Same H H' → Z H → Z H'
  ins : ∀ H H' r C dx fs, H r = some (.ins C dx fs) → SameX r H H' → Z H → Z H'
  lst : ∀ H a xs ys, H a = some (.lst xs) → Z H → Z (upd H a (.lst ys))
structure Rp (C : Addr) (Ts : List Addr) {α : Type} (Rv : (Addr → Prop) → Hp → V → α → Prop) : Prop where
  sx : ∀ ok H H' r v x, TRs C Ts r H → SXs Ts r H H' → Rv ok H v x → Rv ok H' v x
  pu : ∀ (ok : Addr → Prop) a xs ys H v x, (∀ b, ok b → b ≠ a) → H a = some (.lst xs) → Rv ok H v x → Rv ok (upd H a (.lst ys)) v x
  ex : ∀ ok H v x, Rv ok H v x → Rv (fun b => ok b ∧ H b ≠ none) H v x
  wk : ∀ (ok ok' : Addr → Prop) H v x, (∀ b, ok b → ok' b) → Rv ok H v x → Rv ok' H v x
inductive RL {α : Type} (Rv : (Addr → Prop) → Hp → V → α → Prop) (ok : Addr → Prop) (H : Hp) : List V → List α → Prop where
  | nil : RL Rv ok H [] []
  | cons {v : V} {vs : List V} {x : α} {xs : List α} : Rv ok H v x → RL Rv ok H vs xs → RL Rv ok H (v :: vs) (x :: xs)
theorem RL.imp {α : Type} {Rv : (Addr → Prop) → Hp → V → α → Prop} {ok ok' : Addr → Prop} {H H' : Hp} (k : ∀ v x, Rv ok H v x → Rv ok' H' v x) {vs : List V} {xs : List α} (h : RL Rv ok H vs xs) : RL Rv ok' H' vs xs := by
  induction h with
  | nil => exact .nil
  | cons a r ih => exact .cons (k _ _ a) ih
theorem RL.app {α : Type} {Rv : (Addr → Prop) → Hp → V → α → Prop} {ok : Addr → Prop} {H : Hp} {vs ws : List V} {xs ys : List α} (h : RL Rv ok H vs xs) (h2 : RL Rv ok H ws ys) : RL Rv ok H (vs ++ ws) (xs ++ ys) := by
  induction h with
  | nil => exact h2
  | cons a r ih => exact .cons a ih
theorem RdAt.trs {C r l : Addr} {Ts : List Addr} {Z : Hp → Prop} {H : Hp} {ws : List (List Nat)} {n : Nat} (h : RdAt C H r l ws n) (zo : ZOk Ts Z) (z : Z H) : TRs C Ts r H := by
  obtain ⟨dx, hx⟩ := h.ins
  exact ⟨zo.tb H z, dx, _, hx⟩
theorem tbs_ins {H H' : Hp} {T r C dx : Addr} {fs : List (Str × V)} {pos : Pos} {qual : Str} (hr : H r = some (.ins C dx fs)) (g : SameX r H H') (h : TbS H T pos qual) : TbS H' T pos qual := by
  rcases h with q | ⟨c, q, q2⟩
  · exact .inl (g _ _ (ne_of q hr (by intro z; cases z)) q)
  · exact .inr ⟨c, g _ _ (ne_of q hr (by intro z; cases z)) q, g _ _ (ne_of q2 hr (by intro z; cases z)) q2⟩
theorem tbs_lst {H : Hp} {T a : Addr} {xs ys : List V} {pos : Pos} {qual : Str} (ha : H a = some (.lst xs)) (h : TbS H T pos qual) : TbS (upd H a (.lst ys)) T pos qual := by
  rcases h with q | ⟨c, q, q2⟩
  · exact .inl (by rw [upd_ne (ne_of q ha (by intro z; cases z))]; exact q)
  · exact .inr ⟨c, by rw [upd_ne (ne_of q ha (by intro z; cases z))]; exact q, by rw [upd_ne (ne_of q2 ha (by intro z; cases z))]; exact q2⟩
theorem sx_free {C r l b : Addr} {Ts : List Addr} {Z : Hp → Prop} {H H' : Hp} {ws : List (List Nat)} {m : Nat} (zo : ZOk Ts Z) (x : SXs Ts r H H') (h2 : Z H') (h3 : RdAt C H' r l ws m) (h4 : H' b = none) : H b = none := by
  cases e : H b with
  | none => rfl
  | some u =>
    by_cases c1 : b ∈ Ts
    · obtain ⟨ps, h⟩ := zo.tb H' h2 b c1
      rw [h4] at h; cases h
    · by_cases c2 : b = r
      · obtain ⟨dx, h⟩ := h3.ins
        rw [← c2, h4] at h; cases h
      · have := x b u c1 c2 e
        rw [h4] at this; cases this
end K8
namespace K8
open PySem L2 K3 TM
structure Rs (K : PySem.W.Frag) (mg : Str → Option Value) (x : Str) (N : Addr) : Prop where
  hm : mg x = some (.ref N)
  hq : PySem.W.excIn K N mroV "ValueError.__new__" = true
def spTakeN (C N : Addr) : Sp := fun vs H Q E => ∃ (r l : Addr) (ws : List (List Nat)) (n : Nat), vs = [.ref r] ∧ RdAt C H r l ws n ∧ n ≤ ws.length ∧ (ah ws n).length ≤ 100 ∧ (beg (ah ws n) letL = true → ∀ H', SameX r H H' → RdAt C H' r l ws (n + 1) → Q (.str (S (ah ws n))) H') ∧ (beg (ah ws n) letL = false → E (.ref N) none H)
def spEnd (C N : Addr) : Sp := fun vs H Q E => ∃ (r l : Addr) (ws : List (List Nat)) (n : Nat), vs = [.ref r] ∧ RdAt C H r l ws n ∧ n ≤ ws.length ∧ (∀ w ∈ ws, w ≠ [] ∧ (reprText (S w)).length ≤ 1000) ∧ (n = ws.length → Q .non H) ∧ (n < ws.length → E (.ref N) none H)
section
variable {P : Program} {w : World} {K : PySem.W.Frag} {mg : Str → Option Value} {base : Heap} {f : Addr} {fd : FuncData} {C N : Addr}
theorem ok_takeName (F : Fun K "take_name" "Reader.take_name" sTakeName f fd) (R : Rs K mg "NoText" N) (T : RdT K mg C) (MN : Mt P w K mg base C 2 "at_name" ["self"] (spAt C letL)) (MW : Mt P w K mg base C 2 "take_word" ["self"] (spTakeW C)) : FnOk P w K mg base (CX1 P w) 3 f fd ["self"] (spTakeN C N) := by
  refine Fun.okX F scTakeName (fun vs H Q E h => ?_) (fun cdv A outer s H vs Q E hr h => ?_)
  · obtain ⟨r, l, ws, n, rfl, _⟩ := h
    rfl
  obtain ⟨r, l, ws, n, rfl, hR, hn, hw, q1, q2⟩ := h
  refine ⟨_, (pss_cons (ps_if (pt_not (pt_val (pe_mt0 MN T.cl hr (pv 0)))) (pss_one (ps_raise R.hm R.hq PySem.F.excBase_ValueError (by decide) (pa_cons (pe_str) pa_nil))) pss_nil)
    (pss_one (ps_ret (pe_mt0 MW T.cl hr (pv 0))))), ?_⟩
  obtain ⟨dx, hx⟩ := hR.ins
  refine ⟨_, rfl, r, dx, _, rfl, hx, rfl, r, l, ws, n, rfl, hR, hn, hw, _, rfl, ?_⟩
  cases hb : beg (ah ws n) letL with
  | true => exact iteF ⟨_, rfl, r, dx, _, rfl, hx, rfl, r, l, ws, n, rfl, hR, hn, q1 hb⟩
  | false => exact iteT ⟨(by show 1 ≤ sizeLine; decide), q2 hb⟩
theorem ok_needEnd (F : Fun K "need_end" "Reader.need_end" sNeedEnd f fd) (R : Rs K mg "NoText" N) (T : RdT K mg C) (MA : Mt P w K mg base C 1 "ahead" ["self"] (spAhead C)) : FnOk P w K mg base (CX1 P w) 2 f fd ["self"] (spEnd C N) := by
  refine Fun.okX F scNeedEnd (fun vs H Q E h => ?_) (fun cdv A outer s H vs Q E hr h => ?_)
  · obtain ⟨r, l, ws, n, rfl, _⟩ := h
    rfl
  obtain ⟨r, l, ws, n, rfl, hR, hn, hw, q1, q2⟩ := h
  refine ⟨_, (pss_cons (ps_set (i := 1) scNeedEnd.nd rfl (Or.inl rfl) (pe_mt0 MA T.cl hr (pv 0)))
    (pss_one (ps_if (pt_cmpR op_ne (pv 1) pe_str (nomark _)) (pss_one (ps_raise R.hm R.hq PySem.F.excBase_ValueError (by decide) (pa_cons (pe_join2 (pe_frep (pv 1)) pe_str) pa_nil))) pss_nil))), ?_⟩
  obtain ⟨dx, hx⟩ := hR.ins
  refine ⟨_, rfl, r, dx, _, rfl, hx, rfl, r, l, ws, n, rfl, hR, hn, _, rfl, rfl, _, rfl, ?_⟩
  by_cases h : n = ws.length
  · have e : ah ws n = [] := by unfold ah; rw [List.getElem?_eq_none (by omega)]; rfl
    refine iteNS ?_ (q1 h)
    rw [e, none_eq]
  · have hlt : n < ws.length := by omega
    have e : ah ws n = ws[n] := by unfold ah; rw [List.getElem?_eq_getElem hlt]; rfl
    obtain ⟨h1, h2⟩ := hw ws[n] (List.getElem_mem hlt)
    have e2 : decide (V.str (S (ah ws n)) = V.str (Str.ofString "")) = false := decide_eq_false (by rw [none_eq, e]; exact str_ne h1)
    rw [e2, e]
    exact iteT ⟨_, rfl, S ws[n], rfl, line_of (by omega), _, rfl, h2, _, rfl, by decide +kernel, (by show 1 ≤ sizeLine; decide), q2 hlt⟩
end
end K8
namespace K8
open PySem L2 K3 TM
structure Gd {α : Type} (ws : List (List Nat)) (p : Nat → Option (α × Nat)) : Prop where
  on : ∀ m x m', p m = some (x, m') → m < m' ∧ m' ≤ ws.length
def loopP {α : Type} (ws : List (List Nat)) (p : Nat → Option (α × Nat)) : Nat → Nat → Option (List α × Nat)
  | 0, _ => none
  | f + 1, m => if ah ws m = [41] then some ([], m + 1) else match p m with
    | none => none
    | some (x, m') => (loopP ws p f m').map fun q => (x :: q.1, q.2)
def inbP {α : Type} (ws : List (List Nat)) (p : Nat → Option (α × Nat)) (m : Nat) : Option (List α × Nat) :=
  if ah ws m = [40] then match p (m + 1) with
    | none => none
    | some (x, m') => (loopP ws p (ws.length + 1) m').map fun q => (x :: q.1, q.2)
  else some ([], m)
theorem loop_fuel {α : Type} {ws : List (List Nat)} {p : Nat → Option (α × Nat)} (g : Gd ws p) : ∀ (f f' m : Nat), ws.length < f + m → ws.length < f' + m → m ≤ ws.length → loopP ws p f m = loopP ws p f' m
  | 0, f', m, h, _, hm => by omega
  | f + 1, 0, m, _, h, hm => by omega
  | f + 1, f' + 1, m, h1, h2, hm => by
    unfold loopP
    split
    · rfl
    · cases q : p m with
      | none => rfl
      | some y =>
        obtain ⟨x, m'⟩ := y
        obtain ⟨a, b⟩ := g.on m x m' q
        simp only []
        rw [loop_fuel g f f' m' (by omega) (by omega) b]
theorem ah_lt {ws : List (List Nat)} {m : Nat} {w : List Nat} (h : ah ws m = w) (hw : w ≠ []) : m < ws.length := by
  rcases Nat.lt_or_ge m ws.length with q | q
  · exact q
  · unfold ah at h
    rw [List.getElem?_eq_none q] at h
    exact absurd h.symm hw
theorem loop_gd {α : Type} {ws : List (List Nat)} {p : Nat → Option (α × Nat)} (g : Gd ws p) : ∀ (f m : Nat) (x : List α) (m' : Nat), loopP ws p f m = some (x, m') → m < m' ∧ m' ≤ ws.length
  | 0, m, x, m', h => by cases h
  | f + 1, m, x, m', h => by
    unfold loopP at h
    split at h
    · rename_i h41
      cases h
      exact ⟨Nat.lt_succ_self _, ah_lt h41 (by decide)⟩
    · cases q : p m with
      | none => rw [q] at h; cases h
      | some y =>
        obtain ⟨x0, m0⟩ := y
        obtain ⟨a, b⟩ := g.on m x0 m0 q
        rw [q] at h
        simp only [Option.map_eq_some_iff] at h
        obtain ⟨⟨xs, m2⟩, h1, h2⟩ := h
        cases h2
        obtain ⟨c, d⟩ := loop_gd g f m0 xs m2 h1
        exact ⟨by omega, d⟩
theorem inb_gd {α : Type} {ws : List (List Nat)} {p : Nat → Option (α × Nat)} (g : Gd ws p) {m : Nat} (hm : m ≤ ws.length) {x : List α} {m' : Nat} (h : inbP ws p m = some (x, m')) : m ≤ m' ∧ m' ≤ ws.length := by
  unfold inbP at h
  split at h
  · cases q : p (m + 1) with
    | none => rw [q] at h; cases h
    | some y =>
      obtain ⟨x0, m0⟩ := y
      obtain ⟨a, b⟩ := g.on _ x0 m0 q
      rw [q] at h
      simp only [Option.map_eq_some_iff] at h
      obtain ⟨⟨xs, m2⟩, h1, h2⟩ := h
      cases h2
      obtain ⟨c, d⟩ := loop_gd g _ m0 xs m2 h1
      exact ⟨by omega, d⟩
  · cases h
    exact ⟨Nat.le_refl _, hm⟩
def spItX {α : Type} (C : Addr) (Ts : List Addr) (Z : Hp → Prop) (r l : Addr) (ws : List (List Nat)) (Rv : (Addr → Prop) → Hp → V → α → Prop) (p : Nat → Option (α × Nat)) (N : Addr) : Sp := fun vs H Q E => ∃ (m : Nat), vs = [] ∧ RdAt C H r l ws m ∧ m ≤ ws.length ∧ Z H ∧
  (∀ x m', p m = some (x, m') → ∀ (v : V) (H' : Hp), SXs Ts r H H' → RdAt C H' r l ws m' → Rv (fun b => H b = none) H' v x → Z H' → Q v H') ∧
  (p m = none → ∀ H', SXs Ts r H H' → Z H' → E (.ref N) none H')
def spInX {α : Type} (P : Program) (w : World) (K : PySem.W.Frag) (mg : Str → Option Value) (C : Addr) (Ts : List Addr) (Z : Hp → Prop) (Rv : (Addr → Prop) → Hp → V → α → Prop) (N : Addr) (k : Nat) (g : Heap) : Sp := fun vs H Q E => ∃ (r l L : Addr) (ws : List (List Nat)) (p : Nat → Option (α × Nat)) (n : Nat) (e : Expr) (cl : List (Str × Addr)), vs = [.ref r, .ref L] ∧ RdAt C H r l ws n ∧ n ≤ ws.length ∧ ws.length ≤ 1000 ∧ Gd ws p ∧ LamAtC H L e cl ∧ CalX P w K mg g k e cl (spItX C Ts Z r l ws Rv p N) ∧ Z H ∧
  (∀ xs m', inbP ws p n = some (xs, m') → ∀ (b : Addr) (vs : List V) (H' : Hp), SXs Ts r H H' → RdAt C H' r l ws m' → SqT K H' b vs → vs.length ≤ 1000 → RL Rv (fun c => H c = none) H' vs xs → Z H' → Q (.ref b) H') ∧
  (inbP ws p n = none → ∀ H', SXs Ts r H H' → Z H' → E (.ref N) none H')
section
variable {P : Program} {w : World} {K : PySem.W.Frag} {mg : Str → Option Value} {base : Heap} {f : Addr} {fd : FuncData} {C N : Addr} {Ts : List Addr} {Z : Hp → Prop} {α : Type} {Rv : (Addr → Prop) → Hp → V → α → Prop}
theorem scInB : FnScope ["self", "take_one", "taken"] ["self", "take_one"] (defScope sInB) := ⟨rfl, rfl, rfl, by decide +kernel, rfl, by decide +kernel, by decide +kernel⟩
theorem ok_inX {k : Nat} (zo : ZOk Ts Z) (ro : Rp C Ts Rv) (F : Fun K "in_brackets" "Reader.in_brackets" sInB f fd) (G : Gm mg) (TT : RdT K mg C) (MP : Mt P w K mg base C 2 "passed" ["self", "sign"] (spPassed C)) : FnOk P w K mg base (CX1 P w) (k + 3) f fd ["self", "take_one"] (spInX P w K mg C Ts Z Rv N (k + 2) base) := by
  refine Fun.okX F scInB (fun vs H Q E h => ?_) (fun cdv A outer s H vs Q E hr h => ?_)
  · obtain ⟨r, l, L, ws, p, n, e, cl, rfl, _⟩ := h
    rfl
  obtain ⟨r, l, L, ws, p, n, e, cl, rfl, hR, hn, h5k, hg, hL, hC, hZ, q1, q2⟩ := h
  refine ⟨_, (pss_cons (ps_set (i := 2) scInB.nd rfl (Or.inl rfl) (pe_lst pa_nil))
    (pss_cons (ps_cut (ps_if (pt_val (pe_mt MP TT.cl hr (pv 0) (pa_cons (pe_str) pa_nil) (by omega))) (pss_cons (ps_expr (pe_bm PySem.F.plainAttrs_list PySem.F.slot_list_append PySem.F.type_list_append mt_append (pv 2) (pa_cons (pe_callX0 (EE := fun _ => E) (i := 1) hC hr (passE fun _ _ h => h)) pa_nil)))
    (pss_one (ps_while PassesOwn.leaving (pt_not (pt_val (pe_mt MP TT.cl hr (pv 0) (pa_cons (pe_str) pa_nil) (by omega)))) (pss_one (ps_expr (pe_bm PySem.F.plainAttrs_list PySem.F.slot_list_append PySem.F.type_list_append mt_append (pv 2) (pa_cons (pe_callX0 (EE := fun _ => E) (i := 1) hC hr (passE fun _ _ h => h)) pa_nil))))))) pss_nil))
    (pss_one (ps_ret (pe_callTy call_tuple_of rfl G.tup PyProof.Rows.boot_tuple (pa_cons (pv 2) pa_nil)))))), ?_⟩
  have e40 : S [40] = Str.ofString "(" := by decide +kernel
  have e41 : S [41] = Str.ofString ")" := by decide +kernel
  refine ⟨(by show 0 ≤ sizeLine; decide), fun lt hlt => ?_⟩
  have s1 := same_new hlt (.lst [])
  have f1 : upd H lt (.lst []) lt = some (.lst []) := upd_same
  have hR1 := hR.same s1
  have hZ1 := zo.sm _ _ s1 hZ
  have hL1 := hL.same s1
  generalize upd H lt (.lst []) = H1 at s1 f1 hR1 hZ1 hL1
  have nel : l ≠ lt := fun z => by have h1 := hR.fl; rw [z, hlt] at h1; cases h1
  have neR : r ≠ lt := fun z => by
    obtain ⟨dx, h1⟩ := hR.ins
    rw [z, hlt] at h1; cases h1
  have growR : ∀ {H' : Hp} {ys' : List V} {p : Nat}, RdAt C H' r l ws p → RdAt C (upd H' lt (.lst ys')) r l ws p := fun {H' ys' p} h2 => by
    obtain ⟨⟨dx, h5⟩, h6⟩ := h2
    exact ⟨⟨dx, by rw [upd_ne neR]; exact h5⟩, by rw [upd_ne nel]; exact h6⟩
  have growL : ∀ {H' : Hp} {ys ys' : List V}, H' lt = some (.lst ys) → LamAtC H' L e cl → LamAtC (upd H' lt (.lst ys')) L e cl := fun {H' ys ys'} h1 h4 => by
    obtain ⟨qu, pm, c, ctv, h5, h6⟩ := h4.ex
    exact ⟨qu, pm, c, ctv, by rw [upd_ne (ne_of h5 h1 (by intro z; cases z))]; exact h5, by rw [upd_ne (ne_of h6 h1 (by intro z; cases z))]; exact h6⟩
  refine ⟨fun σ' H' => ∃ (ys : List V) (xs : List α) (m' : Nat), σ' = [some (.ref r), some (.ref L), some (.ref lt)] ∧ inbP ws p n = some (xs, m') ∧ H' lt = some (.lst ys) ∧ SXs Ts r H H' ∧ RdAt C H' r l ws m' ∧ ys.length ≤ 1000 ∧ RL Rv (fun c => H c = none ∧ c ≠ lt) H' ys xs ∧ Z H', ?_, ?_⟩
  case refine_2 =>
    rintro σ H2 ⟨ys, xs, m', rfl, hin, hy, x2, hR2, hyl, ht2, hZ2⟩
    refine ⟨_, rfl, lt, ys, rfl, .inl ⟨SqL.of hy, fun tp htp => ?_⟩⟩
    have s3 := same_new htp (.tup ys)
    have tr2 := hR2.trs zo hZ2
    exact q1 xs m' hin tp ys _ (x2.trans (SXs.of s3)) (hR2.same s3) (SqT.of upd_same) hyl (ht2.imp fun v x h => ro.wk _ _ _ _ _ (fun b hb => hb.1) (ro.sx _ _ _ r v x tr2 (SXs.of s3) h)) (zo.sm _ _ s3 hZ2)
  obtain ⟨dx, hx⟩ := hR1.ins
  refine ⟨_, rfl, r, dx, _, rfl, hx, rfl, r, l, ws, n, [40], (by rw [e40]; rfl), hR1, hn, fun z => ?_, fun z H2 g2 hR2 => ⟨_, rfl, iteT ?_⟩⟩
  · exact ⟨_, rfl, iteF ⟨[], [], n, rfl, by rw [inbP, if_neg z], f1, SXs.of s1, hR1, Nat.zero_le _, .nil, hZ1⟩⟩
  have hn1 : n + 1 ≤ ws.length := ah_lt z (by decide)
  have tr1 := hR1.trs zo hZ1
  have x2 : SXs Ts r H1 H2 := SXs.ofR g2
  have f2 := tr1.lst x2 f1
  have hZ2 := zo.ins _ _ r C dx _ hx g2 hZ1
  have hL2 := tr1.lam x2 hL1
  have tr2 := hR2.trs zo hZ2
  have x02 := (SXs.of s1 (Ts := Ts) (r := r)).trans x2
  refine ⟨_, rfl, .inl ⟨rfl, _, SqL.of f2⟩, L, rfl, hL2, n + 1, rfl, hR2, hn1, hZ2, fun x0 m0 hp0 v H3 x3 hR3 rv3 hZ3 => ?_, fun hp0 H3 x3 hZ3 => q2 (by rw [inbP, if_pos z, hp0]) H3 (x02.trans x3) hZ3⟩
  obtain ⟨hm0, hm0'⟩ := hg.on _ _ _ hp0
  have f3 := tr2.lst x3 f2
  have hL3 := tr2.lam x3 hL2
  refine ⟨lt, [], v, rfl, rfl, f3, (by show 0 < sizeLine; decide), ?_⟩
  have rv3' : Rv (fun c => H c = none ∧ c ≠ lt) (upd H3 lt (.lst ([] ++ [v]))) v x0 := ro.pu _ lt [] _ H3 v x0 (fun b hb => hb.2) f3 (ro.wk _ _ _ _ _ (fun b hb => ⟨sx_free zo x02 hZ2 hR2 hb, fun z => by rw [z, f2] at hb; cases hb⟩) rv3)
  have hR4 := growR (ys' := [] ++ [v]) hR3
  have hZ4 := zo.lst _ lt [] ([] ++ [v]) f3 hZ3
  have hL4 := growL (ys' := [] ++ [v]) f3 hL3
  have x14 : SXs Ts r H (upd H3 lt (.lst ([] ++ [v]))) := fun c u n1 n2 e => by
    rw [upd_ne (ne_of_none e hlt)]
    exact x3 c u n1 n2 (x02 c u n1 n2 e)
  have f4 : upd H3 lt (.lst ([] ++ [v])) lt = some (.lst ([] ++ [v])) := upd_same
  have hst : inbP ws p n = (loopP ws p (ws.length + 1) m0).map fun q => ([x0] ++ q.1, q.2) := by rw [inbP, if_pos z, hp0]; rfl
  generalize upd H3 lt (.lst ([] ++ [v])) = H4 at hR4 hZ4 hL4 x14 rv3' f4
  refine ⟨fun m σ' H' => ∃ (ys : List V) (dn : List α) (p0 : Nat), σ' = [some (.ref r), some (.ref L), some (.ref lt)] ∧ ws.length - p0 = m ∧ H' lt = some (.lst ys) ∧ SXs Ts r H H' ∧ RdAt C H' r l ws p0 ∧ p0 ≤ ws.length ∧ ys.length ≤ p0 ∧ inbP ws p n = ((loopP ws p (ws.length + 1) p0).map fun q => (dn ++ q.1, q.2)) ∧ RL Rv (fun c => H c = none ∧ c ≠ lt) H' ys dn ∧ Z H' ∧ LamAtC H' L e cl,
    ⟨_, [] ++ [v], [x0], m0, rfl, rfl, f4, x14, hR4, hm0', (by show 1 ≤ m0; omega), hst, .cons rv3' .nil, hZ4, hL4⟩, ?_⟩
  rintro m σ H5 ⟨ys, dn, p0, rfl, hm, f5, x5, hR5, hp5, hyl, hres, rl5, hZ5, hL5⟩
  obtain ⟨dx5, hx5⟩ := hR5.ins
  have tr5 := hR5.trs zo hZ5
  refine ⟨_, rfl, r, dx5, _, rfl, hx5, rfl, r, l, ws, p0, [41], (by rw [e41]; rfl), hR5, hp5, fun z => ?_, fun z H6 g6 hR6 => ⟨_, rfl, iteF ?_⟩⟩
  · refine ⟨_, rfl, iteT ⟨fun σ' H' => ∃ m', m' < m ∧ ∃ (ys : List V) (dn : List α) (p0 : Nat), σ' = [some (.ref r), some (.ref L), some (.ref lt)] ∧ ws.length - p0 = m' ∧ H' lt = some (.lst ys) ∧ SXs Ts r H H' ∧ RdAt C H' r l ws p0 ∧ p0 ≤ ws.length ∧ ys.length ≤ p0 ∧ inbP ws p n = ((loopP ws p (ws.length + 1) p0).map fun q => (dn ++ q.1, q.2)) ∧ RL Rv (fun c => H c = none ∧ c ≠ lt) H' ys dn ∧ Z H' ∧ LamAtC H' L e cl, fun σ' H' h => h, ?_⟩⟩
    have hun : loopP ws p (ws.length + 1) p0 = match p p0 with
        | none => none
        | some (x, m') => (loopP ws p ws.length m').map fun q => (x :: q.1, q.2) := by
      rw [loopP, if_neg z]
    refine ⟨_, rfl, .inl ⟨rfl, _, SqL.of f5⟩, L, rfl, hL5, p0, rfl, hR5, hp5, hZ5, fun x6 m6 hp6 v6 H6 x6' hR6 rv6 hZ6 => ?_, fun hp6 H6 x6 hZ6 => q2 (by rw [hres, hun, hp6]; rfl) H6 (x5.trans x6) hZ6⟩
    obtain ⟨hlt6, hle6⟩ := hg.on _ _ _ hp6
    have f6 := tr5.lst x6' f5
    have hL6 := tr5.lam x6' hL5
    refine ⟨lt, ys, v6, rfl, rfl, f6, Nat.lt_of_lt_of_le (show ys.length < 5001 by omega) (by decide), ?_⟩
    have rv6' : Rv (fun c => H c = none ∧ c ≠ lt) H6 v6 x6 := ro.wk _ _ _ _ _ (fun b hb => ⟨sx_free zo x5 hZ5 hR5 hb, fun z => by rw [z, f5] at hb; cases hb⟩) rv6
    have rl6 : RL Rv (fun c => H c = none ∧ c ≠ lt) H6 ys dn := rl5.imp fun v x h => ro.sx _ _ _ r v x tr5 x6' h
    have hgp : ∀ v x, Rv (fun c => H c = none ∧ c ≠ lt) H6 v x → Rv (fun c => H c = none ∧ c ≠ lt) (upd H6 lt (.lst (ys ++ [v6]))) v x := fun v x h => ro.pu _ lt ys _ H6 v x (fun b hb => hb.2) f6 h
    refine ⟨ws.length - m6, ?_, ys ++ [v6], dn ++ [x6], m6, rfl, rfl, upd_same, fun c u n1 n2 e => ?_, growR hR6, hle6, ?_, ?_, (rl6.imp hgp).app (.cons (hgp _ _ rv6') .nil), zo.lst _ lt ys _ f6 hZ6, growL f6 hL6⟩
    · omega
    · rw [upd_ne (ne_of_none e hlt)]
      exact x6' c u n1 n2 (x5 c u n1 n2 e)
    · rw [List.length_append, List.length_singleton]; omega
    · rw [hres, hun, hp6]
      show Option.map _ (Option.map _ (loopP ws p ws.length m6)) = _
      rw [Option.map_map, loop_fuel hg ws.length (ws.length + 1) m6 (by omega) (by omega) hle6]
      congr 1
      funext q
      simp
  · have x6 : SXs Ts r H5 H6 := SXs.ofR g6
    have hlp : loopP ws p (ws.length + 1) p0 = some ([], p0 + 1) := by rw [loopP, if_pos z]
    rw [hlp] at hres
    have hZ6 := zo.ins _ _ r C dx5 _ hx5 g6 hZ5
    refine ⟨ys, dn ++ [], p0 + 1, rfl, hres, tr5.lst x6 f5, x5.trans x6, hR6, by omega, ?_, hZ6⟩
    rw [List.append_nil]
    exact rl5.imp fun v x h => ro.sx _ _ _ r v x tr5 x6 h
end
end K8
namespace K8
open PySem L2 K3 TM
abbrev sNeed : Stmt := inClass sReader 5
abbrev sPart : Stmt := inClass sReader 11
def parL {α : Type} (ws : List (List Nat)) (sg : List Nat) (p : Nat → Option (α × Nat)) : Nat → Nat → Option (List α × Nat)
  | 0, _ => none
  | f + 1, m => if ah ws m = sg then match p (m + 1) with
      | none => none
      | some (x, m') => (parL ws sg p f m').map fun q => (x :: q.1, q.2)
    else some ([], m)
def parP {α : Type} (ws : List (List Nat)) (sg : List Nat) (p : Nat → Option (α × Nat)) (m : Nat) : Option (List α × Nat) := match p m with
  | none => none
  | some (x, m') => (parL ws sg p (ws.length + 1) m').map fun q => (x :: q.1, q.2)
theorem par_fuel {α : Type} {ws : List (List Nat)} {sg : List Nat} {p : Nat → Option (α × Nat)} (g : Gd ws p) : ∀ (f f' m : Nat), ws.length < f + m → ws.length < f' + m → m ≤ ws.length → parL ws sg p f m = parL ws sg p f' m
  | 0, f', m, h, _, hm => by omega
  | f + 1, 0, m, _, h, hm => by omega
  | f + 1, f' + 1, m, h1, h2, hm => by
    unfold parL
    split
    · cases q : p (m + 1) with
      | none => rfl
      | some y =>
        obtain ⟨x, m'⟩ := y
        obtain ⟨a, b⟩ := g.on _ x m' q
        simp only []
        rw [par_fuel g f f' m' (by omega) (by omega) b]
    · rfl
theorem parL_gd {α : Type} {ws : List (List Nat)} {sg : List Nat} {p : Nat → Option (α × Nat)} (g : Gd ws p) : ∀ (f m : Nat) (x : List α) (m' : Nat), m ≤ ws.length → parL ws sg p f m = some (x, m') → m ≤ m' ∧ m' ≤ ws.length
  | 0, m, x, m', _, h => by cases h
  | f + 1, m, x, m', hm, h => by
    unfold parL at h
    split at h
    · cases q : p (m + 1) with
      | none => rw [q] at h; cases h
      | some y =>
        obtain ⟨x0, m0⟩ := y
        obtain ⟨a, b⟩ := g.on _ x0 m0 q
        rw [q] at h
        simp only [Option.map_eq_some_iff] at h
        obtain ⟨⟨xs, m2⟩, h1, h2⟩ := h
        cases h2
        obtain ⟨c, d⟩ := parL_gd g f m0 xs m2 b h1
        exact ⟨by omega, d⟩
    · cases h
      exact ⟨Nat.le_refl _, hm⟩
theorem par_gd {α : Type} {ws : List (List Nat)} {sg : List Nat} {p : Nat → Option (α × Nat)} (g : Gd ws p) : Gd ws (parP ws sg p) := ⟨fun m xs m' h => by
  unfold parP at h
  cases q : p m with
  | none => rw [q] at h; cases h
  | some y =>
    obtain ⟨x0, m0⟩ := y
    obtain ⟨a, b⟩ := g.on _ x0 m0 q
    rw [q] at h
    simp only [Option.map_eq_some_iff] at h
    obtain ⟨⟨ys, m2⟩, h1, h2⟩ := h
    cases h2
    obtain ⟨c, d⟩ := parL_gd g _ m0 ys m2 b h1
    exact ⟨by omega, d⟩⟩
def spNeedX (C N : Addr) : Sp := fun vs H Q E => ∃ (r l : Addr) (ws : List (List Nat)) (n : Nat) (c : List Nat), vs = [.ref r, .str (S c)] ∧ RdAt C H r l ws n ∧ n ≤ ws.length ∧ (reprText (S c)).length ≤ 1000 ∧ (ah ws n = c → ∀ H', SameX r H H' → RdAt C H' r l ws (n + 1) → Q .non H') ∧ (ah ws n ≠ c → E (.ref N) none H)
def spParX {α : Type} (P : Program) (w : World) (K : PySem.W.Frag) (mg : Str → Option Value) (C : Addr) (Ts : List Addr) (Z : Hp → Prop) (Rv : (Addr → Prop) → Hp → V → α → Prop) (N : Addr) (k : Nat) (g : Heap) : Sp := fun vs H Q E => ∃ (r l L : Addr) (ws : List (List Nat)) (sg : List Nat) (p : Nat → Option (α × Nat)) (n : Nat) (e : Expr) (cl : List (Str × Addr)), vs = [.ref r, .str (S sg), .ref L] ∧ sg ≠ [] ∧ RdAt C H r l ws n ∧ n ≤ ws.length ∧ ws.length ≤ 1000 ∧ Gd ws p ∧ LamAtC H L e cl ∧ CalX P w K mg g k e cl (spItX C Ts Z r l ws Rv p N) ∧ Z H ∧
  (∀ xs m', parP ws sg p n = some (xs, m') → ∀ (b : Addr) (vs : List V) (H' : Hp), SXs Ts r H H' → RdAt C H' r l ws m' → H b = none → H' b = some (.lst vs) → vs.length ≤ 1000 → RL Rv (fun c => H c = none ∧ c ≠ b) H' vs xs → Z H' → Q (.ref b) H') ∧
  (parP ws sg p n = none → ∀ H', SXs Ts r H H' → Z H' → E (.ref N) none H')
section
variable {P : Program} {w : World} {K : PySem.W.Frag} {mg : Str → Option Value} {base : Heap} {f : Addr} {fd : FuncData} {C N : Addr} {Ts : List Addr} {Z : Hp → Prop} {α : Type} {Rv : (Addr → Prop) → Hp → V → α → Prop}
theorem scNeed : FnScope ["self", "sign"] ["self", "sign"] (defScope sNeed) := ⟨rfl, rfl, rfl, by decide +kernel, rfl, by decide +kernel, by decide +kernel⟩
theorem ok_needX (F : Fun K "need" "Reader.need" sNeed f fd) (R : Rs K mg "NoText" N) (T : RdT K mg C) (MP : Mt P w K mg base C 2 "passed" ["self", "sign"] (spPassed C)) : FnOk P w K mg base (CX1 P w) 3 f fd ["self", "sign"] (spNeedX C N) := by
  refine Fun.okX F scNeed (fun vs H Q E h => ?_) (fun cdv A outer s H vs Q E hr h => ?_)
  · obtain ⟨r, l, ws, n, c, rfl, _⟩ := h
    rfl
  obtain ⟨r, l, ws, n, c, rfl, hR, hn, hc, q1, q2⟩ := h
  refine ⟨_, (pss_one (ps_if (pt_not (pt_val (pe_mt MP T.cl hr (pv 0) (pa_cons (pv 1) pa_nil)))) (pss_one (ps_raise R.hm R.hq PySem.F.excBase_ValueError (by decide) (pa_cons (pe_join2 (pe_frep (pv 1)) pe_str) pa_nil))) pss_nil)), ?_⟩
  obtain ⟨dx, hx⟩ := hR.ins
  refine ⟨_, rfl, r, dx, _, rfl, hx, rfl, _, rfl, r, l, ws, n, c, rfl, hR, hn, fun z => ⟨_, rfl, iteT ?_⟩, fun z H' g hR' => ⟨_, rfl, iteF (q1 z H' g hR')⟩⟩
  exact ⟨_, rfl, S c, rfl, line_of (by omega), _, rfl, hc, _, rfl, by decide +kernel, (by show 1 ≤ sizeLine; decide), q2 z⟩
theorem scPart : FnScope ["self", "sign", "take_one", "taken"] ["self", "sign", "take_one"] (defScope sPart) := ⟨rfl, rfl, rfl, by decide +kernel, rfl, by decide +kernel, by decide +kernel⟩
theorem ok_parX {k : Nat} (zo : ZOk Ts Z) (ro : Rp C Ts Rv) (F : Fun K "parted_by" "Reader.parted_by" sPart f fd) (TT : RdT K mg C) (MP : Mt P w K mg base C 2 "passed" ["self", "sign"] (spPassed C)) : FnOk P w K mg base (CX1 P w) (k + 3) f fd ["self", "sign", "take_one"] (spParX P w K mg C Ts Z Rv N (k + 2) base) := by
  refine Fun.okX F scPart (fun vs H Q E h => ?_) (fun cdv A outer s H vs Q E hr h => ?_)
  · obtain ⟨r, l, L, ws, sg, p, n, e, cl, rfl, _⟩ := h
    rfl
  obtain ⟨r, l, L, ws, sg, p, n, e, cl, rfl, hsg, hR, hn, h5k, hg, hL, hC, hZ, q1, q2⟩ := h
  refine ⟨_, (pss_cons (ps_set (i := 3) scPart.nd rfl (Or.inl rfl) (pe_lst (pa_cons (pe_callX0 (EE := fun _ => E) (i := 2) hC hr (passE fun _ _ h => h)) pa_nil)))
    (pss_cons (ps_while PassesOwn.leaving (pt_val (pe_mt MP TT.cl hr (pv 0) (pa_cons (pv 1) pa_nil) (by omega))) (pss_one (ps_expr (pe_bm PySem.F.plainAttrs_list PySem.F.slot_list_append PySem.F.type_list_append mt_append (pv 3) (pa_cons (pe_callX0 (EE := fun _ => E) (i := 2) hC hr (passE fun _ _ h => h)) pa_nil)))))
    (pss_one (ps_ret (pv 3))))), ?_⟩
  have tr0 := hR.trs zo hZ
  refine ⟨L, rfl, hL, n, rfl, hR, hn, hZ, fun x0 m0 hp0 v1 H1 x1 hR1 rv1 hZ1 => ⟨(by show 1 ≤ sizeLine; decide), fun lt hlt => ?_⟩, fun hp0 H1 x1 hZ1 => q2 (by rw [parP, hp0]) H1 x1 hZ1⟩
  obtain ⟨hm0, hm0'⟩ := hg.on _ _ _ hp0
  have hL1 := tr0.lam x1 hL
  have s1 := same_new hlt (.lst [v1])
  have hR2 := hR1.same s1
  have hZ2 := zo.sm _ _ s1 hZ1
  have hL2 := hL1.same s1
  have f2 : upd H1 lt (.lst [v1]) lt = some (.lst [v1]) := upd_same
  have x2 : SXs Ts r H (upd H1 lt (.lst [v1])) := x1.trans (SXs.of s1)
  have hl0 : H lt = none := sx_free zo x1 hZ1 hR1 hlt
  have tr1 := hR1.trs zo hZ1
  have rv2 : Rv (fun c => H c = none ∧ c ≠ lt) (upd H1 lt (.lst [v1])) v1 x0 := by
    refine ro.wk _ _ _ _ _ (fun b hb => ⟨hb.1, fun z => ?_⟩) (ro.sx _ H1 _ r v1 x0 tr1 (SXs.of s1) (ro.ex _ _ _ _ rv1))
    exact hb.2 (z ▸ hlt)
  generalize upd H1 lt (.lst [v1]) = H2 at hR2 hZ2 hL2 f2 x2 rv2
  clear rv1 x1 hR1 hZ1 hL1 s1 hlt tr1
  have nel : l ≠ lt := fun z => by have h1 := hR.fl; rw [z, hl0] at h1; cases h1
  have neR : r ≠ lt := fun z => by
    obtain ⟨dx, h1⟩ := hR.ins
    rw [z, hl0] at h1; cases h1
  have growR : ∀ {H' : Hp} {ys' : List V} {p : Nat}, RdAt C H' r l ws p → RdAt C (upd H' lt (.lst ys')) r l ws p := fun {H' ys' p} h2 => by
    obtain ⟨⟨dx, h5⟩, h6⟩ := h2
    exact ⟨⟨dx, by rw [upd_ne neR]; exact h5⟩, by rw [upd_ne nel]; exact h6⟩
  have growL : ∀ {H' : Hp} {ys ys' : List V}, H' lt = some (.lst ys) → LamAtC H' L e cl → LamAtC (upd H' lt (.lst ys')) L e cl := fun {H' ys ys'} h1 h4 => by
    obtain ⟨qu, pm, c, ctv, h5, h6⟩ := h4.ex
    exact ⟨qu, pm, c, ctv, by rw [upd_ne (ne_of h5 h1 (by intro z; cases z))]; exact h5, by rw [upd_ne (ne_of h6 h1 (by intro z; cases z))]; exact h6⟩
  have hst : parP ws sg p n = (parL ws sg p (ws.length + 1) m0).map fun q => ([x0] ++ q.1, q.2) := by rw [parP, hp0]; rfl
  refine ⟨fun m σ' H' => ∃ (ys : List V) (dn : List α) (p0 : Nat), σ' = [some (.ref r), some (.str (S sg)), some (.ref L), some (.ref lt)] ∧ ws.length - p0 = m ∧ H' lt = some (.lst ys) ∧ SXs Ts r H H' ∧ RdAt C H' r l ws p0 ∧ p0 ≤ ws.length ∧ ys.length ≤ p0 ∧ parP ws sg p n = ((parL ws sg p (ws.length + 1) p0).map fun q => (dn ++ q.1, q.2)) ∧ RL Rv (fun c => H c = none ∧ c ≠ lt) H' ys dn ∧ Z H' ∧ LamAtC H' L e cl,
    ⟨_, [v1], [x0], m0, rfl, rfl, f2, x2, hR2, hm0', (by show 1 ≤ m0; omega), hst, .cons rv2 .nil, hZ2, hL2⟩, ?_⟩
  rintro m σ H5 ⟨ys, dn, p0, rfl, hm, f5, x5, hR5, hp5, hyl, hres, rl5, hZ5, hL5⟩
  obtain ⟨dx5, hx5⟩ := hR5.ins
  have tr5 := hR5.trs zo hZ5
  refine ⟨_, rfl, r, dx5, _, rfl, hx5, rfl, _, rfl, r, l, ws, p0, sg, rfl, hR5, hp5, fun z => ⟨_, rfl, iteF ?_⟩, fun z H6 g6 hR6 => ⟨_, rfl, iteT ⟨fun σ' H' => ∃ m', m' < m ∧ ∃ (ys : List V) (dn : List α) (p0 : Nat), σ' = [some (.ref r), some (.str (S sg)), some (.ref L), some (.ref lt)] ∧ ws.length - p0 = m' ∧ H' lt = some (.lst ys) ∧ SXs Ts r H H' ∧ RdAt C H' r l ws p0 ∧ p0 ≤ ws.length ∧ ys.length ≤ p0 ∧ parP ws sg p n = ((parL ws sg p (ws.length + 1) p0).map fun q => (dn ++ q.1, q.2)) ∧ RL Rv (fun c => H c = none ∧ c ≠ lt) H' ys dn ∧ Z H' ∧ LamAtC H' L e cl, fun σ' H' h => h, ?_⟩⟩⟩
  · have hlp : parL ws sg p (ws.length + 1) p0 = some ([], p0) := by rw [parL, if_neg z]
    rw [hlp] at hres
    refine ⟨_, rfl, q1 (dn ++ []) p0 hres lt ys H5 x5 hR5 hl0 f5 (by omega) (by rw [List.append_nil]; exact rl5) hZ5⟩
  have hun : parL ws sg p (ws.length + 1) p0 = match p (p0 + 1) with
      | none => none
      | some (x, m') => (parL ws sg p ws.length m').map fun q => (x :: q.1, q.2) := by
    rw [parL, if_pos z]
  have hp6 : p0 + 1 ≤ ws.length := ah_lt z hsg
  have x6 : SXs Ts r H5 H6 := SXs.ofR g6
  have hZ6 := zo.ins _ _ r C dx5 _ hx5 g6 hZ5
  have f6 := tr5.lst x6 f5
  have hL6 := tr5.lam x6 hL5
  have tr6 := hR6.trs zo hZ6
  have x56 := x5.trans x6
  have rl6 : RL Rv (fun c => H c = none ∧ c ≠ lt) H6 ys dn := rl5.imp fun v x h => ro.sx _ _ _ r v x tr5 x6 h
  refine ⟨_, rfl, .inl ⟨rfl, _, SqL.of f6⟩, L, rfl, hL6, p0 + 1, rfl, hR6, hp6, hZ6, fun x7 m7 hp7 v7 H7 x7' hR7 rv7 hZ7 => ?_, fun hp7 H7 x7 hZ7 => q2 (by rw [hres, hun, hp7]; rfl) H7 (x56.trans x7) hZ7⟩
  obtain ⟨hlt7, hle7⟩ := hg.on _ _ _ hp7
  have f7 := tr6.lst x7' f6
  have hL7 := tr6.lam x7' hL6
  refine ⟨lt, ys, v7, rfl, rfl, f7, Nat.lt_of_lt_of_le (show ys.length < 5001 by omega) (by decide), ?_⟩
  have rv7' : Rv (fun c => H c = none ∧ c ≠ lt) H7 v7 x7 := ro.wk _ _ _ _ _ (fun b hb => ⟨sx_free zo x56 hZ6 hR6 hb, fun z => by rw [z, f6] at hb; cases hb⟩) rv7
  have rl7 : RL Rv (fun c => H c = none ∧ c ≠ lt) H7 ys dn := rl6.imp fun v x h => ro.sx _ _ _ r v x tr6 x7' h
  have hgp : ∀ v x, Rv (fun c => H c = none ∧ c ≠ lt) H7 v x → Rv (fun c => H c = none ∧ c ≠ lt) (upd H7 lt (.lst (ys ++ [v7]))) v x := fun v x h => ro.pu _ lt ys _ H7 v x (fun b hb => hb.2) f7 h
  refine ⟨ws.length - m7, ?_, ys ++ [v7], dn ++ [x7], m7, rfl, rfl, upd_same, fun c u n1 n2 e => ?_, growR hR7, hle7, ?_, ?_, (rl7.imp hgp).app (.cons (hgp _ _ rv7') .nil), zo.lst _ lt ys _ f7 hZ7, growL f7 hL7⟩
  · omega
  · rw [upd_ne (ne_of_none e hl0)]
    exact x7' c u n1 n2 (x56 c u n1 n2 e)
  · rw [List.length_append, List.length_singleton]; omega
  · rw [hres, hun, hp7]
    show Option.map _ (Option.map _ (parL ws sg p ws.length m7)) = _
    rw [Option.map_map, par_fuel hg ws.length (ws.length + 1) m7 (by omega) (by omega) hle7]
    congr 1
    funext q
    simp
end
end K8
namespace K8
open PySem L2 K3 TM
def eltOf (e : Expr) (i : Nat) : Expr := match e with
  | .Tuple es _ _ => es.getD i e
  | _ => e
abbrev eRow : Expr := argOf (eltOf (retOf sRowF) 1) 0
abbrev qRow : Str := (PyProof.Rows.envOfC "row_from" (defScope sRowF) 0 0 .none).qual ++ "<lambda>"
abbrev eKind : Expr := argOf (eltOf (retOf sKindF) 1) 1
abbrev qKind : Str := (PyProof.Rows.envOfC "kind_from" (defScope sKindF) 0 0 .none).qual ++ "<lambda>"
def asgOf (s : Stmt) (i : Nat) : Expr := match (defBody s).getD i (.Pass ⟨0, 0, 0, 0⟩) with
  | .Assign _ e _ => e
  | _ => .Name "" ⟨0, 0, 0, 0⟩
abbrev eRead : Expr := argOf (asgOf sReadW 1) 1
abbrev qRead : Str := (PyProof.Rows.envOfC "read_wood" (defScope sReadW) 0 0 .none).qual ++ "<lambda>"
structure Ne3 (T1 T2 T3 : Addr) : Prop where
  a : T1 ≠ T2
  b : T1 ≠ T3
  c : T2 ≠ T3
structure Z3 (T1 T2 T3 : Addr) (H : Hp) : Prop where
  z1 : TbS H T1 (lamPos eRead) qRead
  z2 : TbS H T2 (lamPos eKind) qKind
  z3 : TbS H T3 (lamPos eRow) qRow
theorem z3_ok (T1 T2 T3 : Addr) : ZOk [T1, T2, T3] (Z3 T1 T2 T3) := by
  refine ⟨fun H z T hT => ?_, fun H H' g z => ⟨z.z1.same g, z.z2.same g, z.z3.same g⟩, fun H H' r C dx fs hr g z => ⟨tbs_ins hr g z.z1, tbs_ins hr g z.z2, tbs_ins hr g z.z3⟩, fun H a xs ys ha z => ⟨tbs_lst ha z.z1, tbs_lst ha z.z2, tbs_lst ha z.z3⟩⟩
  simp only [List.mem_cons, List.not_mem_nil, or_false] at hT
  rcases hT with rfl | rfl | rfl
  · exact z.z1.at
  · exact z.z2.at
  · exact z.z3.at
theorem Z3.by3 {T1 T2 T3 : Addr} {H H' : Hp} (ne : Ne3 T1 T2 T3) (z : Z3 T1 T2 T3 H) (g : SameX T3 H H') (k : TbS H' T3 (lamPos eRow) qRow) : Z3 T1 T2 T3 H' := by
  obtain ⟨ps, hp⟩ := z.z3.at
  exact ⟨z.z1.sameX hp ne.b g, z.z2.sameX hp ne.c g, k⟩
theorem Z3.by2 {T1 T2 T3 : Addr} {H H' : Hp} (ne : Ne3 T1 T2 T3) (z : Z3 T1 T2 T3 H) (g : SameX T2 H H') (k : TbS H' T2 (lamPos eKind) qKind) : Z3 T1 T2 T3 H' := by
  obtain ⟨ps, hp⟩ := z.z2.at
  exact ⟨z.z1.sameX hp ne.a g, k, z.z3.sameX hp ne.c.symm g⟩
theorem Z3.by1 {T1 T2 T3 : Addr} {H H' : Hp} (ne : Ne3 T1 T2 T3) (z : Z3 T1 T2 T3 H) (g : SameX T1 H H') (k : TbS H' T1 (lamPos eRead) qRead) : Z3 T1 T2 T3 H' := by
  obtain ⟨ps, hp⟩ := z.z1.at
  exact ⟨k, z.z2.sameX hp ne.a.symm g, z.z3.sameX hp ne.b.symm g⟩
def RvN (_ : Addr → Prop) (_ : Hp) (v : V) (x : List Nat) : Prop := v = .str (S x)
abbrev RowD := List Nat × List (List Nat)
def RvR (K : PySem.W.Frag) (_ : Addr → Prop) (H : Hp) (v : V) (x : RowD) : Prop := ∃ p b, v = .ref p ∧ SqT K H p [.str (S x.1), .ref b] ∧ SqT K H b (x.2.map fun y => V.str (S y))
abbrev KindD := List Nat × List RowD
def RvK (K : PySem.W.Frag) (ok : Addr → Prop) (H : Hp) (v : V) (x : KindD) : Prop := ∃ p l vs, v = .ref p ∧ SqT K H p [.str (S x.1), .ref l] ∧ ok l ∧ H l = some (.lst vs) ∧ RL (RvR K) (fun _ => True) H vs x.2
theorem rpN (C : Addr) (Ts : List Addr) : Rp C Ts RvN := ⟨fun _ _ _ _ _ _ _ _ h => h, fun _ _ _ _ _ _ _ _ _ h => h, fun _ _ _ _ h => h, fun _ _ _ _ _ _ h => h⟩
theorem rpR (K : PySem.W.Frag) (C : Addr) (Ts : List Addr) : Rp C Ts (RvR K) :=
  ⟨fun _ _ _ _ _ _ t g ⟨p, b, e, h1, h2⟩ => ⟨p, b, e, t.seqT g h1, t.seqT g h2⟩, fun _ _ _ _ _ _ _ _ ha ⟨p, b, e, h1, h2⟩ => ⟨p, b, e, h1.put ha, h2.put ha⟩, fun _ _ _ _ h => h, fun _ _ _ _ _ _ h => h⟩
theorem rpK (K : PySem.W.Frag) (C : Addr) (Ts : List Addr) : Rp C Ts (RvK K) :=
  ⟨fun _ _ _ _ _ _ t g ⟨p, l, vs, e, h1, o, h2, h3⟩ => ⟨p, l, vs, e, t.seqT g h1, o, t.lst g h2, h3.imp fun v x h => (rpR K C Ts).sx _ _ _ _ v x t g h⟩,
   fun _ a _ _ _ _ _ hne ha ⟨p, l, vs, e, h1, o, h2, h3⟩ => ⟨p, l, vs, e, h1.put ha, o, by rw [upd_ne (hne l o)]; exact h2, h3.imp fun v x ⟨p, b, e, g1, g2⟩ => ⟨p, b, e, g1.put ha, g2.put ha⟩⟩,
   fun _ _ _ _ ⟨p, l, vs, e, h1, o, h2, h3⟩ => ⟨p, l, vs, e, h1, ⟨o, by rw [h2]; exact fun z => nomatch z⟩, h2, h3⟩,
   fun _ _ _ _ _ hk ⟨p, l, vs, e, h1, o, h2, h3⟩ => ⟨p, l, vs, e, h1, hk l o, h2, h3⟩⟩
theorem ah_len {ws : List (List Nat)} (hW : ∀ w ∈ ws, w.length ≤ 61) (n : Nat) : (ah ws n).length ≤ 100 := by
  unfold ah
  cases q : ws[n]? with
  | none => simp
  | some w => have := hW w (List.mem_of_getElem? q); simp; omega
theorem rl_names {H : Hp} {ok : Addr → Prop} {vs : List V} {xs : List (List Nat)} (h : RL RvN ok H vs xs) : vs = xs.map fun y => V.str (S y) := by
  induction h with
  | nil => rfl
  | cons a r ih => rw [show _ = _ from a, ih]; rfl
theorem beg_ne {w sg : List Nat} (h : beg w sg = true) : w ≠ [] := by
  intro z; rw [z] at h; cases h
def nmP (ws : List (List Nat)) (m : Nat) : Option (List Nat × Nat) := if beg (ah ws m) letL = true then some (ah ws m, m + 1) else none
def rowP (ws : List (List Nat)) (m : Nat) : Option (RowD × Nat) := if beg (ah ws m) letL = true then (inbP ws (nmP ws) (m + 1)).map fun q => ((ah ws m, q.1), q.2) else none
def kindP (ws : List (List Nat)) (m : Nat) : Option (KindD × Nat) := if beg (ah ws m) letL = true then (if ah ws (m + 1) = [61] then (parP ws [124] (rowP ws) (m + 2)).map fun q => ((ah ws m, q.1), q.2) else none) else none
theorem nm_gd (ws : List (List Nat)) : Gd ws (nmP ws) := ⟨fun m x m' h => by
  unfold nmP at h
  split at h
  · rename_i hb
    cases h
    exact ⟨Nat.lt_succ_self _, ah_lt rfl (beg_ne hb)⟩
  · cases h⟩
theorem row_gd (ws : List (List Nat)) : Gd ws (rowP ws) := ⟨fun m x m' h => by
  unfold rowP at h
  split at h
  · rename_i hb
    simp only [Option.map_eq_some_iff] at h
    obtain ⟨⟨xs, m2⟩, h1, h2⟩ := h
    cases h2
    obtain ⟨c, d⟩ := inb_gd (nm_gd ws) (ah_lt rfl (beg_ne hb)) h1
    exact ⟨by omega, d⟩
  · cases h⟩
theorem kind_gd (ws : List (List Nat)) : Gd ws (kindP ws) := ⟨fun m x m' h => by
  unfold kindP at h
  split at h
  · split at h
    · simp only [Option.map_eq_some_iff] at h
      obtain ⟨⟨xs, m2⟩, h1, h2⟩ := h
      cases h2
      obtain ⟨c, d⟩ := (par_gd (sg := [124]) (row_gd ws)).on _ _ _ h1
      exact ⟨by omega, d⟩
    · cases h
  · cases h⟩
def spFromX {α : Type} (C : Addr) (Ts : List Addr) (Z : Hp → Prop) (Rv : (Addr → Prop) → Hp → V → α → Prop) (p : List (List Nat) → Nat → Option (α × Nat)) (N : Addr) : Sp := fun vs H Q E => ∃ (r l : Addr) (ws : List (List Nat)) (m : Nat), vs = [.ref r] ∧ RdAt C H r l ws m ∧ (∀ w ∈ ws, w.length ≤ 61) ∧ ws.length ≤ 1000 ∧ m ≤ ws.length ∧ Z H ∧
  (∀ x m', p ws m = some (x, m') → ∀ (v : V) (H' : Hp), SXs Ts r H H' → RdAt C H' r l ws m' → Rv (fun b => H b = none) H' v x → Z H' → Q v H') ∧
  (p ws m = none → ∀ H', SXs Ts r H H' → Z H' → E (.ref N) none H')
section
variable {P : Program} {w : World} {K : PySem.W.Frag} {mg : Str → Option Value} {base : Heap} {f : Addr} {fd : FuncData} {C N T1 T2 T3 c : Addr}
theorem scRowF : FnScope ["reader", "name"] ["reader"] (defScope sRowF) := ⟨rfl, rfl, rfl, by decide +kernel, rfl, by decide +kernel, by decide +kernel⟩
theorem fr_row : ∀ y ∈ (lamScope eRow).names, y.2 ≠ NameKind.cell ∧ y.2 ≠ NameKind.local := by decide +kernel
theorem on_row : ∀ y ∈ (lamScope eRow).names, y.2 = NameKind.free → y.1 = Str.ofString "reader" := by decide +kernel
theorem ok_rowF {fI : Addr} {fdI : FuncData} (ne : Ne3 T1 T2 T3) (F : Fun K "row_from" "row_from" sRowF f fd) (hn : PySem.W.nsIn K mainGlobals "row_from" = some (some (.ref f))) (hTb : PySem.W.tabIn K "row_from" = some (c, T3)) (hC : PySem.W.codeHdIn K c T3 = true) (hB : BtAt mg base) (TT : RdT K mg C)
    (MN : ∀ g : Heap, MtX P w K mg g C 3 "take_name" ["self"] (spTakeN C N)) (mI : Meth K C "in_brackets" fI) (bI : Binds K fdI ["self", "take_one"] [])
    (FI : ∀ g : Heap, FnOk P w K mg g (CX1 P w) (2 + 3) fI fdI ["self", "take_one"] (spInX P w K mg C [T1, T2, T3] (Z3 T1 T2 T3) RvN N (2 + 2) g)) : FnOk P w K mg base (CX1 P w) 6 f fd ["reader"] (spFromX C [T1, T2, T3] (Z3 T1 T2 T3) (RvR K) rowP N) := by
  refine Fun.okXC F hn hTb scRowF (fun vs H Q E h => ?_) (fun A outer s H vs Q E hr h => ?_)
  · obtain ⟨r, l, ws, m, rfl, _⟩ := h
    rfl
  obtain ⟨r, l, ws, m, rfl, hR, hW, h1k, hm, hZ, q1, q2⟩ := h
  refine ⟨_, (pss_cons (ps_set (i := 1) scRowF.nd rfl (Or.inl rfl) (pe_mtX0 (EE := fun _ => E) (MN base) TT.cl hr (passE fun _ _ h => h) (pv 0) (by omega)))
    (pss_one (ps_ret (pe_tup (pa_cons (pv 1) (pa_cons (pe_methBX (EE := fun _ => E) (pv 0) TT.cl mI (fun g _ => FI g) hr bI (passE fun _ _ h => h) (fun _ => rfl) (pa_cons (pe_lamC (c := c) (T := T3) rfl hC hB) pa_nil)) pa_nil)))))), ?_⟩
  obtain ⟨dx, hx⟩ := hR.ins
  have zo := z3_ok T1 T2 T3
  refine ⟨_, rfl, r, dx, _, rfl, hx, rfl, r, l, ws, m, rfl, hR, hm, ah_len hW m, fun hb H1 g1 hR1 => ?_, fun hb => q2 (by rw [rowP, hb]; rfl) H (SXs.refl _ _ _) hZ⟩
  have hm1 : m + 1 ≤ ws.length := ah_lt rfl (beg_ne hb)
  have hun : rowP ws m = (inbP ws (nmP ws) (m + 1)).map fun q => ((ah ws m, q.1), q.2) := by rw [rowP, if_pos hb]
  rw [hun] at q1 q2
  have hZ1 := zo.ins _ _ r C dx _ hx g1 hZ
  have x1 : SXs [T1, T2, T3] r H H1 := SXs.ofR g1
  obtain ⟨dx1, hx1⟩ := hR1.ins
  refine ⟨_, rfl, _, rfl, r, dx1, _, rfl, hx1, rfl, hZ1.z3, fun L H4 x4 hL0 hL4 tb4 g hs hc => ?_⟩
  obtain ⟨ps, hps⟩ := hZ1.z3.at
  have nr : r ≠ T3 := fun z => by rw [z, hps] at hx1; cases hx1
  have nl : l ≠ T3 := fun z => by have h := hR1.fl; rw [z, hps] at h; cases h
  have hR4 : RdAt C H4 r l ws (m + 1) := ⟨⟨dx1, x4 _ _ nr hx1⟩, x4 _ _ nl hR1.fl⟩
  have hZ4 := hZ1.by3 ne x4 tb4
  have x14 : SXs [T1, T2, T3] r H H4 := x1.trans (SXs.ofT (by simp) x4)
  obtain ⟨c1, u1, e1, i1, v1⟩ := hc 0 "reader" (.ref r) rfl rfl rfl
  refine ⟨r, l, L, ws, nmP ws, m + 1, eRow, _, rfl, hR4, hm1, h1k, nm_gd ws, hL4, ?_, hZ4, fun xs m' hin b vs H5 x5 hR5 sq5 hvl rl5 hZ5 => ⟨(by show 2 ≤ sizeLine; decide), fun tp htp => ?_⟩, fun hin H5 x5 hZ5 => q2 (by rw [hin]; rfl) H5 (x14.trans x5) hZ5⟩
  · obtain rfl : s.heap.objs.size + 1 = c1 := Option.some.inj e1
    refine lam_runX (k := 3) (N := ["reader"]) (vs := [.ref r]) rfl rfl rfl fr_row (fun y hy => ?_) (ClAt.one i1 v1) (fun _ _ _ _ => rfl) (fun qual' f' c' A' outer' s' H' Q' E' hr' h' => ?_)
    · have z := on_row _ (PySem.mem_of_lookup hy) rfl
      have z' : y = Str.ofString "reader" := z
      rw [z']
      obtain ⟨c0, u0, e0, _⟩ := (ClAt.one (x1 := Str.ofString "reader") i1 v1).val 0 (Str.ofString "reader") (.ref r) rfl rfl
      exact ⟨c0, e0⟩
    · obtain ⟨m', _, hR', hm', hZ', q1', q2'⟩ := h'
      refine ⟨_, pe_mtX0 (EE := fun _ => E') (MN g) TT.cl hr' passL (pv 0) (Nat.le_refl _), ?_⟩
      obtain ⟨dx', hx'⟩ := hR'.ins
      refine ⟨_, rfl, r, dx', _, rfl, hx', rfl, r, l, ws, m', rfl, hR', hm', ah_len hW m', fun hb' H2 g2 hR2 => ?_, fun hb' => q2' (by rw [nmP, hb']; rfl) H' (SXs.refl _ _ _) hZ'⟩
      exact q1' (ah ws m') (m' + 1) (by rw [nmP, if_pos hb']) _ H2 (SXs.ofR g2) hR2 rfl (zo.ins _ _ r C dx' _ hx' g2 hZ')
  · have s6 := same_new htp (.tup [.str (S (ah ws m)), .ref b])
    rw [rl_names rl5] at sq5
    exact q1 (ah ws m, xs) m' (by rw [hin]; rfl) _ _ (x14.trans (x5.trans (SXs.of s6))) (hR5.same s6) ⟨tp, b, rfl, SqT.of upd_same, s6.seqT sq5⟩ (zo.sm _ _ s6 hZ5)
end
end K8
namespace K8
open PySem L2 K3 TM
section
variable {P : Program} {w : World} {K : PySem.W.Frag} {mg : Str → Option Value} {base : Heap} {f : Addr} {fd : FuncData} {C N T1 T2 T3 c : Addr}
theorem scKindF : FnScope ["reader", "kind"] ["reader"] (defScope sKindF) := ⟨rfl, rfl, rfl, by decide +kernel, rfl, by decide +kernel, by decide +kernel⟩
theorem fr_kind : ∀ y ∈ (lamScope eKind).names, y.2 ≠ NameKind.cell ∧ y.2 ≠ NameKind.local := by decide +kernel
theorem on_kind : ∀ y ∈ (lamScope eKind).names, y.2 = NameKind.free → y.1 = Str.ofString "reader" := by decide +kernel
theorem ok_kindF {fP : Addr} {fdP : FuncData} (ne : Ne3 T1 T2 T3) (F : Fun K "kind_from" "kind_from" sKindF f fd) (hn : PySem.W.nsIn K mainGlobals "kind_from" = some (some (.ref f))) (hTb : PySem.W.tabIn K "kind_from" = some (c, T2)) (hC : PySem.W.codeHdIn K c T2 = true) (hB : BtAt mg base) (TT : RdT K mg C)
    (MN : MtX P w K mg base C 3 "take_name" ["self"] (spTakeN C N)) (ME : MtX P w K mg base C 3 "need" ["self", "sign"] (spNeedX C N)) (mP : Meth K C "parted_by" fP) (bP : Binds K fdP ["self", "sign", "take_one"] [])
    (FP : ∀ g : Heap, FnOk P w K mg g (CX1 P w) (5 + 3) fP fdP ["self", "sign", "take_one"] (spParX P w K mg C [T1, T2, T3] (Z3 T1 T2 T3) (RvR K) N (5 + 2) g))
    (R : ∀ g : Heap, BtAt mg g → FnX P w K mg g 6 "row_from" ["reader"] (spFromX C [T1, T2, T3] (Z3 T1 T2 T3) (RvR K) rowP N)) : FnOk P w K mg base (CX1 P w) 9 f fd ["reader"] (spFromX C [T1, T2, T3] (Z3 T1 T2 T3) (RvK K) kindP N) := by
  refine Fun.okXC F hn hTb scKindF (fun vs H Q E h => ?_) (fun A outer s H vs Q E hr h => ?_)
  · obtain ⟨r, l, ws, m, rfl, _⟩ := h
    rfl
  obtain ⟨r, l, ws, m, rfl, hR, hW, h1k, hm, hZ, q1, q2⟩ := h
  refine ⟨_, (pss_cons (ps_set (i := 1) scKindF.nd rfl (Or.inl rfl) (pe_mtX0 (EE := fun _ => E) MN TT.cl hr (passE fun _ _ h => h) (pv 0) (by omega)))
    (pss_cons (ps_expr (pe_mtX (EE := fun _ => E) ME TT.cl hr (passE fun _ _ h => h) (pv 0) (pa_cons (pe_str) pa_nil) (by omega)))
    (pss_one (ps_ret (pe_tup (pa_cons (pv 1) (pa_cons (pe_methBX (EE := fun _ => E) (pv 0) TT.cl mP (fun g _ => FP g) hr bP (passE fun _ _ h => h) (fun _ => rfl) (pa_cons (pe_str) (pa_cons (pe_lamC (c := c) (T := T2) rfl hC hB) pa_nil))) pa_nil))))))), ?_⟩
  obtain ⟨dx, hx⟩ := hR.ins
  have zo := z3_ok T1 T2 T3
  have e61 : S [61] = Str.ofString "=" := by decide +kernel
  have e124 : S [124] = Str.ofString "|" := by decide +kernel
  refine ⟨_, rfl, r, dx, _, rfl, hx, rfl, r, l, ws, m, rfl, hR, hm, ah_len hW m, fun hb H1 g1 hR1 => ?_, fun hb => q2 (by rw [kindP, hb]; rfl) H (SXs.refl _ _ _) hZ⟩
  have hm1 : m + 1 ≤ ws.length := ah_lt rfl (beg_ne hb)
  have hZ1 := zo.ins _ _ r C dx _ hx g1 hZ
  have x1 : SXs [T1, T2, T3] r H H1 := SXs.ofR g1
  obtain ⟨dx1, hx1⟩ := hR1.ins
  refine ⟨_, rfl, r, dx1, _, rfl, hx1, rfl, r, l, ws, m + 1, [61], (by rw [e61]), hR1, hm1, by decide +kernel, fun ha1 H2 g2 hR2 => ?_, fun ha1 => q2 (by rw [kindP, if_pos hb, if_neg ha1]) H1 x1 hZ1⟩
  have hm2 : m + 2 ≤ ws.length := ah_lt ha1 (by decide)
  have hun : kindP ws m = (parP ws [124] (rowP ws) (m + 2)).map fun q => ((ah ws m, q.1), q.2) := by rw [kindP, if_pos hb, if_pos ha1]
  rw [hun] at q1 q2
  have hZ2 := zo.ins _ _ r C dx1 _ hx1 g2 hZ1
  have x2 : SXs [T1, T2, T3] r H H2 := x1.trans (SXs.ofR g2)
  obtain ⟨dx2, hx2⟩ := hR2.ins
  refine ⟨_, rfl, _, rfl, r, dx2, _, rfl, hx2, rfl, hZ2.z2, fun L H4 x4 hL0 hL4 tb4 g hs hc => ?_⟩
  obtain ⟨ps, hps⟩ := hZ2.z2.at
  have nr : r ≠ T2 := fun z => by rw [z, hps] at hx2; cases hx2
  have nl : l ≠ T2 := fun z => by have h := hR2.fl; rw [z, hps] at h; cases h
  have hR4 : RdAt C H4 r l ws (m + 2) := ⟨⟨dx2, x4 _ _ nr hx2⟩, x4 _ _ nl hR2.fl⟩
  have hZ4 := hZ2.by2 ne x4 tb4
  have x14 : SXs [T1, T2, T3] r H H4 := x2.trans (SXs.ofT (by simp) x4)
  obtain ⟨c1, u1, e1, i1, v1⟩ := hc 0 "reader" (.ref r) rfl rfl rfl
  refine ⟨r, l, L, ws, [124], rowP ws, m + 2, eKind, _, (by rw [e124]), by decide, hR4, hm2, h1k, row_gd ws, hL4, ?_, hZ4, fun xs m' hin b vs H5 x5 hR5 hb0 hb5 hvl rl5 hZ5 => ⟨(by show 2 ≤ sizeLine; decide), fun tp htp => ?_⟩, fun hin H5 x5 hZ5 => q2 (by rw [hin]; rfl) H5 (x14.trans x5) hZ5⟩
  · obtain rfl : s.heap.objs.size + 1 = c1 := Option.some.inj e1
    refine lam_runX (k := 6) (N := ["reader"]) (vs := [.ref r]) rfl rfl rfl fr_kind (fun y hy => ?_) (ClAt.one i1 v1) (fun _ _ _ _ => rfl) (fun qual' f' c' A' outer' s' H' Q' E' hr' h' => ?_)
    · have z := on_kind _ (PySem.mem_of_lookup hy) rfl
      have z' : y = Str.ofString "reader" := z
      rw [z']
      obtain ⟨c0, u0, e0, _⟩ := (ClAt.one (x1 := Str.ofString "reader") i1 v1).val 0 (Str.ofString "reader") (.ref r) rfl rfl
      exact ⟨c0, e0⟩
    · obtain ⟨m', _, hR', hm', hZ', q1', q2'⟩ := h'
      refine ⟨_, pe_fnX (EE := fun _ => E') (R g (hB.sub hs)) hr' passL (pa_cons (pv 0) pa_nil) (Nat.le_refl _), ?_⟩
      exact ⟨_, rfl, r, l, ws, m', rfl, hR', hW, h1k, hm', hZ', q1', q2'⟩
  · have s6 := same_new htp (.tup [.str (S (ah ws m)), .ref b])
    have tr5 := hR5.trs zo hZ5
    exact q1 (ah ws m, xs) m' (by rw [hin]; rfl) _ _ (x14.trans (x5.trans (SXs.of s6))) (hR5.same s6) ⟨tp, b, vs, rfl, SqT.of upd_same, sx_free zo x14 hZ4 hR4 hb0, s6 _ _ hb5, rl5.imp fun v x h => (rpR K C [T1, T2, T3]).wk _ _ _ _ _ (fun _ _ => trivial) ((rpR K C [T1, T2, T3]).sx _ _ _ r v x tr5 (SXs.of s6) h)⟩ (zo.sm _ _ s6 hZ5)
end
end K8
namespace L2
open PySem PySem.Spec PyProof.Rows
def tJoin6 (t1 t2 t3 t4 t5 t6 : TE) : TE := fun σ H Q => t1 σ H fun v1 H1 => ∃ a1 : Str, v1 = .str a1 ∧ a1.length ≤ 800 ∧ t2 σ H1 fun v2 H2 => ∃ a2 : Str, v2 = .str a2 ∧ a2.length ≤ 800 ∧ t3 σ H2 fun v3 H3 => ∃ a3 : Str, v3 = .str a3 ∧ a3.length ≤ 800 ∧ t4 σ H3 fun v4 H4 => ∃ a4 : Str, v4 = .str a4 ∧ a4.length ≤ 800 ∧ t5 σ H4 fun v5 H5 => ∃ a5 : Str, v5 = .str a5 ∧ a5.length ≤ 800 ∧ t6 σ H5 fun v6 H6 => ∃ a6 : Str, v6 = .str a6 ∧ a6.length ≤ 800 ∧ ∀ x : Str, Q (.str x) H6
section
variable {X : Cx} {e1 e2 e3 e4 e5 e6 : Expr} {t1 t2 t3 t4 t5 t6 : TE} {pos : Pos}
theorem pe_join6 (h1 : PE X e1 t1) (h2 : PE X e2 t2) (h3 : PE X e3 t3) (h4 : PE X e4 t4) (h5 : PE X e5 t5) (h6 : PE X e6 t6) : PE X (.JoinedStr [e1, e2, e3, e4, e5, e6] pos) (tJoin6 t1 t2 t3 t4 t5 t6) := by
  intro pins s σ H Q I h
  refine wpAny_JoinedStr ?_
  have e0 : (Str.empty).length = 0 := rfl
  refine thn (h1 pins s σ H _ I h) fun u1 s1 ⟨x1, H1, I1, r1, a1, ea1, la1, q1⟩ => ?_
  subst ea1
  obtain ⟨ta1, rfl⟩ := r1
  refine ⟨a1, ta1, rfl, line_of (by rw [strLen_append]; omega), ?_⟩
  refine thn (h2 pins s1 σ H1 _ I1 q1) fun u2 s2 ⟨x2, H2, I2, r2, a2, ea2, la2, q2⟩ => ?_
  subst ea2
  obtain ⟨ta2, rfl⟩ := r2
  refine ⟨a2, ta2, rfl, line_of (by rw [strLen_append, strLen_append]; omega), ?_⟩
  refine thn (h3 pins s2 σ H2 _ I2 q2) fun u3 s3 ⟨x3, H3, I3, r3, a3, ea3, la3, q3⟩ => ?_
  subst ea3
  obtain ⟨ta3, rfl⟩ := r3
  refine ⟨a3, ta3, rfl, line_of (by rw [strLen_append, strLen_append, strLen_append]; omega), ?_⟩
  refine thn (h4 pins s3 σ H3 _ I3 q3) fun u4 s4 ⟨x4, H4, I4, r4, a4, ea4, la4, q4⟩ => ?_
  subst ea4
  obtain ⟨ta4, rfl⟩ := r4
  refine ⟨a4, ta4, rfl, line_of (by rw [strLen_append, strLen_append, strLen_append, strLen_append]; omega), ?_⟩
  refine thn (h5 pins s4 σ H4 _ I4 q4) fun u5 s5 ⟨x5, H5, I5, r5, a5, ea5, la5, q5⟩ => ?_
  subst ea5
  obtain ⟨ta5, rfl⟩ := r5
  refine ⟨a5, ta5, rfl, line_of (by rw [strLen_append, strLen_append, strLen_append, strLen_append, strLen_append]; omega), ?_⟩
  refine thn (h6 pins s5 σ H5 _ I5 q5) fun u6 s6 ⟨x6, H6, I6, r6, a6, ea6, la6, q6⟩ => ?_
  subst ea6
  obtain ⟨ta6, rfl⟩ := r6
  refine ⟨a6, ta6, rfl, line_of (by rw [strLen_append, strLen_append, strLen_append, strLen_append, strLen_append, strLen_append]; omega), line_of (by rw [strLen_append, strLen_append, strLen_append, strLen_append, strLen_append, strLen_append]; omega), ?_⟩
  exact ⟨.str _, H6, I6.tok _, ⟨_, rfl⟩, q6 _⟩
end
end L2
namespace K8
open PySem L2 K3 TM K9
abbrev codes (z : Str) : List Nat := z.cps.toList
def datR' (t : PNx) : RowD := (codes t.2.1, t.2.2.2.map codes)
def datK' (k : KdT) : KindD := (codes k.2.1, k.2.2.2.map datR')
theorem rl_rows {K : PySem.W.Frag} {H : Hp} {ok : Addr → Prop} {vs : List V} {rs : List RowD} (h : RL (RvR K) ok H vs rs) : ∃ ts : List PNx, vs = ts.map (fun t => V.ref t.1) ∧ (∀ t ∈ ts, RowAt K H t) ∧ ts.map datR' = rs := by
  induction h with
  | nil => exact ⟨[], rfl, fun t ht => (nomatch ht), rfl⟩
  | @cons v vs x xs a r ih =>
    obtain ⟨ts, rfl, h1, h2⟩ := ih
    obtain ⟨p, b, rfl, g1, g2⟩ := a
    refine ⟨(p, S x.1, b, x.2.map S) :: ts, rfl, fun t ht => ?_, ?_⟩
    · rcases List.mem_cons.mp ht with rfl | ht
      · exact ⟨g1, by rw [show (x.2.map S).map V.str = x.2.map fun y => V.str (S y) by rw [List.map_map]; rfl]; exact g2⟩
      · exact h1 t ht
    · rw [List.map_cons, h2]
      congr 1
      simp only [datR', codes, S_list, List.map_map]
      rw [show ((fun z : Str => z.cps.toList) ∘ S) = id from funext fun y => S_list y, List.map_id]
theorem rl_kinds {K : PySem.W.Frag} {H : Hp} {ok : Addr → Prop} {vs : List V} {ks : List KindD} (h : RL (RvK K) ok H vs ks) : ∃ hs : List KdT, vs = hs.map (fun k => V.ref k.1) ∧ (∀ k ∈ hs, SqT K H k.1 [.str k.2.1, .ref k.2.2.1] ∧ H k.2.2.1 = some (.lst (k.2.2.2.map fun t => V.ref t.1)) ∧ ok k.2.2.1 ∧ ∀ t ∈ k.2.2.2, RowAt K H t) ∧ hs.map datK' = ks := by
  induction h with
  | nil => exact ⟨[], rfl, fun t ht => (nomatch ht), rfl⟩
  | @cons v vs x xs a r ih =>
    obtain ⟨hs, rfl, h1, h2⟩ := ih
    obtain ⟨p, l, us, rfl, g1, go, g2, g3⟩ := a
    obtain ⟨ts, rfl, t1, t2⟩ := rl_rows g3
    refine ⟨(p, S x.1, l, ts) :: hs, rfl, fun k hk => ?_, ?_⟩
    · rcases List.mem_cons.mp hk with rfl | hk
      · exact ⟨g1, g2, go, t1⟩
      · exact h1 k hk
    · rw [List.map_cons, h2]
      congr 1
      show (codes (S x.1), ts.map datR') = x
      rw [t2, codes, S_list]
abbrev rLenS (K : PySem.W.Frag) : List V → Hp → VK → Prop := fun xs H Q => ∃ p ys, xs = [.ref p] ∧ (SqL K H p ys ∨ SqT K H p ys) ∧ Q (.int ys.length) H
structure Gm2 (mg : Str → Option Value) : Prop where
  ks : ∃ t, mg "MOST_KINDS" = some (.int 6 t)
  rs : ∃ t, mg "MOST_ROWS" = some (.int 16 t)
  bs : ∃ t, mg "MOST_BRANCHES" = some (.int 4 t)
  all : mg "all" = none
  srt : mg "sorted" = none
  set : mg "set" = none
  mn : mg "min" = none
def NumOk (ks : List KdT) : Prop := ks.length ≤ 6 ∧ (ks.map fun k => k.2.2.2.length).sum ≤ 16 ∧ ∀ k ∈ ks, ∀ t ∈ k.2.2.2, t.2.2.2.length ≤ 4
def RepOk (ks : List KdT) : Prop := ∀ k ∈ ks, (reprText k.2.1).length ≤ 800 ∧ ∀ t ∈ k.2.2.2, (reprText t.2.1).length ≤ 800 ∧ ∀ b ∈ t.2.2.2, (reprText b).length ≤ 800
def spChkNX (K : PySem.W.Frag) (N : Addr) : Sp := fun vs H Q E => ∃ (lw : Addr) (ks : List KdT), vs = [.ref lw] ∧ WoodAt K H lw ks ∧ RepOk ks ∧ ks.length ≤ 1000 ∧ (ks.map fun k => k.2.2.2.length).sum ≤ 1000 ∧ (NumOk ks → ∀ H', Same H H' → Q .non H') ∧ (¬ NumOk ks → ∀ H', Same H H' → E (.ref N) none H')
section
variable {P : Program} {w : World} {K : PySem.W.Frag} {mg : Str → Option Value} {base : Heap} {f : Addr} {fd : FuncData} {N : Addr}
theorem sum_len (ks : List KdT) : ((ks.map fun k => ((k.2.2.2.length : Nat) : Int)).sum) = (((ks.map fun k => k.2.2.2.length).sum : Nat) : Int) := by
  induction ks with
  | nil => rfl
  | cons k r ih => rw [List.map_cons, List.sum_cons, List.map_cons, List.sum_cons, ih]; omega
theorem scChkN : FnScope ["wood", "kind", "rows", "name", "branches"] ["wood"] (defScope sChkN) := ⟨rfl, rfl, rfl, by decide +kernel, rfl, by decide +kernel, by decide +kernel⟩
theorem ok_chkN (F : Fun K "check_numbers" "check_numbers" sChkN f fd) (G : Gm mg) (G2 : Gm2 mg) (RS : Rs K mg "NoText" N) : FnOk P w K mg base (CX1 P w) 1 f fd ["wood"] (spChkNX K N) := by
  obtain ⟨t1, h1⟩ := G2.ks
  obtain ⟨t2, h2⟩ := G2.rs
  obtain ⟨t3, h3⟩ := G2.bs
  refine Fun.okX F scChkN (fun vs H Q E h => ?_) (fun cdv A outer s H vs Q E hr h => ?_)
  · obtain ⟨lw, ks, rfl, _⟩ := h
    rfl
  obtain ⟨lw, ks, rfl, hW, hN, hk1, hk2, q1, q2⟩ := h
  refine ⟨_, (pss_cons (ps_if (pt_cmpR op_gt (pe_callB call_len_seq rfl G.len PySem.boot_len (pa_cons (pv 0) pa_nil)) (pe_glob (v := .int 6) rfl h1 ⟨_, rfl⟩) (nomark _)) (pss_one (ps_raise RS.hm RS.hq PySem.F.excBase_ValueError (by decide) (pa_cons (pe_join3 pe_str (pe_fint (pe_glob (v := .int 6) rfl h1 ⟨_, rfl⟩)) pe_str) pa_nil))) pss_nil)
    (pss_cons (ps_if (pt_cmpR op_gt (pe_callB (call_sum rfl) rfl G.sum PyProof.Rows.boot_sum (pa_cons (pe_lcompG (CompG.many (xs := ["kind", "rows"]) (caps := []) (cap := []) (cs := []) rfl rfl (by decide +kernel) (by decide +kernel) (by decide +kernel) (by decide +kernel) (by decide +kernel) (by decide +kernel) rfl rfl rfl) rfl (pi_list (pv 0)) (pg_c2 (CompG.many (xs := ["kind", "rows"]) (caps := []) (cap := []) (cs := []) rfl rfl (by decide +kernel) (by decide +kernel) (by decide +kernel) (by decide +kernel) (by decide +kernel) (by decide +kernel) rfl rfl rfl) rfl) (fun _ _ _ _ => pf_nil) (fun _ _ _ _ => pe_callB (r := rLenS K) call_len_seq rfl G.len PySem.boot_len (pa_cons (pv 1) pa_nil))) pa_nil)) (pe_glob (v := .int 16) rfl h2 ⟨_, rfl⟩) (nomark _)) (pss_one (ps_raise RS.hm RS.hq PySem.F.excBase_ValueError (by decide) (pa_cons (pe_join3 pe_str (pe_fint (pe_glob (v := .int 16) rfl h2 ⟨_, rfl⟩)) pe_str) pa_nil))) pss_nil)
    (pss_one (ps_for PassesOwn.leaving rfl (pi_list (pv 0)) (pg_tup rfl (pgs_cons (pg_name (i := 1) scChkN.nd rfl (Or.inl rfl)) (pgs_cons (pg_name (i := 2) scChkN.nd rfl (Or.inl rfl)) pgs_nil))) (pss_one (ps_for PassesOwn.leaving rfl (pi_list (pv 2)) (pg_tup rfl (pgs_cons (pg_name (i := 3) scChkN.nd rfl (Or.inl rfl)) (pgs_cons (pg_name (i := 4) scChkN.nd rfl (Or.inl rfl)) pgs_nil))) (pss_one (ps_if (pt_cmpR op_gt (pe_callB call_len_seq rfl G.len PySem.boot_len (pa_cons (pv 4) pa_nil)) (pe_glob (v := .int 4) rfl h3 ⟨_, rfl⟩) (nomark _)) (pss_one (ps_raise RS.hm RS.hq PySem.F.excBase_ValueError (by decide) (pa_cons (pe_join6 (pe_frep (pv 3)) pe_str (pe_frep (pv 1)) pe_str (pe_fint (pe_glob (v := .int 4) rfl h3 ⟨_, rfl⟩)) pe_str) pa_nil))) pss_nil)))))))), ?_⟩
  refine ⟨_, rfl, lw, _, rfl, .inl hW.1, _, _, rfl, rfl, _, rfl, ?_⟩
  rw [List.length_map]
  by_cases h6 : 6 < ks.length
  · exact iteP (by omega) ⟨_, rfl, by decide +kernel, 6, rfl, by decide +kernel, _, rfl, by decide +kernel, _, rfl, by decide +kernel, (by show 1 ≤ sizeLine; decide), q2 (fun h => by have := h.1; omega) H (Same.refl _)⟩
  refine iteN (by omega) ?_
  refine ⟨_, rfl, lw, rfl, ⟨_, hW.1⟩, fun acc hacc => ?_⟩
  refine c2_list (K := K) (xs := ks.map fun k => V.ref k.1) (cs := []) (tt := fun _ H Q => Q true H) (te := tCB (rLenS K) (tCons (tVar 1) tNil)) (fun j ys H' => ys = ((ks.take j).map fun k => ((k.2.2.2.length : Nat) : Int)).map V.int ∧ H' acc = some (.lst ys) ∧ Same H H')
    ⟨rfl, upd_same, same_new hacc _⟩ ?_ ?_ ?_
  · rintro j ys H' _ ⟨_, _, g⟩
    exact g.seq hW.1
  · rintro j x ys H' hj hx ⟨rfl, hy, g⟩
    rw [List.length_map] at hj
    obtain rfl : x = .ref ks[j].1 := by
      rw [List.getElem?_map, List.getElem?_eq_getElem hj] at hx
      exact (Option.some.inj hx).symm
    obtain ⟨k1, k2⟩ := hW.2 ks[j] (List.getElem_mem hj)
    refine ⟨_, _, _, rfl, g.seqT k1, iteT ⟨_, rfl, _, _, rfl, .inl (g.seq k2.1), ?_⟩⟩
    rw [List.length_map]
    refine comp_next hj hy (by rw [List.length_map, List.length_map, List.length_take]; omega) ⟨?_, upd_same, fun b u e => ?_⟩
    · rw [List.take_add_one, List.getElem?_eq_getElem hj, Option.toList_some, List.map_append, List.map_append, List.length_map]; rfl
    · rw [upd_ne (ne_of_none e hacc)]; exact g _ _ e
  rintro ys H1 ⟨rfl, hy1, g1⟩
  rw [List.length_map, List.take_length] at hy1
  refine ⟨acc, _, rfl, SqL.of hy1, ⟨fun n hn => ?_, ?_⟩, _, _, rfl, rfl, _, rfl, ?_⟩
  · obtain ⟨k, _, rfl⟩ := List.mem_map.mp hn
    omega
  · rw [sum_len]; omega
  rw [sum_len]
  by_cases h16 : 16 < (ks.map fun k => k.2.2.2.length).sum
  · exact iteP (by omega) ⟨_, rfl, by decide +kernel, 16, rfl, by decide +kernel, _, rfl, by decide +kernel, _, rfl, by decide +kernel, (by show 1 ≤ sizeLine; decide), q2 (fun h => by have := h.2.1; omega) _ g1⟩
  refine iteN (by omega) ?_
  refine ⟨_, rfl, lw, rfl, ⟨_, g1.seq hW.1⟩, ?_⟩
  refine for_list (K := K) (xs := ks.map fun k => V.ref k.1) (fun i σ H' => ∃ c1 c2 c3 c4 : Option V, σ = [some (.ref lw), c1, c2, c3, c4] ∧ Same H H' ∧ ∀ k ∈ ks.take i, ∀ t ∈ k.2.2.2, t.2.2.2.length ≤ 4) ⟨none, none, none, none, rfl, g1, fun k hk => (nomatch hk)⟩ ?_ ?_ ?_
  · rintro i σ H' _ ⟨_, _, _, _, _, g, _⟩
    exact g.seq hW.1
  · rintro i x σ H' hx ⟨c1, c2, c3, c4, rfl, g, hfi⟩
    have hi : i < ks.length := by have := (List.getElem?_eq_some_iff.mp hx).1; rw [List.length_map] at this; exact this
    obtain rfl : x = .ref ks[i].1 := by
      rw [List.getElem?_map, List.getElem?_eq_getElem hi] at hx
      exact (Option.some.inj hx).symm
    obtain ⟨k1, k2⟩ := hW.2 ks[i] (List.getElem_mem hi)
    refine ⟨_, _, rfl, g.seqT k1, rfl, _, _, rfl, _, _, rfl, rfl, _, rfl, _, rfl, ⟨_, g.seq k2.1⟩, ?_⟩
    refine for_list (K := K) (xs := ks[i].2.2.2.map fun t => V.ref t.1) (fun j σ H' => ∃ c3 c4 : Option V, σ = [some (.ref lw), some (.str ks[i].2.1), some (.ref ks[i].2.2.1), c3, c4] ∧ Same H H' ∧ ∀ t ∈ ks[i].2.2.2.take j, t.2.2.2.length ≤ 4) ⟨c3, c4, rfl, g, fun k hk => (nomatch hk)⟩ ?_ ?_ ?_
    · rintro j σ H' _ ⟨_, _, _, g, _⟩
      exact g.seq k2.1
    · rintro j x σ H2 hx ⟨c3, c4, rfl, g2, hfj⟩
      have hj : j < ks[i].2.2.2.length := by have := (List.getElem?_eq_some_iff.mp hx).1; rw [List.length_map] at this; exact this
      obtain rfl : x = .ref ks[i].2.2.2[j].1 := by
        rw [List.getElem?_map, List.getElem?_eq_getElem hj] at hx
        exact (Option.some.inj hx).symm
      obtain ⟨r1, r2⟩ := k2.2 ks[i].2.2.2[j] (List.getElem_mem hj)
      obtain ⟨hn1, hn2⟩ := hN ks[i] (List.getElem_mem hi)
      obtain ⟨hn3, _⟩ := hn2 ks[i].2.2.2[j] (List.getElem_mem hj)
      refine ⟨_, _, rfl, g2.seqT r1, rfl, _, _, rfl, _, _, rfl, rfl, ?_⟩
      refine ⟨_, rfl, _, _, rfl, .inr (g2.seqT r2), _, _, rfl, rfl, _, rfl, ?_⟩
      rw [List.length_map]
      by_cases hb : 4 < ks[i].2.2.2[j].2.2.2.length
      · exact iteP (by omega) ⟨_, rfl, _, rfl, line_of (by omega), _, rfl, hn3, _, rfl, by decide +kernel, _, rfl, _, rfl, line_of (by omega), _, rfl, hn1, _, rfl, by decide +kernel, 4, rfl, by decide +kernel, _, rfl, by decide +kernel, _, rfl, by decide +kernel, fun x => ⟨(by show 1 ≤ sizeLine; decide), q2 (fun h => by have := h.2.2 ks[i] (List.getElem_mem hi) ks[i].2.2.2[j] (List.getElem_mem hj); omega) _ g2⟩⟩
      · refine iteN (by omega) ⟨_, _, rfl, g2, fun t ht => ?_⟩
        rw [List.take_add_one, List.getElem?_eq_getElem hj] at ht
        rcases List.mem_append.mp ht with ht | ht
        · exact hfj t ht
        · obtain rfl : t = ks[i].2.2.2[j] := by simpa using ht
          omega
    · rintro σ H2 ⟨c3, c4, rfl, g2, hfj⟩
      rw [List.length_map, List.take_length] at hfj
      refine ⟨_, _, _, _, rfl, g2, fun k hk => ?_⟩
      rw [List.take_add_one, List.getElem?_eq_getElem hi] at hk
      rcases List.mem_append.mp hk with hk | hk
      · exact hfi k hk
      · obtain rfl : k = ks[i] := by simpa using hk
        exact hfj
  · rintro σ H' ⟨_, _, _, _, rfl, g, hf⟩
    rw [List.length_map, List.take_length] at hf
    exact q1 ⟨by omega, by omega, hf⟩ H' g
end
end K8
namespace K8
open PySem L2 K3 TM K9
def spTwB (K : PySem.W.Frag) : Sp := fun vs H Q _ => ∃ (l : Addr) (ns : List Str), vs = [.ref l] ∧ SqL K H l (ns.map V.str) ∧ ns.length ≤ 30 ∧ ∀ H', Same H H' → Q (.bl (!decide ns.Nodup)) H'
structure RowsOk (kn : List Str) (rs : List PNx) : Prop where
  nd : (rs.map fun t => t.2.1).Nodup
  ins : ∀ t ∈ rs, ∀ x ∈ t.2.2.2, x ∈ kn
  leaf : ∃ t ∈ rs, t.2.2.2 = []
def spChkRX (K : PySem.W.Frag) (N : Addr) : Sp := fun vs H Q E => ∃ (lk lr : Addr) (kd : Str) (kn : List Str) (rs : List PNx), vs = [.ref lk, .str kd, .ref lr] ∧ SqL K H lk (kn.map V.str) ∧ RowsL K H lr rs ∧ rs.length ≤ 30 ∧ (reprText kd).length ≤ 800 ∧ (∀ t ∈ rs, (reprText t.2.1).length ≤ 800 ∧ ∀ b ∈ t.2.2.2, (reprText b).length ≤ 800) ∧ (RowsOk kn rs → ∀ H', Same H H' → Q .non H') ∧ (¬ RowsOk kn rs → ∀ H', Same H H' → E (.ref N) none H')
section
variable {P : Program} {w : World} {K : PySem.W.Frag} {mg : Str → Option Value} {base : Heap} {f : Addr} {fd : FuncData} {N : Addr}
theorem in_strs {x : Str} {xs : List Str} (h : x ∈ xs) : inV (.str x) (xs.map V.str) = true := by
  unfold inV
  rw [List.any_eq_true]
  exact ⟨.str x, List.mem_map.mpr ⟨x, h, rfl⟩, by simp [eqV]⟩
theorem not_in_strs {x : Str} {xs : List Str} (h : x ∉ xs) : inV (.str x) (xs.map V.str) = false := by
  unfold inV
  rw [List.any_eq_false]
  intro v hv
  obtain ⟨y, hy, rfl⟩ := List.mem_map.mp hv
  have : y ≠ x := fun z => h (z ▸ hy)
  simp [eqV, this, Ne.symm this]
theorem flat_strs (xs : List Str) : (xs.map V.str).all flatV = true := by
  rw [List.all_eq_true]
  intro v hv
  obtain ⟨x, _, rfl⟩ := List.mem_map.mp hv
  rfl
theorem scChkR : FnScope ["kinds", "kind", "rows", "name", "branches", "wanted"] ["kinds", "kind", "rows"] (defScope sChkR) := ⟨rfl, rfl, rfl, by decide +kernel, rfl, by decide +kernel, by decide +kernel⟩
theorem ok_chkR (F : Fun K "check_rows" "check_rows" sChkR f fd) (G : Gm mg) (G2 : Gm2 mg) (RS : Rs K mg "NoWood" N) (RTw : Fn P w K mg base 1 "has_one_twice" ["names"] (spTwB K)) : FnOk P w K mg base (CX1 P w) 2 f fd ["kinds", "kind", "rows"] (spChkRX K N) := by
  refine Fun.okX F scChkR (fun vs H Q E h => ?_) (fun cdv A outer s H vs Q E hr h => ?_)
  · obtain ⟨lk, lr, kd, kn, rs, rfl, _⟩ := h
    rfl
  obtain ⟨lk, lr, kd, kn, rs, rfl, hk, hL, h30, hkr, hrr, q1, q2⟩ := h
  refine ⟨_, (pss_cons (ps_if (pt_val (pe_fn RTw hr (pa_cons (pe_lcompG (CompG.many (xs := ["name", "branches"]) (caps := []) (cap := []) (cs := []) rfl rfl (by decide +kernel) (by decide +kernel) (by decide +kernel) (by decide +kernel) (by decide +kernel) (by decide +kernel) rfl rfl rfl) rfl (pi_list (pv 2)) (pg_c2 (CompG.many (xs := ["name", "branches"]) (caps := []) (cap := []) (cs := []) rfl rfl (by decide +kernel) (by decide +kernel) (by decide +kernel) (by decide +kernel) (by decide +kernel) (by decide +kernel) rfl rfl rfl) rfl) (fun _ _ _ _ => pf_nil) (fun _ _ _ _ => pv 0)) pa_nil))) (pss_one (ps_raise RS.hm RS.hq PySem.F.excBase_ValueError (by decide) (pa_cons (pe_join2 pe_str (pe_frep (pv 1))) pa_nil))) pss_nil)
    (pss_cons (ps_for PassesOwn.leaving rfl (pi_list (pv 2)) (pg_tup rfl (pgs_cons (pg_name (i := 3) scChkR.nd rfl (Or.inl rfl)) (pgs_cons (pg_name (i := 4) scChkR.nd rfl (Or.inl rfl)) pgs_nil))) (pss_one (ps_for PassesOwn.leaving rfl (pi_tup (pv 4)) (pg_name (i := 5) scChkR.nd rfl (Or.inl rfl)) (pss_one (ps_if (pt_cmpR op_notIn_seq (pv 5) (pv 0) rfl) (pss_one (ps_raise RS.hm RS.hq PySem.F.excBase_ValueError (by decide) (pa_cons (pe_join6 (pe_frep (pv 3)) pe_str (pe_frep (pv 1)) pe_str (pe_frep (pv 5)) pe_str) pa_nil))) pss_nil)))))
    (pss_one (ps_if (pt_val (pe_callB (call_allB rfl) rfl G2.all PyProof.Rows.boot_all (pa_cons (pe_lcompG (CompG.many (xs := ["name", "branches"]) (caps := []) (cap := []) (cs := []) rfl rfl (by decide +kernel) (by decide +kernel) (by decide +kernel) (by decide +kernel) (by decide +kernel) (by decide +kernel) rfl rfl rfl) rfl (pi_list (pv 2)) (pg_c2 (CompG.many (xs := ["name", "branches"]) (caps := []) (cap := []) (cs := []) rfl rfl (by decide +kernel) (by decide +kernel) (by decide +kernel) (by decide +kernel) (by decide +kernel) (by decide +kernel) rfl rfl rfl) rfl) (fun _ _ _ _ => pf_nil) (fun _ _ _ _ => pe_cmpR (r := rI0 fun i j => .bl (decide (j < i))) op_gt (pe_callB (r := rLenS K) call_len_seq rfl G.len PySem.boot_len (pa_cons (pv 1) pa_nil)) pe_int (nomark _))) pa_nil))) (pss_one (ps_raise RS.hm RS.hq PySem.F.excBase_ValueError (by decide) (pa_cons (pe_join2 (pe_frep (pv 1)) pe_str) pa_nil))) pss_nil)))), ?_⟩
  refine ⟨_, rfl, lr, rfl, ⟨_, hL.1⟩, fun ln hln => ?_⟩
  refine c2_list (K := K) (xs := rs.map fun t => V.ref t.1) (cs := []) (tt := fun _ H Q => Q true H) (te := tVar 0) (fun j ys H' => ys = ((rs.take j).map fun t => t.2.1).map V.str ∧ H' ln = some (.lst ys) ∧ Same H H')
    ⟨rfl, upd_same, same_new hln _⟩ ?_ ?_ ?_
  · rintro j ys H' _ ⟨_, _, g⟩
    exact g.seq hL.1
  · rintro j x ys H' hj hx ⟨rfl, hy, g⟩
    rw [List.length_map] at hj
    obtain rfl : x = .ref rs[j].1 := by
      rw [List.getElem?_map, List.getElem?_eq_getElem hj] at hx
      exact (Option.some.inj hx).symm
    obtain ⟨k1, k2⟩ := hL.2 rs[j] (List.getElem_mem hj)
    refine ⟨_, _, _, rfl, g.seqT k1, iteT ⟨_, rfl, ?_⟩⟩
    rw [List.length_map]
    refine comp_next hj hy (by rw [List.length_map, List.length_map, List.length_take]; omega) ⟨?_, upd_same, fun b u e => ?_⟩
    · rw [List.take_add_one, List.getElem?_eq_getElem hj, Option.toList_some, List.map_append, List.map_append]; rfl
    · rw [upd_ne (ne_of_none e hln)]; exact g _ _ e
  rintro ys H1 ⟨rfl, hy1, g1⟩
  rw [List.length_map, List.take_length] at hy1
  refine ⟨ln, _, rfl, SqL.of hy1, by rw [List.length_map]; exact h30, fun H2 g2 => ⟨_, rfl, ?_⟩⟩
  have g12 := g1.trans g2
  by_cases hnd : (rs.map fun t => t.2.1).Nodup
  case neg =>
    rw [decide_eq_false hnd]
    exact iteT ⟨_, rfl, by decide +kernel, _, rfl, _, rfl, line_of (by omega), _, rfl, (by omega), (by show 1 ≤ sizeLine; decide), q2 (fun h => hnd h.nd) _ g12⟩
  rw [decide_eq_true hnd]
  refine iteF ?_
  refine ⟨_, rfl, lr, rfl, ⟨_, g12.seq hL.1⟩, ?_⟩
  refine for_list (K := K) (xs := rs.map fun t => V.ref t.1) (fun i σ H' => ∃ c3 c4 c5 : Option V, σ = [some (.ref lk), some (.str kd), some (.ref lr), c3, c4, c5] ∧ Same H H' ∧ ∀ t ∈ rs.take i, ∀ x ∈ t.2.2.2, x ∈ kn) ⟨none, none, none, rfl, g12, fun t ht => (nomatch ht)⟩ ?_ ?_ ?_
  · rintro i σ H' _ ⟨_, _, _, _, g, _⟩
    exact g.seq hL.1
  · rintro i x σ H' hx ⟨c3, c4, c5, rfl, g, hfi⟩
    have hi : i < rs.length := by have := (List.getElem?_eq_some_iff.mp hx).1; rw [List.length_map] at this; exact this
    obtain rfl : x = .ref rs[i].1 := by
      rw [List.getElem?_map, List.getElem?_eq_getElem hi] at hx
      exact (Option.some.inj hx).symm
    obtain ⟨k1, k2⟩ := hL.2 rs[i] (List.getElem_mem hi)
    refine ⟨_, _, rfl, g.seqT k1, rfl, _, _, rfl, _, _, rfl, rfl, ?_⟩
    refine ⟨_, rfl, _, rfl, ⟨_, g.seqT k2⟩, ?_⟩
    refine for_tup (K := K) (xs := rs[i].2.2.2.map V.str) (fun j σ H' => ∃ c5 : Option V, σ = [some (.ref lk), some (.str kd), some (.ref lr), some (.str rs[i].2.1), some (.ref rs[i].2.2.1), c5] ∧ Same H H' ∧ ∀ x ∈ rs[i].2.2.2.take j, x ∈ kn) ⟨c5, rfl, g, fun t ht => (nomatch ht)⟩ ?_ ?_ ?_
    · rintro j σ H' _ ⟨_, _, g, _⟩
      exact g.seqT k2
    · rintro j x σ H3 hx ⟨c5, rfl, g3, hfj⟩
      have hj : j < rs[i].2.2.2.length := by have := (List.getElem?_eq_some_iff.mp hx).1; rw [List.length_map] at this; exact this
      obtain rfl : x = .str rs[i].2.2.2[j] := by
        rw [List.getElem?_map, List.getElem?_eq_getElem hj] at hx
        exact (Option.some.inj hx).symm
      have hy : rs[i].2.2.2[j] ∈ rs[i].2.2.2 := List.getElem_mem hj
      obtain ⟨hr1, hr2⟩ := hrr rs[i] (List.getElem_mem hi)
      have hr3 := hr2 _ hy
      refine ⟨_, rfl, _, rfl, lk, _, rfl, .inl (g3.seq hk), rfl, flat_strs kn, _, rfl, ?_⟩
      rw [if_pos rfl]
      by_cases hin : rs[i].2.2.2[j] ∈ kn
      · rw [in_strs hin]
        refine iteF ⟨_, rfl, g3, fun x hx' => ?_⟩
        rw [List.take_add_one, List.getElem?_eq_getElem hj] at hx'
        rcases List.mem_append.mp hx' with hx' | hx'
        · exact hfj x hx'
        · obtain rfl : x = rs[i].2.2.2[j] := by simpa using hx'
          exact hin
      · rw [not_in_strs hin]
        exact iteT ⟨_, rfl, _, rfl, line_of (by omega), _, rfl, hr1, _, rfl, by decide +kernel, _, rfl, _, rfl, line_of (by omega), _, rfl, hkr, _, rfl, by decide +kernel, _, rfl, _, rfl, line_of (by omega), _, rfl, hr3, _, rfl, by decide +kernel, fun x => ⟨(by show 1 ≤ sizeLine; decide), q2 (fun h => hin (h.ins _ (List.getElem_mem hi) _ hy)) _ g3⟩⟩
    · rintro σ H3 ⟨c5, rfl, g3, hfj⟩
      rw [List.length_map, List.take_length] at hfj
      refine ⟨_, _, _, rfl, g3, fun t ht => ?_⟩
      rw [List.take_add_one, List.getElem?_eq_getElem hi] at ht
      rcases List.mem_append.mp ht with ht | ht
      · exact hfi t ht
      · obtain rfl : t = rs[i] := by simpa using ht
        exact hfj
  rintro σ H3 ⟨c3, c4, c5, rfl, g3, hins⟩
  rw [List.length_map, List.take_length] at hins
  refine ⟨_, rfl, lr, rfl, ⟨_, g3.seq hL.1⟩, fun la hla => ?_⟩
  refine c2_list (K := K) (xs := rs.map fun t => V.ref t.1) (cs := []) (tt := fun _ H Q => Q true H) (te := tOp (rI0 fun i j => .bl (decide (j < i))) (tCB (rLenS K) (tCons (tVar 1) tNil)) (tC (.int 0))) (fun j ys H' => ys = ((rs.take j).map fun t => decide (0 < t.2.2.2.length)).map V.bl ∧ H' la = some (.lst ys) ∧ Same H H')
    ⟨rfl, upd_same, g3.trans (same_new hla _)⟩ ?_ ?_ ?_
  · rintro j ys H' _ ⟨_, _, g⟩
    exact g.seq hL.1
  · rintro j x ys H' hj hx ⟨rfl, hy, g⟩
    rw [List.length_map] at hj
    obtain rfl : x = .ref rs[j].1 := by
      rw [List.getElem?_map, List.getElem?_eq_getElem hj] at hx
      exact (Option.some.inj hx).symm
    obtain ⟨k1, k2⟩ := hL.2 rs[j] (List.getElem_mem hj)
    refine ⟨_, _, _, rfl, g.seqT k1, iteT ⟨_, rfl, _, _, rfl, .inr (g.seqT k2), _, _, rfl, rfl, ?_⟩⟩
    rw [List.length_map]
    refine comp_next hj hy (by rw [List.length_map, List.length_map, List.length_take]; omega) ⟨?_, upd_same, fun b u e => ?_⟩
    · rw [List.take_add_one, List.getElem?_eq_getElem hj, Option.toList_some, List.map_append, List.map_append, List.length_map]
      congr 2
      show V.bl (decide ((0 : Int) < ((rs[j].2.2.2.length : Nat) : Int))) = V.bl (decide (0 < rs[j].2.2.2.length))
      congr 1
      exact decide_eq_decide.mpr (by omega)
    · rw [upd_ne (ne_of_none (g3 _ _ e) hla)]; exact g _ _ e
  · rintro ys H4 ⟨rfl, hy4, g4⟩
    rw [List.length_map, List.take_length] at hy4
    refine ⟨la, _, rfl, SqL.of hy4, _, rfl, ?_⟩
    by_cases hlf : ∃ t ∈ rs, t.2.2.2 = []
    · have hall : ((rs.map fun t => decide (0 < t.2.2.2.length)).all id) = false := by
        obtain ⟨t, ht, e⟩ := hlf
        rw [List.all_eq_false]
        exact ⟨false, List.mem_map.mpr ⟨t, ht, by rw [e]; rfl⟩, by simp⟩
      rw [hall]
      exact iteF (q1 ⟨hnd, hins, hlf⟩ H4 g4)
    · have hall : ((rs.map fun t => decide (0 < t.2.2.2.length)).all id) = true := by
        rw [List.all_eq_true]
        intro b hb
        obtain ⟨t, ht, rfl⟩ := List.mem_map.mp hb
        have : t.2.2.2 ≠ [] := fun z => hlf ⟨t, ht, z⟩
        simpa using List.length_pos_iff.mpr this
      rw [hall]
      exact iteT ⟨_, rfl, _, rfl, line_of (by omega), _, rfl, (by omega), _, rfl, by decide +kernel, (by show 1 ≤ sizeLine; decide), q2 (fun h => hlf h.leaf) _ g4⟩
end
end K8
namespace L2
open PySem PySem.Spec PyProof.Rows
theorem setOf_at {prog : Program} {w : World} {h h' : Heap} {S : Addr} {F : Str → Bool} {n : Nat} (k : ∀ o, h.get? S = some o → h'.get? S = some o) (q : Heap.SetOf (strKind prog w) h S F n) : Heap.SetOf (strKind prog w) h' S F n := by
  obtain ⟨o, es, ep, t, h1, r⟩ := q
  exact ⟨o, es, ep, t, k o h1, r⟩
theorem setOf_congr {prog : Program} {w : World} {h : Heap} {S : Addr} {F F' : Str → Bool} {n : Nat} (e : F = F') (q : Heap.SetOf (strKind prog w) h S F n) : Heap.SetOf (strKind prog w) h S F' n := e ▸ q
def TxtsAre (items : Array Value) (ns : List Str) : Prop := items.size = ns.length ∧ ∀ (j : Nat) (x : Str), ns[j]? = some x → ∃ t, items[j]? = some (.str x t)
def cntS (ns : List Str) : Nat → Nat
  | 0 => 0
  | i + 1 => match ns[i]? with
    | some x => if x ∈ ns.take i then cntS ns i else cntS ns i + 1
    | none => cntS ns i
theorem cntS_le (ns : List Str) : ∀ i, cntS ns i ≤ i
  | 0 => Nat.le_refl _
  | i + 1 => by
    have := cntS_le ns i
    unfold cntS
    split
    · split <;> omega
    · omega
theorem cntS_all {ns : List Str} (h : ns.Nodup) : ∀ i, i ≤ ns.length → cntS ns i = i
  | 0, _ => rfl
  | i + 1, hi => by
    have ih := cntS_all h i (by omega)
    have e : ns[i]? = some ns[i] := List.getElem?_eq_getElem (by omega)
    have hno : ns[i] ∉ ns.take i := fun z => by
      obtain ⟨j, hj, e⟩ := List.mem_take_iff_getElem.mp z
      have := (List.getElem_inj h).mp e
      omega
    unfold cntS
    rw [e]; simp only []; rw [if_neg hno, ih]
theorem cntS_few {ns : List Str} (h : ¬ ns.Nodup) : cntS ns ns.length < ns.length := by
  have : ∃ i, ∃ hi : i < ns.length, ns[i] ∈ ns.take i := Classical.byContradiction fun z => h (List.pairwise_iff_getElem.mpr fun i j hi hj hij e => z ⟨j, hj, List.mem_take_iff_getElem.mpr ⟨i, by omega, e⟩⟩)
  obtain ⟨i, hi, hm⟩ := this
  have go : ∀ k, i + 1 + k ≤ ns.length → cntS ns (i + 1 + k) < i + 1 + k := fun k => by
    induction k with
    | zero =>
      intro _
      have := cntS_le ns i
      show cntS ns (i + 1) < i + 1
      unfold cntS
      rw [List.getElem?_eq_getElem hi]; simp only []; rw [if_pos hm]; omega
    | succ k ih =>
      intro hk
      have := ih (by omega)
      show cntS ns ((i + 1 + k) + 1) < _
      unfold cntS
      split
      · split <;> omega
      · omega
  have := go (ns.length - (i + 1)) (by omega)
  rwa [show i + 1 + (ns.length - (i + 1)) = ns.length by omega] at this
theorem set_loopS {prog : Program} {w : World} {A : Around} {R : Result → Shared → Prop} {I S l : Addr} {items : Array Value} {ns : List Str} (hh : A.handled = none) (hIS : S ≠ I) (hIl : l ≠ I) (hSl : l ≠ S) (hv : TxtsAre items ns) (hb : ns.length + 1 < scanBound) :
    ∀ (k i : Nat) (s : Shared), ns.length - i = k → i ≤ ns.length → s.heap.IsListIter I l i → s.heap.IsList l items → Heap.SetOf (strKind prog w) s.heap S (fun x => decide (x ∈ ns.take i)) (cntS ns i) →
      (∀ (h' : Heap) (tk : Nat), (∀ b o, b ≠ I → b ≠ S → s.heap.get? b = some o → h'.get? b = some o) → Heap.SetOf (strKind prog w) h' S (fun x => decide (x ∈ ns)) (cntS ns ns.length) → R (.ok (.ret .none)) { s with heap := h', toks := tk }) →
      codeAny (model prog w) A (.builtin "set.update.loop" ⟨[.ref S, .ref I], []⟩) R s := by
  intro k
  induction k with
  | zero =>
    intro i s hk hi st hl q kk
    have ei : i = ns.length := by omega
    refine codeAny_builtin F.entry_set_update_loop ?_; rw [Around.under_plainId F.plain_set_update_loop _]
    show wpAny _ A.in1 (pyNext (.ref I) >>= _) _ _ s
    refine wpAny_bind (wpAny_pyNext_list_end (A := A.in1) hh st hl (by have := hv.1; simp; omega) fun h' eb => ?_)
    refine wpAny_pure (kk h' s.toks (fun b o n1 _ e => eb b o n1 e) ?_)
    rw [ei, List.take_length] at q
    exact setOf_at (fun o e => eb S o hIS e) q
  | succ k ih =>
    intro i s hk hi st hl q kk
    have hi' : i < ns.length := by omega
    obtain ⟨t, ht⟩ := hv.2 i ns[i] (List.getElem?_eq_getElem hi')
    refine codeAny_builtin F.entry_set_update_loop ?_; rw [Around.under_plainId F.plain_set_update_loop _]
    show wpAny _ A.in1 (pyNext (.ref I) >>= _) _ _ s
    refine wpAny_bind (wpAny_pyNext_list_item (A := A.in1) st hl ht fun h1 st1 sb => ?_)
    have q1 := setOf_at (h' := h1) (fun o e => (sb.2 S hIS).trans e) q
    have hl1 : h1.IsList l items := by
      obtain ⟨o, e, r⟩ := hl
      exact ⟨o, (sb.2 l hIl).trans e, r⟩
    refine wpAny_bind (wpAny_holding ?_)
    unfold setAdd
    refine wpAny_holding (wpAny_bind ((strKind prog w).pyHash (strKind_is prog w ns[i] t) ?_))
    refine wpAny_setAddHashed_of (knd := strKind prog w) (strKind_is prog w ns[i] t) rfl q1 (by have := cntS_le ns i; omega) fun h2 sb2 q2 => ?_
    have hcn : cntS ns (i + 1) = if (fun x => decide (x ∈ ns.take i)) ns[i] then cntS ns i else cntS ns i + 1 := by
      show (match ns[i]? with | some x => if x ∈ ns.take i then cntS ns i else cntS ns i + 1 | none => cntS ns i) = _
      rw [List.getElem?_eq_getElem hi']; simp
    have q3 : Heap.SetOf (strKind prog w) h2 S (fun x => decide (x ∈ ns.take (i + 1))) (cntS ns (i + 1)) := by
      rw [hcn]; exact setOf_congr (by
      funext x
      rw [List.take_add_one, List.getElem?_eq_getElem hi', Option.toList_some, Bool.eq_iff_iff]
      simp only [Bool.or_eq_true, decide_eq_true_eq, List.mem_append, List.mem_singleton]) q2
    have st2 : h2.IsListIter I l (i + 1) := by
      obtain ⟨o, e, r⟩ := st1
      exact ⟨o, (sb2.2 I hIS.symm).trans e, r⟩
    have hl2 : h2.IsList l items := by
      obtain ⟨o, e, r⟩ := hl1
      exact ⟨o, (sb2.2 l hSl).trans e, r⟩
    refine wpAny_pure ⟨plainId_quiet F.plain_set_update_loop _, ?_⟩
    exact ih (i + 1) _ (by omega) (by omega) st2 hl2 q3 fun h' tk kp q' => kk h' tk (fun b o n1 n2 e => kp b o n1 n2 ((sb2.2 b n2).trans ((sb.2 b n1).trans e))) q'
section
variable {X : Cx} {pins : List (Addr × Obj)} {σ : St}
theorem fits0 (led : Bool) : (SetTable.fresh 0 0 led).fits 0 = true := by cases led <;> decide
theorem set_new {prog : Program} {w : World} {h : Heap} {S : Addr} {led : Bool} (e : h.get? S = some { cls := .type "set", data := .set #[] 0 (SetTable.fresh 0 0 led) }) : Heap.SetOf (strKind prog w) h S (fun x => decide (x ∈ ([] : List Str))) 0 := by
  refine ⟨_, #[], 0, _, e, ?_, rfl, ?_, ?_, by decide, fits0 led, rfl⟩
  · first | exact ⟨rfl, rfl⟩ | exact ⟨rfl, rfl, rfl⟩ | rfl | decide
  · first | exact .nil | exact ⟨fun _ h => nomatch h, .nil⟩ | simp [ElemsOf] | (unfold ElemsOf; simp)
  · intro k
    simp
end
end L2
namespace L2
open PySem PySem.Spec PyProof.Rows
section
variable {prog : Program} {w : World} {A : Around} {E : Value → Shared → Prop} {s : Shared}
abbrev bareSet (led : Bool) : Obj := { cls := .type "set", dict := none, data := .set #[] 0 (.fresh 0 0 led) }
theorem init_setS {led : Bool} {l : Addr} {its : Array Value} {ns : List Str} {R : Result → Shared → Prop} (hh : A.handled = none) (hl : s.heap.IsList l its) (hv : TxtsAre its ns) (hb : ns.length + 1 < scanBound) (hp : Heap)
    (ep : hp = s.heap.push (bareSet led))
    (k : ∀ (h2 : Heap) (tk : Nat), Heap.SetOf (strKind prog w) h2 s.heap.objs.size (fun x => decide (x ∈ ns)) (cntS ns ns.length) → (∀ b ob, b < s.heap.objs.size → s.heap.get? b = some ob → h2.get? b = some ob) → R (.ok (.ret .none)) { s with heap := h2, toks := tk }) :
    codeAny (model prog w) A (.call (.builtin "set.__init__") ⟨[.ref s.heap.objs.size, .ref l], []⟩) R { s with heap := hp } := by
  subst ep
  have gS : (s.heap.push (bareSet led)).get? s.heap.objs.size = some (bareSet led) := Heap.get?_push_size _ rfl
  have tS : Shared.TypeIs { s with heap := s.heap.push (bareSet led) } (.ref s.heap.objs.size) "set" := ⟨_, gS, rfl⟩
  refine codeAny_call_builtin F.called_set.init.plain F.entry_set_init (check_set_init_1 tS ?_)
  obtain ⟨ol, gl, cl, nl, dl⟩ := hl
  obtain ⟨oc, od, oda, osl⟩ := ol
  simp only at cl dl
  subst cl; subst dl
  have gl1 : (s.heap.push (bareSet led)).get? l = some { cls := .type "list", dict := od, data := .seq its nl, slots := osl } := Heap.get?_push_of_some _ gl
  have n1 := F.sub_list_set
  have n2 := F.sub_list_frozenset
  have n3 : (Value.type "list" == Value.type "dict") = false := by decide
  have il : (s.heap.push (bareSet led)).IsList l its := ⟨_, gl1, rfl, nl, rfl⟩
  unfold Builtin.«set.__init__» noKeywords Builtin.Frozenset.updateFrom
  generalize hPI : pyIter = PI
  wp_walk
  subst hPI
  refine wpAny_pyIter_list il ?_
  refine wpAny_bind (wpAny_runValue ?_)
  have ll : l < s.heap.objs.size := Heap.lt_size gl
  have e1 : (s.heap.push (bareSet led)).objs.size = s.heap.objs.size + 1 := Heap.size_push ..
  refine set_loopS (by simp [hh]) (by rw [e1]; exact Nat.ne_of_lt (Nat.lt_succ_self _)) (by rw [e1]; exact Nat.ne_of_lt (Nat.lt_succ_of_lt ll)) (Nat.ne_of_lt ll) hv hb (ns.length - 0) 0 _ (by omega) (Nat.zero_le _) ⟨_, Heap.get?_push_size _ rfl, rfl, rfl⟩ (il.push _) (set_new (led := led) (Heap.get?_push_of_some _ gS)) fun h2 tk kp q => ?_
  show wpAny _ _ _ _ _ _
  refine wpAny_pure ?_
  show wpAny _ _ (ret Value.none) _ _ _
  refine wpAny_pure (k h2 tk q fun b ob lb e => kp b ob (by rw [e1]; exact Nat.ne_of_lt (Nat.lt_succ_of_lt lb)) (Nat.ne_of_lt lb) (Heap.get?_push_of_some _ (Heap.get?_push_of_some _ e)))
theorem call_setS {l : Addr} {its : Array Value} {ns : List Str} {Q : Value → Shared → Prop} (hh : A.handled = none) (hl : s.heap.IsList l its) (hv : TxtsAre its ns) (hb : ns.length + 1 < scanBound)
    (k : ∀ (h2 : Heap) (tk : Nat), Heap.SetOf (strKind prog w) h2 s.heap.objs.size (fun x => decide (x ∈ ns)) (cntS ns ns.length) → (∀ b ob, b < s.heap.objs.size → s.heap.get? b = some ob → h2.get? b = some ob) → Q (.ref s.heap.objs.size) { s with heap := h2, toks := tk }) :
    wpAny (model prog w) A (call (.type "set") [.ref l]) Q E s := by
  obtain ⟨c, tl, hmro⟩ := F.called_set.mro
  have f1 := F.called_set.made
  have f2 := F.called_set.sub
  have f3 := F.called_set.notType
  have f4 := F.called_set.canCreate
  have f5 := F.typeCall_set_1 (.ref l)
  refine wpAny_call (codeAny_of_tree ?_)
  show wpAny _ _ (callAny (.type "set") _) _ _ _
  refine wpAny_pure ⟨Code.quiet_builtin _ (by decide +kernel), codeAny_builtin F.entry_type_call ?_⟩
  rw [Around.under_plain (weight_type_call_type "set" [.ref l] []) rfl]
  repeat (any_goals (first | assumption | wp_step))
  refine codeAny_mono (code_set_new_1 (.ref l) (E := E) (Q₁ := fun ob s1 => ∃ led : Bool, ob = .ref s.heap.objs.size ∧ s1 = { s with heap := s.heap.push (bareSet led) }) fun led => ⟨led, rfl, rfl⟩) fun r s1 hr => ?_
  cases r with
  | error e => exact hr
  | ok fl =>
    cases fl with
    | ret ob =>
      obtain ⟨led, rfl, rfl⟩ := hr
      have gS : (s.heap.push (bareSet led)).get? s.heap.objs.size = some (bareSet led) := Heap.get?_push_size _ rfl
      have tS : Shared.TypeIs { s with heap := s.heap.push (bareSet led) } (.ref s.heap.objs.size) "set" := ⟨_, gS, rfl⟩
      have f6 := F.called_set.init.lookup
      have f7 := F.called_set.init.bind (.ref s.heap.objs.size)
      repeat (any_goals (first | assumption | wp_step))
      refine codeAny_mono (init_setS (R := wants (fun r s2 => r = .none ∧ ∃ h2 tk, s2 = { s with heap := h2, toks := tk } ∧ Heap.SetOf (strKind prog w) h2 s.heap.objs.size (fun x => decide (x ∈ ns)) (cntS ns ns.length) ∧ ∀ b ob, b < s.heap.objs.size → s.heap.get? b = some ob → h2.get? b = some ob) E) (by simp [hh]) hl hv hb _ rfl fun h2 tk q kp => ⟨rfl, h2, tk, rfl, q, kp⟩) fun r2 s2 hr2 => ?_
      cases r2 with
      | error e => exact hr2
      | ok fl2 =>
        cases fl2 with
        | ret r =>
          obtain ⟨rfl, h2, tk, rfl, q, kp⟩ := hr2
          repeat (any_goals (first | assumption | wp_step))
          exact k _ _ q kp
        | _ => exact hr2.elim
    | _ => exact hr.elim
end
def TxO (P : Program) (w : World) (S : Addr) (F : Str → Bool) (n : Nat) : HO := .ext fun h => Heap.SetOf (strKind P w) h S F n
theorem txts_of_vals {its : List Value} {ns : List Str} (r : Vals (ns.map V.str) its) : TxtsAre its.toArray ns := by
  refine ⟨by have := r.length; simp at this ⊢; omega, fun j x h => ?_⟩
  have h2 : (ns.map V.str)[j]? = some (.str x) := by rw [List.getElem?_map, h]; rfl
  obtain ⟨u, hu, ⟨t, rfl⟩⟩ := Vals.get r h2
  exact ⟨t, by simpa using hu⟩
section
variable {X : Cx}
theorem call_setTx (hc : X.calm = true) : CallR X (.type "set") (fun xs H Q => ∃ (l : Addr) (ns : List Str), xs = [.ref l] ∧ SqL X.K H l (ns.map V.str) ∧ ns.length ≤ 1000 ∧ ∀ S, H S = none → Q (.ref S) (upd H S (TxO X.prog X.w S (fun x => decide (x ∈ ns)) (cntS ns ns.length)))) := by
  intro pins s σ H xs us Q I rr h
  obtain ⟨l, ns, rfl, hl, hn, q⟩ := h
  obtain ⟨u, rfl, rx⟩ := vals1 rr
  cases rx
  obtain ⟨its, r, pl, hz⟩ := I.list hl
  refine call_setS (ns := ns) (I.ok.hd hc) pl.isList (txts_of_vals r) (by unfold scanBound; omega) fun h2 tk hs kp => ?_
  exact ⟨.ref s.heap.objs.size, _, I.laid (t' := tk) (fun b o e => kp b o (Heap.lt_size e) e) (Nat.le_refl _) (show ObjOk X.prog X.w _ h2 _ (TxO X.prog X.w _ _ _) from ⟨hs, (by obtain ⟨o, _, _, _, e, _⟩ := hs; exact ⟨o, e⟩), fun h1 h3 a k => setOf_at k a⟩), rfl, q _ (I.hok.fresh (Nat.le_refl _))⟩
theorem call_lenTx : CallR X (.builtin "len") (fun xs H Q => ∃ (S : Addr) (F : Str → Bool) (n : Nat), xs = [.ref S] ∧ H S = some (TxO X.prog X.w S F n) ∧ n ≤ 1000 ∧ Q (.int n) H) := by
  intro pins s σ H xs us Q I rr h
  obtain ⟨S, F, n, rfl, hS, hn, q⟩ := h
  obtain ⟨u, rfl, rx⟩ := vals1 rr
  cases rx
  obtain ⟨⟨o, es, ep, t, g, ex, d, a, b, c, f, z⟩, _⟩ := (show ObjOk X.prog X.w H s.heap S (TxO X.prog X.w S F n) from I.hok S _ hS)
  exact call_len_set g ex d f (by rw [z]; omega) ⟨.int n, H, (I.tok _).tok _, ⟨s.toks + 1, by rw [z]⟩, q⟩
end
end L2
namespace K8
open PySem L2 K3 TM K9
def KindsOk (ks : List KdT) : Prop := (ks.map fun k => k.2.1).Nodup ∧ ∀ k ∈ ks, RowsOk (ks.map fun k => k.2.1) k.2.2.2
def spChkKX (K : PySem.W.Frag) (N : Addr) : Sp := fun vs H Q E => ∃ (lw : Addr) (ks : List KdT), vs = [.ref lw] ∧ WoodAt K H lw ks ∧ RepOk ks ∧ ks.length ≤ 30 ∧ (∀ k ∈ ks, k.2.2.2.length ≤ 30) ∧ (KindsOk ks → ∀ H', Same H H' → Q .non H') ∧ (¬ KindsOk ks → ∀ H', Same H H' → E (.ref N) none H')
section
variable {P : Program} {w : World} {K : PySem.W.Frag} {mg : Str → Option Value} {base : Heap} {f : Addr} {fd : FuncData} {N : Addr}
theorem scTw : FnScope ["names"] ["names"] (defScope sTwice) := ⟨rfl, rfl, rfl, by decide +kernel, rfl, by decide +kernel, by decide +kernel⟩
theorem ok_tw (F : Fun K "has_one_twice" "has_one_twice" sTwice f fd) (G : Gm mg) (G2 : Gm2 mg) : FnOk P w K mg base CX0 1 f fd ["names"] (spTwB K) := by
  refine F.ok scTw (fun vs H Q E h => ?_) (fun cdv A outer s H vs Q E hr h => ?_)
  · obtain ⟨l, ns, rfl, _⟩ := h
    rfl
  obtain ⟨l, ns, rfl, hl, h30, q⟩ := h
  refine ⟨_, (pss_one (ps_ret (pe_cmpR op_lt (pe_callB call_lenTx rfl G.len PySem.boot_len (pa_cons (pe_callTy (call_setTx rfl) rfl G2.set PyProof.Rows.boot_set (pa_cons (pv 0) pa_nil)) pa_nil)) (pe_callB call_len_seq rfl G.len PySem.boot_len (pa_cons (pv 0) pa_nil)) (nomark _)))), ?_⟩
  refine ⟨_, rfl, l, ns, rfl, hl, by omega, fun S hS => ?_⟩
  have s1 := same_new hS (TxO P w S (fun x => decide (x ∈ ns)) (cntS ns ns.length))
  refine ⟨S, _, _, rfl, upd_same, (by have := cntS_le ns ns.length; omega), _, rfl, l, _, rfl, .inl (s1.seq hl), _, _, rfl, rfl, ?_⟩
  have e : decide (((cntS ns ns.length : Nat) : Int) < ((ns.map V.str).length : Nat)) = !decide ns.Nodup := by
    rw [List.length_map]
    by_cases hnd : ns.Nodup
    · rw [decide_eq_true hnd, decide_eq_false (by rw [cntS_all hnd _ (Nat.le_refl _)]; omega)]; rfl
    · rw [decide_eq_false hnd, decide_eq_true (by have := cntS_few hnd; omega)]; rfl
  show Q (.bl (decide (((cntS ns ns.length : Nat) : Int) < ((ns.map V.str).length : Nat)))) _
  rw [e]
  exact q _ s1
theorem scChkK : FnScope ["wood", "kinds", "kind", "rows"] ["wood"] (defScope sChkK) := ⟨rfl, rfl, rfl, by decide +kernel, rfl, by decide +kernel, by decide +kernel⟩
theorem ok_chkK (F : Fun K "check_kinds" "check_kinds" sChkK f fd) (RS : Rs K mg "NoWood" N) (RTw : Fn P w K mg base 1 "has_one_twice" ["names"] (spTwB K)) (RR : FnX P w K mg base 2 "check_rows" ["kinds", "kind", "rows"] (spChkRX K N)) : FnOk P w K mg base (CX1 P w) 3 f fd ["wood"] (spChkKX K N) := by
  refine Fun.okX F scChkK (fun vs H Q E h => ?_) (fun cdv A outer s H vs Q E hr h => ?_)
  · obtain ⟨lw, ks, rfl, _⟩ := h
    rfl
  obtain ⟨lw, ks, rfl, hW, hN, h30, hr30, q1, q2⟩ := h
  refine ⟨_, (pss_cons (ps_setG (i := 1) (CompG.many (xs := ["kind", "rows"]) (caps := []) (cap := []) (cs := []) rfl rfl (by decide +kernel) (by decide +kernel) (by decide +kernel) (by decide +kernel) (by decide +kernel) (by decide +kernel) rfl rfl rfl) rfl (pi_list (pv 0)) (pg_c2 (CompG.many (xs := ["kind", "rows"]) (caps := []) (cap := []) (cs := []) rfl rfl (by decide +kernel) (by decide +kernel) (by decide +kernel) (by decide +kernel) (by decide +kernel) (by decide +kernel) rfl rfl rfl) rfl) (fun _ _ _ _ => pf_nil) (fun _ _ _ _ => pv 0) scChkK.nd rfl rfl)
    (pss_cons (ps_if (pt_val (pe_fn RTw hr (pa_cons (pv 1) pa_nil))) (pss_one (ps_raise RS.hm RS.hq PySem.F.excBase_ValueError (by decide) (pa_cons (pe_str) pa_nil))) pss_nil)
    (pss_one (ps_for PassesOwn.leaving rfl (pi_list (pv 0)) (pg_tup rfl (pgs_cons (pg_name (i := 2) scChkK.nd rfl (Or.inl rfl)) (pgs_cons (pg_name (i := 3) scChkK.nd rfl (Or.inl rfl)) pgs_nil))) (pss_one (ps_expr (pe_fnX (EE := fun _ => E) RR hr (passE fun _ _ h => h) (pa_cons (pv 1) (pa_cons (pv 2) (pa_cons (pv 3) pa_nil)))))))))), ?_⟩
  refine ⟨_, rfl, lw, rfl, ⟨_, hW.1⟩, fun lk hlk => ?_⟩
  refine c2_list (K := K) (xs := ks.map fun k => V.ref k.1) (cs := []) (tt := fun _ H Q => Q true H) (te := tVar 0) (fun j ys H' => ys = ((ks.take j).map fun k => k.2.1).map V.str ∧ H' lk = some (.lst ys) ∧ Same H H')
    ⟨rfl, upd_same, same_new hlk _⟩ ?_ ?_ ?_
  · rintro j ys H' _ ⟨_, _, g⟩
    exact g.seq hW.1
  · rintro j x ys H' hj hx ⟨rfl, hy, g⟩
    rw [List.length_map] at hj
    obtain rfl : x = .ref ks[j].1 := by
      rw [List.getElem?_map, List.getElem?_eq_getElem hj] at hx
      exact (Option.some.inj hx).symm
    obtain ⟨k1, k2⟩ := hW.2 ks[j] (List.getElem_mem hj)
    refine ⟨_, _, _, rfl, g.seqT k1, iteT ⟨_, rfl, ?_⟩⟩
    rw [List.length_map]
    refine comp_next hj hy (by rw [List.length_map, List.length_map, List.length_take]; omega) ⟨?_, upd_same, fun b u e => ?_⟩
    · rw [List.take_add_one, List.getElem?_eq_getElem hj, Option.toList_some, List.map_append, List.map_append]; rfl
    · rw [upd_ne (ne_of_none e hlk)]; exact g _ _ e
  rintro ys H1 ⟨rfl, hy1, g1⟩
  rw [List.length_map, List.take_length] at hy1
  refine ⟨_, rfl, lk, _, rfl, SqL.of hy1, by rw [List.length_map]; exact h30, fun H2 g2 => ⟨_, rfl, ?_⟩⟩
  have g12 := g1.trans g2
  by_cases hnd : (ks.map fun k => k.2.1).Nodup
  case neg =>
    rw [decide_eq_false hnd]
    exact iteT ⟨(by show 1 ≤ sizeLine; decide), q2 (fun h => hnd h.1) _ g12⟩
  rw [decide_eq_true hnd]
  refine iteF ?_
  refine ⟨_, rfl, lw, rfl, ⟨_, g12.seq hW.1⟩, ?_⟩
  refine for_list (K := K) (xs := ks.map fun k => V.ref k.1) (fun i σ H' => ∃ c2 c3 : Option V, σ = [some (.ref lw), some (.ref lk), c2, c3] ∧ Same H H' ∧ Same H2 H' ∧ ∀ k ∈ ks.take i, RowsOk (ks.map fun k => k.2.1) k.2.2.2) ⟨none, none, rfl, g12, Same.refl _, fun k hk => (nomatch hk)⟩ ?_ ?_ ?_
  · rintro i σ H' _ ⟨_, _, _, g, _⟩
    exact g.seq hW.1
  · rintro i x σ H' hx ⟨c2, c3, rfl, g, g', hf⟩
    have hi : i < ks.length := by have := (List.getElem?_eq_some_iff.mp hx).1; rw [List.length_map] at this; exact this
    obtain rfl : x = .ref ks[i].1 := by
      rw [List.getElem?_map, List.getElem?_eq_getElem hi] at hx
      exact (Option.some.inj hx).symm
    obtain ⟨k1, k2⟩ := hW.2 ks[i] (List.getElem_mem hi)
    obtain ⟨n1, n2⟩ := hN ks[i] (List.getElem_mem hi)
    refine ⟨_, _, rfl, g.seqT k1, rfl, _, _, rfl, _, _, rfl, rfl, ?_⟩
    refine ⟨_, rfl, _, rfl, _, rfl, lk, _, _, _, _, rfl, SqL.of (g' _ _ (g2 _ _ hy1)), k2.same g, hr30 _ (List.getElem_mem hi), n1, n2, fun hR H3 g3 => ⟨_, _, rfl, g.trans g3, g'.trans g3, fun k hk => ?_⟩, fun hR H3 g3 => q2 (fun h => hR (h.2 _ (List.getElem_mem hi))) _ (g.trans g3)⟩
    rw [List.take_add_one, List.getElem?_eq_getElem hi] at hk
    rcases List.mem_append.mp hk with hk | hk
    · exact hf k hk
    · obtain rfl : k = ks[i] := by simpa using hk
      exact hR
  · rintro σ H' ⟨_, _, rfl, g, _, hf⟩
    rw [List.length_map, List.take_length] at hf
    exact q1 ⟨hnd, hf⟩ H' g
end
end K8
namespace K8
open PySem L2 K3 TM K9
structure RowsGood (kn : List Str) (rs : List PNx) : Prop where
  nd : (rs.map fun t => t.2.1).Nodup
  len : rs.length ≤ 30
  ins : ∀ t ∈ rs, ∀ x ∈ t.2.2.2, x ∈ kn
  leaf : ∃ t ∈ rs, t.2.2.2 = []
structure GoodW (W : List KindD) : Prop where
  len : W.length ≤ 6
  pos : 0 < W.length
  sum : (W.map fun k => k.2.length).sum ≤ 16
  few : ∀ k ∈ W, ∀ r ∈ k.2, r.2.length ≤ 4
  nd : (W.map fun k => k.1).Nodup
  rnd : ∀ k ∈ W, (k.2.map fun r => r.1).Nodup
  ins : ∀ k ∈ W, ∀ r ∈ k.2, ∀ x ∈ r.2, x ∈ W.map fun k => k.1
  leaf : ∀ k ∈ W, ∃ r ∈ k.2, r.2 = []
  nmK : ∀ k ∈ W, Nm k.1
  nmR : ∀ k ∈ W, ∀ r ∈ k.2, Nm r.1
def SrtR (rs out : List RowD) : Prop := out.Perm rs ∧ out.Pairwise fun x y => ¬ y.1 < x.1
def SrtK (k out : KindD) : Prop := k.1 = out.1 ∧ SrtR k.2 out.2
inductive SrtW : List KindD → List KindD → Prop where
  | nil : SrtW [] []
  | cons {k o : KindD} {W O : List KindD} : SrtK k o → SrtW W O → SrtW (k :: W) (o :: O)
theorem SrtW.app {W O : List KindD} {k o : KindD} (h : SrtW W O) (hk : SrtK k o) : SrtW (W ++ [k]) (O ++ [o]) := by
  induction h with
  | nil => exact .cons hk .nil
  | cons a r ih => exact .cons a ih
structure NewW (K : PySem.W.Frag) (H H' : Hp) (lw : Addr) (hs : List KdT) : Prop where
  n0 : H lw = none
  at0 : H' lw = some (.lst (hs.map fun k => V.ref k.1))
  kd : ∀ k ∈ hs, SqT K H' k.1 [.str k.2.1, .ref k.2.2.1] ∧ H' k.2.2.1 = some (.lst (k.2.2.2.map fun t => V.ref t.1)) ∧ H k.2.2.1 = none ∧ k.2.2.1 ≠ lw ∧ ∀ t ∈ k.2.2.2, RowAt K H' t
def SXT (Ts : List Addr) (H H' : Hp) : Prop := ∀ b u, b ∉ Ts → H b = some u → H' b = some u
theorem SXT.trans {Ts : List Addr} {H H1 H2 : Hp} (a : SXT Ts H H1) (b : SXT Ts H1 H2) : SXT Ts H H2 := fun c u n e => b c u n (a c u n e)
theorem SXT.of {Ts : List Addr} {H H' : Hp} (g : Same H H') : SXT Ts H H' := fun b u _ e => g b u e
theorem room_fit {k : Nat} {A : Around} (hr : Room k A) : A.units + 4 < cLine := by have := hr.units; omega
theorem let_low : ∀ c ∈ letL, c < 128 := by decide
theorem ok_low {u : List Nat} (h : ∀ c ∈ u, c < 128) : PyData.strOk (S u) = true := by
  unfold PyData.strOk
  rw [Array.all_eq_true_iff_forall_mem]
  intro c hc
  have : c ∈ u := by simpa [S] using hc
  have := h c this
  simp; omega
theorem codes_inj {a b : Str} (h : codes a = codes b) : a = b := by
  have := congrArg S h
  rwa [S_self, S_self] at this
theorem str_codes {x : Str} (h : Nm (codes x)) : PyData.strOk x = true := by
  rw [← S_self x]; exact ok_low fun c hc => let_low c (h.all c hc)
section
variable {hs : List KdT} (hG : GoodW (hs.map datK'))
include hG
theorem GoodW.sumT : (hs.map fun k => k.2.2.2.length).sum ≤ 16 := by
  have := hG.sum
  rw [List.map_map] at this
  have e : (fun k : KindD => k.2.length) ∘ datK' = fun k : KdT => k.2.2.2.length := funext fun k => by simp [datK']
  rwa [e] at this
theorem GoodW.row {k : KdT} (hk : k ∈ hs) {t : PNx} (ht : t ∈ k.2.2.2) : datK' k ∈ hs.map datK' ∧ datR' t ∈ (datK' k).2 := ⟨List.mem_map_of_mem hk, List.mem_map_of_mem ht⟩
theorem GoodW.namesT : ((hs.map datK').map fun k => k.1) = (hs.map fun k => k.2.1).map codes := by
  rw [List.map_map, List.map_map]; rfl
theorem GoodW.goodT : ∀ k ∈ hs, RowsGood (hs.map fun k => k.2.1) k.2.2.2 := fun k hk => by
  have hk' : datK' k ∈ hs.map datK' := List.mem_map_of_mem hk
  refine ⟨?_, ?_, fun t ht x hx => ?_, ?_⟩
  · have := hG.rnd _ hk'
    rw [show (datK' k).2 = k.2.2.2.map datR' from rfl, List.map_map] at this
    exact List.pairwise_map.mpr ((List.pairwise_map.mp this).imp fun h e => h (by simp [datR', e]))
  · have h1 := GoodW.sumT hG
    have h2 : k.2.2.2.length ≤ (hs.map fun k => k.2.2.2.length).sum := by
      have : ∀ (l : List Nat) (a : Nat), a ∈ l → a ≤ l.sum := fun l a h => by
        induction l with
        | nil => cases h
        | cons b r ih =>
          rw [List.sum_cons]
          rcases List.mem_cons.mp h with rfl | h
          · omega
          · have := ih h; omega
      exact this _ _ (List.mem_map_of_mem (f := fun k : KdT => k.2.2.2.length) hk)
    omega
  · have := hG.ins _ hk' _ (GoodW.row hG hk ht).2 (codes x) (List.mem_map_of_mem hx)
    rw [GoodW.namesT hG] at this
    obtain ⟨y, hy, e⟩ := List.mem_map.mp this
    rw [← codes_inj e]; exact hy
  · obtain ⟨r, hr, e⟩ := hG.leaf _ hk'
    obtain ⟨t, ht, rfl⟩ := List.mem_map.mp hr
    exact ⟨t, ht, List.map_eq_nil_iff.mp e⟩
theorem GoodW.strT : ∀ k ∈ hs, ∀ t ∈ k.2.2.2, ∀ x ∈ t.2.2.2, PyData.strOk x = true := fun k hk t ht x hx => by
  have h := (GoodW.goodT hG k hk).ins t ht x hx
  obtain ⟨k2, hk2, rfl⟩ := List.mem_map.mp h
  exact str_codes (hG.nmK _ (List.mem_map_of_mem hk2))
end
abbrev rSrtN (K : PySem.W.Frag) : List V → Hp → VK → Prop := fun xs H Q => ∃ (l : Addr) (ts : List PNx), xs = [.ref l] ∧ SqL K H l (ts.map fun t => V.ref t.1) ∧ (∀ t ∈ ts, SqT K H t.1 [.str t.2.1, .ref t.2.2.1] ∧ SqT K H t.2.2.1 (t.2.2.2.map V.str) ∧ ∀ x ∈ t.2.2.2, PyData.strOk x = true) ∧ (ts.map fun t => t.2.1).Nodup ∧ ts.length < 64 ∧
    ∀ (out : List PNx) p, out.Perm ts → (out.Pairwise fun x y => ¬ y.2.1.cps.toList < x.2.1.cps.toList) → H p = none → Q (.ref p) (upd H p (.lst (out.map fun t => V.ref t.1)))
theorem srt_loop {K : PySem.W.Frag} {H7 : Hp} {b lw : Addr} {hs : List KdT} {Q : Hp → Prop} (hW7 : WoodAt K H7 b hs) (hG : GoodW (hs.map datK')) (hlw : H7 lw = none) (q : ∀ (os : List KdT) (H8 : Hp), Same H7 H8 → NewW K H7 H8 lw os → SrtW (hs.map datK') (os.map datK') → Q H8) :
    CGoal (Itl K b) 2 [] (gTup K 2 (gCons (gName 0) (gCons (gName 1) gNil))) (fun _ H Q => Q true H) (tTup (tCons (tVar 0) (tCons (tCB (rSrtN K) (tCons (tVar 1) tNil)) tNil))) H7 lw Q := by
  have hl6 : hs.length ≤ 6 := by have := hG.len; simpa using this
  refine c2_list (K := K) (xs := hs.map fun k => V.ref k.1) (cs := []) (tt := fun _ H Q => Q true H) (fun j ys H' => ∃ os : List KdT, os.length = j ∧ ys = os.map (fun k => V.ref k.1) ∧ Same H7 H' ∧ NewW K H7 H' lw os ∧ SrtW ((hs.take j).map datK') (os.map datK'))
    ⟨[], rfl, rfl, same_new hlw _, ⟨hlw, upd_same, fun k hk => nomatch hk⟩, .nil⟩ ?_ ?_ ?_
  · rintro j ys H' _ ⟨_, _, _, g, _⟩
    exact g.seq hW7.1
  · rintro j x ys H' hj hx ⟨os, ho, rfl, g, hN, hS⟩
    rw [List.length_map] at hj
    obtain rfl : x = .ref hs[j].1 := by
      rw [List.getElem?_map, List.getElem?_eq_getElem hj] at hx
      exact (Option.some.inj hx).symm
    have hm := List.getElem_mem hj
    obtain ⟨k1, k2⟩ := hW7.2 hs[j] hm
    have gd := hG.goodT hs[j] hm
    refine ⟨_, _, _, rfl, g.seqT k1, iteT ⟨_, rfl, _, rfl, hs[j].2.2.1, hs[j].2.2.2, rfl, g.seq k2.1, fun t ht => ⟨g.seqT (k2.2 t ht).1, g.seqT (k2.2 t ht).2, hG.strT hs[j] hm t ht⟩, gd.nd, (by have := gd.len; omega), fun out p hp hsd hp0 => ⟨(by show 2 ≤ sizeLine; decide), fun tp htp => ?_⟩⟩⟩
    have s1 := same_new hp0 (.lst (out.map fun t => V.ref t.1))
    have s2 := same_new htp (.tup [.str hs[j].2.1, .ref p])
    have s12 := s1.trans s2
    have hp2 := s2 _ _ (upd_same (H := H') (a := p) (o := .lst (out.map fun t => V.ref t.1)))
    have np : p ≠ lw := fun z => by rw [z, hN.at0] at hp0; cases hp0
    generalize hX : upd (upd H' p (.lst (out.map fun t => V.ref t.1))) tp (.tup [.str hs[j].2.1, .ref p]) = H8 at s2 s12 hp2
    have htp8 : H8 tp = some (.tup [.str hs[j].2.1, .ref p]) := by rw [← hX]; exact upd_same
    refine comp_next (by rw [List.length_map]; exact hj) (s12 _ _ hN.at0) (by rw [List.length_map]; omega) ⟨os ++ [(tp, hs[j].2.1, p, out)], by simp [ho], by simp, fun c u e => ?_, ⟨hlw, by rw [upd_same]; simp, fun k hk => ?_⟩, ?_⟩
    · rw [upd_ne (ne_of_none e hlw)]; exact s12 _ _ (g _ _ e)
    · rcases List.mem_append.mp hk with hk | hk
      · obtain ⟨a1, a2, a3, a4, a5⟩ := hN.kd k hk
        have up : ∀ a xs, SqT K H' a xs → SqT K (upd H8 lw (.lst (os.map (fun k => V.ref k.1) ++ [.ref tp]))) a xs := fun a xs h => (s12.seqT h).put (s12 _ _ hN.at0)
        exact ⟨up _ _ a1, by rw [upd_ne a4]; exact s12 _ _ a2, a3, a4, fun t ht => ⟨up _ _ (a5 t ht).1, up _ _ (a5 t ht).2⟩⟩
      · obtain rfl := List.mem_singleton.mp hk
        have up : ∀ a xs, SqT K H' a xs → SqT K (upd H8 lw (.lst (os.map (fun k => V.ref k.1) ++ [.ref tp]))) a xs := fun a xs h => (s12.seqT h).put (s12 _ _ hN.at0)
        refine ⟨(SqT.of htp8).put (s12 _ _ hN.at0), by rw [upd_ne np]; exact hp2, ?_, np, fun t ht => ?_⟩
        · cases e : H7 p with
          | none => rfl
          | some u => rw [g _ _ e] at hp0; cases hp0
        · have ht' := hp.mem_iff.mp ht
          exact ⟨up _ _ (g.seqT (k2.2 t ht').1), up _ _ (g.seqT (k2.2 t ht').2)⟩
    · rw [List.take_add_one, List.getElem?_eq_getElem hj, Option.toList_some, List.map_append, List.map_append]
      exact hS.app ⟨rfl, hp.map _, List.pairwise_map.mpr hsd⟩
  · rintro ys H8 ⟨os, ho, rfl, g8, hN, hS⟩
    rw [List.length_map, List.take_length] at hS
    exact q os H8 g8 hN hS
end K8
namespace K8
open PySem L2 K3 TM K9
theorem loop_all {α : Type} {ws : List (List Nat)} {p : Nat → Option (α × Nat)} {Pr : α → Prop} (h : ∀ m x m', p m = some (x, m') → Pr x) : ∀ (f m : Nat) (xs : List α) (m' : Nat), loopP ws p f m = some (xs, m') → ∀ x ∈ xs, Pr x
  | 0, m, xs, m', e => by cases e
  | f + 1, m, xs, m', e => by
    unfold loopP at e
    split at e
    · cases e; intro x hx; cases hx
    · cases q : p m with
      | none => rw [q] at e; cases e
      | some y =>
        obtain ⟨x0, m0⟩ := y
        rw [q] at e
        simp only [Option.map_eq_some_iff] at e
        obtain ⟨⟨ys, m2⟩, h1, h2⟩ := e
        cases h2
        intro x hx
        rcases List.mem_cons.mp hx with rfl | hx
        · exact h _ _ _ q
        · exact loop_all h f m0 ys m2 h1 x hx
theorem inb_all {α : Type} {ws : List (List Nat)} {p : Nat → Option (α × Nat)} {Pr : α → Prop} (h : ∀ m x m', p m = some (x, m') → Pr x) {m : Nat} {xs : List α} {m' : Nat} (e : inbP ws p m = some (xs, m')) : ∀ x ∈ xs, Pr x := by
  unfold inbP at e
  split at e
  · cases q : p (m + 1) with
    | none => rw [q] at e; cases e
    | some y =>
      obtain ⟨x0, m0⟩ := y
      rw [q] at e
      simp only [Option.map_eq_some_iff] at e
      obtain ⟨⟨ys, m2⟩, h1, h2⟩ := e
      cases h2
      intro x hx
      rcases List.mem_cons.mp hx with rfl | hx
      · exact h _ _ _ q
      · exact loop_all h _ m0 ys m2 h1 x hx
  · cases e; intro x hx; cases hx
theorem parL_all {α : Type} {ws : List (List Nat)} {sg : List Nat} {p : Nat → Option (α × Nat)} {Pr : α → Prop} (h : ∀ m x m', p m = some (x, m') → Pr x) : ∀ (f m : Nat) (xs : List α) (m' : Nat), parL ws sg p f m = some (xs, m') → ∀ x ∈ xs, Pr x
  | 0, m, xs, m', e => by cases e
  | f + 1, m, xs, m', e => by
    unfold parL at e
    split at e
    · cases q : p (m + 1) with
      | none => rw [q] at e; cases e
      | some y =>
        obtain ⟨x0, m0⟩ := y
        rw [q] at e
        simp only [Option.map_eq_some_iff] at e
        obtain ⟨⟨ys, m2⟩, h1, h2⟩ := e
        cases h2
        intro x hx
        rcases List.mem_cons.mp hx with rfl | hx
        · exact h _ _ _ q
        · exact parL_all h f m0 ys m2 h1 x hx
    · cases e; intro x hx; cases hx
theorem par_all {α : Type} {ws : List (List Nat)} {sg : List Nat} {p : Nat → Option (α × Nat)} {Pr : α → Prop} (h : ∀ m x m', p m = some (x, m') → Pr x) {m : Nat} {xs : List α} {m' : Nat} (e : parP ws sg p m = some (xs, m')) : xs ≠ [] ∧ ∀ x ∈ xs, Pr x := by
  unfold parP at e
  cases q : p m with
  | none => rw [q] at e; cases e
  | some y =>
    obtain ⟨x0, m0⟩ := y
    rw [q] at e
    simp only [Option.map_eq_some_iff] at e
    obtain ⟨⟨ys, m2⟩, h1, h2⟩ := e
    cases h2
    refine ⟨by simp, fun x hx => ?_⟩
    rcases List.mem_cons.mp hx with rfl | hx
    · exact h _ _ _ q
    · exact parL_all h _ m0 ys m2 h1 x hx
theorem let_nonum : ∀ c ∈ letL, c ∉ sgnL ∧ c ∉ figL ∧ c ≠ 45 := by decide
theorem word_nm {u : List Nat} (h : Word u) (hb : beg u letL = true) : Nm u := by
  cases h with
  | @sign c h => exact absurd h (let_nonum c (of_decide_eq_true hb)).1
  | name h1 h2 h3 => exact ⟨h1, h2, h3⟩
  | num h =>
    cases u with
    | nil => exact absurd rfl h.ne
    | cons c r => exact absurd (h.all c List.mem_cons_self) (let_nonum c (of_decide_eq_true hb)).2.1
  | neg h _ => exact absurd rfl (let_nonum 45 (of_decide_eq_true hb)).2.2
theorem ah_word {ws : List (List Nat)} (hw : ∀ u ∈ ws, Word u) {m : Nat} (hb : beg (ah ws m) letL = true) : Nm (ah ws m) := by
  have hlt : m < ws.length := ah_lt rfl (beg_ne hb)
  have e : ah ws m = ws[m] := by unfold ah; rw [List.getElem?_eq_getElem hlt]; rfl
  rw [e] at hb ⊢
  exact word_nm (hw _ (List.getElem_mem hlt)) hb
def NmR (x : RowD) : Prop := Nm x.1 ∧ ∀ b ∈ x.2, Nm b
def NmK (x : KindD) : Prop := Nm x.1 ∧ x.2 ≠ [] ∧ ∀ r ∈ x.2, NmR r
theorem nm_nm {ws : List (List Nat)} (hw : ∀ u ∈ ws, Word u) : ∀ m x m', nmP ws m = some (x, m') → Nm x := fun m x m' h => by
  unfold nmP at h
  split at h
  · rename_i hb; cases h; exact ah_word hw hb
  · cases h
theorem row_nm {ws : List (List Nat)} (hw : ∀ u ∈ ws, Word u) : ∀ m x m', rowP ws m = some (x, m') → NmR x := fun m x m' h => by
  unfold rowP at h
  split at h
  · rename_i hb
    simp only [Option.map_eq_some_iff] at h
    obtain ⟨⟨xs, m2⟩, h1, h2⟩ := h
    cases h2
    exact ⟨ah_word hw hb, inb_all (nm_nm hw) h1⟩
  · cases h
theorem kind_nm {ws : List (List Nat)} (hw : ∀ u ∈ ws, Word u) : ∀ m x m', kindP ws m = some (x, m') → NmK x := fun m x m' h => by
  unfold kindP at h
  split at h
  · rename_i hb
    split at h
    · simp only [Option.map_eq_some_iff] at h
      obtain ⟨⟨xs, m2⟩, h1, h2⟩ := h
      cases h2
      exact ⟨ah_word hw hb, par_all (row_nm hw) h1⟩
    · cases h
  · cases h
def readR (ws : List (List Nat)) : Option (List KindD) := match parP ws [59] (kindP ws) 0 with
  | some (W, m) => if m = ws.length then some W else none
  | none => none
theorem read_nm {ws : List (List Nat)} (hw : ∀ u ∈ ws, Word u) {W : List KindD} {m : Nat} (h : parP ws [59] (kindP ws) 0 = some (W, m)) : W ≠ [] ∧ ∀ k ∈ W, NmK k := par_all (kind_nm hw) h
def NumOkD (W : List KindD) : Prop := W.length ≤ 6 ∧ (W.map fun k => k.2.length).sum ≤ 16 ∧ ∀ k ∈ W, ∀ r ∈ k.2, r.2.length ≤ 4
structure KindsOkD (W : List KindD) : Prop where
  nd : (W.map fun k => k.1).Nodup
  rnd : ∀ k ∈ W, (k.2.map fun r => r.1).Nodup
  ins : ∀ k ∈ W, ∀ r ∈ k.2, ∀ x ∈ r.2, x ∈ W.map fun k => k.1
  leaf : ∀ k ∈ W, ∃ r ∈ k.2, r.2 = []
theorem num_dat (hs : List KdT) : NumOk hs ↔ NumOkD (hs.map datK') := by
  have e : ((hs.map datK').map fun k => k.2.length) = hs.map fun k => k.2.2.2.length := by
    rw [List.map_map]
    exact List.map_congr_left fun k _ => by simp [datK']
  unfold NumOk NumOkD
  rw [List.length_map, e]
  refine and_congr_right fun _ => and_congr_right fun _ => ⟨fun h k hk r hr => ?_, fun h k hk t ht => ?_⟩
  · obtain ⟨k0, hk0, rfl⟩ := List.mem_map.mp hk
    obtain ⟨t, ht, rfl⟩ := List.mem_map.mp hr
    have := h k0 hk0 t ht
    simpa [datR'] using this
  · have := h (datK' k) (List.mem_map_of_mem hk) (datR' t) (List.mem_map_of_mem ht)
    simpa [datR'] using this
end K8
namespace L2
open PySem PySem.Builtin PySem.Builtin.Str
theorem fold_le {q : Nat} : ∀ (l : List Nat) (n : Nat), (∀ c ∈ l, (reprChar q c).length ≤ 2) → l.foldl (fun n c => n + (reprChar q c).length) n ≤ n + 2 * l.length
  | [], n, _ => by simp
  | c :: r, n, h => by
    have h1 := h c List.mem_cons_self
    have h2 := fold_le r (n + (reprChar q c).length) fun d hd => h d (List.mem_cons_of_mem _ hd)
    simp only [List.foldl_cons, List.length_cons]
    omega
theorem rep_len {x : PySem.Str} (h : ∀ c ∈ x.cps.toList, ∀ q, (reprChar q c).length ≤ 2) : (reprText x).length ≤ 2 * x.length + 2 := by
  have h1 := foldl_repr_eq (reprQuote x) x.cps.toList #[reprQuote x] 0
  have h2 := fold_le (q := reprQuote x) x.cps.toList 0 fun c hc => h c hc _
  show ((x.cps.foldl (fun out c => out ++ (reprChar (reprQuote x) c).toArray) #[reprQuote x]).push (reprQuote x)).size ≤ 2 * x.cps.size + 2
  rw [Array.size_push, ← Array.foldl_toList]
  have e1 : (#[reprQuote x] : Array Nat).size = 1 := rfl
  have e2 : x.cps.toList.length = x.cps.size := Array.length_toList
  omega
theorem rep_char {c : Nat} (h : Unicode.isPrintable c = true) (q : Nat) : (reprChar q c).length ≤ 2 := by
  unfold reprChar
  dsimp only
  split
  · simp
  split
  · simp
  split
  · simp
  split
  · simp
  simp [h]
end L2
namespace K8
open PySem L2 K3 TM K9
theorem nd_codes (l : List Str) : (l.map codes).Nodup ↔ l.Nodup := by
  unfold List.Nodup
  rw [List.pairwise_map]
  exact ⟨fun h => h.imp fun n e => n (by rw [e]), fun h => h.imp fun n e => n (codes_inj e)⟩
theorem mem_codes {x : Str} {l : List Str} : codes x ∈ l.map codes ↔ x ∈ l := by
  refine ⟨fun h => ?_, fun h => List.mem_map_of_mem h⟩
  obtain ⟨y, hy, e⟩ := List.mem_map.mp h
  rw [← codes_inj e]; exact hy
theorem names_dat (hs : List KdT) : ((hs.map datK').map fun k => k.1) = (hs.map fun k => k.2.1).map codes := by
  rw [List.map_map, List.map_map]; rfl
theorem rows_dat (k : KdT) : ((datK' k).2.map fun r => r.1) = (k.2.2.2.map fun t => t.2.1).map codes := by
  show ((k.2.2.2.map datR').map fun r => r.1) = _
  rw [List.map_map, List.map_map]; rfl
theorem kinds_dat (hs : List KdT) : KindsOk hs ↔ KindsOkD (hs.map datK') := by
  constructor
  · rintro ⟨nd, rows⟩
    refine ⟨by rw [names_dat]; exact (nd_codes _).mpr nd, fun k hk => ?_, fun k hk r hr x hx => ?_, fun k hk => ?_⟩
    · obtain ⟨k0, hk0, rfl⟩ := List.mem_map.mp hk
      rw [rows_dat]; exact (nd_codes _).mpr (rows k0 hk0).nd
    · obtain ⟨k0, hk0, rfl⟩ := List.mem_map.mp hk
      obtain ⟨t, ht, rfl⟩ := List.mem_map.mp hr
      obtain ⟨y, hy, rfl⟩ := List.mem_map.mp hx
      rw [names_dat]
      exact mem_codes.mpr ((rows k0 hk0).ins t ht y hy)
    · obtain ⟨k0, hk0, rfl⟩ := List.mem_map.mp hk
      obtain ⟨t, ht, e⟩ := (rows k0 hk0).leaf
      exact ⟨datR' t, List.mem_map_of_mem ht, by show t.2.2.2.map codes = []; rw [e]; rfl⟩
  · rintro ⟨nd, rnd, ins, leaf⟩
    rw [names_dat] at nd
    refine ⟨(nd_codes _).mp nd, fun k hk => ⟨?_, fun t ht x hx => ?_, ?_⟩⟩
    · have := rnd _ (List.mem_map_of_mem hk)
      rw [rows_dat] at this
      exact (nd_codes _).mp this
    · have := ins _ (List.mem_map_of_mem hk) (datR' t) (List.mem_map_of_mem ht) (codes x) (List.mem_map_of_mem hx)
      rw [names_dat] at this
      exact mem_codes.mp this
    · obtain ⟨r, hr, e⟩ := leaf _ (List.mem_map_of_mem hk)
      obtain ⟨t, ht, rfl⟩ := List.mem_map.mp hr
      exact ⟨t, ht, List.map_eq_nil_iff.mp e⟩
theorem prt_let : ∀ c ∈ letL, Unicode.isPrintable c = true := by decide +kernel
theorem nm_rep {x : Str} (h : Nm (codes x)) : (reprText x).length ≤ 800 := by
  have := rep_len (x := x) fun c hc q => rep_char (prt_let c (h.all c hc)) q
  have h2 := h.len
  have e : x.length = (codes x).length := by simp [Str.length, codes]
  omega
theorem rep_ok {hs : List KdT} (h : ∀ k ∈ hs.map datK', NmK k) : RepOk hs := fun k hk => by
  have hk' := h _ (List.mem_map_of_mem hk)
  refine ⟨nm_rep hk'.1, fun t ht => ?_⟩
  have hr := hk'.2.2 _ (List.mem_map_of_mem ht)
  exact ⟨nm_rep hr.1, fun b hb => nm_rep (hr.2 _ (List.mem_map_of_mem hb))⟩
theorem good_of {W : List KindD} (h0 : W ≠ []) (h1 : ∀ k ∈ W, NmK k) (h2 : NumOkD W) (h3 : KindsOkD W) : GoodW W :=
  ⟨h2.1, List.length_pos_iff.mpr h0, h2.2.1, h2.2.2, h3.nd, h3.rnd, h3.ins, h3.leaf, fun k hk => (h1 k hk).1, fun k hk r hr => ((h1 k hk).2.2 r hr).1⟩
theorem mem_sum : ∀ (l : List Nat) (a : Nat), a ∈ l → a ≤ l.sum
  | b :: r, a, h => by
    rw [List.sum_cons]
    rcases List.mem_cons.mp h with rfl | h
    · omega
    · have := mem_sum r a h; omega
end K8
namespace K8
open PySem L2 K3 TM K9
theorem parL_by {α : Type} {ws : List (List Nat)} {sg : List Nat} {p : Nat → Option (α × Nat)} {sz : α → Nat} (h : ∀ m x m', p m = some (x, m') → sz x + m ≤ m') : ∀ (f m : Nat) (xs : List α) (m' : Nat), parL ws sg p f m = some (xs, m') → (xs.map sz).sum + m ≤ m'
  | 0, m, xs, m', e => by cases e
  | f + 1, m, xs, m', e => by
    unfold parL at e
    split at e
    · cases q : p (m + 1) with
      | none => rw [q] at e; cases e
      | some y =>
        obtain ⟨x0, m0⟩ := y
        rw [q] at e
        simp only [Option.map_eq_some_iff] at e
        obtain ⟨⟨ys, m2⟩, h1, h2⟩ := e
        cases h2
        have h3 := parL_by h f m0 ys m2 h1
        have h4 := h _ _ _ q
        show ((x0 :: ys).map sz).sum + m ≤ m2
        rw [List.map_cons, List.sum_cons]
        omega
    · cases e; simp
theorem par_by {α : Type} {ws : List (List Nat)} {sg : List Nat} {p : Nat → Option (α × Nat)} {sz : α → Nat} (h : ∀ m x m', p m = some (x, m') → sz x + m ≤ m') {m : Nat} {xs : List α} {m' : Nat} (e : parP ws sg p m = some (xs, m')) : (xs.map sz).sum + m ≤ m' := by
  unfold parP at e
  cases q : p m with
  | none => rw [q] at e; cases e
  | some y =>
    obtain ⟨x0, m0⟩ := y
    rw [q] at e
    simp only [Option.map_eq_some_iff] at e
    obtain ⟨⟨ys, m2⟩, h1, h2⟩ := e
    cases h2
    have h3 := parL_by h _ m0 ys m2 h1
    have h4 := h _ _ _ q
    show ((x0 :: ys).map sz).sum + m ≤ m2
    rw [List.map_cons, List.sum_cons]
    omega
theorem sum_one {α : Type} (xs : List α) : (xs.map fun _ => 1).sum = xs.length := by
  induction xs with
  | nil => rfl
  | cons x r ih => rw [List.map_cons, List.sum_cons, ih, List.length_cons]; omega
theorem kind_sz (ws : List (List Nat)) : ∀ m x m', kindP ws m = some (x, m') → x.2.length + m ≤ m' := fun m x m' h => by
  unfold kindP at h
  split at h
  · split at h
    · simp only [Option.map_eq_some_iff] at h
      obtain ⟨⟨xs, m2⟩, h1, h2⟩ := h
      cases h2
      have := par_by (sz := fun _ => 1) (fun m x m' e => by have := ((row_gd ws).on m x m' e).1; omega) h1
      rw [sum_one] at this
      show xs.length + m ≤ m2
      omega
    · cases h
  · cases h
def spReadWX (K : PySem.W.Frag) (T1 T2 T3 NT NW : Addr) : Sp := fun vs H Q E => ∃ (z : List Nat) (ws : List (List Nat)), vs = [.str (S z)] ∧ z.length ≤ 9000 ∧ Writ z ws ∧ ws.length ≤ 1000 ∧ Z3 T1 T2 T3 H ∧
  (∀ W, readR ws = some W → NumOkD W → KindsOkD W → ∀ (lw : Addr) (H' : Hp), SXT [T1, T2, T3] H H' → Z3 T1 T2 T3 H' → Q (.ref lw) H') ∧
  ((readR ws = none ∨ ∃ W, readR ws = some W ∧ ¬ NumOkD W) → ∀ H', SXT [T1, T2, T3] H H' → Z3 T1 T2 T3 H' → E (.ref NT) none H') ∧
  (∀ W, readR ws = some W → NumOkD W → ¬ KindsOkD W → ∀ H', SXT [T1, T2, T3] H H' → Z3 T1 T2 T3 H' → E (.ref NW) none H')
section
variable {P : Program} {w : World} {K : PySem.W.Frag} {mg : Str → Option Value} {base : Heap} {f : Addr} {fd : FuncData} {C T1 T2 T3 c NT NW : Addr}
theorem scReadW : FnScope ["text", "reader", "found"] ["text"] (defScope sReadW) := ⟨rfl, rfl, rfl, by decide +kernel, rfl, by decide +kernel, by decide +kernel⟩
theorem fr_read : ∀ y ∈ (lamScope eRead).names, y.2 ≠ NameKind.cell ∧ y.2 ≠ NameKind.local := by decide +kernel
theorem on_read : ∀ y ∈ (lamScope eRead).names, y.2 = NameKind.free → y.1 = Str.ofString "reader" := by decide +kernel
theorem words_rep {ws : List (List Nat)} (hw : ∀ u ∈ ws, Word u) : ∀ u ∈ ws, u ≠ [] ∧ (reprText (S u)).length ≤ 1000 := fun u hu => by
  have h := hw u hu
  refine ⟨h.ne, ?_⟩
  have pr : ∀ c ∈ letL ++ figL ++ sgnL ++ [45], Unicode.isPrintable c = true := by decide +kernel
  have ch : ∀ c ∈ u, c ∈ letL ++ figL ++ sgnL ++ [45] := by
    intro c hc
    simp only [List.mem_append]
    cases h with
    | sign h => obtain rfl := List.mem_singleton.mp hc; exact .inl (.inr h)
    | name h1 h2 h3 => exact .inl (.inl (.inl (h3 c hc)))
    | num h => exact .inl (.inl (.inr (h.all c hc)))
    | neg h hn =>
      rcases List.mem_cons.mp hc with rfl | hc
      · exact .inr List.mem_cons_self
      · exact .inl (.inl (.inr (h.all c hc)))
  have := rep_len (x := S u) fun c hc q => rep_char (pr c (ch c (by rw [S_list] at hc; exact hc))) q
  have h2 := h.len
  rw [S_len] at this
  omega
theorem ok_readW {fI fP : Addr} {fdI fdP : FuncData} (ne : Ne3 T1 T2 T3) (F : Fun K "read_wood" "read_wood" sReadW f fd) (hn : PySem.W.nsIn K mainGlobals "read_wood" = some (some (.ref f))) (hTb : PySem.W.tabIn K "read_wood" = some (c, T1)) (hC : PySem.W.codeHdIn K c T1 = true) (hB : BtAt mg base) (G : Gm mg) (G2 : Gm2 mg) (TT : RdT K mg C)
    (mkI : Mk K C fI) (FI : FnOk P w K mg base CX0 6 fI fdI ["self", "text"] (spInit C)) (bI : Binds K fdI ["self", "text"] [])
    (ME : MtX P w K mg base C 2 "need_end" ["self"] (spEnd C NT)) (mP : Meth K C "parted_by" fP) (bP : Binds K fdP ["self", "sign", "take_one"] [])
    (FP : ∀ g : Heap, FnOk P w K mg g (CX1 P w) (8 + 3) fP fdP ["self", "sign", "take_one"] (spParX P w K mg C [T1, T2, T3] (Z3 T1 T2 T3) (RvK K) NT (8 + 2) g))
    (R : ∀ g : Heap, BtAt mg g → FnX P w K mg g 9 "kind_from" ["reader"] (spFromX C [T1, T2, T3] (Z3 T1 T2 T3) (RvK K) kindP NT))
    (RN : FnX P w K mg base 1 "check_numbers" ["wood"] (spChkNX K NT)) (RK : FnX P w K mg base 3 "check_kinds" ["wood"] (spChkKX K NW)) : FnOk P w K mg base (CX1 P w) 12 f fd ["text"] (spReadWX K T1 T2 T3 NT NW) := by
  refine Fun.okXC F hn hTb scReadW (fun vs H Q E h => ?_) (fun A outer s H vs Q E hr h => ?_)
  · obtain ⟨z, ws, rfl, _⟩ := h
    rfl
  obtain ⟨z, ws, rfl, hz, hw, h1k, hZ, q1, q2, q3⟩ := h
  have hr7 : Room 7 _ := hr.mono (by decide)
  have hfit := room_fit hr
  refine ⟨_, (pss_cons (ps_set (i := 1) scReadW.nd rfl (Or.inr rfl) (pe_make mkI FI hr7 rfl TT.mgC bI .nil pass0 (pa_cons (pv 0) pa_nil)))
    (pss_cons (ps_set (i := 2) scReadW.nd rfl (Or.inl rfl) (pe_methBX (EE := fun _ => E) (pv 1) TT.cl mP (fun g _ => FP g) hr bP (passE fun _ _ h => h) (fun _ => rfl) (pa_cons (pe_str) (pa_cons (pe_lamC (c := c) (T := T1) rfl hC hB) pa_nil))))
    (pss_cons (ps_expr (pe_mtX0 (EE := fun _ => E) ME TT.cl hr (passE fun _ _ h => h) (pv 1)))
    (pss_cons (ps_expr (pe_fnX (EE := fun _ => E) RN hr (passE fun _ _ h => h) (pa_cons (pv 2) pa_nil)))
    (pss_cons (ps_expr (pe_fnX (EE := fun _ => E) RK hr (passE fun _ _ h => h) (pa_cons (pv 2) pa_nil)))
    (pss_one (ps_ret (pe_lcompG (CompG.many (xs := ["kind", "rows"]) (caps := []) (cap := []) (cs := []) rfl rfl (by decide +kernel) (by decide +kernel) (by decide +kernel) (by decide +kernel) (by decide +kernel) (by decide +kernel) rfl rfl rfl) rfl (pi_list (pv 2)) (pg_c2 (CompG.many (xs := ["kind", "rows"]) (caps := []) (cap := []) (cs := []) rfl rfl (by decide +kernel) (by decide +kernel) (by decide +kernel) (by decide +kernel) (by decide +kernel) (by decide +kernel) rfl rfl rfl) rfl) (fun _ _ _ _ => pf_nil) (fun _ _ _ _ => (pe_tup (pa_cons (pv 0) (pa_cons (pe_callB (r := rSrtN K) (call_sortedN hfit) rfl G2.srt PyProof.Rows.boot_sorted (pa_cons (pv 1) pa_nil)) pa_nil)))))))))))), ?_⟩
  have hW : ∀ u ∈ ws, u.length ≤ 61 := fun u hu => (hw.words u hu).len
  have zo := z3_ok T1 T2 T3
  have e59 : S [59] = Str.ofString ";" := by decide +kernel
  refine ⟨_, rfl, fun r dx hr0 hdx0 hne => ?_⟩
  have s1 : Same H (upd (upd H dx (.own r)) r (.ins C dx [])) := fun b u e => by rw [upd_ne (ne_of_none e hr0), upd_ne (ne_of_none e hdx0)]; exact e
  have hx1 : upd (upd H dx (.own r)) r (.ins C dx []) r = some (.ins C dx []) := upd_same
  generalize upd (upd H dx (.own r)) r (.ins C dx []) = H1 at s1 hx1
  refine ⟨r, dx, z, ws, rfl, hx1, hz, hw, fun l H2 g2 hR2 => ⟨rfl, ?_⟩⟩
  have hZ2 := zo.ins _ _ r C dx _ hx1 g2 (zo.sm _ _ s1 hZ)
  have x2 : SXT [T1, T2, T3] H H2 := fun b u n e => g2 _ _ (ne_of_none e hr0) (s1 _ _ e)
  obtain ⟨dx2, hx2⟩ := hR2.ins
  refine ⟨_, rfl, r, dx2, _, rfl, hx2, rfl, hZ2.z1, fun L H4 x4 hL0 hL4 tb4 g hs hc => ?_⟩
  obtain ⟨ps, hps⟩ := hZ2.z1.at
  have nr : r ≠ T1 := fun z => by rw [z, hps] at hx2; cases hx2
  have nl : l ≠ T1 := fun z => by have h := hR2.fl; rw [z, hps] at h; cases h
  have hR4 : RdAt C H4 r l ws 0 := ⟨⟨dx2, x4 _ _ nr hx2⟩, x4 _ _ nl hR2.fl⟩
  have hZ4 := hZ2.by1 ne x4 tb4
  have x24 : SXT [T1, T2, T3] H H4 := x2.trans fun b u n e => x4 _ _ (fun z => n (z ▸ List.mem_cons_self)) e
  have toT : ∀ {H5 : Hp}, SXs [T1, T2, T3] r H4 H5 → SXT [T1, T2, T3] H H5 := fun {H5} x5 b u n e => x5 _ _ n (ne_of_none e hr0) (x24 _ _ n e)
  obtain ⟨c1, u1, e1, i1, v1⟩ := hc 1 "reader" (.ref r) rfl rfl rfl
  refine ⟨r, l, L, ws, [59], kindP ws, 0, eRead, _, (by rw [e59]), by decide, hR4, Nat.zero_le _, h1k, kind_gd ws, hL4, ?_, hZ4, fun W m' hin b vs H5 x5 hR5 hb0 hb5 hvl rl5 hZ5 => ?_, fun hin H5 x5 hZ5 => q2 (.inl (by rw [readR, hin])) H5 (toT x5) hZ5⟩
  · obtain rfl : s.heap.objs.size + 1 = c1 := Option.some.inj e1
    refine lam_runX (k := 9) (N := ["reader"]) (vs := [.ref r]) rfl rfl rfl fr_read (fun y hy => ?_) (ClAt.one i1 v1) (fun _ _ _ _ => rfl) (fun qual' f' c' A' outer' s' H' Q' E' hr' h' => ?_)
    · have z := on_read _ (PySem.mem_of_lookup hy) rfl
      have z' : y = Str.ofString "reader" := z
      rw [z']
      obtain ⟨c0, u0, e0, _⟩ := (ClAt.one (x1 := Str.ofString "reader") i1 v1).val 0 (Str.ofString "reader") (.ref r) rfl rfl
      exact ⟨c0, e0⟩
    · obtain ⟨m', _, hR', hm', hZ', q1', q2'⟩ := h'
      refine ⟨_, pe_fnX (EE := fun _ => E') (R g (hB.sub hs)) hr' passL (pa_cons (pv 0) pa_nil) (Nat.le_refl _), ?_⟩
      exact ⟨_, rfl, r, l, ws, m', rfl, hR', hW, h1k, hm', hZ', q1', q2'⟩
  obtain ⟨hW0, hWn⟩ := read_nm hw.words hin
  have hm' := ((par_gd (sg := [59]) (kind_gd ws)).on _ _ _ hin).2
  obtain ⟨hs, rfl, hk5, rfl⟩ := rl_kinds rl5
  obtain ⟨dx5, hx5⟩ := hR5.ins
  have hW5 : WoodAt K H5 b hs := ⟨SqL.of hb5, fun k hk => ⟨(hk5 k hk).1, SqL.of (hk5 k hk).2.1, (hk5 k hk).2.2.2⟩⟩
  have x5' : SXT [T1, T2, T3] H H5 := toT x5
  refine ⟨_, rfl, r, dx5, _, rfl, hx5, rfl, r, l, ws, m', rfl, hR5, hm', words_rep hw.words, fun hme => ?_, fun hme => q2 (.inl (by rw [readR, hin]; exact if_neg (Nat.ne_of_lt hme))) H5 x5' hZ5⟩
  have hread : readR ws = some (hs.map datK') := by rw [readR, hin]; exact if_pos hme
  have hrep := rep_ok hWn
  rw [List.length_map] at hvl
  have hsum : (hs.map fun k => k.2.2.2.length).sum ≤ 1000 := by
    have h1 := par_by (sz := fun k : KindD => k.2.length) (kind_sz ws) hin
    have e : ((hs.map datK').map fun k => k.2.length) = hs.map fun k => k.2.2.2.length := by
      rw [List.map_map]
      exact List.map_congr_left fun k _ => by simp [datK']
    rw [e] at h1
    omega
  refine ⟨_, rfl, b, hs, rfl, hW5, hrep, hvl, hsum, fun hNum H6 g6 => ?_, fun hNum H6 g6 => q2 (.inr ⟨_, hread, fun h => hNum ((num_dat hs).mpr h)⟩) H6 (x5'.trans (SXT.of g6)) (zo.sm _ _ g6 hZ5)⟩
  have hNumD := (num_dat hs).mp hNum
  refine ⟨_, rfl, b, hs, rfl, hW5.same g6, hrep, (by have := hNum.1; omega), fun k hk => ?_, fun hKs H7 g7 => ?_, fun hKs H7 g7 => q3 _ hread hNumD (fun h => hKs ((kinds_dat hs).mpr h)) H7 (x5'.trans (SXT.of (g6.trans g7))) (zo.sm _ _ (g6.trans g7) hZ5)⟩
  · have h1 := mem_sum _ _ (List.mem_map_of_mem (f := fun k : KdT => k.2.2.2.length) hk)
    have h2 := hNum.2.1
    omega
  have hKD := (kinds_dat hs).mp hKs
  have hG := good_of hW0 hWn hNumD hKD
  have hW7 := (hW5.same g6).same g7
  have x7 : SXT [T1, T2, T3] H H7 := x5'.trans (SXT.of (g6.trans g7))
  have hZ7 := zo.sm _ _ (g6.trans g7) hZ5
  refine ⟨_, rfl, b, rfl, ⟨_, hW7.1⟩, fun lw hlw => ?_⟩
  refine srt_loop hW7 hG hlw fun os H8 g8 hN hS => ?_
  exact q1 _ hread hNumD hKD lw H8 (x7.trans (SXT.of g8)) (zo.sm _ _ g8 hZ7)
end
end K8
namespace L2
open PySem PySem.Spec PyProof.Rows PySem.W
theorem exc_ans {K : Frag} {a : Addr} {t c : Value} (e : kitOne K t c = some true) : Answers (fun s => K.In s.heap ∧ ∃ ob, s.heap.get? a = some ob ∧ ob.cls = t) (.ref a) c true := by
  intro dep tk prog w A R s hs
  obtain ⟨h0, g, d, tt, os⟩ := s
  obtain ⟨⟨X, ob, hob, hcl⟩, hq⟩ := hs
  have LT : Looks (model prog w) h0 (typeOf (.ref a)) t := hcl ▸ (Looks.ld hob).andThen .now
  unfold kitOne at e
  unfold Builtin.«isinstance.nested»
  refine wpAny_bind (LT.at ?_)
  by_cases q : (t == c) = true
  · rw [if_pos q]
    first
      | ((repeat lk); exact hq tt)
      | exact wpAny_bind (wpAny_rule (hq tt))
      | exact wpAny_bind (wpAny_rule (wpAny_pure (hq tt)))
  · rw [if_neg q] at e
    rw [if_neg q]
    obtain ⟨hty, his, hsub⟩ := kit_cls (M := model prog w) X e
    have LI : Looks (model prog w) h0 (isInstance (.ref a) c) true := LT.andThen hsub
    refine wpAny_bind (hty.at ?_)
    rw [if_pos (by decide)]
    k_delta "plainIsInstance"
    refine wpAny_bind (wpAny_bind (his.at ?_))
    simp only [Bool.not_true, Bool.false_eq_true, if_false]
    refine wpAny_bind (LI.at ?_)
    first
      | exact wpAny_pure (wpAny_pure (hq tt))
      | (simp only [if_true]; first | exact wpAny_pure (wpAny_pure (hq tt)) | exact wpAny_pure (hq tt) | exact wpAny_bind (wpAny_pure (wpAny_pure (hq tt))))
def clsOf : V → Option Value
  | .ref C => some (.ref C)
  | .ty T => some (.type T)
  | _ => none
theorem relV_cls {v : V} {u c : Value} (r : RelV v u) (h : clsOf v = some c) : u = c := by
  cases v with
  | ref C => cases h; exact r
  | ty T => cases h; exact r
  | _ => cases h
abbrev rIsX (K : Frag) : List V → Hp → VK → Prop := fun xs H Q => ∃ a t v c, xs = [.ref a, v] ∧ H a = some (ExcO a t) ∧ clsOf v = some c ∧ kitOne K t c = some true ∧ Q (.bl true) H
section
variable {X : Cx}
theorem call_isinstX : CallR X (.builtin "isinstance") (rIsX X.K) := by
  intro pins s σ H xs us Q I r h
  obtain ⟨a, t, v, c, rfl, ha, hc, e, q⟩ := h
  obtain ⟨u, c', rfl, rx, rc⟩ := vals2 r
  cases (show u = Value.ref a from rx)
  cases relV_cls rc hc
  have hob : ∃ ob, s.heap.get? a = some ob ∧ ob.cls = t := (I.hok a _ ha).1
  exact call_isinstance (S := fun _ R s => (X.K.In s.heap ∧ ∃ ob, s.heap.get? a = some ob ∧ ob.cls = t) ∧ ∀ tk, R (.ok (.ret (.bool true))) { s with toks := tk })
    (fun prog w A R s hs => isinstance_outer (exc_ans e 0 _ prog w A R s hs) (fun z => nomatch z)) ⟨⟨I.kIn, hob⟩, fun tk => ⟨.bl true, H, I.tok tk, rfl, q⟩⟩
end
end L2
namespace L2
open PySem PySem.Spec PyProof.Rows PySem.W PySem.Calls Builtin Builtin.ObjectAttr Builtin.Getset_descriptor
structure XcK (K : Frag) (D : Addr) : Prop where
  ga : findIn K (.ref D) "__getattribute__" = some (some (.builtin "BaseException.__getattribute__"))
  gn : findIn K (.ref D) "__getattr__" = some none
  gc : findIn K (.ref D) "__class__" = some (some (.builtin "object.__class__"))
  sb : mroIn K D (.type "BaseException") = some true
  so : mroIn K D (.type "object") = some true
section
variable {prog : Program} {w : World} {A : Around} {E : Value → Shared → Prop} {K : Frag} {a D : Addr} {h : Heap} {g : Array GenState} {d : Drawn} {t : Nat} {os : OsState}
theorem xc_get {R : Result → Shared → Prop} {tp : Value} (X : K.In h) (k : XcK K D) (L0 : Looks (model prog w) h (typeOf (.ref a)) (.ref D)) (q : R (.ok (.ret (.ref D))) ⟨h, g, d, t, os⟩) :
    codeAny (model prog w) A (.call (.builtin "getset_descriptor.__get__") ⟨[.builtin "object.__class__", .ref a, tp], []⟩) R ⟨h, g, d, t, os⟩ := by
  have L1 := looks_mroIn (M := model prog w) X k.so
  refine codeAny_call_builtin KF.slot_gs.plain KF.entry_gs
    (KF.slot_gs.check _ _ _ _ _ _ _ _ KF.type_class (KF.args_gs _ _ _) ?_)
  unfold Builtin.«getset_descriptor.__get__» descrGet; rw [dga_obj]; refine wpAny_bind (wpAny_pure ?_)
  unfold descrGetter descrCheckInstance descrNameAndClass isInstance; simp only [KF.owner_class]
  repeat lk
  refine ⟨Code.quiet_builtin _ (by decide +kernel),
    codeAny_builtin KF.entry_class ?_⟩
  unfold Builtin.«object.__class__» shownTypeOf; (repeat lk)
  exact q
theorem xc_entry {tk : Tok} {Q : Fin → Shared → Prop} (X : K.In h) (k : XcK K D) (L0 : Looks (model prog w) h (typeOf (.ref a)) (.ref D)) (q : Q (.done (.ret (.ref D))) ⟨h, g, d, t, os⟩) :
    wpAny (model prog w) A (Builtin.«object.__getattribute__» ⟨[.ref a, .str "__class__" tk], []⟩) Q E ⟨h, g, d, t, os⟩ := by
  have LC := looks_findIn (M := model prog w) X k.gc
  have hT5 : (⟨h, g, d, t, os⟩ : Shared).TypeIs (.builtin "object.__class__") "getset_descriptor" := F.typeOf_object_class
  have f5 := F.typeOf_object_class; have f6 := F.slot_gs_get.lookup; have f7 := F.slot_gs_set.lookup
  repeat (any_goals (first | assumption | with_reducible refine wpAny_bind (L0.at ?_) | with_reducible refine wpAny_bind (LC.at ?_) | wp_step))
  refine xc_get X k L0 ?_
  repeat (any_goals (first | assumption | wp_step))
theorem xc_check {rest : List Value} {Q : Unit → Shared → Prop} {s : Shared} (X : K.In s.heap) (k : XcK K D) (L0 : Looks (model prog w) s.heap (typeOf (.ref a)) (.ref D)) (ha : argsOk "BaseException.__getattribute__" ⟨.ref a :: rest, []⟩) (q : Q () s) :
    wpAny (model prog w) A (checkBuiltinCall "BaseException.__getattribute__" ⟨.ref a :: rest, []⟩) Q E s := by
  have L1 := looks_mroIn (M := model prog w) X k.sb
  have L2 : Looks (model prog w) s.heap (isInstance (.ref a) (.type "BaseException")) true := L0.andThen L1
  have hs : splitId "BaseException.__getattribute__" = some ("BaseException", "__getattribute__") := by decide +kernel
  have hk : builtinKind "BaseException.__getattribute__" = some .slot := by decide +kernel
  simp only [checkBuiltinCall, hk, hs]
  refine wpAny_bind (L2.at ?_)
  simp only [Bool.not_true, Bool.false_eq_true, if_false]
  cases e : Manifest.signature? "BaseException.__getattribute__" with
  | none => exact wpAny_pure q
  | some sig =>
    simp only [argsOk, e] at ha
    have h2 : Bind.checkArgs "BaseException.__getattribute__" sig ⟨.ref a :: rest, []⟩ = pure () := ha
    show wpAny _ _ (Bind.checkArgs "BaseException.__getattribute__" sig ⟨.ref a :: rest, []⟩) Q E s; rw [h2]; exact wpAny_pure q
theorem xc_call {tk : Tok} {R : Result → Shared → Prop} (X : K.In h) (k : XcK K D) (L0 : Looks (model prog w) h (typeOf (.ref a)) (.ref D)) (q : R (.ok (.ret (.ref D))) ⟨h, g, d, t, os⟩) :
    codeAny (model prog w) A (.call (.builtin "BaseException.__getattribute__") ⟨[.ref a, .str "__class__" tk], []⟩) R ⟨h, g, d, t, os⟩ :=
  codeAny_call_builtin F.excAttr_ValueError.ga.plain F.entry_bexc_ga (xc_check X k L0 (F.args_bexc_ga _ _) (xc_entry X k L0 q))
theorem xc_by {tk : Tok} {Q : Value → Shared → Prop} (X : K.In h) (k : XcK K D) (L0 : Looks (model prog w) h (typeOf (.ref a)) (.ref D)) (q : Q (.ref D) ⟨h, g, d, t, os⟩) :
    wpAny (model prog w) A (getAttrBy (.ref a) (.str "__class__" tk) false) Q E ⟨h, g, d, t, os⟩ := by
  have LG := looks_findIn (M := model prog w) X k.ga
  have LN := looks_findIn (M := model prog w) X k.gn
  have f3 := F.excAttr_ValueError.ga.bind (.ref a)
  repeat (any_goals (first | assumption | with_reducible refine wpAny_bind (L0.at ?_) | with_reducible refine wpAny_bind (LG.at ?_) | with_reducible refine wpAny_bind (LN.at ?_) | wp_step))
  refine xc_call X k L0 ?_
  repeat (any_goals (first | assumption | wp_step))
theorem xc_attr {Q : Option Value → Shared → Prop} (X : K.In h) (k : XcK K D) (L0 : Looks (model prog w) h (typeOf (.ref a)) (.ref D)) (q : Q (some (.ref D)) ⟨h, g, d, t + 1, os⟩) :
    wpAny (model prog w) A (getAttr? (.ref a) "__class__") Q E ⟨h, g, d, t, os⟩ := by
  unfold getAttr? getAttrBy?
  repeat (any_goals (first | assumption | with_reducible apply xc_by X k L0 | wp_step))
end
theorem exc_not {K : Frag} {a D : Addr} {c : Value} (k : XcK K D) (e : kitOne K (.ref D) c = some false) : Answers (fun s => K.In s.heap ∧ ∃ ob, s.heap.get? a = some ob ∧ ob.cls = .ref D) (.ref a) c false := by
  intro dep tk prog w A R s hs
  obtain ⟨h0, g, d, tt, os⟩ := s
  obtain ⟨⟨X, ob, hob, hcl⟩, hq⟩ := hs
  have LT : Looks (model prog w) h0 (typeOf (.ref a)) (.ref D) := hcl ▸ (Looks.ld hob).andThen .now
  have LD : Looks (model prog w) h0 (isType (.ref D)) true := by
    obtain ⟨cd, hc, _⟩ := Option.bind_eq_some_iff.mp k.so
    unfold clsIn at hc
    split at hc
    · rename_i c' d' cd' sl' ho
      intro A' Q' E' s' kk qq
      unfold isType loadHead; exact wpAny_bind (wpAny_loadPart (kk _ _ (X _ _ ho)) (wpAny_pure qq))
    · cases hc
  unfold kitOne at e
  unfold Builtin.«isinstance.nested»
  refine wpAny_bind (LT.at ?_)
  by_cases q : (Value.ref D == c) = true
  · rw [if_pos q] at e; cases e
  · rw [if_neg q] at e
    rw [if_neg q]
    obtain ⟨hty, his, hsub⟩ := kit_cls (M := model prog w) X e
    have LI : Looks (model prog w) h0 (isInstance (.ref a) c) false := LT.andThen hsub
    refine wpAny_bind (hty.at ?_)
    rw [if_pos (by decide)]
    k_delta "plainIsInstance"
    refine wpAny_bind (wpAny_bind (his.at ?_))
    simp only [Bool.not_true, Bool.false_eq_true, if_false]
    refine wpAny_bind (LI.at ?_)
    simp only [Bool.false_eq_true, if_false]
    refine wpAny_bind (xc_attr X k LT (wpAny_bind (LD.at ?_)))
    simp only [Bool.not_true, Bool.false_eq_true, if_false]
    refine wpAny_bind (wpAny_rule (hsub.at ?_))
    first
      | exact wpAny_pure (hq _)
      | exact wpAny_pure (wpAny_pure (hq _))
      | exact wpAny_bind (wpAny_pure (wpAny_pure (hq _)))
abbrev rNotX (K : Frag) : List V → Hp → VK → Prop := fun xs H Q => ∃ (a D : Addr) (v : V) (c : Value), xs = [.ref a, v] ∧ H a = some (ExcO a (.ref D)) ∧ clsOf v = some c ∧ XcK K D ∧ kitOne K (.ref D) c = some false ∧ Q (.bl false) H
section
variable {X : Cx}
theorem call_isinstN : CallR X (.builtin "isinstance") (rNotX X.K) := by
  intro pins s σ H xs us Q I r h
  obtain ⟨a, D, v, c, rfl, ha, hc, k, e, q⟩ := h
  obtain ⟨u, c', rfl, rx, rc⟩ := vals2 r
  cases (show u = Value.ref a from rx)
  cases relV_cls rc hc
  have hob : ∃ ob, s.heap.get? a = some ob ∧ ob.cls = .ref D := (I.hok a _ ha).1
  exact call_isinstance (S := fun _ R s => (X.K.In s.heap ∧ ∃ ob, s.heap.get? a = some ob ∧ ob.cls = .ref D) ∧ ∀ tk, R (.ok (.ret (.bool false))) { s with toks := tk })
    (fun prog w A R s hs => isinstance_outer (exc_not k e 0 _ prog w A R s hs) (fun z => nomatch z)) ⟨⟨I.kIn, hob⟩, fun tk => ⟨.bl false, H, I.tok tk, rfl, q⟩⟩
end
end L2
namespace L2
open PySem PySem.Spec PyProof.Rows
section
variable {X : Cx}
end
end L2
namespace L2
open PySem PySem.Spec PyProof.Rows
def sTryAsM (K : PySem.W.Frag) (B : Addr) (i : Nat) (tb : (St → XK) → TS) (ts : TS) : TS := fun D σ H => ∃ EE : St → XK, tb EE D σ H ∧ ∀ σ' cls H', EE σ' cls none H' → ∃ C : Addr, cls = .ref C ∧ PySem.W.exmOne K (.ref C) (.ref B) = some true ∧ ∀ a, H' a = none → ts (D.gone i) (σ'.set i (some (.ref a))) (upd H' a (ExcO a (.ref C)))
section
variable {X : Cx}
theorem ps_tryAsM {x n : Str} {i : Nat} {B : Addr} {body suite : List Stmt} {b₀ : Stmt} {tb : (St → XK) → TS} {ts : TS} {np hpos pos : Pos} (hm : X.mg x = some (.ref B)) (hstk : X.stack = X.env :: X.outer) (hN : X.N.Nodup) (hi : X.N[i]? = some n) (hk : X.env.scope.names.lookup n = some .local)
    (hb : ∀ pins EE, PSs (X.tryx pins EE) body (tb EE)) (hs : ∀ a, PSs (X.mrk a) (b₀ :: suite) ts) (hg : Gl X x := by rfl) (hfr : X.env.frame = some X.env.locals := by rfl) (hd : (x == ("__debug__" : Str)) = false := by decide) (hex : X.ex = [] := by rfl) :
    PS X (.Try body [.ExceptHandler (some (.Name x np)) (some n) (b₀ :: suite) hpos] [] [] pos) (sTryAsM X.K B i tb ts) := by
  intro pins s σ H D I h
  obtain ⟨EE, h1, h2⟩ := h
  refine wpAny_Try_except (wpAny_mono (hb pins EE [] s σ H D (I.toTry EE) h1) (fun fl s1 q => ?_) fun e s1 q => ?_)
  · have q' := SP.ofTry q
    cases fl with
    | next => exact wpAny_execs_nil q'
    | brk => exact q'
    | cont => exact q'
    | ret u => exact q'
  · obtain ⟨p2, σ1, H1, s0, I1, a, cls, H', rfl, F, q⟩ := q
    obtain ⟨C, rfl, hq, hts⟩ := h2 _ _ _ q
    obtain ⟨B, t, hfl, cov⟩ := F.fly
    have hfr1 : s1.heap.FunFrames B (X.pnd pins).stack := hfl.2.2.1
    obtain ⟨oe, vs, hoe, hoc, hod, _⟩ := hfl.first
    have new : ∀ b, (∃ o, s0.heap.get? b = some o) → b ≠ a := fun b hb z => by
      subst z
      by_cases hf : b ∈ frs X.stack
      · exact frs_data hfr1 b hf _ hoe _ hod
      · have := cov b oe hoe (.inr hb) hf
        rw [hfl.2.1] at this; cases this
    have hHa : H' a = none := by
      cases hz : H' a with
      | none => rfl
      | some u =>
        by_cases hf : a ∈ frs X.stack
        · exact absurd hod (frs_data hfr1 a hf _ hoe _)
        · have := cov a oe hoe (.inl (by rw [hz]; intro z; cases z)) hf
          rw [hfl.2.1] at this; cases this
    rw [hstk] at hfl
    refine wpAny_looks_onW (by rw [← hstk]; exact I.ok.frames) hfr hfl fun h4 hheld up4 => ?_
    refine wpAny_landsW hheld fun h5 hfl5 up5' => ?_
    have up5 := up4.trans up5'
    have J5 := I1.flown F.os F.bare F.un F.hok hfr1 cov hfl5.1 up5
    have K5 : Inv X pins σ1 H' { s1 with heap := h5 } := J5.ofPnd
    obtain ⟨ob, hob, hobc⟩ := hfl5.there
    have hmk : (X.A.mark (some (.ref a))).frames = X.A.frames := rfl
    refine wpAny_handleBy_cons (codeAny_handlers_test (ld_glob (X := X.mrk a) (K5.toMrk a hmk) hg hm ?_ hd)) (by intro q; cases q)
    have LT : PySem.W.Looks (model X.prog X.w) h5 (typeOf (.ref a)) (.ref C) := hobc ▸ (PySem.W.Looks.ld hob).andThen .now
    refine (PySem.W.exm_one K5.kIn LT hq).at (codeAny_handlers_suite_as ?_)
    refine lands_againW hfl5 fun h6 hfl6 up6 => ?_
    have J6 := I1.flown F.os F.bare F.un F.hok hfr1 cov hfl6.1 (up5.trans up6)
    have K6 : Inv X pins σ1 H' { s1 with heap := h6 } := J6.ofPnd
    obtain ⟨ob6, hob6, hobc6⟩ := hfl6.there
    have T6 : Inv X pins σ1 (upd H' a (ExcO a (.ref C))) { s1 with heap := h6 } := by
      refine K6.track hHa (fun o e => ?_) (fun z => ?_) (fun y c e => ?_) (fun p hp => ?_) ⟨⟨ob6, hob6, hobc6⟩, ⟨ob6, hob6⟩, fun g1 g2 ⟨o, e1, e2⟩ k => ⟨o, k _ e1, e2⟩⟩
      · obtain ⟨o1, e1⟩ := I1.base.there a o e (by show a ∉ X.ex; rw [hex]; simp)
        exact new a ⟨o1, e1⟩ rfl
      · obtain ⟨m, ⟨o, _, _, e, _⟩, _⟩ := I1.loc
        exact new _ ⟨o, e⟩ z.symm
      · obtain ⟨v, o, e1, _⟩ := I1.cell y c e
        exact new c ⟨o, e1⟩
      · exact new _ ⟨p.2, (I1.pin p (List.mem_append_left _ hp)).1⟩
    refine store_ok (X := X.mrk a) (T6.toMrk a hmk) hN hi (.inl hk) (v := .ref a) (u := .ref a) rfl (fun s7 K7 => ?_) (.inr hk)
    refine wpAny_mono (hs a pins _ _ _ (D.gone i) K7 (hts a hHa)) (fun fl s2 q => ?_) fun _ _ z => z.elim
    have q' := SP.ofMrk K6.ok q
    cases fl with
    | next => obtain ⟨σ', H2, I2, q2⟩ := q'; exact gone_ok I2 hN hi hk fun s3 I3 => ⟨_, H2, I3, q2⟩
    | brk => obtain ⟨σ', H2, I2, q2⟩ := q'; exact gone_ok I2 hN hi hk fun s3 I3 => ⟨_, H2, I3, q2⟩
    | cont => obtain ⟨σ', H2, I2, q2⟩ := q'; exact gone_ok I2 hN hi hk fun s3 I3 => ⟨_, H2, I3, q2⟩
    | ret u => obtain ⟨v, σ', H2, I2, r2, q2⟩ := q'; exact gone_ok I2 hN hi hk fun s3 I3 => ⟨v, _, H2, I3, r2, q2⟩
end
end L2
namespace L2
open PySem PySem.Spec PyProof.Rows
section
variable {prog : Program} {w : World} {A : Around} {E : Value → Shared → Prop} {s : Shared}
end
section
variable {X : Cx} {e : Expr} {te : TE} {p pos p2 pos2 : Pos}
end
end L2
namespace L2
open PySem PySem.Spec PyProof.Rows
section
variable {X : Cx}
theorem foldl_txt (z : List Nat) : ∀ (k : Nat) (acc : List Nat), List.foldl (fun x1 x2 => x1 ++ x2) acc.toArray (List.replicate k (S z).cps) = (acc ++ (List.replicate k z).flatten).toArray
  | 0, acc => by simp
  | k + 1, acc => by
    have e : acc.toArray ++ (S z).cps = (acc ++ z).toArray := by simp [S]
    rw [List.replicate_succ, List.foldl_cons, e, foldl_txt z k (acc ++ z), List.replicate_succ]
    simp
theorem op_mul_txt : OpR X (binaryOp .Mult) (fun x y H Q => ∃ (z : List Nat) (n : Nat), x = .str (S z) ∧ y = .int (n : Int) ∧ z ≠ [] ∧ z.length ≤ 100 ∧ n ≤ 1000 ∧ Q (.str (S (List.replicate n z).flatten)) H) := by
  intro pins s σ H x y v u Q I rx ry h
  obtain ⟨z, n, rfl, rfl, hz, h1, h2, q⟩ := h
  obtain ⟨t, rfl⟩ := rx
  obtain ⟨t', rfl⟩ := ry
  have hl : (S z).length = z.length := S_len _
  have hzl := List.length_pos_iff.mpr hz
  have hmul : z.length * n ≤ 100 * 1000 := Nat.mul_le_mul h1 h2
  refine P.mul_str ?_ (fun _ _ => ?_) (fun _ _ => ?_) ?_
  · rw [decide_eq_false (by omega), decide_eq_false (by omega)]; rfl
  · rename_i hp _
    rw [hl]
    have hn1 : (1 : Int) ≤ (n : Int) := by omega
    have : (z.length : Int) ≤ (2 ^ 63 - 1) / (n : Int) := (Int.le_ediv_iff_mul_le (by omega)).mpr (by
      have : (z.length : Int) * (n : Int) = ((z.length * n : Nat) : Int) := by simp
      rw [this]; omega)
    omega
  · rw [hl]
    unfold Builtin.Str.tooLong
    simp only [decide_eq_false_iff_not]
    rw [sizeLine_eq]
    show ¬ z.length * ((n : Int)).toNat > _
    rw [Int.toNat_natCast]
    omega
  · by_cases h0 : n = 0
    · subst h0
      rw [if_pos (by decide)]
      exact ⟨by decide, .str (S []), H, I.tok _, ⟨_, rfl⟩, q⟩
    · rw [if_neg (by omega)]
      by_cases hn : n = 1
      · subst hn
        rw [if_pos (by simp)]
        refine ⟨.str (S z), H, I, ⟨_, rfl⟩, ?_⟩
        simpa using q
      · rw [if_neg (by rw [hl]; simp [hz]; omega)]
        have e := foldl_txt z n []
        rw [List.nil_append] at e
        refine ⟨?_, .str _, H, I.tok _, ⟨_, rfl⟩, ?_⟩
        · rw [Int.toNat_natCast, e]; show ((List.replicate n z).flatten).toArray.size ≤ _
          rw [List.size_toArray, len_rep, sizeLine_eq, Nat.mul_comm]; omega
        · rw [Int.toNat_natCast, e]; exact q
end
end L2
namespace L2
open PySem PySem.Spec PyProof.Rows PySem.W
abbrev rXB (K : Frag) : List V → Hp → VK → Prop := fun xs H Q => ∃ (a D : Addr) (v : V) (c : Value) (b : Bool), xs = [.ref a, v] ∧ H a = some (ExcO a (.ref D)) ∧ clsOf v = some c ∧ XcK K D ∧ kitOne K (.ref D) c = some b ∧ Q (.bl b) H
theorem call_isinstXB {X : Cx} : CallR X (.builtin "isinstance") (rXB X.K) := by
  intro pins s σ H xs us Q I r h
  obtain ⟨a, D, v, c, b, rfl, ha, hc, k, e, q⟩ := h
  cases b with
  | true => exact call_isinstX pins s σ H _ us Q I r ⟨a, _, v, c, rfl, ha, hc, e, q⟩
  | false => exact call_isinstN pins s σ H _ us Q I r ⟨a, D, v, c, rfl, ha, hc, k, e, q⟩
end L2
namespace K8
open PySem L2 K3 TM K9
structure Cs (K : PySem.W.Frag) (mg : Str → Option Value) (NT NW NU CT : Addr) : Prop where
  nt : mg "NoText" = some (.ref NT)
  nw : mg "NoWood" = some (.ref NW)
  nu : mg "NoTurning" = some (.ref NU)
  te : mg "TurnError" = some (.ref CT)
  ve : mg "ValueError" = none
  e1 : PySem.W.exmOne K (.ref NT) (.ref CT) = some true
  e2 : PySem.W.exmOne K (.ref NW) (.ref CT) = some true
  x1 : XcK K NT
  x2 : XcK K NW
  u1 : PySem.W.kitOne K (.ref NT) (.ref NU) = some false
  u2 : PySem.W.kitOne K (.ref NW) (.ref NU) = some false
  v1 : PySem.W.kitOne K (.ref NT) (.type "ValueError") = some true
  v2 : PySem.W.kitOne K (.ref NW) (.type "ValueError") = some true
  t1 : PySem.W.kitOne K (.ref NT) (.ref NT) = some true
  t2 : PySem.W.kitOne K (.ref NW) (.ref NT) = some false
  w1 : PySem.W.kitOne K (.ref NT) (.ref NW) = some false
  w2 : PySem.W.kitOne K (.ref NW) (.ref NW) = some true
def toldT (ws : List (List Nat)) (o : Str) : Prop := (o = Str.ofString "" ∧ ∃ W, readR ws = some W ∧ NumOkD W ∧ KindsOkD W) ∨ (o = Str.ofString "text" ∧ (readR ws = none ∨ ∃ W, readR ws = some W ∧ ¬ NumOkD W)) ∨ (o = Str.ofString "wood" ∧ ∃ W, readR ws = some W ∧ NumOkD W ∧ ¬ KindsOkD W)
def spTold (T1 T2 T3 : Addr) : Sp := fun vs H Q _ => ∃ (z : List Nat) (ws : List (List Nat)), vs = [.str (S z)] ∧ z.length ≤ 9000 ∧ Writ z ws ∧ ws.length ≤ 1000 ∧ Z3 T1 T2 T3 H ∧ ∀ (o : Str) (H' : Hp), toldT ws o → SXT [T1, T2, T3] H H' → Z3 T1 T2 T3 H' → Q (.str o) H'
section
variable {P : Program} {w : World} {K : PySem.W.Frag} {mg : Str → Option Value} {base : Heap} {f : Addr} {fd : FuncData} {T1 T2 T3 NT NW NU CT : Addr}
theorem scTold : FnScope ["_law_text_here", "_law_error", "e"] ["_law_text_here"] (defScope sTold) := ⟨rfl, rfl, rfl, by decide +kernel, rfl, by decide +kernel, by decide +kernel⟩
theorem ok_told (F : Fun K "_law_told" "_law_told" sTold f fd) (G : Gm mg) (L : Cs K mg NT NW NU CT) (RR : FnX P w K mg base 12 "read_wood" ["text"] (spReadWX K T1 T2 T3 NT NW)) : FnOk P w K mg base CX0 13 f fd ["_law_text_here"] (spTold T1 T2 T3) := by
  refine F.ok scTold (fun vs H Q E h => ?_) (fun cdv A outer s H vs Q E hr h => ?_)
  · obtain ⟨z, ws, rfl, _⟩ := h
    rfl
  obtain ⟨z, ws, rfl, hz, hw, h1k, hZ, q⟩ := h
  refine ⟨_, (pss_cons (ps_set (i := 1) scTold.nd rfl (Or.inl rfl) pe_non)
    (pss_cons (ps_cut (ps_tryAsM (i := 2) L.te rfl scTold.nd rfl rfl
      (fun pins EE => pss_one (ps_expr (pe_fnX (EE := EE) RR hr passT (pa_cons (pv 0) pa_nil))))
      (fun a => pss_one (ps_set (i := 1) scTold.nd rfl (Or.inl rfl) (pv 2)))))
    (pss_cons (ps_if (pt_cmpR op_isN (pv 1) pe_non (nomark _)) (pss_one (ps_ret pe_str)) pss_nil)
    (pss_cons (ps_if (PW.pt (pw_or (pt_val (pe_callB (r := rXB K) call_isinstXB rfl G.isi PyProof.Rows.boot_isinstance (pa_cons (pv 1) (pa_cons (pe_glob (v := .ref NU) rfl L.nu rfl) pa_nil)))) (pw_or1 (pt_not (pt_val (pe_callB (r := rXB K) call_isinstXB rfl G.isi PyProof.Rows.boot_isinstance (pa_cons (pv 1) (pa_cons (pe_bltn (v := .ty "ValueError") rfl L.ve (by decide +kernel) rfl) pa_nil)))))))) (pss_one (ps_ret pe_str)) pss_nil)
    (pss_one (ps_ret (pe_op op_add_str (pe_op op_mul_txt pe_str (pe_callTy call_int1 rfl G.int PyProof.Rows.boot_int (pa_cons (pe_callB (r := rXB K) call_isinstXB rfl G.isi PyProof.Rows.boot_isinstance (pa_cons (pv 1) (pa_cons (pe_glob (v := .ref NT) rfl L.nt rfl) pa_nil))) pa_nil))) (pe_op op_mul_txt pe_str (pe_callTy call_int1 rfl G.int PyProof.Rows.boot_int (pa_cons (pe_callB (r := rXB K) call_isinstXB rfl G.isi PyProof.Rows.boot_isinstance (pa_cons (pv 1) (pa_cons (pe_glob (v := .ref NW) rfl L.nw rfl) pa_nil))) pa_nil)))))))))), ?_⟩
  have zo := z3_ok T1 T2 T3
  refine ⟨fun σ' H' => SXT [T1, T2, T3] H H' ∧ Z3 T1 T2 T3 H' ∧ ((∃ W, readR ws = some W ∧ NumOkD W ∧ KindsOkD W ∧ σ' = [some (.str (S z)), some .non, none]) ∨ (∃ a : Addr, (readR ws = none ∨ ∃ W, readR ws = some W ∧ ¬ NumOkD W) ∧ H' a = some (ExcO a (.ref NT)) ∧ σ' = [some (.str (S z)), some (.ref a), none]) ∨ (∃ (a : Addr) (W : List KindD), readR ws = some W ∧ NumOkD W ∧ ¬ KindsOkD W ∧ H' a = some (ExcO a (.ref NW)) ∧ σ' = [some (.str (S z)), some (.ref a), none])), ?_, ?_⟩
  · refine ⟨fun σ' cls _ H' => σ' = [some (.str (S z)), some .non, none] ∧ SXT [T1, T2, T3] H H' ∧ Z3 T1 T2 T3 H' ∧ ((cls = .ref NT ∧ (readR ws = none ∨ ∃ W, readR ws = some W ∧ ¬ NumOkD W)) ∨ (cls = .ref NW ∧ ∃ W, readR ws = some W ∧ NumOkD W ∧ ¬ KindsOkD W)), ?_, ?_⟩
    · exact ⟨_, rfl, z, ws, rfl, hz, hw, h1k, hZ, fun W h1 h2 h3 lw H' x z' => ⟨x, z', .inl ⟨W, h1, h2, h3, rfl⟩⟩, fun h H' x z' => ⟨rfl, x, z', .inl ⟨rfl, h⟩⟩, fun W h1 h2 h3 H' x z' => ⟨rfl, x, z', .inr ⟨rfl, W, h1, h2, h3⟩⟩⟩
    · rintro σ' cls H' ⟨rfl, x, z', ⟨rfl, h⟩ | ⟨rfl, W, h1, h2, h3⟩⟩
      · refine ⟨NT, rfl, L.e1, fun a ha => ?_⟩
        have ga := same_new ha (ExcO a (.ref NT))
        exact ⟨_, rfl, x.trans (SXT.of ga), zo.sm _ _ ga z', .inr (.inl ⟨a, h, upd_same, rfl⟩)⟩
      · refine ⟨NW, rfl, L.e2, fun a ha => ?_⟩
        have ga := same_new ha (ExcO a (.ref NW))
        exact ⟨_, rfl, x.trans (SXT.of ga), zo.sm _ _ ga z', .inr (.inr ⟨a, W, h1, h2, h3, upd_same, rfl⟩)⟩
  have etx : Str.ofString "text" = S [116, 101, 120, 116] := by decide +kernel
  have ewd : Str.ofString "wood" = S [119, 111, 111, 100] := by decide +kernel
  have o1 : S (List.replicate 1 [116, 101, 120, 116]).flatten ++ S (List.replicate 0 [119, 111, 111, 100]).flatten = Str.ofString "text" := by decide +kernel
  have o2 : S (List.replicate 0 [116, 101, 120, 116]).flatten ++ S (List.replicate 1 [119, 111, 111, 100]).flatten = Str.ofString "wood" := by decide +kernel
  rintro σ' H1 ⟨x1, z1, ⟨W, h1, h2, h3, rfl⟩ | ⟨a, h, ha, rfl⟩ | ⟨a, W, h1, h2, h3, ha, rfl⟩⟩
  · exact ⟨_, rfl, rfl, _, rfl, iteP rfl (q _ _ (.inl ⟨rfl, W, h1, h2, h3⟩) x1 z1)⟩
  · refine ⟨_, rfl, rfl, _, rfl, iteN (fun z => by cases z) ?_⟩
    refine ⟨_, rfl, a, NT, .ref NU, .ref NU, false, rfl, ha, rfl, L.x1, L.u1, _, rfl, iteF ?_⟩
    refine ⟨_, rfl, a, NT, .ty "ValueError", .type "ValueError", true, rfl, ha, rfl, L.x1, L.v1, _, rfl, iteF ?_⟩
    refine ⟨_, rfl, a, NT, .ref NT, .ref NT, true, rfl, ha, rfl, L.x1, L.t1, .inr ⟨true, rfl, [116, 101, 120, 116], 1, (by rw [etx]), rfl, by simp, by decide, by decide, ?_⟩⟩
    refine ⟨_, rfl, a, NT, .ref NW, .ref NW, false, rfl, ha, rfl, L.x1, L.w1, .inr ⟨false, rfl, [119, 111, 111, 100], 0, (by rw [ewd]), rfl, by simp, by decide, by decide, ?_⟩⟩
    refine ⟨_, _, rfl, rfl, (by decide +kernel), ?_⟩
    rw [o1]
    exact q _ _ (.inr (.inl ⟨rfl, h⟩)) x1 z1
  · refine ⟨_, rfl, rfl, _, rfl, iteN (fun z => by cases z) ?_⟩
    refine ⟨_, rfl, a, NW, .ref NU, .ref NU, false, rfl, ha, rfl, L.x2, L.u2, _, rfl, iteF ?_⟩
    refine ⟨_, rfl, a, NW, .ty "ValueError", .type "ValueError", true, rfl, ha, rfl, L.x2, L.v2, _, rfl, iteF ?_⟩
    refine ⟨_, rfl, a, NW, .ref NT, .ref NT, false, rfl, ha, rfl, L.x2, L.t2, .inr ⟨false, rfl, [116, 101, 120, 116], 0, (by rw [etx]), rfl, by simp, by decide, by decide, ?_⟩⟩
    refine ⟨_, rfl, a, NW, .ref NW, .ref NW, true, rfl, ha, rfl, L.x2, L.w2, .inr ⟨true, rfl, [119, 111, 111, 100], 1, (by rw [ewd]), rfl, by simp, by decide, by decide, ?_⟩⟩
    refine ⟨_, _, rfl, rfl, (by decide +kernel), ?_⟩
    rw [o2]
    exact q _ _ (.inr (.inr ⟨rfl, W, h1, h2, h3⟩)) x1 z1
end
end K8
namespace K8
open PySem L2 K3 TM K9
def preL : List (List Nat) := [[], [98], [107, 120], [122, 122, 122, 122, 122, 122, 122]]
def wd (n k : Int) : List Nat := preL.getD (n / 26 % 4).toNat [] ++ [97 + ((n + k) % 26).toNat]
theorem let_ix : ∀ i, i < 26 → letL[i]? = some (97 + i) := by decide
theorem let_in : ∀ i, i < 26 → 97 + i ∈ letL := by decide
theorem pre_ok : ∀ u ∈ preL, u.length ≤ 7 ∧ ∀ c ∈ u, c ∈ letL := by decide
theorem wd_nm (n k : Int) : Nm (wd n k) := by
  have h4 : (n / 26 % 4).toNat < 4 := by
    have := Int.emod_lt_of_pos (n / 26) (show (0 : Int) < 4 by decide)
    have := Int.emod_nonneg (n / 26) (show (4 : Int) ≠ 0 by decide)
    omega
  have h26 : ((n + k) % 26).toNat < 26 := by
    have := Int.emod_lt_of_pos (n + k) (show (0 : Int) < 26 by decide)
    have := Int.emod_nonneg (n + k) (show (26 : Int) ≠ 0 by decide)
    omega
  have hp : preL.getD (n / 26 % 4).toNat [] ∈ preL := by
    rw [List.getD_eq_getElem?_getD, List.getElem?_eq_getElem (show (n / 26 % 4).toNat < preL.length from h4)]
    exact List.getElem_mem _
  obtain ⟨h1, h2⟩ := pre_ok _ hp
  unfold wd
  refine ⟨by simp, by rw [List.length_append, List.length_singleton]; omega, fun c hc => ?_⟩
  rcases List.mem_append.mp hc with hc | hc
  · exact h2 c hc
  · rw [List.mem_singleton.mp hc]; exact let_in _ h26
def spCell (K : PySem.W.Frag) : Sp := fun vs H Q _ => ∃ (a : Addr) (ns : List Int) (k : Nat), vs = [.ref a, .int k] ∧ SqL K H a (ns.map V.int) ∧ ∀ c : Int, Q (.int c) H
def spWord : Sp := fun vs H Q _ => ∃ n k : Int, vs = [.int n, .int k] ∧ ∀ H', Same H H' → Q (.str (S (wd n k))) H'
theorem p0 : Str.ofString "" = S [] := by decide +kernel
theorem p1 : Str.ofString "b" = S [98] := by decide +kernel
theorem p2 : Str.ofString "kx" = S [107, 120] := by decide +kernel
theorem p3 : Str.ofString "zzzzzzz" = S [122, 122, 122, 122, 122, 122, 122] := by decide +kernel
theorem four_at (n : Int) : atI [V.str (Str.ofString ""), V.str (Str.ofString "b"), V.str (Str.ofString "kx"), V.str (Str.ofString "zzzzzzz")] (n % 4) = some (.str (S (preL.getD (n % 4).toNat []))) := by
  have h0 : 0 ≤ n % 4 := Int.emod_nonneg _ (by decide)
  have h1 : n % 4 < 4 := Int.emod_lt_of_pos _ (by decide)
  rw [p0, p1, p2, p3]
  rcases (show n % 4 = 0 ∨ n % 4 = 1 ∨ n % 4 = 2 ∨ n % 4 = 3 by omega) with h | h | h | h <;> rw [h] <;> rfl
section
variable {P : Program} {w : World} {K : PySem.W.Frag} {mg : Str → Option Value} {base : Heap} {f : Addr} {fd : FuncData}
theorem scCell : FnScope ["_law_script", "_law_k"] ["_law_script", "_law_k"] (defScope sCell) := ⟨rfl, rfl, rfl, by decide +kernel, rfl, by decide +kernel, by decide +kernel⟩
theorem ok_cell (F : Fun K "_law_cell_at" "_law_cell_at" sCell f fd) (G : Gm mg) : FnOk P w K mg base CX0 1 f fd ["_law_script", "_law_k"] (spCell K) := by
  refine F.ok scCell (fun vs H Q E h => ?_) (fun cdv A outer s H vs Q E hr h => ?_)
  · obtain ⟨a, ns, k, rfl, _⟩ := h
    rfl
  obtain ⟨a, ns, k, rfl, hS, q⟩ := h
  refine ⟨_, pss_cons (ps_if (pt_cmpR op_lt (pv 1) (pe_callB call_len_seq rfl G.len PySem.boot_len (pa_cons (pv 0) pa_nil)) (nomark _)) (pss_one (ps_ret (pe_ix ix_list (pv 0) (pv 1) (fun _ _ => rfl)))) pss_nil)
    (pss_one (ps_ret pe_int)), ?_⟩
  refine ⟨_, rfl, _, rfl, a, _, rfl, .inl hS, _, _, rfl, rfl, _, rfl, ite2 (fun c => ?_) (fun c => ?_)⟩
  · have c' : (k : Int) < (((ns.map V.int).length : Nat) : Int) := of_decide_eq_true c
    rw [List.length_map] at c'
    have hk : k < ns.length := by omega
    exact ⟨_, rfl, _, rfl, a, _, k, .int ns[k], rfl, rfl, hS, atI_nat (by rw [List.getElem?_map, List.getElem?_eq_getElem hk]; rfl), q _⟩
  · exact q 0
theorem scWord : FnScope ["_law_number", "_law_k", "_law_letters", "_law_word_here"] ["_law_number", "_law_k"] (defScope sWord) := ⟨rfl, rfl, rfl, by decide +kernel, rfl, by decide +kernel, by decide +kernel⟩
theorem ok_word (F : Fun K "_law_word" "_law_word" sWord f fd) : FnOk P w K mg base CX0 1 f fd ["_law_number", "_law_k"] spWord := by
  refine F.ok scWord (fun vs H Q E h => ?_) (fun cdv A outer s H vs Q E hr h => ?_)
  · obtain ⟨n, k, rfl, _⟩ := h
    rfl
  obtain ⟨n, k, rfl, q⟩ := h
  refine ⟨_, (pss_cons (ps_set (i := 2) scWord.nd rfl (Or.inl rfl) pe_str)
    (pss_cons (ps_set (i := 3) scWord.nd rfl (Or.inl rfl) (pe_ix ix_str (pv 2) (pe_op op_mod (pe_op op_add (pv 0) (pv 1)) pe_int) (fun _ _ => rfl)))
    (pss_one (ps_ret (pe_op op_add_str (pe_ix ix_list (pe_lst (pa_cons (pe_str) (pa_cons (pe_str) (pa_cons (pe_str) (pa_cons (pe_str) pa_nil))))) (pe_op op_mod (pe_op op_fdiv (pv 0) pe_int) pe_int) (fun _ _ => rfl)) (pv 3)))))), ?_⟩
  have h26 : ((n + k) % 26).toNat < 26 := by
    have := Int.emod_lt_of_pos (n + k) (show (0 : Int) < 26 by decide)
    have := Int.emod_nonneg (n + k) (show (26 : Int) ≠ 0 by decide)
    omega
  have hat : atI LETS.cps.toList ((n + k) % 26) = some (97 + ((n + k) % 26).toNat) := by
    have e : (n + k) % 26 = (((n + k) % 26).toNat : Int) := (Int.toNat_of_nonneg (Int.emod_nonneg _ (by decide))).symm
    rw [let_cps]
    have := atI_nat (let_ix _ h26)
    rw [← e] at this
    exact this
  refine ⟨_, rfl, _, rfl, _, rfl, _, _, rfl, rfl, _, _, rfl, rfl, (by show (0 : Int) < 26; decide), LETS, _, _, rfl, rfl, (by rw [let_eq, S_len]; exact line_of (by decide)), hat, ?_⟩
  refine ⟨(by show 4 ≤ sizeLine; decide), fun l2 hl2 => ?_⟩
  have s2 := same_new hl2 (.lst [.str (Str.ofString ""), .str (Str.ofString "b"), .str (Str.ofString "kx"), .str (Str.ofString "zzzzzzz")])
  refine ⟨_, rfl, _, _, rfl, rfl, ⟨(by show (0 : Int) < 26; decide), (by show (26 : Int) < 1073741824; decide)⟩, _, _, rfl, rfl, (by show (0 : Int) < 4; decide), l2, _, _, _, rfl, rfl, SqL.of upd_same, four_at (n / 26), _, rfl, _, _, rfl, rfl, ?_, ?_⟩
  · have := (wd_nm n k).len
    unfold wd at this
    rw [List.length_append] at this
    rw [S_len]
    exact line_of (by show _ + 1 ≤ 9000; have e : ([97 + ((n + k) % 26).toNat] : List Nat).length = 1 := rfl; omega)
  · rw [one_S, S_app]
    exact q _ s2
end
end K8
namespace K8
open PySem L2 K3 TM K9
theorem ah_cons {ws : List (List Nat)} {m : Nat} {u : List Nat} {r : List (List Nat)} (h : ws.drop m = u :: r) : ah ws m = u ∧ ws.drop (m + 1) = r := by
  have h1 : ws[m]? = some u := by
    have : (ws.drop m)[0]? = some u := by rw [h]; rfl
    simpa [List.getElem?_drop] using this
  refine ⟨by unfold ah; rw [h1]; rfl, ?_⟩
  rw [← List.tail_drop, h]; rfl
theorem ah_rest {ws : List (List Nat)} {m : Nat} {r : List (List Nat)} {s : List Nat} (h : ws.drop m = r) (hs : s ≠ []) (hr : r[0]? ≠ some s) : ah ws m ≠ s := by
  cases r with
  | nil =>
    have : ws.length ≤ m := List.drop_eq_nil_iff.mp h
    unfold ah
    rw [List.getElem?_eq_none this]
    exact fun z => hs z.symm
  | cons u r =>
    rw [(ah_cons h).1]
    exact fun z => hr (by rw [z]; rfl)
theorem let_40 : ∀ c ∈ letL, c ≠ 40 ∧ c ≠ 41 := by decide
theorem nm_beg {w : List Nat} (h : Nm w) : beg w letL = true ∧ w ≠ [40] ∧ w ≠ [41] := by
  cases w with
  | nil => exact absurd rfl h.ne
  | cons c r =>
    have hc := h.all c List.mem_cons_self
    refine ⟨decide_eq_true hc, fun z => ?_, fun z => ?_⟩
    · injection z with z1 z2; exact (let_40 c hc).1 z1
    · injection z with z1 z2; exact (let_40 c hc).2 z1
theorem loop_tok {ws : List (List Nat)} {rest : List (List Nat)} : ∀ (bs : List (List Nat)) (f m : Nat), (∀ b ∈ bs, Nm b) → bs.length < f → ws.drop m = bs ++ [41] :: rest → loopP ws (nmP ws) f m = some (bs, m + bs.length + 1)
  | [], f + 1, m, _, _, h => by
    rw [loopP, if_pos (ah_cons h).1]; rfl
  | b :: bs, f + 1, m, hb, hf, h => by
    obtain ⟨h1, h2⟩ := ah_cons h
    obtain ⟨b1, _, b3⟩ := nm_beg (hb b List.mem_cons_self)
    have ih := loop_tok bs f (m + 1) (fun x hx => hb x (List.mem_cons_of_mem _ hx)) (by simpa using hf) h2
    have e : nmP ws m = some (b, m + 1) := by rw [nmP, h1, if_pos b1]
    rw [loopP, if_neg (by rw [h1]; exact b3), e]
    simp only [ih, Option.map_some, List.length_cons]
    congr 2
    omega
def brT (bs : List (List Nat)) : List (List Nat) := if bs = [] then [] else [40] :: (bs ++ [[41]])
def rowT (r : RowD) : List (List Nat) := r.1 :: brT r.2
theorem inb_tok {ws : List (List Nat)} {rest bs : List (List Nat)} {m : Nat} (hb : ∀ b ∈ bs, Nm b) (hr : bs = [] → rest[0]? ≠ some [40]) (h : ws.drop m = brT bs ++ rest) (hl : bs.length ≤ ws.length) : inbP ws (nmP ws) m = some (bs, m + (brT bs).length) := by
  cases bs with
  | nil =>
    rw [inbP, if_neg (ah_rest (s := [40]) h (by decide) (hr rfl))]
    rfl
  | cons b bs =>
    have e0 : brT (b :: bs) = [40] :: ((b :: bs) ++ [[41]]) := by unfold brT; rw [if_neg (by simp)]
    rw [e0] at h ⊢
    have h' : ws.drop m = [40] :: (b :: (bs ++ [41] :: rest)) := by rw [h]; simp
    obtain ⟨h1, h2⟩ := ah_cons h'
    obtain ⟨h3, h4⟩ := ah_cons h2
    have e : nmP ws (m + 1) = some (b, m + 2) := by rw [nmP, h3, if_pos (nm_beg (hb b List.mem_cons_self)).1]
    have hlp := loop_tok bs (ws.length + 1) (m + 2) (fun x hx => hb x (List.mem_cons_of_mem _ hx)) (by rw [List.length_cons] at hl; omega) h4
    rw [inbP, if_pos h1, e]
    simp only [hlp, Option.map_some]
    congr 2
    simp
    omega
theorem row_tok {ws : List (List Nat)} {rest : List (List Nat)} {r : RowD} {m : Nat} (hn : NmR r) (hr : r.2 = [] → rest[0]? ≠ some [40]) (h : ws.drop m = rowT r ++ rest) (hl : r.2.length ≤ ws.length) : rowP ws m = some (r, m + (rowT r).length) := by
  have h' : ws.drop m = r.1 :: (brT r.2 ++ rest) := h
  obtain ⟨h1, h2⟩ := ah_cons h'
  have hi := inb_tok hn.2 hr h2 hl
  rw [rowP, h1, if_pos (nm_beg hn.1).1, hi]
  show some ((r.1, r.2), m + 1 + (brT r.2).length) = _
  congr 2
  show m + 1 + (brT r.2).length = m + ((brT r.2).length + 1)
  omega
end K8
namespace K8
open PySem L2 K3 TM K9
section
variable {α : Type} {ws : List (List Nat)} {sg : List Nat} {p : Nat → Option (α × Nat)} {tk : α → List (List Nat)} {ok : α → Prop} {Fo : List (List Nat) → Prop}
def tlT (sg : List Nat) (tk : α → List (List Nat)) (xs : List α) : List (List Nat) := xs.flatMap fun x => sg :: tk x
def ptT (sg : List Nat) (tk : α → List (List Nat)) : List α → List (List Nat)
  | [] => []
  | x :: r => tk x ++ tlT sg tk r
theorem tl_fo {rest : List (List Nat)} (hsg : ∀ q, Fo (sg :: q)) (hr : Fo rest) (xs : List α) : Fo (tlT sg tk xs ++ rest) := by
  cases xs with
  | nil => exact hr
  | cons x r => exact hsg _
theorem parL_tok {rest : List (List Nat)} (hp : ∀ m x rest, ok x → Fo rest → ws.drop m = tk x ++ rest → p m = some (x, m + (tk x).length)) (hsg : ∀ q, Fo (sg :: q)) (h0 : sg ≠ []) (hr : Fo rest) (hne : rest[0]? ≠ some sg) :
    ∀ (xs : List α) (f m : Nat), (∀ x ∈ xs, ok x) → xs.length < f → ws.drop m = tlT sg tk xs ++ rest → parL ws sg p f m = some (xs, m + (tlT sg tk xs).length)
  | [], f + 1, m, _, _, h => by
    rw [parL, if_neg (ah_rest (s := sg) h h0 hne)]; rfl
  | x :: xs, f + 1, m, hok, hf, h => by
    have h' : ws.drop m = sg :: (tk x ++ (tlT sg tk xs ++ rest)) := by rw [h]; simp [tlT, List.flatMap_cons]
    obtain ⟨h1, h2⟩ := ah_cons h'
    have e := hp (m + 1) x _ (hok x List.mem_cons_self) (tl_fo hsg hr xs) h2
    have h3 : ws.drop (m + 1 + (tk x).length) = tlT sg tk xs ++ rest := by rw [← List.drop_drop, h2, List.drop_left]
    have ih := parL_tok hp hsg h0 hr hne xs f (m + 1 + (tk x).length) (fun y hy => hok y (List.mem_cons_of_mem _ hy)) (by simpa using hf) h3
    rw [parL, if_pos h1, e]
    simp only [ih, Option.map_some]
    congr 2
    simp [tlT, List.flatMap_cons]
    omega
theorem par_tok {rest : List (List Nat)} (hp : ∀ m x rest, ok x → Fo rest → ws.drop m = tk x ++ rest → p m = some (x, m + (tk x).length)) (hsg : ∀ q, Fo (sg :: q)) (h0 : sg ≠ []) (hr : Fo rest) (hne : rest[0]? ≠ some sg)
    {xs : List α} {m : Nat} (hx : xs ≠ []) (hok : ∀ x ∈ xs, ok x) (hl : xs.length ≤ ws.length) (h : ws.drop m = ptT sg tk xs ++ rest) : parP ws sg p m = some (xs, m + (ptT sg tk xs).length) := by
  cases xs with
  | nil => exact absurd rfl hx
  | cons x r =>
    have h' : ws.drop m = tk x ++ (tlT sg tk r ++ rest) := by rw [h]; simp [ptT]
    have e := hp m x _ (hok x List.mem_cons_self) (tl_fo hsg hr r) h'
    have h3 : ws.drop (m + (tk x).length) = tlT sg tk r ++ rest := by rw [← List.drop_drop, h', List.drop_left]
    have ih := parL_tok hp hsg h0 hr hne r (ws.length + 1) (m + (tk x).length) (fun y hy => hok y (List.mem_cons_of_mem _ hy)) (by rw [List.length_cons] at hl; omega) h3
    rw [parP, e]
    simp only [ih, Option.map_some]
    congr 2
    simp [ptT]
    omega
end
def kindT (k : KindD) : List (List Nat) := k.1 :: [61] :: ptT [124] rowT k.2
def woodT (W : List KindD) : List (List Nat) := ptT [59] kindT W
theorem kind_tok {ws : List (List Nat)} {rest : List (List Nat)} {k : KindD} {m : Nat} (hn : NmK k) (h1 : rest[0]? ≠ some [40]) (h2 : rest[0]? ≠ some [124]) (hl : k.2.length ≤ ws.length) (hb : ∀ r ∈ k.2, r.2.length ≤ ws.length) (h : ws.drop m = kindT k ++ rest) : kindP ws m = some (k, m + (kindT k).length) := by
  have h' : ws.drop m = k.1 :: ([61] :: (ptT [124] rowT k.2 ++ rest)) := h
  obtain ⟨a1, a2⟩ := ah_cons h'
  obtain ⟨a3, a4⟩ := ah_cons a2
  have hp := par_tok (ws := ws) (sg := [124]) (p := rowP ws) (tk := rowT) (ok := fun r : RowD => NmR r ∧ r.2.length ≤ ws.length) (Fo := fun q : List (List Nat) => q[0]? ≠ some [40]) (rest := rest)
    (fun m r rest hr hf e => row_tok hr.1 (fun _ => hf) e hr.2) (fun q z => by cases z) (by decide) h1 h2 (m := m + 2) hn.2.1 (fun r hr => ⟨hn.2.2 r hr, hb r hr⟩) hl a4
  rw [kindP, a1, if_pos (nm_beg hn.1).1, if_pos a3, hp]
  show some ((k.1, k.2), m + 2 + (ptT [124] rowT k.2).length) = _
  congr 2
  show m + 2 + (ptT [124] rowT k.2).length = m + ((ptT [124] rowT k.2).length + 1 + 1)
  omega
theorem read_tok {W : List KindD} (h0 : W ≠ []) (hn : ∀ k ∈ W, NmK k) (hl : W.length ≤ (woodT W).length) (hk : ∀ k ∈ W, k.2.length ≤ (woodT W).length ∧ ∀ r ∈ k.2, r.2.length ≤ (woodT W).length) : readR (woodT W) = some W := by
  have hp := par_tok (ws := woodT W) (sg := [59]) (p := kindP (woodT W)) (tk := kindT) (ok := fun k : KindD => NmK k ∧ k.2.length ≤ (woodT W).length ∧ ∀ r ∈ k.2, r.2.length ≤ (woodT W).length) (Fo := fun q : List (List Nat) => q[0]? ≠ some [40] ∧ q[0]? ≠ some [124]) (rest := [])
    (fun m k rest hk hf e => kind_tok hk.1 hf.1 hf.2 hk.2.1 hk.2.2 e) (fun q => ⟨fun z => (by cases z), fun z => (by cases z)⟩) (by decide) ⟨fun z => (by cases z), fun z => (by cases z)⟩ (fun z => by cases z) (m := 0) h0 (fun k hk' => ⟨hn k hk', hk k hk'⟩) hl (by rw [List.append_nil]; rfl)
  rw [readR, hp]
  exact if_pos (by show 0 + _ = _; rw [Nat.zero_add]; rfl)
end K8
namespace K8
open PySem L2 K3 TM K9
section
variable {α : Type} {sg : List Nat} {tk : α → List (List Nat)}
theorem tl_len : ∀ xs : List α, xs.length ≤ (tlT sg tk xs).length
  | [] => Nat.le_refl _
  | x :: r => by
    have := tl_len r
    have e : (tlT sg tk (x :: r)).length = (tk x).length + 1 + (tlT sg tk r).length := by simp [tlT, List.flatMap_cons]; omega
    rw [e, List.length_cons]; omega
theorem tl_mem : ∀ (xs : List α) (x : α), x ∈ xs → (tk x).length ≤ (tlT sg tk xs).length
  | y :: r, x, h => by
    have e : (tlT sg tk (y :: r)).length = (tk y).length + 1 + (tlT sg tk r).length := by simp [tlT, List.flatMap_cons]; omega
    rw [e]
    rcases List.mem_cons.mp h with rfl | h
    · omega
    · have := tl_mem r x h; omega
theorem pt_len (xs : List α) (h : ∀ x ∈ xs, 1 ≤ (tk x).length) : xs.length ≤ (ptT sg tk xs).length := by
  cases xs with
  | nil => exact Nat.le_refl _
  | cons x r =>
    have h1 := h x List.mem_cons_self
    have h2 := tl_len (sg := sg) (tk := tk) r
    show _ ≤ (tk x ++ tlT sg tk r).length
    rw [List.length_append, List.length_cons]; omega
theorem pt_mem (xs : List α) (x : α) (h : x ∈ xs) : (tk x).length ≤ (ptT sg tk xs).length := by
  cases xs with
  | nil => cases h
  | cons y r =>
    show _ ≤ (tk y ++ tlT sg tk r).length
    rw [List.length_append]
    rcases List.mem_cons.mp h with rfl | h
    · omega
    · have := tl_mem (sg := sg) (tk := tk) r x h; omega
end
theorem br_len (bs : List (List Nat)) : bs.length ≤ (brT bs).length := by
  unfold brT
  split
  · rename_i h; rw [h]; exact Nat.le_refl _
  · simp; omega
theorem row_len (r : RowD) : 1 ≤ (rowT r).length ∧ r.2.length ≤ (rowT r).length := by
  have := br_len r.2
  have e : (rowT r).length = (brT r.2).length + 1 := rfl
  exact ⟨by omega, by omega⟩
theorem kind_len (k : KindD) : 1 ≤ (kindT k).length ∧ k.2.length ≤ (kindT k).length ∧ ∀ r ∈ k.2, r.2.length ≤ (kindT k).length := by
  have e : (kindT k).length = (ptT [124] rowT k.2).length + 1 + 1 := rfl
  have h1 := pt_len (sg := [124]) (tk := rowT) k.2 fun r _ => (row_len r).1
  refine ⟨by omega, by omega, fun r hr => ?_⟩
  have h2 := pt_mem (sg := [124]) (tk := rowT) k.2 r hr
  have h3 := (row_len r).2
  omega
theorem read_woodT {W : List KindD} (h0 : W ≠ []) (hn : ∀ k ∈ W, NmK k) : readR (woodT W) = some W :=
  read_tok h0 hn (pt_len W fun k _ => (kind_len k).1) fun k hk => by
    have h1 := pt_mem (sg := [59]) (tk := kindT) W k hk
    obtain ⟨_, h2, h3⟩ := kind_len k
    exact ⟨Nat.le_trans h2 h1, fun r hr => Nat.le_trans (h3 r hr) h1⟩
end K8
namespace K8
open PySem L2 K3 TM K9
theorem wd_last {n j k : Int} (h : wd n j = wd n k) : (n + j) % 26 = (n + k) % 26 := by
  unfold wd at h
  have h1 := List.append_cancel_left h
  have h2 : 97 + ((n + j) % 26).toNat = 97 + ((n + k) % 26).toNat := by injection h1
  have a := Int.emod_nonneg (n + j) (show (26 : Int) ≠ 0 by decide)
  have b := Int.emod_nonneg (n + k) (show (26 : Int) ≠ 0 by decide)
  omega
theorem wd_inj {n j k : Int} (hj : 0 ≤ j ∧ j < 26) (hk : 0 ≤ k ∧ k < 26) (h : wd n j = wd n k) : j = k := by
  have := wd_last h
  omega
theorem wd_nd (n : Int) (l : List Int) (h : ∀ k ∈ l, 0 ≤ k ∧ k < 26) (hd : l.Nodup) : (l.map (wd n)).Nodup := by
  unfold List.Nodup at *
  rw [List.pairwise_map]
  induction l with
  | nil => exact .nil
  | cons a r ih =>
    obtain ⟨h1, h2⟩ := List.pairwise_cons.mp hd
    refine List.pairwise_cons.mpr ⟨fun b hb e => h1 b hb (wd_inj (h a List.mem_cons_self) (h b (List.mem_cons_of_mem _ hb)) e), ih (fun k hk => h k (List.mem_cons_of_mem _ hk)) h2⟩
end K8
namespace K8
open PySem L2 K3 TM K9
inductive Ac : Nat → List (List Nat) → Prop where
  | e3 : Ac 3 []
  | e6 : Ac 6 []
  | k {w : List Nat} {r : List (List Nat)} : beg w letL = true → Ac 1 r → Ac 0 (w :: r)
  | eq {r : List (List Nat)} : Ac 2 r → Ac 1 ([61] :: r)
  | n {w : List Nat} {r : List (List Nat)} : beg w letL = true → Ac 3 r → Ac 2 (w :: r)
  | op {r : List (List Nat)} : Ac 4 r → Ac 3 ([40] :: r)
  | b3 {r : List (List Nat)} : Ac 2 r → Ac 3 ([124] :: r)
  | b6 {r : List (List Nat)} : Ac 2 r → Ac 6 ([124] :: r)
  | s3 {r : List (List Nat)} : Ac 0 r → Ac 3 ([59] :: r)
  | s6 {r : List (List Nat)} : Ac 0 r → Ac 6 ([59] :: r)
  | f {w : List Nat} {r : List (List Nat)} : beg w letL = true → Ac 5 r → Ac 4 (w :: r)
  | m {w : List Nat} {r : List (List Nat)} : beg w letL = true → Ac 5 r → Ac 5 (w :: r)
  | cl {r : List (List Nat)} : Ac 6 r → Ac 5 ([41] :: r)
theorem Ac.up {r : List (List Nat)} (h : Ac 6 r) : Ac 3 r := by
  cases h with
  | e6 => exact .e3
  | b6 h => exact .b3 h
  | s6 h => exact .s3 h
theorem ah_dr {ws : List (List Nat)} {m : Nat} {w : List Nat} (h : ah ws m = w) (hw : w ≠ []) : ws.drop m = w :: ws.drop (m + 1) := by
  unfold ah at h
  rcases Nat.lt_or_ge m ws.length with q | q
  · rw [List.getElem?_eq_getElem q] at h
    rw [List.drop_eq_getElem_cons q]
    have : ws[m] = w := h
    rw [this]
  · rw [List.getElem?_eq_none q] at h
    exact absurd h.symm hw
theorem begNe {w : List Nat} (h : beg w letL = true) : w ≠ [] := fun z => by rw [z] at h; cases h
theorem nm_ac {ws : List (List Nat)} {m m' : Nat} {b : List Nat} (h : nmP ws m = some (b, m')) : ∃ w r, ws.drop m = w :: r ∧ beg w letL = true ∧ r = ws.drop m' := by
  unfold nmP at h
  split at h
  · rename_i hb
    cases h
    exact ⟨_, _, ah_dr rfl (begNe hb), hb, rfl⟩
  · cases h
theorem loop_ac {ws : List (List Nat)} : ∀ (f m : Nat) (bs : List (List Nat)) (m' : Nat), loopP ws (nmP ws) f m = some (bs, m') → Ac 6 (ws.drop m') → Ac 5 (ws.drop m)
  | 0, m, bs, m', h, _ => by cases h
  | f + 1, m, bs, m', h, a => by
    unfold loopP at h
    split at h
    · rename_i hc
      cases h
      rw [ah_dr hc (by decide)]
      exact .cl a
    · cases q : nmP ws m with
      | none => rw [q] at h; cases h
      | some y =>
        obtain ⟨x0, m0⟩ := y
        rw [q] at h
        simp only [Option.map_eq_some_iff] at h
        obtain ⟨⟨xs, m2⟩, h1, h2⟩ := h
        cases h2
        have ih := loop_ac f m0 xs m2 h1 a
        obtain ⟨w, r, e, hb, rfl⟩ := nm_ac q
        rw [e]
        exact .m hb ih
theorem inb_ac {ws : List (List Nat)} {m m' : Nat} {bs : List (List Nat)} (h : inbP ws (nmP ws) m = some (bs, m')) (a : Ac 6 (ws.drop m')) : Ac 3 (ws.drop m) := by
  unfold inbP at h
  split at h
  · rename_i hc
    cases q : nmP ws (m + 1) with
    | none => rw [q] at h; cases h
    | some y =>
      obtain ⟨x0, m0⟩ := y
      rw [q] at h
      simp only [Option.map_eq_some_iff] at h
      obtain ⟨⟨xs, m2⟩, h1, h2⟩ := h
      cases h2
      have ih := loop_ac _ m0 xs m2 h1 a
      obtain ⟨w, r, e, hb, rfl⟩ := nm_ac q
      rw [ah_dr hc (by decide), e]
      exact .op (.f hb ih)
  · cases h
    exact a.up
theorem row_ac {ws : List (List Nat)} {m m' : Nat} {x : RowD} (h : rowP ws m = some (x, m')) (a : Ac 6 (ws.drop m')) : Ac 2 (ws.drop m) := by
  unfold rowP at h
  split at h
  · rename_i hb
    simp only [Option.map_eq_some_iff] at h
    obtain ⟨⟨xs, m2⟩, h1, h2⟩ := h
    cases h2
    rw [ah_dr rfl (begNe hb)]
    exact .n hb (inb_ac h1 a)
  · cases h
theorem parL_ac {α : Type} {ws : List (List Nat)} {sg : List Nat} {p : Nat → Option (α × Nat)} {s : Nat} (h0 : sg ≠ []) (hp : ∀ m x m', p m = some (x, m') → Ac 6 (ws.drop m') → Ac s (ws.drop m)) (hs : ∀ r, Ac s r → Ac 6 (sg :: r)) :
    ∀ (f m : Nat) (xs : List α) (m' : Nat), parL ws sg p f m = some (xs, m') → Ac 6 (ws.drop m') → Ac 6 (ws.drop m)
  | 0, m, xs, m', h, _ => by cases h
  | f + 1, m, xs, m', h, a => by
    unfold parL at h
    split at h
    · rename_i hc
      cases q : p (m + 1) with
      | none => rw [q] at h; cases h
      | some y =>
        obtain ⟨x0, m0⟩ := y
        rw [q] at h
        simp only [Option.map_eq_some_iff] at h
        obtain ⟨⟨ys, m2⟩, h1, h2⟩ := h
        cases h2
        rw [ah_dr hc h0]
        exact hs _ (hp _ _ _ q (parL_ac h0 hp hs f m0 ys m2 h1 a))
    · cases h
      exact a
theorem par_ac {α : Type} {ws : List (List Nat)} {sg : List Nat} {p : Nat → Option (α × Nat)} {s : Nat} (h0 : sg ≠ []) (hp : ∀ m x m', p m = some (x, m') → Ac 6 (ws.drop m') → Ac s (ws.drop m)) (hs : ∀ r, Ac s r → Ac 6 (sg :: r))
    {m m' : Nat} {xs : List α} (h : parP ws sg p m = some (xs, m')) (a : Ac 6 (ws.drop m')) : Ac s (ws.drop m) := by
  unfold parP at h
  cases q : p m with
  | none => rw [q] at h; cases h
  | some y =>
    obtain ⟨x0, m0⟩ := y
    rw [q] at h
    simp only [Option.map_eq_some_iff] at h
    obtain ⟨⟨ys, m2⟩, h1, h2⟩ := h
    cases h2
    exact hp _ _ _ q (parL_ac h0 hp hs _ m0 ys m2 h1 a)
theorem kind_ac {ws : List (List Nat)} {m m' : Nat} {x : KindD} (h : kindP ws m = some (x, m')) (a : Ac 6 (ws.drop m')) : Ac 0 (ws.drop m) := by
  unfold kindP at h
  split at h
  · rename_i hb
    split at h
    · rename_i hc
      simp only [Option.map_eq_some_iff] at h
      obtain ⟨⟨xs, m2⟩, h1, h2⟩ := h
      cases h2
      rw [ah_dr rfl (begNe hb), ah_dr hc (by decide)]
      exact .k hb (.eq (par_ac (by decide) (fun m x m' => row_ac) (fun r => .b6) h1 a))
    · cases h
  · cases h
theorem read_ac {ws : List (List Nat)} {W : List KindD} (h : readR ws = some W) : Ac 0 ws := by
  unfold readR at h
  split at h
  · rename_i W' m hp
    split at h
    · rename_i hm
      have := par_ac (s := 0) (by decide) (fun m x m' => kind_ac) (fun r => .s6) hp (by rw [hm, List.drop_length]; exact .e6)
      exact this
    · cases h
  · cases h
theorem no_read {ws : List (List Nat)} (h : ¬ Ac 0 ws) : readR ws = none := by
  cases e : readR ws with
  | none => rfl
  | some W => exact absurd (read_ac e) h
theorem ac_nms {rest : List (List Nat)} : ∀ bs : List (List Nat), (∀ b ∈ bs, Nm b) → Ac 5 (bs ++ [41] :: rest) → Ac 6 rest
  | [], _, h => by
    cases h with
    | m hb _ => cases hb
    | cl h => exact h
  | b :: bs, hn, h => by
    have h' : Ac 5 (b :: (bs ++ [41] :: rest)) := h
    cases h' with
    | m hb h => exact ac_nms bs (fun x hx => hn x (List.mem_cons_of_mem _ hx)) h
    | cl h => exact absurd rfl (nm_beg (hn [41] List.mem_cons_self)).2.2
theorem ac_row {r : RowD} {rest : List (List Nat)} (hn : NmR r) (h : Ac 2 (rowT r ++ rest)) : Ac 3 rest := by
  have h' : Ac 2 (r.1 :: (brT r.2 ++ rest)) := h
  cases h' with
  | n hb h =>
    cases e : r.2 with
    | nil => rw [e] at h; exact h
    | cons b bs =>
      rw [e] at h
      have e0 : brT (b :: bs) = [40] :: ((b :: bs) ++ [[41]]) := by unfold brT; rw [if_neg (by simp)]
      rw [e0] at h
      have h2 : Ac 3 ([40] :: (b :: (bs ++ [41] :: rest))) := by
        have : [40] :: (b :: bs ++ [[41]]) ++ rest = [40] :: (b :: (bs ++ [41] :: rest)) := by simp
        rw [← this]; exact h
      have hn2 := hn.2
      rw [e] at hn2
      cases h2 with
      | op h3 =>
        cases h3 with
        | f hb h4 => exact (ac_nms bs (fun x hx => hn2 x (List.mem_cons_of_mem _ hx)) h4).up
theorem ac_rows {rest : List (List Nat)} : ∀ rs : List RowD, (∀ r ∈ rs, NmR r) → Ac 3 (tlT [124] rowT rs ++ rest) → Ac 3 rest
  | [], _, h => h
  | r :: rs, hn, h => by
    have h' : Ac 3 ([124] :: (rowT r ++ (tlT [124] rowT rs ++ rest))) := by
      have e : tlT [124] rowT (r :: rs) ++ rest = [124] :: (rowT r ++ (tlT [124] rowT rs ++ rest)) := by simp [tlT, List.flatMap_cons]
      rw [← e]; exact h
    cases h' with
    | b3 h => exact ac_rows rs (fun x hx => hn x (List.mem_cons_of_mem _ hx)) (ac_row (hn r List.mem_cons_self) h)
theorem ac_pt {rest : List (List Nat)} {rs : List RowD} (h0 : rs ≠ []) (hn : ∀ r ∈ rs, NmR r) (h : Ac 2 (ptT [124] rowT rs ++ rest)) : Ac 3 rest := by
  cases rs with
  | nil => exact absurd rfl h0
  | cons r rs =>
    have h' : Ac 2 (rowT r ++ (tlT [124] rowT rs ++ rest)) := by
      have e : ptT [124] rowT (r :: rs) ++ rest = rowT r ++ (tlT [124] rowT rs ++ rest) := by simp [ptT]
      rw [← e]; exact h
    exact ac_rows rs (fun x hx => hn x (List.mem_cons_of_mem _ hx)) (ac_row (hn r List.mem_cons_self) h')
theorem ac_eq {w : List Nat} {r : List (List Nat)} (h : Ac 0 (w :: [61] :: r)) : Ac 2 r := by
  cases h with
  | k _ h => cases h with
    | eq h => exact h
theorem ac_kind {k : KindD} {rest : List (List Nat)} (hn : NmK k) (h : Ac 0 (kindT k ++ rest)) : Ac 3 rest :=
  ac_pt hn.2.1 hn.2.2 (ac_eq (w := k.1) (r := ptT [124] rowT k.2 ++ rest) h)
theorem ac_kinds {rest : List (List Nat)} : ∀ W : List KindD, (∀ k ∈ W, NmK k) → Ac 3 (tlT [59] kindT W ++ rest) → Ac 3 rest
  | [], _, h => h
  | k :: W, hn, h => by
    have h' : Ac 3 ([59] :: (kindT k ++ (tlT [59] kindT W ++ rest))) := by
      have e : tlT [59] kindT (k :: W) ++ rest = [59] :: (kindT k ++ (tlT [59] kindT W ++ rest)) := by simp [tlT, List.flatMap_cons]
      rw [← e]; exact h
    cases h' with
    | s3 h => exact ac_kinds W (fun x hx => hn x (List.mem_cons_of_mem _ hx)) (ac_kind (hn k List.mem_cons_self) h)
theorem ac_wood {rest : List (List Nat)} {W : List KindD} (h0 : W ≠ []) (hn : ∀ k ∈ W, NmK k) (h : Ac 0 (woodT W ++ rest)) : Ac 3 rest := by
  cases W with
  | nil => exact absurd rfl h0
  | cons k W =>
    have h' : Ac 0 (kindT k ++ (tlT [59] kindT W ++ rest)) := by
      have e : woodT (k :: W) ++ rest = kindT k ++ (tlT [59] kindT W ++ rest) := by simp [woodT, ptT]
      rw [← e]; exact h
    exact ac_kinds W (fun x hx => hn x (List.mem_cons_of_mem _ hx)) (ac_kind (hn k List.mem_cons_self) h')
theorem ac_pre {q : List (List Nat)} : ∀ W : List KindD, (∀ k ∈ W, NmK k) → Ac 0 ((W.flatMap fun k => kindT k ++ [[59]]) ++ q) → Ac 0 q
  | [], _, h => h
  | k :: W, hn, h => by
    have h' : Ac 0 (kindT k ++ ([59] :: ((W.flatMap fun k => kindT k ++ [[59]]) ++ q))) := by
      have e : ((k :: W).flatMap fun k => kindT k ++ [[59]]) ++ q = kindT k ++ ([59] :: ((W.flatMap fun k => kindT k ++ [[59]]) ++ q)) := by simp [List.flatMap_cons]
      rw [← e]; exact h
    have h2 := ac_kind (hn k List.mem_cons_self) h'
    cases h2 with
    | s3 h => exact ac_pre W (fun x hx => hn x (List.mem_cons_of_mem _ hx)) h
def isE (s : Nat) : Nat := if s ≤ 1 then 0 else 1
theorem cnt_nm {w : List Nat} (h : beg w letL = true) : w ≠ [61] ∧ w ≠ [59] := ⟨fun z => (by rw [z] at h; cases h), fun z => (by rw [z] at h; cases h)⟩
theorem Ac.cnt {s : Nat} {ws : List (List Nat)} (h : Ac s ws) : ws.count [61] + isE s = ws.count [59] + 1 := by
  induction h with
  | e3 => rfl
  | e6 => rfl
  | k hb _ ih => rw [List.count_cons_of_ne (cnt_nm hb).1, List.count_cons_of_ne (cnt_nm hb).2]; exact ih
  | eq _ ih => rw [List.count_cons_self, List.count_cons_of_ne (by decide)]; simp only [isE] at ih ⊢; simp at ih ⊢; omega
  | n hb _ ih => rw [List.count_cons_of_ne (cnt_nm hb).1, List.count_cons_of_ne (cnt_nm hb).2]; exact ih
  | op _ ih => rw [List.count_cons_of_ne (by decide), List.count_cons_of_ne (by decide)]; exact ih
  | b3 _ ih => rw [List.count_cons_of_ne (by decide), List.count_cons_of_ne (by decide)]; exact ih
  | b6 _ ih => rw [List.count_cons_of_ne (by decide), List.count_cons_of_ne (by decide)]; exact ih
  | s3 _ ih => rw [List.count_cons_self, List.count_cons_of_ne (by decide)]; simp only [isE] at ih ⊢; simp at ih ⊢; omega
  | s6 _ ih => rw [List.count_cons_self, List.count_cons_of_ne (by decide)]; simp only [isE] at ih ⊢; simp at ih ⊢; omega
  | f hb _ ih => rw [List.count_cons_of_ne (cnt_nm hb).1, List.count_cons_of_ne (cnt_nm hb).2]; exact ih
  | m hb _ ih => rw [List.count_cons_of_ne (cnt_nm hb).1, List.count_cons_of_ne (cnt_nm hb).2]; exact ih
  | cl _ ih => rw [List.count_cons_of_ne (by decide), List.count_cons_of_ne (by decide)]; exact ih
theorem no_eq {a b : List (List Nat)} (h : Ac 0 (a ++ [61] :: b)) : ¬ Ac 0 (a ++ b) := fun h' => by
  have h1 := h.cnt
  have h2 := h'.cnt
  rw [List.count_append, List.count_cons_self, List.count_append, List.count_cons_of_ne (by decide)] at h1
  rw [List.count_append, List.count_append] at h2
  omega
end K8
namespace K8
open PySem L2 K3 TM K9
def gl (sep : List Nat) : List (List Nat) → List Nat
  | [] => []
  | x :: r => x ++ r.flatMap fun y => sep ++ y
theorem gl_fold (sep : List Nat) : ∀ (r : List (List Nat)) (acc : List Nat), (r.map S).foldl (fun a p => a ++ (S sep).cps ++ p.cps) acc.toArray = (acc ++ r.flatMap fun y => sep ++ y).toArray
  | [], acc => by simp
  | y :: r, acc => by
    rw [List.map_cons, List.foldl_cons]
    have e : acc.toArray ++ (S sep).cps ++ (S y).cps = (acc ++ (sep ++ y)).toArray := by
      apply Array.toList_inj.mp
      simp [S]
    rw [e, gl_fold sep r]
    simp [List.flatMap_cons]
theorem join_S (sep : List Nat) (xs : List (List Nat)) : Txt.join (S sep) (xs.map S) = S (gl sep xs) := by
  show Builtin.Str.glued (S sep) (xs.map S) = _
  unfold Builtin.Str.glued
  cases xs with
  | nil => rfl
  | cons x r =>
    have := gl_fold sep r x
    show (⟨((r.map S).foldl (fun a p => a ++ (S sep).cps ++ p.cps) (S x).cps)⟩ : Str) = _
    rw [show (S x).cps = x.toArray from rfl, this]
    rfl
theorem gl_one (sep x : List Nat) : gl sep [x] = x := by simp [gl]
theorem gl_two (sep x y : List Nat) (r : List (List Nat)) : gl sep (x :: y :: r) = x ++ (sep ++ gl sep (y :: r)) := by
  simp [gl, List.flatMap_cons, List.append_assoc]
theorem gl_sum (sep : List Nat) : ∀ xs : List (List Nat), (xs.map List.length).sum + xs.length * sep.length ≤ (gl sep xs).length + sep.length
  | [] => by simp
  | [x] => by simp [gl]
  | x :: y :: r => by
    have := gl_sum sep (y :: r)
    rw [gl_two]
    simp only [List.map_cons, List.sum_cons, List.length_cons, List.length_append] at this ⊢
    have e : (r.length + 1 + 1) * sep.length = (r.length + 1) * sep.length + sep.length := Nat.succ_mul _ _
    omega
def En (rest : List Nat) : Prop := ∀ c, rest[0]? = some c → c ∉ letL ∧ c ∉ figL
theorem En.nil : En [] := fun c h => by simp at h
theorem En.cons {c : Nat} {r : List Nat} (h : c ∉ letL ∧ c ∉ figL) : En (c :: r) := fun d e => by
  have : c = d := by simpa using e
  rw [← this]; exact h
def WrT (x : List Nat) (a : List (List Nat)) : Prop := ∀ rest ws, Writ rest ws → En rest → Writ (x ++ rest) (a ++ ws)
theorem wr_word {w : List Nat} (h : Word w) : WrT w [w] := fun rest ws hw he => .word h (fun a b _ hb => ⟨fun z => (he b hb).1 z.2, fun z => (he b hb).2 z.2⟩) hw
theorem wr_sg {c : Nat} (hc : c ∈ sgnL) {rest : List Nat} {ws : List (List Nat)} (h : Writ rest ws) : Writ (c :: rest) ([c] :: ws) := .word (w := [c]) (.sign hc) (fun a b ha hb => by
  have : c = a := by simpa using ha
  subst this
  have sg : ∀ c ∈ sgnL, c ∉ letL ∧ c ∉ figL := by decide
  exact ⟨fun z => (sg c hc).1 z.1, fun z => (sg c hc).2 z.1⟩) h
theorem wr_gl : ∀ ws : List (List Nat), (∀ w ∈ ws, Word w) → WrT (gl [32] ws) ws
  | [], _ => fun rest ws hw _ => hw
  | [w], h => by rw [gl_one]; exact wr_word (h w List.mem_cons_self)
  | w :: u :: r, h => fun rest ws hw he => by
    rw [gl_two, List.append_assoc]
    have ih := wr_gl (u :: r) (fun x hx => h x (List.mem_cons_of_mem _ hx)) rest ws hw he
    exact wr_word (h w List.mem_cons_self) _ _ (.blank ih) (En.cons (by decide))
theorem wr_pt {α : Type} {sep : List Nat} {sg : Nat} {tk : α → List (List Nat)} {tx : α → List Nat} (hsep : ∀ rest ws, Writ rest ws → Writ (sep ++ rest) ([sg] :: ws) ∧ En (sep ++ rest)) :
    ∀ xs : List α, (∀ x ∈ xs, WrT (tx x) (tk x)) → WrT (gl sep (xs.map tx)) (ptT [sg] tk xs)
  | [], _ => fun rest ws hw _ => hw
  | [x], h => by
    rw [List.map_cons, List.map_nil, gl_one]
    have e : ptT [sg] tk [x] = tk x := by simp [ptT, tlT]
    rw [e]; exact h x List.mem_cons_self
  | x :: y :: r, h => fun rest ws hw he => by
    rw [List.map_cons, List.map_cons, gl_two, List.append_assoc, List.append_assoc]
    have ih := wr_pt hsep (y :: r) (fun z hz => h z (List.mem_cons_of_mem _ hz)) rest ws hw he
    rw [List.map_cons] at ih
    have e : ptT [sg] tk (x :: y :: r) ++ ws = tk x ++ ([sg] :: (ptT [sg] tk (y :: r) ++ ws)) := by simp [ptT, tlT, List.flatMap_cons]
    rw [e]
    exact h x List.mem_cons_self _ _ (hsep _ _ ih).1 (hsep _ _ ih).2
abbrev Part := List (List Nat) × List (List (List Nat))
def rowS (r : List (List Nat)) : List Nat := gl [32] r
def rowsS (rs : List (List (List Nat))) : List Nat := gl [32, 124, 32] (rs.map rowS)
def partS (p : Part) : List Nat := gl [32] p.1 ++ [32, 61, 32] ++ rowsS p.2
def textS (ps : List Part) : List Nat := gl [59, 32] (ps.map partS)
def kw (p : Part) : List (List Nat) := p.1 ++ [61] :: ptT [124] id p.2
def wordsD (ps : List Part) : List (List Nat) := ptT [59] kw ps
def WdP (p : Part) : Prop := (∀ w ∈ p.1, Word w) ∧ ∀ r ∈ p.2, ∀ w ∈ r, Word w
theorem wr_part {p : Part} (h : WdP p) : WrT (partS p) (kw p) := fun rest ws hw he => by
  have h1 : WrT (rowsS p.2) (ptT [124] id p.2) := wr_pt (sep := [32, 124, 32]) (sg := 124) (tk := id) (tx := rowS) (fun rest ws hw => ⟨.blank (wr_sg (by decide) (.blank hw)), En.cons (by decide)⟩) p.2 fun r hr => wr_gl r (h.2 r hr)
  have h2 := h1 rest ws hw he
  have e1 : partS p ++ rest = gl [32] p.1 ++ (32 :: 61 :: 32 :: (rowsS p.2 ++ rest)) := by simp [partS]
  have e2 : kw p ++ ws = p.1 ++ ([61] :: (ptT [124] id p.2 ++ ws)) := by simp [kw]
  rw [e1, e2]
  exact wr_gl p.1 h.1 _ _ (.blank (wr_sg (by decide) (.blank h2))) (En.cons (by decide))
theorem wr_text {ps : List Part} (h : ∀ p ∈ ps, WdP p) : WrT (textS ps) (wordsD ps) :=
  wr_pt (sep := [59, 32]) (sg := 59) (tk := kw) (tx := partS) (fun rest ws hw => ⟨wr_sg (by decide) (.blank hw), En.cons (by decide)⟩) ps fun p hp => wr_part (h p hp)
theorem writ_text {ps : List Part} (h : ∀ p ∈ ps, WdP p) : Writ (textS ps) (wordsD ps) := by
  have := wr_text h [] [] .nil En.nil
  rw [List.append_nil, List.append_nil] at this
  exact this
theorem len_gl (m : Nat) : ∀ ws : List (List Nat), (∀ w ∈ ws, w.length ≤ m) → (gl [32] ws).length ≤ (m + 1) * ws.length
  | [], _ => Nat.zero_le _
  | [w], h => by
    have := h w List.mem_cons_self
    rw [gl_one]; simp; omega
  | w :: u :: r, h => by
    have h1 := h w List.mem_cons_self
    have h2 := len_gl m (u :: r) fun z hz => h z (List.mem_cons_of_mem _ hz)
    rw [gl_two, List.length_append, List.length_append]
    simp only [List.length_cons, List.length_nil] at h2 ⊢
    rw [Nat.mul_succ]
    omega
theorem len_pt {α : Type} {sep : List Nat} {sg : List Nat} {tk : α → List (List Nat)} {tx : α → List Nat} {m : Nat} (hs : sep.length ≤ m) :
    ∀ xs : List α, (∀ x ∈ xs, (tx x).length ≤ m * (tk x).length) → (gl sep (xs.map tx)).length ≤ m * (ptT sg tk xs).length
  | [], _ => Nat.zero_le _
  | [x], h => by
    rw [List.map_cons, List.map_nil, gl_one]
    have e : ptT sg tk [x] = tk x := by simp [ptT, tlT]
    rw [e]; exact h x List.mem_cons_self
  | x :: y :: r, h => by
    have h1 := h x List.mem_cons_self
    have h2 := len_pt (sg := sg) hs (y :: r) fun z hz => h z (List.mem_cons_of_mem _ hz)
    rw [List.map_cons, List.map_cons, gl_two, List.length_append, List.length_append]
    rw [List.map_cons] at h2
    have e : ptT sg tk (x :: y :: r) = tk x ++ (sg :: (ptT sg tk (y :: r))) := by simp [ptT, tlT, List.flatMap_cons]
    rw [e, List.length_append, List.length_cons, Nat.mul_add, Nat.mul_succ]
    omega
def ShP (m : Nat) (p : Part) : Prop := (∀ w ∈ p.1, w.length ≤ m) ∧ ∀ r ∈ p.2, ∀ w ∈ r, w.length ≤ m
theorem len_rows {m : Nat} (hm : 2 ≤ m) {rs : List (List (List Nat))} (h : ∀ r ∈ rs, ∀ w ∈ r, w.length ≤ m) : (rowsS rs).length ≤ (m + 1) * (ptT [124] id rs).length :=
  len_pt (sep := [32, 124, 32]) (sg := [124]) (tk := id) (tx := rowS) (m := m + 1) (by show 3 ≤ m + 1; omega) rs fun r hr => len_gl m r (h r hr)
theorem len_part {m : Nat} (hm : 2 ≤ m) {p : Part} (h : ShP m p) : (partS p).length ≤ (m + 1) * (kw p).length := by
  have h1 := len_gl m p.1 h.1
  have h2 := len_rows hm h.2
  have e : (kw p).length = p.1.length + (1 + (ptT [124] id p.2).length) := by simp [kw]; omega
  have e2 : (partS p).length = (gl [32] p.1).length + 3 + (rowsS p.2).length := by simp [partS]; omega
  rw [e, e2, Nat.mul_add, Nat.mul_add]
  omega
theorem len_text {m : Nat} (hm : 2 ≤ m) {ps : List Part} (h : ∀ p ∈ ps, ShP m p) : (textS ps).length ≤ (m + 1) * (wordsD ps).length :=
  len_pt (sep := [59, 32]) (sg := [59]) (tk := kw) (tx := partS) (m := m + 1) (by show 2 ≤ m + 1; omega) ps fun p hp => len_part hm (h p hp)
def partD (k : KindD) : Part := ([k.1], k.2.map rowT)
theorem tl_map {α β : Type} (sg : List Nat) (tk : β → List (List Nat)) (g : α → β) : ∀ xs : List α, tlT sg tk (xs.map g) = tlT sg (fun x => tk (g x)) xs
  | [] => rfl
  | x :: r => by
    have := tl_map sg tk g r
    unfold tlT at this ⊢
    rw [List.map_cons, List.flatMap_cons, List.flatMap_cons, this]
theorem pt_map {α β : Type} (sg : List Nat) (tk : β → List (List Nat)) (g : α → β) (xs : List α) : ptT sg tk (xs.map g) = ptT sg (fun x => tk (g x)) xs := by
  cases xs with
  | nil => rfl
  | cons x r =>
    show tk (g x) ++ tlT sg tk (r.map g) = _
    rw [tl_map]; rfl
theorem kw_part (k : KindD) : kw (partD k) = kindT k := by
  show [k.1] ++ [61] :: ptT [124] id (k.2.map rowT) = _
  rw [pt_map]; rfl
theorem words_wood (W : List KindD) : wordsD (W.map partD) = woodT W := by
  show ptT [59] kw (W.map partD) = ptT [59] kindT W
  rw [pt_map]
  congr 1
  funext k
  exact kw_part k
theorem Nm.word {w : List Nat} (h : Nm w) : Word w := .name h.ne h.len h.all
theorem row_words {r : RowD} (h : NmR r) : ∀ w ∈ rowT r, Word w ∧ w.length ≤ 8 := by
  intro w hw
  rcases List.mem_cons.mp hw with rfl | hw
  · exact ⟨h.1.word, h.1.len⟩
  · unfold brT at hw
    split at hw
    · cases hw
    · rcases List.mem_cons.mp hw with rfl | hw
      · exact ⟨.sign (by decide), by decide⟩
      · rcases List.mem_append.mp hw with hw | hw
        · exact ⟨(h.2 w hw).word, (h.2 w hw).len⟩
        · obtain rfl := List.mem_singleton.mp hw
          exact ⟨.sign (by decide), by decide⟩
theorem part_words {k : KindD} (h : NmK k) : WdP (partD k) ∧ ShP 9 (partD k) := by
  refine ⟨⟨fun w hw => ?_, fun r hr w hw => ?_⟩, fun w hw => ?_, fun r hr w hw => ?_⟩
  · obtain rfl := List.mem_singleton.mp hw; exact h.1.word
  · obtain ⟨x, hx, rfl⟩ := List.mem_map.mp hr
    exact (row_words (h.2.2 x hx) w hw).1
  · obtain rfl := List.mem_singleton.mp hw; have := h.1.len; omega
  · obtain ⟨x, hx, rfl⟩ := List.mem_map.mp hr
    have := (row_words (h.2.2 x hx) w hw).2; omega
end K8
namespace L2
open PySem PySem.Spec PyProof.Rows PySem.W
theorem strs_of_vals : ∀ {ss : List Str} {us : List Value}, Vals (ss.map V.str) us → StrsAre us ss
  | [], _, .nil => .nil
  | x :: r, _, .cons h t => by
    obtain ⟨k, rfl⟩ := (show ∃ t, _ = Value.str x t from h)
    exact .cons x k (strs_of_vals t)
section
variable {X : Cx}
theorem mt_join : MtR X "str.join" (fun x vs H Q => ∃ (sep : Str) (l : Addr) (ss : List Str), x = .str sep ∧ vs = [.ref l] ∧ SqL X.K H l (ss.map V.str) ∧ (ss.map (·.length)).sum + ss.length * sep.length ≤ 16777216 ∧ Q (.str (Txt.join sep ss)) H) := by
  intro pins s σ H x xs v us Q I rx rv h
  obtain ⟨sep, l, ss, rfl, rfl, hl, hz, q⟩ := h
  obtain ⟨t, rfl⟩ := (show ∃ t, v = Value.str sep t from rx)
  obtain ⟨u, rfl, ru⟩ := rv.one
  obtain rfl : u = Value.ref l := ru
  obtain ⟨its, r, p, _⟩ := I.list hl
  exact join_list p.isList (strs_of_vals r) hz fun t' k => ⟨.str _, H, I.tok _, ⟨_, rfl⟩, q⟩
end
section
variable {prog : Program} {w : World} {A : Around} {E : Value → Shared → Prop} {s : Shared}
end
section
variable {X : Cx} {tg : Expr}
end
end L2
namespace L2
open PySem PySem.Spec PyProof.Rows
section
variable {X : Cx} {pins : List (Addr × Obj)} {σ : St} {pos : Pos}
theorem isList_sb {h h' : Heap} {it l : Addr} {items : Array Value} (hne : l ≠ it) (sb : Heap.SameBut it h h') (p : h.IsList l items) : h'.IsList l items := by
  obtain ⟨o, e, r⟩ := p
  exact ⟨o, (sb.2 l hne).trans e, r⟩
theorem draw_listU {prog : Program} {w : World} {A : Around} {E : Value → Shared → Prop} {it l : Addr} {items : Array Value} (hne : l ≠ it) : ∀ (n i : Nat) (s : Shared) (Q : List Value → Shared → Prop), s.heap.IsListIter it l i → s.heap.IsList l items → i + n ≤ items.size →
    (∀ h' : Heap, h'.IsListIter it l (i + n) → Heap.SameBut it s.heap h' → Q ((items.toList.drop i).take n) { s with heap := h' }) → wpAny (model prog w) A (draw (.ref it) n) Q E s
  | 0, i, s, Q, h1, h2, h3, k => by
    unfold draw
    exact wpAny_pure (k s.heap h1 ⟨rfl, fun b _ => rfl⟩)
  | n + 1, i, s, Q, h1, h2, h3, k => by
    unfold draw
    have hi : i < items.size := by omega
    refine wpAny_bind (wpAny_pyNext_list_item h1 h2 (x := items[i]) (by simp [hi]) fun h' h1' sb => ?_)
    refine wpAny_bind (wpAny_holding (draw_listU hne n (i + 1) { s with heap := h' } _ h1' (isList_sb hne sb h2) (by omega) fun h2' h3' sb' => wpAny_pure ?_))
    have e : items[i] :: (items.toList.drop (i + 1)).take n = (items.toList.drop i).take (n + 1) := by
      rw [List.drop_eq_getElem_cons (show i < items.toList.length by simpa using hi), List.take_succ_cons]
      simp
    show Q (items[i] :: (items.toList.drop (i + 1)).take n) _
    rw [e]
    exact k h2' (by rw [show i + (n + 1) = i + 1 + n by omega]; exact h3') ⟨sb'.1.trans sb.1, fun b hb => (sb'.2 b hb).trans (sb.2 b hb)⟩
theorem unpack_listU {prog : Program} {w : World} {A : Around} {E : Value → Shared → Prop} {s : Shared} {l : Addr} {items : Array Value} {Q : List Value → Shared → Prop} (hh : A.handled = none) (hl : s.heap.IsList l items) (k : ∀ h' : Heap, Heap.ExtBut s.heap.objs.size s.heap h' → Q items.toList { s with heap := h' }) :
    wpAny (model prog w) A (unpackItems (.ref l) items.size none) Q E s := by
  have tl : s.TypeIs (.ref l) "list" := by
    obtain ⟨o, e, c, _⟩ := hl
    exact ⟨o, e, c⟩
  have ll : l < s.heap.objs.size := by
    obtain ⟨o, e, _⟩ := hl
    exact Heap.lt_size e
  unfold unpackItems notIterableAtAll
  refine wpAny_bind (wpAny_bind (wpAny_specialOf tl F.slot_list_iter.lookup ?_))
  show wpAny _ _ (pure false) _ _ _
  refine wpAny_pure ?_
  show wpAny _ _ (holding [Value.ref l] (pyIter (Value.ref l)) >>= _) _ _ _
  refine wpAny_bind (wpAny_holding (wpAny_pyIter_list hl ?_))
  have hne : l ≠ s.heap.objs.size := Nat.ne_of_lt ll
  have hn := Heap.get?_push_size s.heap (o := { cls := Value.type "list_iterator", data := Data.fields #[Value.ref l, Value.int 0 0] }) rfl
  have keep : ∀ b o, s.heap.get? b = some o → (s.heap.push { cls := Value.type "list_iterator", data := Data.fields #[Value.ref l, Value.int 0 0] }).get? b = some o := fun b o e => Heap.get?_push_of_some _ e
  generalize s.heap.push { cls := Value.type "list_iterator", data := Data.fields #[Value.ref l, Value.int 0 0] } = h1 at hn keep
  have hl1 : h1.IsList l items := by
    obtain ⟨o, e, r⟩ := hl
    exact ⟨o, keep _ _ e, r⟩
  refine wpAny_bind (wpAny_holding (draw_listU hne items.size 0 { s with heap := h1 } _ ⟨_, hn, rfl, rfl⟩ hl1 (by omega) fun h2 it2 sb2 => ?_))
  rw [List.drop_zero, show items.toList.take items.size = items.toList from List.take_of_length_le (by simp)]
  dsimp only
  rw [if_neg (by simp)]
  refine wpAny_bind (wpAny_holding (wpAny_pyNext_list_end hh (by rw [Nat.zero_add] at it2; exact it2) (isList_sb hne sb2 hl1) (by simp) fun h3 eb3 => ?_))
  rw [if_neg (by simp)]
  refine wpAny_pure (k h3 fun b o hb e => eb3 b o hb ?_)
  exact (sb2.2 b hb).trans (keep b o e)
def gLst (K : PySem.W.Frag) (n : Nat) (t : TGs) : TG := fun v σ H Q => ∃ a xs, v = .ref a ∧ SqL K H a xs ∧ xs.length = n ∧ t xs σ H Q
theorem pg_lst {es : List Expr} {k : Nat} {t : TGs} {n : Nat} (hc : X.calm = true) (h : PGs X es t)
    (hn : (assignEach es X.env).length = n := by rfl) (hst : (assignEach es X.env).findIdx? (·.1) = none := by rfl) : PG X (.Tuple es k pos) (gLst X.K n t) := by
  intro pins s σ H v u Q I r hw
  obtain ⟨a, xs, e1, hq, hl, hw⟩ := hw
  subst e1
  cases r
  obtain ⟨its, rv, ht, hz⟩ := I.list hq
  rw [assign_Tuple]
  refine wpAny_bind (wpAny_standAt ?_)
  unfold unpack
  rw [hst, show (assignEach es X.env).length = its.toArray.size by simp [hn, ← hl, rv.length]]
  refine wpAny_bind (wpAny_holding (unpack_listU (I.ok.hd hc) ht.isList fun h' hx => ?_))
  have I1 : Inv X pins σ H { s with heap := h' } := I.kept (t' := s.toks) fun b o e => hx b o (Nat.ne_of_lt (Heap.lt_size e)) e
  exact h pins _ σ H xs _ Q I1 (by simpa using rv) hw
end
end L2
namespace K8
open PySem L2 K3 TM K9
abbrev RwA := Addr × List (List Nat)
abbrev PtA := Addr × List (List Nat) × Addr × List RwA
def datP (p : PtA) : Part := (p.2.1, p.2.2.2.map fun x => x.2)
structure PartA (H : Hp) (p : PtA) : Prop where
  pr : H p.1 = some (.lst [.str (S (gl [32] p.2.1)), .ref p.2.2.1])
  rl : H p.2.2.1 = some (.lst (p.2.2.2.map fun x => V.ref x.1))
  rw : ∀ x ∈ p.2.2.2, H x.1 = some (.lst (W x.2))
structure Off (l : Addr) (p : PtA) : Prop where
  pr : p.1 ≠ l
  rl : p.2.2.1 ≠ l
  rw : ∀ x ∈ p.2.2.2, x.1 ≠ l
structure PartsA (H : Hp) (l : Addr) (ps : List PtA) : Prop where
  top : H l = some (.lst (ps.map fun p => V.ref p.1))
  at_ : ∀ p ∈ ps, PartA H p
  off : ∀ p ∈ ps, Off l p
theorem PartA.same {H H' : Hp} {p : PtA} (h : PartA H p) (g : Same H H') : PartA H' p := ⟨g _ _ h.pr, g _ _ h.rl, fun x hx => g _ _ (h.rw x hx)⟩
theorem PartsA.same {H H' : Hp} {l : Addr} {ps : List PtA} (h : PartsA H l ps) (g : Same H H') : PartsA H' l ps := ⟨g _ _ h.top, fun p hp => (h.at_ p hp).same g, h.off⟩
theorem PartA.put {H : Hp} {l : Addr} {o : HO} {p : PtA} (h : PartA H p) (f : Off l p) : PartA (upd H l o) p :=
  ⟨by rw [upd_ne f.pr]; exact h.pr, by rw [upd_ne f.rl]; exact h.rl, fun x hx => by rw [upd_ne (f.rw x hx)]; exact h.rw x hx⟩
theorem PartA.off {H : Hp} {l : Addr} {p : PtA} (h : PartA H p) (hl : H l = none) : Off l p :=
  ⟨fun z => (by rw [← z, h.pr] at hl; cases hl), fun z => (by rw [← z, h.rl] at hl; cases hl), fun x hx z => (by rw [← z, h.rw x hx] at hl; cases hl)⟩
theorem PartsA.set {H : Hp} {l : Addr} {ps : List PtA} {k : Nat} {p : PtA} (h : PartsA H l ps) (hp : PartA H p) (ho : Off l p) : PartsA (upd H l (.lst ((ps.map fun p => V.ref p.1).set k (.ref p.1)))) l (ps.set k p) := by
  refine ⟨by rw [upd_same, List.map_set], fun q hq => ?_, fun q hq => ?_⟩
  · rcases List.mem_or_eq_of_mem_set hq with hq | rfl
    · exact (h.at_ q hq).put (h.off q hq)
    · exact hp.put ho
  · rcases List.mem_or_eq_of_mem_set hq with hq | rfl
    · exact h.off q hq
    · exact ho
theorem PartsA.add {H : Hp} {l : Addr} {ps : List PtA} {p : PtA} (h : PartsA H l ps) (hp : PartA H p) (ho : Off l p) : PartsA (upd H l (.lst ((ps.map fun p => V.ref p.1) ++ [.ref p.1]))) l (ps ++ [p]) := by
  refine ⟨by rw [upd_same, List.map_append]; rfl, fun q hq => ?_, fun q hq => ?_⟩
  · rcases List.mem_append.mp hq with hq | hq
    · exact (h.at_ q hq).put (h.off q hq)
    · obtain rfl := List.mem_singleton.mp hq; exact hp.put ho
  · rcases List.mem_append.mp hq with hq | hq
    · exact h.off q hq
    · obtain rfl := List.mem_singleton.mp hq; exact ho
abbrev rJoin (K : PySem.W.Frag) : V → List V → Hp → VK → Prop := fun x vs H Q => ∃ (sep : Str) (l : Addr) (ss : List Str), x = .str sep ∧ vs = [.ref l] ∧ SqL K H l (ss.map V.str) ∧ (ss.map (·.length)).sum + ss.length * sep.length ≤ 16777216 ∧ Q (.str (Txt.join sep ss)) H
theorem mt_joinK {X : Cx} : MtR X "str.join" (rJoin X.K) := mt_join
theorem pe_bmK {X : Cx} {o e : Expr} {es : List Expr} {to : TE} {t : TA} {name : Str} {apos cpos : Pos} {T id : String} {r : V → List V → Hp → VK → Prop} (K : PySem.W.Frag) (hK : X.K = K) (pa : PlainAttrs T) (slot : Slot T name id) (hty : typeOf (.builtin id) = pure (.type "method_descriptor")) (hm : MtR X id r) (ho : PE X o to) (ha : PA X (e :: es) t)
    (hbase : attributeBase o name X.env (eval o X.env) = eval o X.env := by rfl)
    (hfew : ((backTo cpos (starEach (e :: es) X.env)).all (fun x => !x.1) && (backToKw cpos (keywordEach [] X.env)).all (fun x => x.1.isSome)
      && decide ((e :: es).length + ([] : List Keyword).length + (if ([] : List Keyword).isEmpty then 0 else 1) < 30)) = true := by rfl)
    (hline : (apos.endLine == cpos.line) = true := by rfl) (hs : starEach (e :: es) X.env = (false, eval e X.env) :: starEach es X.env := by rfl) (hplain : (backTo cpos (starEach es X.env)).any (·.1) = false := by rfl) :
    PE X (.Call (.Attribute o name apos) (e :: es) [] cpos) (tBM K T r to t) := by
  subst hK
  exact pe_bm pa slot hty hm ho ha hbase hfew hline hs hplain
theorem ms_W (ws : List (List Nat)) : (ws.map S).map V.str = W ws := by rw [List.map_map]; rfl
theorem ms_len (ws : List (List Nat)) : ((ws.map S).map fun z : Str => z.length) = ws.map List.length := by
  rw [List.map_map]
  exact List.map_congr_left fun y _ => S_len y
theorem sum_gl (sep : List Nat) (ws : List (List Nat)) : ((ws.map S).map fun z : Str => z.length).sum + (ws.map S).length * (S sep).length ≤ (gl sep ws).length + sep.length := by
  rw [ms_len, List.length_map, S_len]
  exact gl_sum sep ws
def spText : Sp := fun vs H Q _ => ∃ (l : Addr) (ps : List PtA), vs = [.ref l] ∧ PartsA H l ps ∧ (∀ p ∈ ps, ShP 9 (datP p)) ∧ (wordsD (ps.map datP)).length ≤ 800 ∧ ∀ H', Same H H' → Q (.str (S (textS (ps.map datP)))) H'
section
variable {P : Program} {w : World} {K : PySem.W.Frag} {mg : Str → Option Value} {base : Heap} {f : Addr} {fd : FuncData}
theorem scText : FnScope ["_law_parts", "_law_texts", "_law_kind", "_law_rows"] ["_law_parts"] (defScope sText) := ⟨rfl, rfl, rfl, by decide +kernel, rfl, by decide +kernel, by decide +kernel⟩
theorem ok_text (F : Fun K "_law_text" "_law_text" sText f fd) : FnOk P w K mg base CX0 1 f fd ["_law_parts"] spText := by
  refine F.ok scText (fun vs H Q E h => ?_) (fun cdv A outer s H vs Q E hr h => ?_)
  · obtain ⟨l, ps, rfl, _⟩ := h
    rfl
  obtain ⟨l, ps, rfl, hL, hsh, h800, q⟩ := h
  refine ⟨_, (pss_cons (ps_set (i := 1) scText.nd rfl (Or.inl rfl) (pe_lst pa_nil))
    (pss_cons (ps_for PassesOwn.never rfl (pi_list (pv 0)) (pg_lst rfl (pgs_cons (pg_name (i := 2) scText.nd rfl (Or.inl rfl)) (pgs_cons (pg_name (i := 3) scText.nd rfl (Or.inl rfl)) pgs_nil))) (pss_one (ps_expr (pe_bm PySem.F.plainAttrs_list PySem.F.slot_list_append PySem.F.type_list_append mt_append (pv 1) (pa_cons (pe_op op_add_str (pe_op op_add_str (pv 2) pe_str) (pe_bm (r := rJoin K) PySem.F.plainAttrs_str PySem.F.slot_str_join PySem.F.type_str_join mt_joinK pe_str (pa_cons (pe_lcompG (CompG.many (xs := ["_law_row"]) (caps := []) (cap := []) (cs := []) rfl rfl (by decide +kernel) (by decide +kernel) (by decide +kernel) (by decide +kernel) (by decide +kernel) (by decide +kernel) rfl rfl rfl) rfl (pi_list (pv 3)) (pg_c1 (CompG.many (xs := ["_law_row"]) (caps := []) (cap := []) (cs := []) rfl rfl (by decide +kernel) (by decide +kernel) (by decide +kernel) (by decide +kernel) (by decide +kernel) (by decide +kernel) rfl rfl rfl)) (fun _ _ _ _ => pf_nil) (fun _ _ _ _ => pe_bmK (r := rJoin K) K rfl PySem.F.plainAttrs_str PySem.F.slot_str_join PySem.F.type_str_join mt_joinK pe_str (pa_cons (pv 0) pa_nil))) pa_nil))) pa_nil)))))
    (pss_one (ps_ret (pe_bm (r := rJoin K) PySem.F.plainAttrs_str PySem.F.slot_str_join PySem.F.type_str_join mt_joinK pe_str (pa_cons (pv 1) pa_nil)))))), ?_⟩
  have e1 : Str.ofString " " = S [32] := by decide +kernel
  have e2 : Str.ofString " | " = S [32, 124, 32] := by decide +kernel
  have e3 : Str.ofString " = " = S [32, 61, 32] := by decide +kernel
  have e4 : Str.ofString "; " = S [59, 32] := by decide +kernel
  have hlen : ps.length ≤ 800 := by
    have := pt_len (sg := [59]) (tk := kw) (ps.map datP) fun p _ => by
      have : (kw p).length = p.1.length + ((ptT [124] id p.2).length + 1) := by simp [kw]
      omega
    rw [List.length_map] at this
    exact Nat.le_trans this h800
  refine ⟨(by show 0 ≤ sizeLine; decide), fun lt hlt => ?_⟩
  have g0 := same_new hlt (.lst [])
  refine ⟨_, rfl, l, rfl, ⟨_, g0.seq (SqL.of hL.top)⟩, ?_⟩
  refine for_list (K := K) (xs := ps.map fun p => V.ref p.1) (fun i σ H' => ∃ c2 c3 : Option V, σ = [some (.ref l), some (.ref lt), c2, c3] ∧ Same H H' ∧ H' lt = some (.lst (W (((ps.take i).map datP).map partS))))
    ⟨_, _, rfl, g0, upd_same⟩ ?_ ?_ ?_
  · rintro i σ H' _ ⟨_, _, _, g, _⟩
    exact g.seq (SqL.of hL.top)
  · rintro i x σ H' hx ⟨c2, c3, rfl, g, ht⟩
    have hi : i < ps.length := by have := (List.getElem?_eq_some_iff.mp hx).1; rw [List.length_map] at this; exact this
    obtain rfl : x = .ref ps[i].1 := by
      rw [List.getElem?_map, List.getElem?_eq_getElem hi] at hx
      exact (Option.some.inj hx).symm
    have tk : ps.take (i + 1) = ps.take i ++ [ps[i]] := by rw [List.take_add_one, List.getElem?_eq_getElem hi]; rfl
    have hpA := hL.at_ ps[i] (List.getElem_mem hi)
    have hpS := hsh ps[i] (List.getElem_mem hi)
    have hpl : (kw (datP ps[i])).length ≤ 800 := Nat.le_trans (pt_mem (sg := [59]) (tk := kw) (ps.map datP) _ (List.mem_map_of_mem (List.getElem_mem hi))) h800
    generalize ps[i] = p at *
    have hkl : (kw (datP p)).length = p.2.1.length + ((ptT [124] id (p.2.2.2.map fun x => x.2)).length + 1) := by simp [kw, datP]
    have hps := len_part (by decide) hpS
    have hkS : (gl [32] p.2.1).length ≤ 8000 := by
      have := len_gl 9 p.2.1 hpS.1
      omega
    have hrS : (rowsS (p.2.2.2.map fun x => x.2)).length ≤ 8000 := by
      have := len_rows (m := 9) (by decide) hpS.2
      change (rowsS (p.2.2.2.map fun x => x.2)).length ≤ 10 * (ptT [124] id (p.2.2.2.map fun x => x.2)).length at this
      omega
    have hrl : p.2.2.2.length ≤ 801 := by
      have h1 : (p.2.2.2.map fun x => x.2).length ≤ (ptT [124] id (p.2.2.2.map fun x => x.2)).length + 1 := by
        cases p.2.2.2.map fun x => x.2 with
        | nil => exact Nat.zero_le _
        | cons y r =>
          have := tl_len (sg := [124]) (tk := id) r
          show r.length + 1 ≤ (y ++ tlT [124] id r).length + 1
          rw [List.length_append]; omega
      rw [List.length_map] at h1
      omega
    refine ⟨_, _, rfl, g.seq (SqL.of hpA.pr), rfl, _, _, rfl, _, _, rfl, rfl, ?_⟩
    refine ⟨_, rfl, .inl ⟨rfl, _, SqL.of ht⟩, _, rfl, _, _, rfl, rfl, (by rw [e3, S_len, S_len]; exact line_of (by show _ + 3 ≤ _; omega)), rfl, _, rfl, p.2.2.1, rfl, ⟨_, g.seq (SqL.of hpA.rl)⟩, fun acc hacc => ?_⟩
    refine c1_list (K := K) (xs := p.2.2.2.map fun x => V.ref x.1) (cs := []) (tt := fun _ H Q => Q true H) (fun j ys H2 => ys = W ((p.2.2.2.take j).map fun x => rowS x.2) ∧ H2 acc = some (.lst ys) ∧ Same H' H2)
      ⟨rfl, upd_same, same_new hacc _⟩ ?_ ?_ ?_
    · rintro j ys H2 _ ⟨_, _, g2⟩
      exact (g.trans g2).seq (SqL.of hpA.rl)
    · rintro j x ys H2 hj hx ⟨rfl, hy, g2⟩
      rw [List.length_map] at hj
      obtain rfl : x = .ref p.2.2.2[j].1 := by
        rw [List.getElem?_map, List.getElem?_eq_getElem hj] at hx
        exact (Option.some.inj hx).symm
      have tkj : p.2.2.2.take (j + 1) = p.2.2.2.take j ++ [p.2.2.2[j]] := by rw [List.take_add_one, List.getElem?_eq_getElem hj]; rfl
      have hrw := hpA.rw p.2.2.2[j] (List.getElem_mem hj)
      have hrl8 : (gl [32] p.2.2.2[j].2).length ≤ 8000 := by
        have hm : p.2.2.2[j].2 ∈ p.2.2.2.map fun x => x.2 := List.mem_map_of_mem (List.getElem_mem hj)
        have h1 := len_gl 9 p.2.2.2[j].2 (hpS.2 _ hm)
        have h2 := pt_mem (sg := [124]) (tk := id) (p.2.2.2.map fun x => x.2) _ hm
        change p.2.2.2[j].2.length ≤ _ at h2
        omega
      generalize p.2.2.2[j] = r at *
      refine iteT ⟨rfl, _, rfl, S [32], r.1, r.2.map S, (by rw [← e1]), rfl, (by rw [ms_W]; exact SqL.of ((g.trans g2) _ _ hrw)), ?_, ?_⟩
      · exact Nat.le_trans (sum_gl [32] r.2) (by show _ + 1 ≤ _; omega)
      rw [join_S, List.length_map]
      refine comp_next hj hy (by show (W _).length < _; unfold W; rw [List.length_map, List.length_map, List.length_take]; omega) ⟨?_, upd_same, fun b u e => ?_⟩
      · rw [tkj, List.map_append]; unfold W; rw [List.map_append]; rfl
      · rw [upd_ne (ne_of_none e hacc)]; exact g2 _ _ e
    rintro ys H2 ⟨rfl, hy, g2⟩
    rw [List.length_map, List.take_length] at hy
    have eR : (p.2.2.2.map fun x => rowS x.2) = (p.2.2.2.map fun x => x.2).map rowS := by rw [List.map_map]; rfl
    rw [eR] at hy
    have ht2 := g2 _ _ ht
    refine ⟨S [32, 124, 32], acc, ((p.2.2.2.map fun x => x.2).map rowS).map S, (by rw [← e2]), rfl, (by rw [ms_W]; exact SqL.of hy), ?_, ?_⟩
    · refine Nat.le_trans (sum_gl [32, 124, 32] _) ?_
      show (rowsS (p.2.2.2.map fun x => x.2)).length + 3 ≤ _
      omega
    rw [join_S, e3, S_app]
    have e5 : (partS (datP p)).length = (gl [32] p.2.1).length + 3 + (rowsS (p.2.2.2.map fun x => x.2)).length := by simp [partS, datP]; omega
    refine ⟨_, _, rfl, rfl, ?_, ?_⟩
    · rw [S_len, S_len]
      refine line_of ?_
      show (gl [32] p.2.1 ++ [32, 61, 32]).length + (rowsS (p.2.2.2.map fun x => x.2)).length ≤ _
      rw [List.length_append]
      show _ + 3 + _ ≤ _
      omega
    rw [S_app]
    refine ⟨lt, _, _, rfl, rfl, ht2, (by unfold W; rw [List.length_map, List.length_map, List.length_map, List.length_take]; exact Nat.lt_of_le_of_lt (show _ ≤ 9000 by omega) (by decide)), ?_⟩
    refine ⟨_, _, rfl, fun b u e => ?_, ?_⟩
    · rw [upd_ne (ne_of_none e hlt)]; exact g2 _ _ (g _ _ e)
    · rw [upd_same, tk, List.map_append, List.map_append]; unfold W; rw [List.map_append]; rfl
  rintro σ H' ⟨_, _, rfl, g, ht⟩
  rw [List.length_map, List.take_length] at ht
  have hts := len_text (m := 9) (by decide) (ps := ps.map datP) (fun p hp => by obtain ⟨x, hx, rfl⟩ := List.mem_map.mp hp; exact hsh x hx)
  refine ⟨rfl, _, rfl, S [59, 32], lt, ((ps.map datP).map partS).map S, (by rw [← e4]), rfl, (by rw [ms_W]; exact SqL.of ht), ?_, ?_⟩
  · refine Nat.le_trans (sum_gl [59, 32] _) ?_
    show (textS (ps.map datP)).length + 2 ≤ _
    omega
  · rw [join_S]; exact q H' g
end
end K8
namespace K8
open PySem L2 K3 TM K9
def RwDr (n : Int) (L : Nat) (rs : List RowD) : Prop := ∃ a, Nm a ∧ (rs = [(a, [])] ∨ ∃ b bs, Nm b ∧ a ≠ b ∧ rs = [(a, []), (b, bs)] ∧ 1 ≤ bs.length ∧ bs.length ≤ 4 ∧ ∀ x ∈ bs, ∃ j : Nat, j < L ∧ x = wd n j)
structure DrW (n : Int) (L : Nat) (i : Nat) (Wd : List KindD) : Prop where
  len : Wd.length = i
  nm : ∀ (j : Nat) (h : j < Wd.length), Wd[j].1 = wd n j
  rw : ∀ k ∈ Wd, RwDr n L k.2
theorem DrW.add {n : Int} {L i : Nat} {Wd : List KindD} (h : DrW n L i Wd) {rs : List RowD} (hr : RwDr n L rs) : DrW n L (i + 1) (Wd ++ [(wd n i, rs)]) := by
  refine ⟨by rw [List.length_append, h.len]; rfl, fun j hj => ?_, fun k hk => ?_⟩
  · by_cases e : j < Wd.length
    · rw [List.getElem_append_left e]; exact h.nm j e
    · rw [List.length_append, List.length_singleton] at hj
      have e1 : j = Wd.length := by omega
      subst e1
      rw [List.getElem_append_right (Nat.le_refl _)]
      simp [h.len]
  · rcases List.mem_append.mp hk with hk | hk
    · exact h.rw k hk
    · obtain rfl := List.mem_singleton.mp hk; exact hr
def spWood : Sp := fun vs H Q _ => ∃ (n m : Int) (L : Nat), vs = [.int n, .int m, .int (L : Int)] ∧ 1 ≤ L ∧ L ≤ 5 ∧ ∀ (l : Addr) (H' : Hp) (ps : List PtA) (Wd : List KindD), Same H H' → PartsA H' l ps → H l = none → ps.map datP = Wd.map partD → DrW n L L Wd → Q (.ref l) H'
theorem fresh_ne {H : Hp} {a b : Addr} {o : HO} (h : H a = none) (hb : H b = some o) : a ≠ b := fun z => by rw [z, hb] at h; cases h
theorem none_back {H H' : Hp} {a : Addr} (g : Same H H') (h : H' a = none) : H a = none := by
  cases e : H a with
  | none => rfl
  | some u => rw [g _ _ e] at h; cases h
section
variable {P : Program} {w : World} {K : PySem.W.Frag} {mg : Str → Option Value} {base : Heap} {f : Addr} {fd : FuncData}
theorem scWood : FnScope ["_law_number", "_law_more", "_law_lots", "_law_parts", "_law_k", "_law_rows", "_law_branches"] ["_law_number", "_law_more", "_law_lots"] (defScope sWood) := ⟨rfl, rfl, rfl, by decide +kernel, rfl, by decide +kernel, by decide +kernel⟩
theorem ok_wood (F : Fun K "_law_wood" "_law_wood" sWood f fd) (G : Gm mg) (RW : Fn P w K mg base 1 "_law_word" ["_law_number", "_law_k"] spWord) : FnOk P w K mg base CX0 2 f fd ["_law_number", "_law_more", "_law_lots"] spWood := by
  refine F.ok scWood (fun vs H Q E h => ?_) (fun cdv A outer s H vs Q E hr h => ?_)
  · obtain ⟨n, m, L, rfl, _⟩ := h
    rfl
  obtain ⟨n, m, L, rfl, hL1, hL5, q⟩ := h
  refine ⟨_, (pss_cons (ps_set (i := 3) scWood.nd rfl (Or.inl rfl) (pe_lst pa_nil))
    (pss_cons (ps_for PassesOwn.never rfl (pi_range1 rfl G.rng (pa_cons (pv 2) pa_nil)) (pg_name (i := 4) scWood.nd rfl (Or.inl rfl)) (pss_cons (ps_set (i := 5) scWood.nd rfl (Or.inl rfl) (pe_lst (pa_cons ((pe_lst (pa_cons (pe_fn RW hr (pa_cons (pv 1) (pa_cons (pe_op op_mul pe_int (pv 4)) pa_nil))) pa_nil))) pa_nil)))
    (pss_cons (ps_cut (ps_if (pt_cmpR op_gt (pe_op op_mod (pe_op op_fdiv (pv 0) (pe_op op_add (pv 4) pe_int)) pe_int) pe_int (nomark _)) (pss_cons (ps_setG (i := 6) (CompG.many (xs := ["_law_j"]) (caps := ["_law_lots", "_law_number"]) (cap := [2, 0]) (cs := [_, _]) rfl rfl (by decide +kernel) (by decide +kernel) (by decide +kernel) (by decide +kernel) (by decide +kernel) (by decide +kernel) rfl rfl rfl) rfl (pi_range1 rfl G.rng (pa_cons (pe_op op_add (pe_op op_mod (pe_op op_fdiv (pv 0) (pe_op op_add (pv 4) pe_int)) pe_int) pe_int) pa_nil)) (pg_c1 (CompG.many (xs := ["_law_j"]) (caps := ["_law_lots", "_law_number"]) (cap := [2, 0]) (cs := [_, _]) rfl rfl (by decide +kernel) (by decide +kernel) (by decide +kernel) (by decide +kernel) (by decide +kernel) (by decide +kernel) rfl rfl rfl)) (fun _ _ _ _ => pf_nil) (fun _ _ _ _ => pe_fn RW hr (pa_cons (pv 2) (pa_cons (pe_op op_mod (pe_op op_fdiv (pv 2) (pe_op op_add (pv 0) pe_int)) (pv 1)) pa_nil))) scWood.nd rfl rfl)
    (pss_one (ps_expr (pe_bm PySem.F.plainAttrs_list PySem.F.slot_list_append PySem.F.type_list_append mt_append (pv 5) (pa_cons (pe_op op_catL (pe_op op_catL (pe_lst (pa_cons (pe_fn RW hr (pa_cons (pv 1) (pa_cons (pe_op op_add (pe_op op_mul pe_int (pv 4)) pe_int) pa_nil))) (pa_cons (pe_str) pa_nil))) (pv 6)) (pe_lst (pa_cons (pe_str) pa_nil))) pa_nil))))) pss_nil))
    (pss_one (ps_expr (pe_bm PySem.F.plainAttrs_list PySem.F.slot_list_append PySem.F.type_list_append mt_append (pv 3) (pa_cons ((pe_lst (pa_cons (pe_fn RW hr (pa_cons (pv 0) (pa_cons (pv 4) pa_nil))) (pa_cons (pv 5) pa_nil)))) pa_nil)))))))
    (pss_one (ps_ret (pv 3))))), ?_⟩
  have e40 : Str.ofString "(" = S [40] := by decide +kernel
  have e41 : Str.ofString ")" = S [41] := by decide +kernel
  refine ⟨(by show 0 ≤ sizeLine; decide), fun lp hlp => ?_⟩
  have s0 := same_new hlp (.lst [])
  refine ⟨_, rfl, _, rfl, (by omega), (by omega), ?_⟩
  refine for_range (lo := 0) (n := L) (fun i σ H' => ∃ (ps : List PtA) (Wd : List KindD) (c4 c5 c6 : Option V), σ = [some (.int n), some (.int m), some (.int (L : Int)), some (.ref lp), c4, c5, c6] ∧ Same H H' ∧ PartsA H' lp ps ∧ ps.map datP = Wd.map partD ∧ DrW n L i Wd)
    ⟨[], [], none, none, none, rfl, s0, ⟨upd_same, fun p hp => (nomatch hp), fun p hp => (nomatch hp)⟩, rfl, ⟨rfl, fun j h => (nomatch h), fun k hk => (nomatch hk)⟩⟩ ?_ ?_
  · rintro i σ H' hi ⟨ps, Wd, c4, c5, c6, rfl, g, hP, hD, hW⟩
    have ez : (0 : Int) + (i : Int) = (i : Int) := by omega
    rw [ez]
    refine ⟨_, rfl, _, rfl, _, _, rfl, rfl, .inl ⟨by decide, by decide⟩, m, 2 * (i : Int), rfl, fun H1 g1 => ⟨(by show 1 ≤ sizeLine; decide), fun r0 hr0 => ⟨(by show 1 ≤ sizeLine; decide), fun lr hlr => ?_⟩⟩⟩
    generalize hX : upd H1 r0 (.lst [V.str (S (wd m (2 * (i : Int))))]) = H2 at hlr ⊢
    have s2 : Same H1 H2 := by rw [← hX]; exact same_new hr0 _
    have b2 : H2 r0 = some (.lst (W [wd m (2 * (i : Int))])) := by rw [← hX]; exact upd_same
    clear hX
    have s3 := same_new hlr (.lst [.ref r0])
    have b3 : upd H2 lr (.lst [.ref r0]) lr = some (.lst [.ref r0]) := upd_same
    generalize upd H2 lr (.lst [.ref r0]) = H3 at s3 b3 ⊢
    have b4 := s3 _ _ b2
    have g3 := g1.trans (s2.trans s3)
    have nr0 := none_back g1 hr0
    have nlr := none_back (g1.trans s2) hlr
    have nlr0 : r0 ≠ lr := fun z => by rw [z, hlr] at b2; cases b2
    have hnm0 := wd_nm m (2 * (i : Int))
    refine ⟨fun σ' H4 => ∃ (rs : List RwA) (rd : List RowD) (c6 : Option V), σ' = [some (.int n), some (.int m), some (.int (L : Int)), some (.ref lp), some (.int (i : Int)), some (.ref lr), c6] ∧ Same H' H4 ∧ H4 lr = some (.lst (rs.map fun x => V.ref x.1)) ∧ (∀ x ∈ rs, H4 x.1 = some (.lst (W x.2)) ∧ H' x.1 = none) ∧ (rs.map fun x => x.2) = rd.map rowT ∧ RwDr n L rd, ?_, ?_⟩
    · refine ⟨_, rfl, _, rfl, _, _, rfl, rfl, _, _, rfl, rfl, ⟨(by show (0 : Int) < (i : Int) + 1; omega), (by show (i : Int) + 1 < 1073741824; omega)⟩, _, _, rfl, rfl, (by show (0 : Int) < 3; decide), _, _, rfl, rfl, _, rfl, ite2 (fun _ => ?_) (fun _ => ?_)⟩
      · -- branches
        have hc0 : 0 ≤ n / ((i : Int) + 3) % 4 := Int.emod_nonneg _ (by decide)
        have hc1 : n / ((i : Int) + 3) % 4 < 4 := Int.emod_lt_of_pos _ (by decide)
        obtain ⟨c, hc, hc4⟩ : ∃ c : Nat, n / ((i : Int) + 3) % 4 + 1 = (c : Int) ∧ 1 ≤ c ∧ c ≤ 4 := ⟨(n / ((i : Int) + 3) % 4 + 1).toNat, by omega, by omega, by omega⟩
        refine ⟨_, rfl, _, rfl, _, _, rfl, rfl, _, _, rfl, rfl, ⟨(by show (0 : Int) < (i : Int) + 3; omega), (by show (i : Int) + 3 < 1073741824; omega)⟩, _, _, rfl, rfl, (by show (0 : Int) < 4; decide), _, _, rfl, rfl, _, rfl, (by omega), (by omega), fun lb hlb => ?_⟩
        have enc : (n / ((i : Int) + 3) % 4 + 1 - 0).toNat = c := by omega
        rw [show (n / ((i : Int) + 3) % 4 + 1) = (c : Int) from hc]
        have nlb : H3 lb = none := hlb
        refine c1_range (lo := 0) (n := c) (cs := [some (.int (L : Int)), some (.int n)]) (tt := fun _ H Q => Q true H) (fun j ys H5 => ∃ bs : List (List Nat), bs.length = j ∧ (∀ x ∈ bs, ∃ y : Nat, y < L ∧ x = wd n y) ∧ ys = W bs ∧ H5 lb = some (.lst ys) ∧ Same H3 H5)
          ⟨[], rfl, fun x hx => (nomatch hx), rfl, upd_same, same_new hlb _⟩ ?_ ?_
        · rintro j ys H5 hj ⟨bs, hbl, hbk, rfl, hyb, g5⟩
          have ej : (0 : Int) + (j : Int) = (j : Int) := by omega
          rw [ej]
          have z0 : 0 ≤ n / ((j : Int) + 2) % (L : Int) := Int.emod_nonneg _ (by omega)
          have z1 : n / ((j : Int) + 2) % (L : Int) < (L : Int) := Int.emod_lt_of_pos _ (by omega)
          obtain ⟨y, hy, hyL⟩ : ∃ y : Nat, n / ((j : Int) + 2) % (L : Int) = (y : Int) ∧ y < L := ⟨_, (Int.toNat_of_nonneg z0).symm, by omega⟩
          refine iteT ⟨_, rfl, _, rfl, _, rfl, _, _, rfl, rfl, _, _, rfl, rfl, ⟨(by show (0 : Int) < (j : Int) + 2; omega), (by show (j : Int) + 2 < 1073741824; omega)⟩, _, rfl, _, _, rfl, rfl, (by show (0 : Int) < (L : Int); omega), n, (y : Int), (by rw [← hy]; rfl), fun H6 g6 => ?_⟩
          refine comp_next hj (g6 _ _ hyb) (by rw [W_len]; omega) ⟨bs ++ [wd n (y : Int)], by simp [hbl], fun x hx => ?_, by rw [W_app]; rfl, upd_same, fun b u e => ?_⟩
          · rcases List.mem_append.mp hx with hx | hx
            · exact hbk x hx
            · obtain rfl := List.mem_singleton.mp hx
              exact ⟨y, hyL, rfl⟩
          · rw [upd_ne (ne_of_none e hlb)]; exact g6 _ _ (g5 _ _ e)
        rintro ys H5 ⟨bs, hbl, hbk, rfl, hyb, g5⟩
        have hlr5 := g5 _ _ b3
        refine ⟨_, rfl, .inl ⟨rfl, _, SqL.of hlr5⟩, _, rfl, _, rfl, _, _, rfl, rfl, .inl ⟨by decide, by decide⟩, _, _, rfl, rfl, m, 2 * (i : Int) + 1, rfl, fun H6 g6 => ⟨(by show 2 ≤ sizeLine; decide), fun l7 hl7 => ?_⟩⟩
        rw [e40]
        have s7 := same_new hl7 (.lst (W [wd m (2 * (i : Int) + 1), [40]]))
        have b7 : upd H6 l7 (.lst (W [wd m (2 * (i : Int) + 1), [40]])) l7 = some (.lst (W [wd m (2 * (i : Int) + 1), [40]])) := upd_same
        change tVar _ _ (upd H6 l7 (.lst (W [wd m (2 * (i : Int) + 1), [40]]))) _
        generalize upd H6 l7 (.lst (W [wd m (2 * (i : Int) + 1), [40]])) = H7 at s7 b7 ⊢
        refine ⟨_, rfl, l7, lb, _, _, rfl, rfl, SqL.of b7, SqL.of ((g6.trans s7) _ _ hyb), (by rw [W_len, W_len]; exact line_of (by simp; omega)), fun l8 hl8 => ?_⟩
        rw [← W_app]
        have s8 := same_new hl8 (.lst (W ([wd m (2 * (i : Int) + 1), [40]] ++ bs)))
        have b8 : upd H7 l8 (.lst (W ([wd m (2 * (i : Int) + 1), [40]] ++ bs))) l8 = some (.lst (W ([wd m (2 * (i : Int) + 1), [40]] ++ bs))) := upd_same
        generalize upd H7 l8 (.lst (W ([wd m (2 * (i : Int) + 1), [40]] ++ bs))) = H8 at s8 b8 ⊢
        refine ⟨(by show 1 ≤ sizeLine; decide), fun l9 hl9 => ?_⟩
        rw [e41]
        have s9 := same_new hl9 (.lst (W [[41]]))
        have b9 : upd H8 l9 (.lst (W [[41]])) l9 = some (.lst (W [[41]])) := upd_same
        change rCatL K (.ref l8) (.ref l9) (upd H8 l9 (.lst (W [[41]]))) _
        generalize upd H8 l9 (.lst (W [[41]])) = H9 at s9 b9 ⊢
        refine ⟨l8, l9, _, _, rfl, rfl, SqL.of (s9 _ _ b8), SqL.of b9, (by rw [W_len, W_len]; exact line_of (by simp; omega)), fun la hla => ?_⟩
        rw [← W_app]
        have sa := same_new hla (.lst (W ([wd m (2 * (i : Int) + 1), [40]] ++ bs ++ [[41]])))
        have ba : upd H9 la (.lst (W ([wd m (2 * (i : Int) + 1), [40]] ++ bs ++ [[41]]))) la = some (.lst (W ([wd m (2 * (i : Int) + 1), [40]] ++ bs ++ [[41]]))) := upd_same
        generalize upd H9 la (.lst (W ([wd m (2 * (i : Int) + 1), [40]] ++ bs ++ [[41]]))) = Ha at sa ba
        have gA : Same H5 Ha := g6.trans (s7.trans (s8.trans (s9.trans sa)))
        have nla3 : H3 la = none := none_back (g5.trans (g6.trans (s7.trans (s8.trans s9)))) hla
        have nla : H' la = none := none_back g3 nla3
        have nelr : la ≠ lr := fun z => by rw [z, b3] at nla3; cases nla3
        refine ⟨lr, _, _, rfl, rfl, gA _ _ hlr5, (by show 1 < sizeLine; decide), ?_⟩
        refine ⟨[(r0, [wd m (2 * (i : Int))]), (la, [wd m (2 * (i : Int) + 1), [40]] ++ bs ++ [[41]])], [(wd m (2 * (i : Int)), []), (wd m (2 * (i : Int) + 1), bs)], _, rfl, fun b u e => ?_, ?_, fun x hx => ?_, ?_, wd m (2 * (i : Int)), hnm0, .inr ⟨wd m (2 * (i : Int) + 1), bs, wd_nm _ _, fun z => ?_, rfl, by omega, by omega, hbk⟩⟩
        · rw [upd_ne (ne_of_none e nlr)]; exact (g5.trans gA) _ _ (g3 _ _ e)
        · rw [upd_same]; rfl
        · rcases List.mem_cons.mp hx with rfl | hx
          · exact ⟨by rw [upd_ne nlr0]; exact (g5.trans gA) _ _ b4, nr0⟩
          · obtain rfl := List.mem_singleton.mp hx
            exact ⟨by rw [upd_ne nelr]; exact ba, nla⟩
        · have hb0 : bs ≠ [] := fun z => by rw [z] at hbl; simp at hbl; omega
          show [_, _] = [_, _]
          congr 2
          show _ = rowT (wd m (2 * (i : Int) + 1), bs)
          unfold rowT brT
          rw [if_neg hb0]
          simp
        · have := wd_inj (n := m) ⟨by omega, by omega⟩ ⟨by omega, by omega⟩ z
          omega
      · refine ⟨[(r0, [wd m (2 * (i : Int))])], [(wd m (2 * (i : Int)), [])], _, rfl, g3, b3, fun x hx => ?_, rfl, wd m (2 * (i : Int)), hnm0, .inl rfl⟩
        obtain rfl := List.mem_singleton.mp hx
        exact ⟨b4, nr0⟩
    rintro σ' H4 ⟨rs, rd, c6, rfl, g4, hlr4, hrs, hrd, hdr⟩
    refine ⟨_, rfl, .inl ⟨rfl, _, SqL.of (g4 _ _ hP.top)⟩, _, rfl, _, rfl, n, (i : Int), rfl, fun H5 g5 => ⟨_, rfl, (by show 2 ≤ sizeLine; decide), fun t ht => ?_⟩⟩
    have g6 := same_new ht (.lst [.str (S (wd n (i : Int))), .ref lr])
    have b6 : upd H5 t (.lst [.str (S (wd n (i : Int))), .ref lr]) t = some (.lst [.str (S (wd n (i : Int))), .ref lr]) := upd_same
    generalize upd H5 t (.lst [.str (S (wd n (i : Int))), .ref lr]) = H6 at g6 b6
    have g46 := g5.trans g6
    have gg := g4.trans g46
    have hP6 := hP.same gg
    have nt : H' t = none := none_back (g4.trans g5) ht
    have hpA : PartA H6 (t, [wd n (i : Int)], lr, rs) := ⟨by show H6 t = some (.lst [.str (S (gl [32] [wd n (i : Int)])), .ref lr]); rw [gl_one]; exact b6, g46 _ _ hlr4, fun x hx => g46 _ _ (hrs x hx).1⟩
    have hof : Off lp (t, [wd n (i : Int)], lr, rs) := ⟨fresh_ne nt hP.top, fresh_ne nlr hP.top, fun x hx => fresh_ne (hrs x hx).2 hP.top⟩
    refine ⟨lp, _, _, rfl, rfl, hP6.top, ?_, ?_⟩
    · have := hW.len
      have h2 := congrArg List.length hD
      rw [List.length_map, List.length_map] at h2
      rw [List.length_map]
      exact Nat.lt_of_le_of_lt (show _ ≤ 30 by omega) (by decide)
    refine ⟨ps ++ [(t, [wd n (i : Int)], lr, rs)], Wd ++ [(wd n (i : Int), rd)], _, _, _, rfl, fun b u e => ?_, hP6.add hpA hof, ?_, hW.add hdr⟩
    · rw [upd_ne (ne_of_none e hlp)]; exact gg _ _ (g _ _ e)
    · rw [List.map_append, List.map_append, hD]
      congr 1
      show [([wd n (i : Int)], rs.map fun x => x.2)] = [([wd n (i : Int)], rd.map rowT)]
      rw [hrd]
  · rintro σ H' ⟨ps, Wd, c4, c5, c6, rfl, g, hP, hD, hW⟩
    exact ⟨_, rfl, q lp H' ps Wd g hP hlp hD hW⟩
end
end K8
namespace L2
open PySem PySem.Spec PyProof.Rows PySem.Builtin PySem.Builtin.Str
theorem gives_repl1 (x y z : Str) (t u v k : Tok) (i : Nat) (ho : occurrences x y 0 x.length 1 = [i]) (hy : (y.length == 0 && z.length == 0) = false)
    (h0 : (u == 0 || v == 0) = false) (huv : (u == v) = false) (hyz : (y == z) = false) (hl : tooLong (x.length + 1 * z.length) = false) :
    Gives («str.replace» ⟨[.str x t, .str y u, .str z v, .int 1 k], []⟩) (.str (glued z (partsBetween x [i] y.length))) := by
  have e : «str.replace» ⟨[.str x t, .str y u, .str z v, .int 1 k], []⟩ = retStr (glued z (partsBetween x [i] y.length)) := by
    show (do let limit ← countLimit "str.replace" (some (.int 1 k)) (x.length + 1); _) = _
    rw [countLimit_int "str.replace" 1 k (x.length + 1) (by decide)]
    show (if ((occurrences x y 0 x.length 1).isEmpty || (y.length == 0 && z.length == 0)) = true then (do rule "str.replace.nothing"; ret (.str x t)) else
          (do let same ← isSame (.str y u) (.str z v)
              if same = true then (do rule "str.replace.old-is-new"; ret (.str x t)) else
              if tooLong (x.length + (occurrences x y 0 x.length 1).length * z.length) = true then unsupported "str.replace:memory" else
              retStr (glued z (partsBetween x (occurrences x y 0 x.length 1) y.length)))) = _
    rw [ho, hy, isSame_str_other y z u v h0 huv hyz]
    show (if tooLong (x.length + 1 * z.length) = true then _ else _) = _
    rw [hl]
    rfl
  rw [e]
  exact .of_eq rfl
end L2
namespace L2
open PySem PySem.Spec PyProof.Rows PySem.Builtin PySem.Builtin.Str
section
variable {X : Cx}
theorem ld_var {i : Nat} {x : Str} {pos : Pos} {pins : List (Addr × Obj)} {s : Shared} {σ : St} {H : Hp} {v : V} {Q : Value → Shared → Prop} {E : Value → Shared → Prop} (I : Inv X pins σ H s) (hN : X.N[i]? = some x) (hv : Vis X.env.scope x) (hd : (x == ("__debug__" : Str)) = false) (hcd : (x == ("__classdict__" : Str)) = false) (e : σ[i]? = some (some v))
    (h : ∀ u, RelV v u → Q u s) : wpAny (model X.prog X.w) X.A (eval (.Name x pos) X.env) Q E s := by
  obtain ⟨m, hn, hl⟩ := I.loc
  obtain ⟨u, r, l⟩ := hl i x v hN e hv
  have fin := h u r
  rcases l with ⟨hk, hm⟩ | ⟨hk, c, hc, hcell⟩
  · exact wpAny_Name (wpAny_loadName_local I.ok.kind hk hn hm fin) hd
  · rcases hk with hk | hk
    · exact wpAny_Name (wpAny_loadName_cell I.ok.kind hk hc hcell fin) hd
    · exact wpAny_Name (wpAny_loadName_free I.ok.kind hk hc hcell fin hcd) hd
def tIfRep (ta to : TE) (i : Int) (y z : Str) : TS := fun D σ H => ta σ H fun x H1 => ∃ w : Int, x = .int w ∧
  (w = i → to σ H1 fun v H2 => ∃ (t : Str) (j : Nat), v = .str t ∧ occurrences t y 0 t.length 1 = [j] ∧ (glued z (partsBetween t [j] y.length)).length ≤ sizeLine ∧ t.length + 1 * z.length ≤ 16777216 ∧ D.rt (.str (glued z (partsBetween t [j] y.length))) H2) ∧ (w ≠ i → D.nx σ H1)
theorem ps_ifRep {a : Expr} {ta : TE} {i : Int} {n : Nat} {x : Str} {y z : Str} {c1 c2 c3 c4 : Nat} {p1 p2 p3 p4 p5 p6 p7 cpos apos : Pos} (ha : PE X a ta) (hn : X.N[n]? = some x) (hv : Vis X.env.scope x)
    (hy : (y.length == 0 && z.length == 0) = false) (hyz : (y == z) = false)
    (hbase : attributeBase (.Name x p3) "replace" X.env (eval (.Name x p3) X.env) = eval (.Name x p3) X.env := by rfl)
    (hd : (x == ("__debug__" : Str)) = false := by decide) (hcd : (x == ("__classdict__" : Str)) = false := by decide)
    (hfew : ((backTo cpos (starEach [.Constant (.str y) c2 p4, .Constant (.str z) c3 p5, .Constant (.int 1) c4 p6] X.env)).all (fun x => !x.1) && (backToKw cpos (keywordEach [] X.env)).all (fun x => x.1.isSome)
      && decide ([Expr.Constant (.str y) c2 p4, .Constant (.str z) c3 p5, .Constant (.int 1) c4 p6].length + ([] : List Keyword).length + (if ([] : List Keyword).isEmpty then 0 else 1) < 30)) = true := by rfl)
    (hline : (apos.endLine == cpos.line) = true := by rfl) :
    PS X (.If (.Compare a [.Eq] [.Constant (.int i) c1 p1] p2) [.Return (some (.Call (.Attribute (.Name x p3) "replace" apos) [.Constant (.str y) c2 p4, .Constant (.str z) c3 p5, .Constant (.int 1) c4 p6] [] cpos)) p7] [] pos) (tIfRep ta (tVar n) i y z) := by
  intro pins s σ H D I h
  refine wpAny_If (wpAny_isTrue_Compare1 (thn (ha pins s σ H _ I h) fun v s1 ⟨x', H1, I1, r1, q1⟩ => wpAny_Constant_int ?_) (by with_unfolding_all rfl))
  obtain ⟨w, rfl, q2, q3⟩ := q1
  obtain ⟨t, rfl⟩ := r1
  refine eq_int (wpAny_truthy_bool ?_)
  have I2 := I1.tok (s1.toks + 1)
  by_cases e : w = i
  · have e1 : (w == i) = true := by simp [e]
    rw [e1]
    refine wpAny_execs_cons (thn (Q := SP X pins D) (wpAny_Return_some (Q := SP X pins D) ?_) fun f s1 q => by
      cases f with
      | next => exact wpAny_execs_nil q
      | ret v => exact q
      | brk => exact q
      | cont => exact q)
    obtain ⟨v, hv1, q4⟩ := q2 e
    refine wpAny_Call_method_late hbase hfew hline rfl (ld_var I2 hn hv hd hcd hv1 fun u ru => ?_)
    obtain ⟨tx, j, rfl, ho, hl, hb, qd⟩ := q4
    obtain ⟨tk, rfl⟩ := ru
    refine ⟨"str", "str.replace", PySem.F.plainAttrs_str, PySem.F.slot_str_replace, PySem.F.type_str_replace, typeIs_str _ _ _, (fun _ z => nomatch z), ?_⟩
    refine Calls.callWith_builtin rfl (Calls.evalArgs_plain ?_)
    refine Calls.spliced_cons (Calls.Constant_str (k := c2) (pos := p4) (Calls.spliced_cons (Calls.Constant_str (k := c3) (pos := p5) (Calls.spliced_cons (wpAny_Constant_int (k := c4) (pos := p6) (Calls.spliced_nil ?_))))))
    refine call_gives PySem.F.slot_str_replace (typeIs_str _ _ _) PySem.F.entry_str_replace (PySem.F.args_str_replace_4 _ _ _ _)
      (gives_repl1 tx y z tk _ _ _ j ho hy ?_ ?_ hyz ?_) ?_
    · simp
    · simp
    · unfold tooLong; exact decide_eq_false (by rw [sizeLine_eq]; omega)
    · exact ⟨hl, (show SP X pins D (.ret _) _ from ⟨.str _, σ, H1, (I2.tok _), ⟨_, rfl⟩, qd⟩)⟩
  · have e1 : (w == i) = false := by simp [e]
    rw [e1]
    exact wpAny_execs_nil ⟨σ, H1, I2, q3 e⟩
end
end L2
namespace K8
open PySem L2 K3 TM K9
theorem pt_mid {α : Type} (sg : List Nat) (tk : α → List (List Nat)) (x : α) (b : List α) : ∀ a : List α, ptT sg tk (a ++ x :: b) = (a.flatMap fun y => tk y ++ [sg]) ++ (tk x ++ tlT sg tk b)
  | [] => rfl
  | [y] => by simp [ptT, tlT, List.flatMap_cons]
  | y :: z :: r => by
    have ih := pt_mid sg tk x b (z :: r)
    have e : ptT sg tk (y :: (z :: r ++ x :: b)) = tk y ++ (sg :: ptT sg tk (z :: r ++ x :: b)) := by simp [ptT, tlT, List.flatMap_cons]
    rw [List.cons_append, e, ih, List.flatMap_cons]
    simp
theorem set_mid {α : Type} (x : α) : ∀ (xs : List α) (k : Nat), k < xs.length → xs.set k x = xs.take k ++ x :: xs.drop (k + 1)
  | y :: r, 0, _ => rfl
  | y :: r, k + 1, h => by
    rw [List.set_cons_succ, set_mid x r k (by simpa using h)]
    rfl
theorem self_mid {α : Type} (xs : List α) (k : Nat) (h : k < xs.length) : xs = xs.take k ++ xs[k] :: xs.drop (k + 1) := by
  have := set_mid xs[k] xs k h
  rw [List.set_getElem_self] at this
  exact this
theorem set_len {α : Type} (sg : List Nat) (tk : α → List (List Nat)) (x : α) (xs : List α) (k : Nat) (h : k < xs.length) : (ptT sg tk (xs.set k x)).length + (tk xs[k]).length = (ptT sg tk xs).length + (tk x).length := by
  have e1 : (ptT sg tk xs).length = (ptT sg tk (xs.take k ++ xs[k] :: xs.drop (k + 1))).length := by rw [← self_mid xs k h]
  rw [e1, set_mid x xs k h, pt_mid, pt_mid]
  simp only [List.length_append]
  omega
def FoT (tl : List (List Nat)) : Prop := tl = [] ∨ ∃ r, tl = [59] :: r
theorem tl_foT {α : Type} (tk : α → List (List Nat)) (xs : List α) : FoT (tlT [59] tk xs) := by
  cases xs with
  | nil => exact .inl rfl
  | cons x r => exact .inr ⟨_, by simp [tlT, List.flatMap_cons]; rfl⟩
structure BadP (p : Part) (n : Nat) : Prop where
  wd : WdP p
  sh : ShP 9 p
  no : ∀ tl, FoT tl → ¬ Ac 0 (kw p ++ tl)
  len : (kw p).length ≤ n + 10
theorem set_no {Wd : List KindD} (hn : ∀ k ∈ Wd, NmK k) {k : Nat} (h : k < Wd.length) {p : Part} {n : Nat} (hb : BadP p n) : ¬ Ac 0 (wordsD ((Wd.map partD).set k p)) := fun a => by
  have hk : k < (Wd.map partD).length := by rw [List.length_map]; exact h
  unfold wordsD at a
  rw [set_mid p _ k hk, pt_mid] at a
  refine hb.no _ (tl_foT kw ((Wd.map partD).drop (k + 1))) (ac_pre (Wd.take k) (fun x hx => hn x (List.mem_of_mem_take hx)) ?_)
  have e : ((Wd.map partD).take k).flatMap (fun y => kw y ++ [[59]]) = (Wd.take k).flatMap fun k => kindT k ++ [[59]] := by
    rw [← List.map_take, List.flatMap_map]
    congr 1
    funext x
    rw [kw_part]
  rw [← e]; exact a
theorem mem_set {Wd : List KindD} (hn : ∀ k ∈ Wd, NmK k) {k : Nat} {p : Part} (h1 : WdP p) (h2 : ShP 9 p) : ∀ q ∈ (Wd.map partD).set k p, WdP q ∧ ShP 9 q := fun q hq => by
  rcases List.mem_or_eq_of_mem_set hq with hq | rfl
  · obtain ⟨x, hx, rfl⟩ := List.mem_map.mp hq
    exact part_words (hn x hx)
  · exact ⟨h1, h2⟩
theorem pt_more {α : Type} (sg : List Nat) (tk : α → List (List Nat)) (x : α) (xs : List α) (h : xs ≠ []) : ptT sg tk (xs ++ [x]) = ptT sg tk xs ++ sg :: tk x := by
  cases xs with
  | nil => exact absurd rfl h
  | cons y r => simp [ptT, tlT, List.flatMap_append]
theorem kw_more {k : KindD} (hk : NmK k) (br : List (List Nat)) : kw ([k.1], k.2.map rowT ++ [br]) = kindT k ++ [124] :: br := by
  show [k.1] ++ [61] :: ptT [124] id (k.2.map rowT ++ [br]) = _
  rw [pt_more _ _ _ _ (by simpa using hk.2.1), pt_map]
  rfl
theorem bad_more {k : KindD} (hk : NmK k) {br : List (List Nat)} (h1 : ∀ w ∈ br, Word w ∧ w.length ≤ 9) (h2 : br.length ≤ 9) (no : ∀ tl, FoT tl → ¬ Ac 2 (br ++ tl)) : BadP ([k.1], k.2.map rowT ++ [br]) (kindT k).length := by
  obtain ⟨a, b⟩ := part_words hk
  refine ⟨⟨a.1, fun r hr w hw => ?_⟩, ⟨b.1, fun r hr w hw => ?_⟩, fun tl htl h => no tl htl ?_, ?_⟩
  · rcases List.mem_append.mp hr with hr | hr
    · exact a.2 r hr w hw
    · obtain rfl := List.mem_singleton.mp hr; exact (h1 w hw).1
  · rcases List.mem_append.mp hr with hr | hr
    · exact b.2 r hr w hw
    · obtain rfl := List.mem_singleton.mp hr; exact (h1 w hw).2
  · rw [kw_more hk, List.append_assoc] at h
    have := ac_kind hk h
    have e : Ac 3 ([124] :: (br ++ tl)) := this
    cases e with
    | b3 h => exact h
  · rw [kw_more hk, List.length_append, List.length_cons]; omega
theorem ac_fo {tl : List (List Nat)} (h : FoT tl) : ¬ Ac 2 tl := fun a => by
  rcases h with rfl | ⟨r, rfl⟩
  · cases a
  · cases a with
    | n hb _ => cases hb
theorem bad0 {k : KindD} (hk : NmK k) : BadP ([k.1], k.2.map rowT ++ [[]]) (kindT k).length := bad_more hk (fun w hw => (nomatch hw)) (by decide) fun tl h => ac_fo h
theorem bad1 {k : KindD} (hk : NmK k) {u : List Nat} (hu : Nm u) : BadP ([k.1], k.2.map rowT ++ [[u, [40], [41]]]) (kindT k).length := by
  refine bad_more hk (fun w hw => ?_) (by simp) fun tl h a => ?_
  · simp only [List.mem_cons, List.not_mem_nil, or_false] at hw
    rcases hw with rfl | rfl | rfl
    · exact ⟨hu.word, by have := hu.len; omega⟩
    · exact ⟨.sign (by decide), by decide⟩
    · exact ⟨.sign (by decide), by decide⟩
  · have a' : Ac 2 (u :: [40] :: [41] :: tl) := a
    cases a' with
    | n _ a => cases a with
      | op a => cases a with
        | f hb _ => cases hb
theorem bad2 {k : KindD} (hk : NmK k) {u : List Nat} (hu : Nm u) : BadP ([k.1], k.2.map rowT ++ [[u, [40], k.1]]) (kindT k).length := by
  refine bad_more hk (fun w hw => ?_) (by simp) fun tl h a => ?_
  · simp only [List.mem_cons, List.not_mem_nil, or_false] at hw
    rcases hw with rfl | rfl | rfl
    · exact ⟨hu.word, by have := hu.len; omega⟩
    · exact ⟨.sign (by decide), by decide⟩
    · exact ⟨hk.1.word, by have := hk.1.len; omega⟩
  · have a' : Ac 2 (u :: [40] :: k.1 :: tl) := a
    cases a' with
    | n _ a => cases a with
      | op a => cases a with
        | f hb a =>
          rcases h with rfl | ⟨r, rfl⟩
          · cases a
          · cases a with
            | m hb _ => cases hb
theorem fig_let : ∀ c : Nat, (c ∈ figL ∨ c = 45) → c ∉ letL := by
  intro c h
  have h1 : ∀ c ∈ figL, c ∉ letL := by decide
  rcases h with h | rfl
  · exact h1 c h
  · decide
theorem bad3 {k : KindD} (hk : NmK k) {u : List Nat} (hu : Nm u) {n : Int} (hn : (sh n).length ≤ 9) (hw : Word (sh n)) : BadP ([k.1], k.2.map rowT ++ [[u, [40], sh n, [41]]]) (kindT k).length := by
  refine bad_more hk (fun w hw' => ?_) (by simp) fun tl h a => ?_
  · simp only [List.mem_cons, List.not_mem_nil, or_false] at hw'
    rcases hw' with rfl | rfl | rfl | rfl
    · exact ⟨hu.word, by have := hu.len; omega⟩
    · exact ⟨.sign (by decide), by decide⟩
    · exact ⟨hw, hn⟩
    · exact ⟨.sign (by decide), by decide⟩
  · have a' : Ac 2 (u :: [40] :: sh n :: [41] :: tl) := a
    obtain ⟨c, r, e, hc⟩ := sh_head n
    rw [e] at a'
    cases a' with
    | n _ a => cases a with
      | op a => cases a with
        | f hb _ => exact fig_let c hc (of_decide_eq_true hb)
theorem bad4 {k : KindD} (hk : NmK k) : BadP ([k.1, k.1], k.2.map rowT) (kindT k).length := by
  obtain ⟨a, b⟩ := part_words hk
  refine ⟨⟨fun w hw => ?_, a.2⟩, ⟨fun w hw => ?_, b.2⟩, fun tl htl h => ?_, ?_⟩
  · simp only [List.mem_cons, List.not_mem_nil, or_false, or_self] at hw
    rw [hw]; exact hk.1.word
  · simp only [List.mem_cons, List.not_mem_nil, or_false, or_self] at hw
    rw [hw]; have := hk.1.len; omega
  · have h' : Ac 0 (k.1 :: k.1 :: ([61] :: (ptT [124] id (k.2.map rowT) ++ tl))) := h
    generalize he : k.1 = u at h'
    have hb := (nm_beg hk.1).1
    rw [he] at hb
    cases h' with
    | k _ h => cases h with
      | eq _ => cases hb
  · have e : (kw ([k.1, k.1], k.2.map rowT)).length = (kindT k).length + 1 := by
      show ([k.1, k.1] ++ [61] :: ptT [124] id (k.2.map rowT)).length = _
      rw [pt_map]
      show _ = (k.1 :: [61] :: ptT [124] rowT k.2).length + 1
      simp
    omega
theorem bad5 {Wd : List KindD} (h0 : Wd ≠ []) (hn : ∀ k ∈ Wd, NmK k) {x : List Nat} (hx : x ∈ [[59], [58], [61], [124], [97], [40]]) : ¬ Ac 0 (woodT Wd ++ [x]) := fun a => by
  have a := ac_wood h0 hn a
  simp only [List.mem_cons, List.not_mem_nil, or_false] at hx
  rcases hx with rfl | rfl | rfl | rfl | rfl | rfl
  · cases a with
    | s3 a => cases a
  · cases a
  · cases a
  · cases a with
    | b3 a => cases a
  · cases a
  · cases a with
    | op a => cases a
theorem bad7 {ws : List (List Nat)} {x : List Nat} (hx : x ∈ [[59], [61], [124], [40], [41], [42], [55]]) : ¬ Ac 0 (x :: ws) := fun a => by
  have hb : beg x letL = true := by cases a with | k hb _ => exact hb
  have : ∀ y ∈ ([[59], [61], [124], [40], [41], [42], [55]] : List (List Nat)), beg y letL = false := by decide
  rw [this x hx] at hb
  cases hb
theorem word_no32 {w : List Nat} (h : Word w) : 32 ∉ w := fun hm => by
  have h1 : 32 ∉ sgnL := by decide
  have h2 : 32 ∉ letL := by decide
  have h3 : 32 ∉ figL := by decide
  cases h with
  | sign h => exact h1 (by rw [List.mem_singleton.mp hm]; exact h)
  | name _ _ h => exact h2 (h _ hm)
  | num h => exact h3 (h.all _ hm)
  | neg h _ => rcases List.mem_cons.mp hm with e | hm
               · cases e
               · exact h3 (h.all _ hm)
theorem pre_split {w t u r : List Nat} (h : w ++ t = u ++ 32 :: r) (hw : 32 ∉ w) : ∃ u', u = w ++ u' ∧ t = u' ++ 32 :: r := by
  induction w generalizing u with
  | nil => exact ⟨u, rfl, h⟩
  | cons c w ih =>
    cases u with
    | nil =>
      injection h with h1 h2
      exact absurd (by rw [h1]; exact List.mem_cons_self) hw
    | cons d u =>
      injection h with h1 h2
      obtain ⟨u', e1, e2⟩ := ih h2 fun z => hw (List.mem_cons_of_mem _ z)
      exact ⟨u', by rw [h1, e1]; rfl, e2⟩
theorem sep_head {w a b : List Nat} (h : Sep w a) (e : a[0]? = b[0]?) : Sep w b := fun x y hx hy => h x y hx (by rw [e]; exact hy)
theorem word_eq {w t v : List Nat} (h : Word w) (e : w ++ t = 61 :: v) : w = [61] := by
  have hh : ∀ c r, w = c :: r → c = 61 := fun c r z => by rw [z] at e; injection e
  have h2 : 61 ∉ letL := by decide
  have h3 : 61 ∉ figL := by decide
  cases h with
  | @sign c h => rw [hh c [] rfl]
  | name h0 _ h =>
    cases w with
    | nil => exact absurd rfl h0
    | cons c r => exact absurd (by rw [← hh c r rfl]; exact h c List.mem_cons_self) h2
  | num h =>
    cases w with
    | nil => exact absurd rfl h.ne
    | cons c r => exact absurd (by rw [← hh c r rfl]; exact h.all c List.mem_cons_self) h3
  | neg h _ => exact absurd (hh _ _ rfl) (by decide)
theorem eq_first {y x : List Nat} {ws : List (List Nat)} (h : Writ y ws) (e : y = 61 :: x) : ∃ b, ws = [61] :: b ∧ Writ x b := by
  cases h with
  | nil => cases e
  | blank h => exact absurd e (by intro z; injection z with z1 _; cases z1)
  | @word w t ws hw hs ht =>
    obtain rfl := word_eq hw e
    injection e with _ e
    exact ⟨ws, rfl, by rw [← e]; exact ht⟩
theorem cut_eq {z : List Nat} {ws : List (List Nat)} (h : Writ z ws) : ∀ u v, z = u ++ 32 :: 61 :: 32 :: v → ∃ a b, ws = a ++ [61] :: b ∧ Writ (u ++ 32 :: v) (a ++ b) := by
  induction h with
  | nil => intro u v e; cases u <;> cases e
  | @blank t ws h ih =>
    intro u v e
    cases u with
    | nil =>
      injection e with _ e
      obtain ⟨b, rfl, h2⟩ := eq_first h e
      exact ⟨[], b, rfl, h2⟩
    | cons d u =>
      injection e with e1 e2
      obtain ⟨a, b, e3, h3⟩ := ih u v e2
      exact ⟨a, b, e3, by rw [← e1]; exact .blank h3⟩
  | @word w t ws hw hs ht ih =>
    intro u v e
    obtain ⟨u', rfl, e2⟩ := pre_split e (word_no32 hw)
    obtain ⟨a, b, e3, h3⟩ := ih u' v e2
    refine ⟨w :: a, b, by rw [e3]; rfl, ?_⟩
    rw [List.append_assoc]
    refine .word hw (sep_head hs ?_) h3
    rw [e2]
    cases u' <;> rfl
end K8
namespace K8
open PySem L2 K3 TM K9
theorem repl_ok {z u v : List Nat} (hz : z = u ++ 32 :: 61 :: 32 :: v) : ∃ (i : Nat) (u' v' : List Nat), Builtin.Str.occurrences (S z) (S [32, 61, 32]) 0 (S z).length 1 = [i] ∧ z = u' ++ 32 :: 61 :: 32 :: v' ∧ Builtin.Str.glued (S [32]) (Builtin.Str.partsBetween (S z) [i] (S [32, 61, 32]).length) = S (u' ++ 32 :: v') := by
  have hf : (!(Builtin.Str.occurrences (S z) (S [32, 61, 32]) 0 (S z).length 1).isEmpty) = true := by
    refine (PySem.StrLaws.found_iff _ _).mpr ⟨u.length, ?_, ?_⟩
    · rw [S_len, S_len, hz]; simp
    · unfold Builtin.Str.subAt
      have : (S z).cps.extract u.length (u.length + (S [32, 61, 32]).length) = (S [32, 61, 32]).cps := by
        apply Array.toList_inj.mp
        rw [Array.toList_extract, S_list, S_list, S_len, hz, List.extract_eq_take_drop]
        simp
      rw [this]; simp
  have hl := PySem.StrLaws.occ_length_le (S z) (S [32, 61, 32]) 0 (S z).length 1
  have hs := PySem.StrLaws.occ_spec (S z) (S [32, 61, 32]) 0 (S z).length 1
  generalize Builtin.Str.occurrences (S z) (S [32, 61, 32]) 0 (S z).length 1 = o at hf hl hs
  match o, hf, hl, hs with
  | [], hf, _, _ => cases hf
  | i :: j :: r, _, hl, _ => simp at hl
  | [i], _, _, hs =>
    obtain ⟨h1, h2⟩ := hs i List.mem_cons_self
    unfold Builtin.Str.subAt at h2
    have h3 : (S z).cps.extract i (i + (S [32, 61, 32]).length) = (S [32, 61, 32]).cps := by simpa using h2
    have h4 := congrArg Array.toList h3
    rw [Array.toList_extract, S_list, S_list, S_len, List.extract_eq_take_drop] at h4
    have h5 : (z.drop i).take 3 = [32, 61, 32] := by
      have : i + [32, 61, 32].length - i = 3 := by show i + 3 - i = 3; omega
      rw [this] at h4; exact h4
    refine ⟨i, z.take i, z.drop (i + 3), rfl, ?_, ?_⟩
    · have e1 : z = z.take i ++ ((z.drop i).take 3 ++ (z.drop i).drop 3) := by rw [List.take_append_drop, List.take_append_drop]
      rw [h5, List.drop_drop] at e1
      exact e1
    · unfold Builtin.Str.partsBetween Builtin.Str.glued Builtin.Str.strSub
      have hi : i + 3 ≤ z.length := by rw [S_len, S_len] at h1; exact h1
      show (⟨(S z).cps.extract 0 i ++ (S [32]).cps ++ (S z).cps.extract (i + (S [32, 61, 32]).length) (S z).length⟩ : Str) = _
      congr 1
      apply Array.toList_inj.mp
      rw [Array.toList_append, Array.toList_append, Array.toList_extract, Array.toList_extract, S_list, S_list, S_len, S_len, List.extract_eq_take_drop, List.extract_eq_take_drop]
      show (z.drop 0).take (i - 0) ++ [32] ++ (z.drop (i + 3)).take (z.length - (i + 3)) = z.take i ++ 32 :: z.drop (i + 3)
      rw [List.drop_zero, Nat.sub_zero, List.take_of_length_le (l := z.drop (i + 3)) (by rw [List.length_drop]; omega), List.append_assoc]
      rfl
theorem text_eq {ps : List Part} (h : ps ≠ []) : ∃ u v, textS ps = u ++ 32 :: 61 :: 32 :: v := by
  cases ps with
  | nil => exact absurd rfl h
  | cons p r =>
    refine ⟨gl [32] p.1, rowsS p.2 ++ (r.map partS).flatMap (fun y => [59, 32] ++ y), ?_⟩
    show partS p ++ _ = _
    unfold partS
    simp
theorem six_at (n : Int) {a b c d e f : V} : ∃ v, (v = a ∨ v = b ∨ v = c ∨ v = d ∨ v = e ∨ v = f) ∧ atI [a, b, c, d, e, f] (n % 6) = some v := by
  have h0 : 0 ≤ n % 6 := Int.emod_nonneg _ (by decide)
  have h1 : n % 6 < 6 := Int.emod_lt_of_pos _ (by decide)
  rcases (show n % 6 = 0 ∨ n % 6 = 1 ∨ n % 6 = 2 ∨ n % 6 = 3 ∨ n % 6 = 4 ∨ n % 6 = 5 by omega) with h | h | h | h | h | h <;> rw [h]
  · exact ⟨a, .inl rfl, rfl⟩
  · exact ⟨b, .inr (.inl rfl), rfl⟩
  · exact ⟨c, .inr (.inr (.inl rfl)), rfl⟩
  · exact ⟨d, .inr (.inr (.inr (.inl rfl))), rfl⟩
  · exact ⟨e, .inr (.inr (.inr (.inr (.inl rfl)))), rfl⟩
  · exact ⟨f, .inr (.inr (.inr (.inr (.inr rfl)))), rfl⟩
theorem seven_at (n : Int) {a b c d e f g : V} : ∃ v, (v = a ∨ v = b ∨ v = c ∨ v = d ∨ v = e ∨ v = f ∨ v = g) ∧ atI [a, b, c, d, e, f, g] (n % 7) = some v := by
  have h0 : 0 ≤ n % 7 := Int.emod_nonneg _ (by decide)
  have h1 : n % 7 < 7 := Int.emod_lt_of_pos _ (by decide)
  rcases (show n % 7 = 0 ∨ n % 7 = 1 ∨ n % 7 = 2 ∨ n % 7 = 3 ∨ n % 7 = 4 ∨ n % 7 = 5 ∨ n % 7 = 6 by omega) with h | h | h | h | h | h | h <;> rw [h]
  · exact ⟨a, .inl rfl, rfl⟩
  · exact ⟨b, .inr (.inl rfl), rfl⟩
  · exact ⟨c, .inr (.inr (.inl rfl)), rfl⟩
  · exact ⟨d, .inr (.inr (.inr (.inl rfl))), rfl⟩
  · exact ⟨e, .inr (.inr (.inr (.inr (.inl rfl)))), rfl⟩
  · exact ⟨f, .inr (.inr (.inr (.inr (.inr (.inl rfl))))), rfl⟩
  · exact ⟨g, .inr (.inr (.inr (.inr (.inr (.inr rfl))))), rfl⟩
structure NoForm (z : List Nat) : Prop where
  ex : ∃ ws, Writ z ws ∧ readR ws = none ∧ ws.length ≤ 1000
  len : z.length ≤ 9000
theorem form5 {Wd : List KindD} (h0 : Wd ≠ []) (hn : ∀ k ∈ Wd, NmK k) (hl : (woodT Wd).length ≤ 700) {x y : List Nat} (hy : y = x ∨ y = 32 :: x) (hx : x ∈ [[59], [58], [61], [124], [97], [40]]) (hs : x = [97] → y = 32 :: x) : NoForm (textS (Wd.map partD) ++ y) := by
  have hw := wr_text (ps := Wd.map partD) fun p hp => by obtain ⟨k, hk, rfl⟩ := List.mem_map.mp hp; exact (part_words (hn k hk)).1
  have ht := len_text (m := 9) (by decide) (ps := Wd.map partD) fun p hp => by obtain ⟨k, hk, rfl⟩ := List.mem_map.mp hp; exact (part_words (hn k hk)).2
  rw [words_wood] at hw ht
  have hb := bad5 h0 hn hx
  have hx1 : x.length = 1 := by
    have : ∀ x ∈ ([[59], [58], [61], [124], [97], [40]] : List (List Nat)), x.length = 1 := by decide
    exact this x hx
  have hyl : y.length ≤ 2 := by rcases hy with rfl | rfl <;> simp [hx1]
  have hword : ∀ x ∈ ([[59], [58], [61], [124], [97], [40]] : List (List Nat)), Writ x [x] ∧ (x = [97] ∨ En x) := by
    intro x hx
    simp only [List.mem_cons, List.not_mem_nil, or_false] at hx
    rcases hx with rfl | rfl | rfl | rfl | rfl | rfl
    · exact ⟨wr_sg (by decide) .nil, .inr (En.cons (by decide))⟩
    · exact ⟨wr_sg (by decide) .nil, .inr (En.cons (by decide))⟩
    · exact ⟨wr_sg (by decide) .nil, .inr (En.cons (by decide))⟩
    · exact ⟨wr_sg (by decide) .nil, .inr (En.cons (by decide))⟩
    · have : Writ ([97] ++ []) ([97] :: []) := .word (.name (by decide) (by decide) (by decide)) (Sep.nil _) .nil
      exact ⟨this, .inl rfl⟩
    · exact ⟨wr_sg (by decide) .nil, .inr (En.cons (by decide))⟩
  obtain ⟨w1, w2⟩ := hword x hx
  have hr : Writ y [x] ∧ En y := by
    rcases hy with rfl | rfl
    · refine ⟨w1, w2.resolve_left fun z => ?_⟩
      have := congrArg List.length (hs z)
      simp at this
    · exact ⟨.blank w1, En.cons (by decide)⟩
  refine ⟨⟨woodT Wd ++ [x], hw _ _ hr.1 hr.2, no_read hb, by rw [List.length_append]; simp; omega⟩, ?_⟩
  rw [List.length_append]; omega
theorem form7 {Wd : List KindD} (hn : ∀ k ∈ Wd, NmK k) (hl : (woodT Wd).length ≤ 700) {x y : List Nat} (hy : (y = x ∧ x ∈ [[59], [61], [124], [40], [41], [42]]) ∨ (x = [55] ∧ y = [55, 32])) : NoForm (y ++ textS (Wd.map partD)) := by
  have hw := writ_text (ps := Wd.map partD) fun p hp => by obtain ⟨k, hk, rfl⟩ := List.mem_map.mp hp; exact (part_words (hn k hk)).1
  have ht := len_text (m := 9) (by decide) (ps := Wd.map partD) fun p hp => by obtain ⟨k, hk, rfl⟩ := List.mem_map.mp hp; exact (part_words (hn k hk)).2
  rw [words_wood] at hw ht
  have key : Writ (y ++ textS (Wd.map partD)) (x :: woodT Wd) ∧ x ∈ [[59], [61], [124], [40], [41], [42], [55]] ∧ y.length ≤ 2 := by
    rcases hy with ⟨rfl, hx⟩ | ⟨rfl, rfl⟩
    · simp only [List.mem_cons, List.not_mem_nil, or_false] at hx
      rcases hx with rfl | rfl | rfl | rfl | rfl | rfl <;> exact ⟨wr_sg (by decide) hw, by decide, by decide⟩
    · refine ⟨?_, by decide, by decide⟩
      have : Writ ([55] ++ (32 :: textS (Wd.map partD))) ([55] :: woodT Wd) := .word (.num ⟨by decide, by decide, by decide, by decide⟩) (Sep.blank _ _) (.blank hw)
      exact this
  obtain ⟨k1, k2, k3⟩ := key
  refine ⟨⟨x :: woodT Wd, k1, no_read (bad7 k2), by rw [List.length_cons]; omega⟩, ?_⟩
  rw [List.length_append]; omega
theorem form6 {Wd : List KindD} (h0 : Wd ≠ []) (hn : ∀ k ∈ Wd, NmK k) (hl : (woodT Wd).length ≤ 700) {u v : List Nat} (hz : textS (Wd.map partD) = u ++ 32 :: 61 :: 32 :: v) : NoForm (u ++ 32 :: v) := by
  have hw := writ_text (ps := Wd.map partD) fun p hp => by obtain ⟨k, hk, rfl⟩ := List.mem_map.mp hp; exact (part_words (hn k hk)).1
  have ht := len_text (m := 9) (by decide) (ps := Wd.map partD) fun p hp => by obtain ⟨k, hk, rfl⟩ := List.mem_map.mp hp; exact (part_words (hn k hk)).2
  rw [words_wood] at hw ht
  obtain ⟨a, b, e, h⟩ := cut_eq hw u v hz
  have hA := read_ac (read_woodT h0 hn)
  rw [e] at hA
  have hlen := congrArg List.length e
  have hlz := congrArg List.length hz
  simp only [List.length_append, List.length_cons] at hlen hlz
  refine ⟨⟨a ++ b, h, no_read (no_eq hA), by rw [List.length_append]; omega⟩, ?_⟩
  simp only [List.length_append, List.length_cons]; omega
theorem form0 {Wd : List KindD} (hn : ∀ k ∈ Wd, NmK k) (hl : (woodT Wd).length ≤ 700) {k : Nat} (h : k < Wd.length) {p : Part} (hb : BadP p (kindT Wd[k]).length) : NoForm (textS ((Wd.map partD).set k p)) ∧ (∀ q ∈ (Wd.map partD).set k p, ShP 9 q) ∧ (wordsD ((Wd.map partD).set k p)).length ≤ 800 := by
  have hm := mem_set (k := k) hn hb.wd hb.sh
  have hw := writ_text (ps := (Wd.map partD).set k p) fun q hq => (hm q hq).1
  have ht := len_text (m := 9) (by decide) (ps := (Wd.map partD).set k p) fun q hq => (hm q hq).2
  have hs := set_len [59] kw p (Wd.map partD) k (by rw [List.length_map]; exact h)
  have e1 : (kw ((Wd.map partD)[k]'(by rw [List.length_map]; exact h))).length = (kindT Wd[k]).length := by rw [List.getElem_map, kw_part]
  have e2 : (ptT [59] kw (Wd.map partD)).length = (woodT Wd).length := congrArg List.length (words_wood Wd)
  have e3 := hb.len
  have hl8 : (wordsD ((Wd.map partD).set k p)).length ≤ 710 := by unfold wordsD; omega
  exact ⟨⟨⟨_, hw, no_read (set_no hn h hb), by omega⟩, by omega⟩, fun q hq => (hm q hq).2, by omega⟩
end K8
namespace K8
open PySem L2 K3 TM K9
theorem str_sh (i : Int) : Str.ofString (toString i) = S (sh i) := by
  cases i with
  | ofNat n =>
    show Str.ofString (toString ((n : Nat) : Int)) = _
    rw [← S_self (Str.ofString (toString ((n : Nat) : Int))), PySem.W.KIN.signs_num]
    unfold sh
    rw [if_neg (by show ¬ ((n : Nat) : Int) < 0; omega)]
    rfl
  | negSucc n =>
    rw [← S_self (Str.ofString (toString (Int.negSucc n))), PyProof.Rows.signs_ofString]
    have e : toString (Int.negSucc n) = "-" ++ Nat.repr (n + 1) := rfl
    rw [e, String.toList_append, List.map_append, Nat.toList_repr]
    unfold sh
    rw [if_pos (by omega)]
    rfl
theorem sh_nine {n : Int} (h0 : 0 ≤ n) (h : n < 10 ^ 9) : (sh n).length ≤ 9 := by
  unfold sh
  rw [if_neg (by omega)]
  exact (D_facts 8 n.natAbs (by show n.natAbs < 10 ^ 9; omega)).2.1
theorem PartsA.setX {H H6 : Hp} {l : Addr} {ps : List PtA} {k : Nat} {p : PtA} (h : PartsA H6 l ps) (g : Same H H6) (hp : PartA H6 p) (ho : Off l p) : PartsA (upd H6 l (.lst ((ps.map fun p => V.ref p.1).set k (.ref p.1)))) l (ps.set k p) ∧ SameX l H (upd H6 l (.lst ((ps.map fun p => V.ref p.1).set k (.ref p.1)))) :=
  ⟨h.set hp ho, fun b u n e => by rw [upd_ne n]; exact g _ _ e⟩
def spForm : Sp := fun vs H Q _ => ∃ (l : Addr) (way k : Nat) (num : Int) (ps : List PtA) (Wd : List KindD), vs = [.ref l, .int (way : Int), .int (k : Int), .int num] ∧ way < 8 ∧ k < Wd.length ∧ PartsA H l ps ∧ ps.map datP = Wd.map partD ∧ (∀ k ∈ Wd, NmK k) ∧ (woodT Wd).length ≤ 700 ∧ ∀ (z : List Nat) (H' : Hp), NoForm z → SameX l H H' → Q (.str (S z)) H'
section
variable {P : Program} {w : World} {K : PySem.W.Frag} {mg : Str → Option Value} {base : Heap} {f : Addr} {fd : FuncData}
theorem scForm : FnScope ["_law_parts", "_law_way", "_law_k", "_law_number", "_law_text_here", "_law_kind", "_law_rows"] ["_law_parts", "_law_way", "_law_k", "_law_number"] (defScope sForm) := ⟨rfl, rfl, rfl, by decide +kernel, rfl, by decide +kernel, by decide +kernel⟩
theorem ok_form (F : Fun K "_law_form_fault" "_law_form_fault" sForm f fd) (G : Gm mg) (RT : Fn P w K mg base 1 "_law_text" ["_law_parts"] spText) (RW : Fn P w K mg base 1 "_law_word" ["_law_number", "_law_k"] spWord) : FnOk P w K mg base CX0 2 f fd ["_law_parts", "_law_way", "_law_k", "_law_number"] spForm := by
  refine F.ok scForm (fun vs H Q E h => ?_) (fun cdv A outer s H vs Q E hr h => ?_)
  · obtain ⟨l, way, k, num, ps, Wd, rfl, _⟩ := h
    rfl
  obtain ⟨l, way, k, num, ps, Wd, rfl, hway, hk, hP, hD, hn, h700, q⟩ := h
  refine ⟨_, (pss_cons (ps_set (i := 4) scForm.nd rfl (Or.inl rfl) (pe_fn RT hr (pa_cons (pv 0) pa_nil)))
    (pss_cons (ps_asg (pe_ix ix_list (pv 0) (pv 2) (fun _ _ => rfl)) (pg_lst rfl (pgs_cons (pg_name (i := 5) scForm.nd rfl (Or.inl rfl)) (pgs_cons (pg_name (i := 6) scForm.nd rfl (Or.inl rfl)) pgs_nil))))
    (pss_cons (ps_cut (ps_if (pt_cmpR op_eq (pv 1) pe_int (nomark _)) (pss_one (ps_asg (pe_lst (pa_cons (pv 5) (pa_cons (pe_op op_catL (pv 6) (pe_lst (pa_cons (pe_lst pa_nil) pa_nil))) pa_nil))) (pg_sub (pv 0) (pv 2) set_list))) pss_nil))
    (pss_cons (ps_cut (ps_if (pt_cmpR op_eq (pv 1) pe_int (nomark _)) (pss_one (ps_asg (pe_lst (pa_cons (pv 5) (pa_cons (pe_op op_catL (pv 6) (pe_lst (pa_cons ((pe_lst (pa_cons (pe_fn RW hr (pa_cons (pv 3) (pa_cons (pe_int) pa_nil))) (pa_cons (pe_str) (pa_cons (pe_str) pa_nil))))) pa_nil))) pa_nil))) (pg_sub (pv 0) (pv 2) set_list))) pss_nil))
    (pss_cons (ps_cut (ps_if (pt_cmpR op_eq (pv 1) pe_int (nomark _)) (pss_one (ps_asg (pe_lst (pa_cons (pv 5) (pa_cons (pe_op op_catL (pv 6) (pe_lst (pa_cons ((pe_lst (pa_cons (pe_fn RW hr (pa_cons (pv 3) (pa_cons (pe_int) pa_nil))) (pa_cons (pe_str) (pa_cons (pv 5) pa_nil))))) pa_nil))) pa_nil))) (pg_sub (pv 0) (pv 2) set_list))) pss_nil))
    (pss_cons (ps_cut (ps_if (pt_cmpR op_eq (pv 1) pe_int (nomark _)) (pss_one (ps_asg (pe_lst (pa_cons (pv 5) (pa_cons (pe_op op_catL (pv 6) (pe_lst (pa_cons ((pe_lst (pa_cons (pe_fn RW hr (pa_cons (pv 3) (pa_cons (pe_int) pa_nil))) (pa_cons (pe_str) (pa_cons (pe_callTy call_str_int rfl G.str PyProof.Rows.boot_str (pa_cons (pe_op op_mod (pv 3) (pe_op op_pow pe_int pe_int)) pa_nil)) (pa_cons (pe_str) pa_nil)))))) pa_nil))) pa_nil))) (pg_sub (pv 0) (pv 2) set_list))) pss_nil))
    (pss_cons (ps_cut (ps_if (pt_cmpR op_eq (pv 1) pe_int (nomark _)) (pss_one (ps_asg (pe_lst (pa_cons (pe_op op_add_str (pe_op op_add_str (pv 5) pe_str) (pv 5)) (pa_cons (pv 6) pa_nil))) (pg_sub (pv 0) (pv 2) set_list))) pss_nil))
    (pss_cons (ps_if (pt_cmpR op_eq (pv 1) pe_int (nomark _)) (pss_one (ps_ret (pe_op op_add_str (pv 4) (pe_ix ix_list (pe_lst (pa_cons (pe_str) (pa_cons (pe_str) (pa_cons (pe_str) (pa_cons (pe_str) (pa_cons (pe_str) (pa_cons (pe_str) pa_nil))))))) (pe_op op_mod (pv 3) pe_int) (fun _ _ => rfl))))) pss_nil)
    (pss_cons (ps_ifRep (n := 4) (pv 1) rfl (Or.inl rfl) (by decide +kernel) (by decide +kernel))
    (pss_cons (ps_if (pt_cmpR op_eq (pv 1) pe_int (nomark _)) (pss_one (ps_ret (pe_op op_add_str (pe_ix ix_list (pe_lst (pa_cons (pe_str) (pa_cons (pe_str) (pa_cons (pe_str) (pa_cons (pe_str) (pa_cons (pe_str) (pa_cons (pe_str) (pa_cons (pe_str) pa_nil)))))))) (pe_op op_mod (pv 3) pe_int) (fun _ _ => rfl)) (pv 4)))) pss_nil)
    (pss_one (ps_ret (pe_fn RT hr (pa_cons (pv 0) pa_nil)))))))))))))), ?_⟩
  have h0 : Wd ≠ [] := fun z => by rw [z] at hk; cases hk
  have hlen : ps.length = Wd.length := by have := congrArg List.length hD; rwa [List.length_map, List.length_map] at this
  have hkp : k < ps.length := by omega
  have hpw : ∀ p ∈ Wd.map partD, WdP p ∧ ShP 9 p := fun p hp => by obtain ⟨x, hx, rfl⟩ := List.mem_map.mp hp; exact part_words (hn x hx)
  have ht8 := len_text (m := 9) (by decide) (ps := Wd.map partD) fun p hp => (hpw p hp).2
  rw [words_wood] at ht8
  refine ⟨_, rfl, l, ps, rfl, hP, fun p hp => (hpw _ (by rw [← hD]; exact List.mem_map_of_mem hp)).2, (by rw [hD, words_wood]; omega), fun H1 g1 => ?_⟩
  rw [hD]
  have hdk : datP ps[k] = partD Wd[k] := by
    have h1 : (ps.map datP)[k]'(by rw [List.length_map]; exact hkp) = (Wd.map partD)[k]'(by rw [List.length_map]; exact hk) := by congr 1
    rw [List.getElem_map, List.getElem_map] at h1
    exact h1
  have hpA0 := hP.at_ ps[k] (List.getElem_mem hkp)
  have hpO := hP.off ps[k] (List.getElem_mem hkp)
  have hNk := hn Wd[k] (List.getElem_mem hk)
  have hat : atI (ps.map fun p => V.ref p.1) (k : Int) = some (.ref ps[k].1) := atI_nat (by rw [List.getElem?_map, List.getElem?_eq_getElem hkp]; rfl)
  have hlrs : ps[k].2.2.2.length ≤ 800 := by
    have e1 := congrArg (fun p : Part => p.2.length) hdk
    have e2 := (kind_len Wd[k]).2.1
    have e3 := pt_mem (sg := [59]) (tk := kindT) Wd Wd[k] (List.getElem_mem hk)
    simp only [datP, partD, List.length_map] at e1
    change (kindT Wd[k]).length ≤ (woodT Wd).length at e3
    omega
  have hform : ∀ p, BadP p (kindT Wd[k]).length → _ := fun p hb => form0 hn h700 hk hb
  generalize hpk : ps[k] = pk at *
  obtain ⟨t, kws, lr, rs⟩ := pk
  have hlrs' : rs.length ≤ 800 := hlrs
  obtain ⟨rfl, hrs⟩ : kws = [Wd[k].1] ∧ (rs.map fun x => x.2) = Wd[k].2.map rowT := by
    injection hdk with a b
    exact ⟨a, b⟩
  generalize hWk : Wd[k] = kd at *
  refine ⟨_, rfl, _, rfl, l, _, _, _, rfl, rfl, SqL.of (g1 _ _ hP.top), hat, _, _, rfl, g1.seq (SqL.of hpA0.pr), rfl, _, _, rfl, _, _, rfl, rfl, ?_⟩
  rw [gl_one]
  have e25 : Nm (wd num 25) := wd_nm num 25
  have e40 : Str.ofString "(" = S [40] := by decide +kernel
  have e41 : Str.ofString ")" = S [41] := by decide +kernel
  have e32 : Str.ofString " " = S [32] := by decide +kernel
  let R : Nat → St → Hp → Prop := fun j σ' H' => σ' = [some (.ref l), some (.int (way : Int)), some (.int (k : Int)), some (.int num), some (.str (S (textS (Wd.map partD)))), some (.str (S kd.1)), some (.ref lr)] ∧ ((j ≤ way ∧ PartsA H' l ps ∧ Same H H') ∨ (way < j ∧ ∃ p', PartsA H' l (ps.set k p') ∧ SameX l H H' ∧ BadP (datP p') (kindT kd).length))
  have skip : ∀ (j : Nat) σ' H', ¬ (decide (V.int (way : Int) = V.int (j : Int)) = true) → R j σ' H' → R (j + 1) σ' H' := fun j σ' H' hne ⟨e, h⟩ => ⟨e, by
    rcases h with ⟨h1, h2⟩ | ⟨h1, h2⟩
    · refine .inl ⟨?_, h2⟩
      have : way ≠ j := fun z => hne (decide_eq_true (by rw [z]))
      omega
    · exact .inr ⟨by omega, h2⟩⟩
  have here : ∀ (j : Nat) H', decide (V.int (way : Int) = V.int (j : Int)) = true → ((j ≤ way ∧ PartsA H' l ps ∧ Same H H') ∨ (way < j ∧ ∃ p', PartsA H' l (ps.set k p') ∧ SameX l H H' ∧ BadP (datP p') (kindT kd).length)) → way = j ∧ PartsA H' l ps ∧ Same H H' := fun j H' he h => by
    have e := of_decide_eq_true he
    injection e with e
    have e : way = j := by omega
    rcases h with ⟨h1, h2⟩ | ⟨h1, h2⟩
    · exact ⟨e, h2⟩
    · omega
  refine ⟨R 1, ?_, ?_⟩
  · have hR : R 0 [some (.ref l), some (.int (way : Int)), some (.int (k : Int)), some (.int num), some (.str (S (textS (Wd.map partD)))), some (.str (S kd.1)), some (.ref lr)] H1 := ⟨rfl, .inl ⟨Nat.zero_le _, hP.same g1, g1⟩⟩
    refine ⟨_, rfl, rfl, _, rfl, ite2 (fun c => ?_) (fun c => skip 0 _ _ c hR)⟩
    obtain ⟨ew, hP1, gH⟩ := here 0 _ c hR.2
    refine ⟨_, rfl, _, rfl, (by show 0 ≤ sizeLine; decide), fun r1 hr1 => ?_⟩
    have gF : Same H1 H1 := fun _ _ e => e
    generalize hX : upd _ r1 _ = X2
    have s2 : Same H1 X2 := by rw [← hX]; exact same_new hr1 _
    have b2 : X2 r1 = some (.lst (W [])) := by rw [← hX]; exact upd_same
    clear hX
    refine ⟨(by show 1 ≤ sizeLine; decide), fun l2 hl2 => ?_⟩
    have s3 := same_new hl2 (.lst [.ref r1])
    have b3 : upd X2 l2 (.lst [.ref r1]) l2 = some (.lst [.ref r1]) := upd_same
    generalize upd X2 l2 (.lst [.ref r1]) = X3 at s3 b3 ⊢
    have gg3 : Same H1 X3 := gF.trans (s2.trans s3)
    have hlr3 : X3 lr = some (.lst (rs.map fun x => V.ref x.1)) := (gH.trans gg3) _ _ hpA0.rl
    refine ⟨lr, l2, _, _, rfl, rfl, SqL.of hlr3, SqL.of b3, (by rw [List.length_map]; exact line_of (by show _ + 1 ≤ _; omega)), fun l4 hl4 => ?_⟩
    have s4 := same_new hl4 (.lst ((rs ++ [(r1, [])]).map fun x : RwA => V.ref x.1))
    have b4 : upd X3 l4 (.lst ((rs ++ [(r1, [])]).map fun x : RwA => V.ref x.1)) l4 = some (.lst ((rs ++ [(r1, [])]).map fun x : RwA => V.ref x.1)) := upd_same
    rw [show (rs.map fun x => V.ref x.1) ++ [V.ref r1] = (rs ++ [(r1, [])]).map fun x : RwA => V.ref x.1 by simp]
    generalize upd X3 l4 (.lst ((rs ++ [(r1, [])]).map fun x : RwA => V.ref x.1)) = X4 at s4 b4 ⊢
    refine ⟨(by show 2 ≤ sizeLine; decide), fun t5 ht5 => ?_⟩
    have s5 := same_new ht5 (.lst [.str (S kd.1), .ref l4])
    have b5 : upd X4 t5 (.lst [.str (S kd.1), .ref l4]) t5 = some (.lst [.str (S kd.1), .ref l4]) := upd_same
    generalize upd X4 t5 (.lst [.str (S kd.1), .ref l4]) = X5 at s5 b5 ⊢
    have g35 : Same X3 X5 := s4.trans s5
    have g5 : Same H1 X5 := gg3.trans g35
    have hP5 := hP1.same g5
    have hpA : PartA X5 (t5, [kd.1], l4, rs ++ [(r1, [])]) := ⟨(by show X5 t5 = some (.lst [.str (S (gl [32] [kd.1])), .ref l4]); rw [gl_one]; exact b5), s5 _ _ b4, fun x hx => by
      rcases List.mem_append.mp hx with hx | hx
      · exact (gH.trans g5) _ _ (hpA0.rw x hx)
      · obtain rfl := List.mem_singleton.mp hx; exact (s3.trans g35) _ _ b2⟩
    have hof : Off l (t5, [kd.1], l4, rs ++ [(r1, [])]) := ⟨fresh_ne ht5 ((gg3.trans s4) _ _ hP1.top), fresh_ne hl4 (gg3 _ _ hP1.top), fun x hx => by
      rcases List.mem_append.mp hx with hx | hx
      · exact hpO.rw x hx
      · obtain rfl := List.mem_singleton.mp hx; exact fresh_ne hr1 (gF _ _ hP1.top)⟩
    obtain ⟨z1, z2⟩ := hP5.setX (k := k) (gH.trans g5) hpA hof
    refine ⟨_, rfl, _, rfl, l, _, _, k, rfl, rfl, hP5.top, L2.ixN_nat (by rw [List.length_map]; exact hkp), ?_⟩
    refine ⟨rfl, .inr ⟨by omega, _, z1, z2, ?_⟩⟩
    show BadP ([kd.1], (rs ++ [(r1, [])]).map fun x : RwA => x.2) _
    rw [List.map_append, hrs]
    exact bad0 hNk
  rintro σ1 H10 hR
  obtain ⟨rfl, hR2⟩ := hR
  refine ⟨R 2, ?_, ?_⟩
  · have hR : R 1 [some (.ref l), some (.int (way : Int)), some (.int (k : Int)), some (.int num), some (.str (S (textS (Wd.map partD)))), some (.str (S kd.1)), some (.ref lr)] H10 := ⟨rfl, hR2⟩
    refine ⟨_, rfl, rfl, _, rfl, ite2 (fun c => ?_) (fun c => skip 1 _ _ c hR)⟩
    obtain ⟨ew, hP1, gH⟩ := here 1 _ c hR.2
    refine ⟨_, rfl, _, rfl, _, rfl, num, 25, rfl, fun HF gF => ⟨(by show 3 ≤ sizeLine; decide), fun r1 hr1 => ?_⟩⟩
    rw [e40, e41]
    generalize hX : upd _ r1 _ = X2
    have s2 : Same HF X2 := by rw [← hX]; exact same_new hr1 _
    have b2 : X2 r1 = some (.lst (W [wd num 25, [40], [41]])) := by rw [← hX]; exact upd_same
    clear hX
    refine ⟨(by show 1 ≤ sizeLine; decide), fun l2 hl2 => ?_⟩
    have s3 := same_new hl2 (.lst [.ref r1])
    have b3 : upd X2 l2 (.lst [.ref r1]) l2 = some (.lst [.ref r1]) := upd_same
    generalize upd X2 l2 (.lst [.ref r1]) = X3 at s3 b3 ⊢
    have gg3 : Same H10 X3 := gF.trans (s2.trans s3)
    have hlr3 : X3 lr = some (.lst (rs.map fun x => V.ref x.1)) := (gH.trans gg3) _ _ hpA0.rl
    refine ⟨lr, l2, _, _, rfl, rfl, SqL.of hlr3, SqL.of b3, (by rw [List.length_map]; exact line_of (by show _ + 1 ≤ _; omega)), fun l4 hl4 => ?_⟩
    have s4 := same_new hl4 (.lst ((rs ++ [(r1, [wd num 25, [40], [41]])]).map fun x : RwA => V.ref x.1))
    have b4 : upd X3 l4 (.lst ((rs ++ [(r1, [wd num 25, [40], [41]])]).map fun x : RwA => V.ref x.1)) l4 = some (.lst ((rs ++ [(r1, [wd num 25, [40], [41]])]).map fun x : RwA => V.ref x.1)) := upd_same
    rw [show (rs.map fun x => V.ref x.1) ++ [V.ref r1] = (rs ++ [(r1, [wd num 25, [40], [41]])]).map fun x : RwA => V.ref x.1 by simp]
    generalize upd X3 l4 (.lst ((rs ++ [(r1, [wd num 25, [40], [41]])]).map fun x : RwA => V.ref x.1)) = X4 at s4 b4 ⊢
    refine ⟨(by show 2 ≤ sizeLine; decide), fun t5 ht5 => ?_⟩
    have s5 := same_new ht5 (.lst [.str (S kd.1), .ref l4])
    have b5 : upd X4 t5 (.lst [.str (S kd.1), .ref l4]) t5 = some (.lst [.str (S kd.1), .ref l4]) := upd_same
    generalize upd X4 t5 (.lst [.str (S kd.1), .ref l4]) = X5 at s5 b5 ⊢
    have g35 : Same X3 X5 := s4.trans s5
    have g5 : Same H10 X5 := gg3.trans g35
    have hP5 := hP1.same g5
    have hpA : PartA X5 (t5, [kd.1], l4, rs ++ [(r1, [wd num 25, [40], [41]])]) := ⟨(by show X5 t5 = some (.lst [.str (S (gl [32] [kd.1])), .ref l4]); rw [gl_one]; exact b5), s5 _ _ b4, fun x hx => by
      rcases List.mem_append.mp hx with hx | hx
      · exact (gH.trans g5) _ _ (hpA0.rw x hx)
      · obtain rfl := List.mem_singleton.mp hx; exact (s3.trans g35) _ _ b2⟩
    have hof : Off l (t5, [kd.1], l4, rs ++ [(r1, [wd num 25, [40], [41]])]) := ⟨fresh_ne ht5 ((gg3.trans s4) _ _ hP1.top), fresh_ne hl4 (gg3 _ _ hP1.top), fun x hx => by
      rcases List.mem_append.mp hx with hx | hx
      · exact hpO.rw x hx
      · obtain rfl := List.mem_singleton.mp hx; exact fresh_ne hr1 (gF _ _ hP1.top)⟩
    obtain ⟨z1, z2⟩ := hP5.setX (k := k) (gH.trans g5) hpA hof
    refine ⟨_, rfl, _, rfl, l, _, _, k, rfl, rfl, hP5.top, L2.ixN_nat (by rw [List.length_map]; exact hkp), ?_⟩
    refine ⟨rfl, .inr ⟨by omega, _, z1, z2, ?_⟩⟩
    show BadP ([kd.1], (rs ++ [(r1, [wd num 25, [40], [41]])]).map fun x : RwA => x.2) _
    rw [List.map_append, hrs]
    exact bad1 hNk e25
  rintro σ2 H20 hR
  obtain ⟨rfl, hR2⟩ := hR
  refine ⟨R 3, ?_, ?_⟩
  · have hR : R 2 [some (.ref l), some (.int (way : Int)), some (.int (k : Int)), some (.int num), some (.str (S (textS (Wd.map partD)))), some (.str (S kd.1)), some (.ref lr)] H20 := ⟨rfl, hR2⟩
    refine ⟨_, rfl, rfl, _, rfl, ite2 (fun c => ?_) (fun c => skip 2 _ _ c hR)⟩
    obtain ⟨ew, hP1, gH⟩ := here 2 _ c hR.2
    refine ⟨_, rfl, _, rfl, _, rfl, num, 25, rfl, fun HF gF => ⟨_, rfl, (by show 3 ≤ sizeLine; decide), fun r1 hr1 => ?_⟩⟩
    rw [e40]
    generalize hX : upd _ r1 _ = X2
    have s2 : Same HF X2 := by rw [← hX]; exact same_new hr1 _
    have b2 : X2 r1 = some (.lst (W [wd num 25, [40], kd.1])) := by rw [← hX]; exact upd_same
    clear hX
    refine ⟨(by show 1 ≤ sizeLine; decide), fun l2 hl2 => ?_⟩
    have s3 := same_new hl2 (.lst [.ref r1])
    have b3 : upd X2 l2 (.lst [.ref r1]) l2 = some (.lst [.ref r1]) := upd_same
    generalize upd X2 l2 (.lst [.ref r1]) = X3 at s3 b3 ⊢
    have gg3 : Same H20 X3 := gF.trans (s2.trans s3)
    have hlr3 : X3 lr = some (.lst (rs.map fun x => V.ref x.1)) := (gH.trans gg3) _ _ hpA0.rl
    refine ⟨lr, l2, _, _, rfl, rfl, SqL.of hlr3, SqL.of b3, (by rw [List.length_map]; exact line_of (by show _ + 1 ≤ _; omega)), fun l4 hl4 => ?_⟩
    have s4 := same_new hl4 (.lst ((rs ++ [(r1, [wd num 25, [40], kd.1])]).map fun x : RwA => V.ref x.1))
    have b4 : upd X3 l4 (.lst ((rs ++ [(r1, [wd num 25, [40], kd.1])]).map fun x : RwA => V.ref x.1)) l4 = some (.lst ((rs ++ [(r1, [wd num 25, [40], kd.1])]).map fun x : RwA => V.ref x.1)) := upd_same
    rw [show (rs.map fun x => V.ref x.1) ++ [V.ref r1] = (rs ++ [(r1, [wd num 25, [40], kd.1])]).map fun x : RwA => V.ref x.1 by simp]
    generalize upd X3 l4 (.lst ((rs ++ [(r1, [wd num 25, [40], kd.1])]).map fun x : RwA => V.ref x.1)) = X4 at s4 b4 ⊢
    refine ⟨(by show 2 ≤ sizeLine; decide), fun t5 ht5 => ?_⟩
    have s5 := same_new ht5 (.lst [.str (S kd.1), .ref l4])
    have b5 : upd X4 t5 (.lst [.str (S kd.1), .ref l4]) t5 = some (.lst [.str (S kd.1), .ref l4]) := upd_same
    generalize upd X4 t5 (.lst [.str (S kd.1), .ref l4]) = X5 at s5 b5 ⊢
    have g35 : Same X3 X5 := s4.trans s5
    have g5 : Same H20 X5 := gg3.trans g35
    have hP5 := hP1.same g5
    have hpA : PartA X5 (t5, [kd.1], l4, rs ++ [(r1, [wd num 25, [40], kd.1])]) := ⟨(by show X5 t5 = some (.lst [.str (S (gl [32] [kd.1])), .ref l4]); rw [gl_one]; exact b5), s5 _ _ b4, fun x hx => by
      rcases List.mem_append.mp hx with hx | hx
      · exact (gH.trans g5) _ _ (hpA0.rw x hx)
      · obtain rfl := List.mem_singleton.mp hx; exact (s3.trans g35) _ _ b2⟩
    have hof : Off l (t5, [kd.1], l4, rs ++ [(r1, [wd num 25, [40], kd.1])]) := ⟨fresh_ne ht5 ((gg3.trans s4) _ _ hP1.top), fresh_ne hl4 (gg3 _ _ hP1.top), fun x hx => by
      rcases List.mem_append.mp hx with hx | hx
      · exact hpO.rw x hx
      · obtain rfl := List.mem_singleton.mp hx; exact fresh_ne hr1 (gF _ _ hP1.top)⟩
    obtain ⟨z1, z2⟩ := hP5.setX (k := k) (gH.trans g5) hpA hof
    refine ⟨_, rfl, _, rfl, l, _, _, k, rfl, rfl, hP5.top, L2.ixN_nat (by rw [List.length_map]; exact hkp), ?_⟩
    refine ⟨rfl, .inr ⟨by omega, _, z1, z2, ?_⟩⟩
    show BadP ([kd.1], (rs ++ [(r1, [wd num 25, [40], kd.1])]).map fun x : RwA => x.2) _
    rw [List.map_append, hrs]
    exact bad2 hNk e25
  rintro σ3 H30 hR
  obtain ⟨rfl, hR2⟩ := hR
  refine ⟨R 4, ?_, ?_⟩
  · have hR : R 3 [some (.ref l), some (.int (way : Int)), some (.int (k : Int)), some (.int num), some (.str (S (textS (Wd.map partD)))), some (.str (S kd.1)), some (.ref lr)] H30 := ⟨rfl, hR2⟩
    refine ⟨_, rfl, rfl, _, rfl, ite2 (fun c => ?_) (fun c => skip 3 _ _ c hR)⟩
    obtain ⟨ew, hP1, gH⟩ := here 3 _ c hR.2
    have hm0 : 0 ≤ num % 10 ^ 9 := Int.emod_nonneg _ (by decide)
    have hm1 : num % 10 ^ 9 < 10 ^ 9 := Int.emod_lt_of_pos _ (by decide)
    refine ⟨_, rfl, _, rfl, _, rfl, num, 25, rfl, fun HF gF => ⟨_, rfl, _, _, rfl, rfl, ⟨by decide, by decide, by decide⟩, _, _, rfl, rfl, (by show (0 : Int) < 10 ^ 9; decide), _, rfl, log_small (by show (num % 10 ^ 9).natAbs < _; exact Nat.lt_of_lt_of_le (show _ < 10 ^ 9 by omega) (by decide)), (by show 4 ≤ sizeLine; decide), fun r1 hr1 => ?_⟩⟩
    rw [e40, e41]
    dsimp only
    rw [show Str.ofString (toString (num % 10 ^ Int.toNat 9)) = S (sh (num % 10 ^ 9)) from str_sh _]
    generalize hX : upd _ r1 _ = X2
    have s2 : Same HF X2 := by rw [← hX]; exact same_new hr1 _
    have b2 : X2 r1 = some (.lst (W [wd num 25, [40], sh (num % 10 ^ 9), [41]])) := by rw [← hX]; exact upd_same
    clear hX
    refine ⟨(by show 1 ≤ sizeLine; decide), fun l2 hl2 => ?_⟩
    have s3 := same_new hl2 (.lst [.ref r1])
    have b3 : upd X2 l2 (.lst [.ref r1]) l2 = some (.lst [.ref r1]) := upd_same
    generalize upd X2 l2 (.lst [.ref r1]) = X3 at s3 b3 ⊢
    have gg3 : Same H30 X3 := gF.trans (s2.trans s3)
    have hlr3 : X3 lr = some (.lst (rs.map fun x => V.ref x.1)) := (gH.trans gg3) _ _ hpA0.rl
    refine ⟨lr, l2, _, _, rfl, rfl, SqL.of hlr3, SqL.of b3, (by rw [List.length_map]; exact line_of (by show _ + 1 ≤ _; omega)), fun l4 hl4 => ?_⟩
    have s4 := same_new hl4 (.lst ((rs ++ [(r1, [wd num 25, [40], sh (num % 10 ^ 9), [41]])]).map fun x : RwA => V.ref x.1))
    have b4 : upd X3 l4 (.lst ((rs ++ [(r1, [wd num 25, [40], sh (num % 10 ^ 9), [41]])]).map fun x : RwA => V.ref x.1)) l4 = some (.lst ((rs ++ [(r1, [wd num 25, [40], sh (num % 10 ^ 9), [41]])]).map fun x : RwA => V.ref x.1)) := upd_same
    rw [show (rs.map fun x => V.ref x.1) ++ [V.ref r1] = (rs ++ [(r1, [wd num 25, [40], sh (num % 10 ^ 9), [41]])]).map fun x : RwA => V.ref x.1 by simp]
    generalize upd X3 l4 (.lst ((rs ++ [(r1, [wd num 25, [40], sh (num % 10 ^ 9), [41]])]).map fun x : RwA => V.ref x.1)) = X4 at s4 b4 ⊢
    refine ⟨(by show 2 ≤ sizeLine; decide), fun t5 ht5 => ?_⟩
    have s5 := same_new ht5 (.lst [.str (S kd.1), .ref l4])
    have b5 : upd X4 t5 (.lst [.str (S kd.1), .ref l4]) t5 = some (.lst [.str (S kd.1), .ref l4]) := upd_same
    generalize upd X4 t5 (.lst [.str (S kd.1), .ref l4]) = X5 at s5 b5 ⊢
    have g35 : Same X3 X5 := s4.trans s5
    have g5 : Same H30 X5 := gg3.trans g35
    have hP5 := hP1.same g5
    have hpA : PartA X5 (t5, [kd.1], l4, rs ++ [(r1, [wd num 25, [40], sh (num % 10 ^ 9), [41]])]) := ⟨(by show X5 t5 = some (.lst [.str (S (gl [32] [kd.1])), .ref l4]); rw [gl_one]; exact b5), s5 _ _ b4, fun x hx => by
      rcases List.mem_append.mp hx with hx | hx
      · exact (gH.trans g5) _ _ (hpA0.rw x hx)
      · obtain rfl := List.mem_singleton.mp hx; exact (s3.trans g35) _ _ b2⟩
    have hof : Off l (t5, [kd.1], l4, rs ++ [(r1, [wd num 25, [40], sh (num % 10 ^ 9), [41]])]) := ⟨fresh_ne ht5 ((gg3.trans s4) _ _ hP1.top), fresh_ne hl4 (gg3 _ _ hP1.top), fun x hx => by
      rcases List.mem_append.mp hx with hx | hx
      · exact hpO.rw x hx
      · obtain rfl := List.mem_singleton.mp hx; exact fresh_ne hr1 (gF _ _ hP1.top)⟩
    obtain ⟨z1, z2⟩ := hP5.setX (k := k) (gH.trans g5) hpA hof
    refine ⟨_, rfl, _, rfl, l, _, _, k, rfl, rfl, hP5.top, L2.ixN_nat (by rw [List.length_map]; exact hkp), ?_⟩
    refine ⟨rfl, .inr ⟨by omega, _, z1, z2, ?_⟩⟩
    show BadP ([kd.1], (rs ++ [(r1, [wd num 25, [40], sh (num % 10 ^ 9), [41]])]).map fun x : RwA => x.2) _
    rw [List.map_append, hrs]
    exact bad3 hNk e25 (sh_nine hm0 hm1) (sh_word (by omega))
  rintro σ4 H40 hR
  obtain ⟨rfl, hR2⟩ := hR
  refine ⟨R 5, ?_, ?_⟩
  · have hR : R 4 [some (.ref l), some (.int (way : Int)), some (.int (k : Int)), some (.int num), some (.str (S (textS (Wd.map partD)))), some (.str (S kd.1)), some (.ref lr)] H40 := ⟨rfl, hR2⟩
    refine ⟨_, rfl, rfl, _, rfl, ite2 (fun c => ?_) (fun c => skip 4 _ _ c hR)⟩
    obtain ⟨ew, hP1, gH⟩ := here 4 _ c hR.2
    have hkl := hNk.1.len
    rw [e32]
    refine ⟨_, rfl, _, _, rfl, rfl, (by rw [S_len, S_len]; exact line_of (by show _ + 1 ≤ _; omega)), _, rfl, _, _, rfl, rfl, (by rw [S_app, S_len, S_len]; exact line_of (by rw [List.length_append]; show _ + 1 + _ ≤ _; omega)), _, rfl, (by show 2 ≤ sizeLine; decide), fun t5 ht5 => ?_⟩
    rw [S_app, S_app]
    have s5 := same_new ht5 (.lst [.str (S (kd.1 ++ [32] ++ kd.1)), .ref lr])
    have b5 : upd H40 t5 (.lst [.str (S (kd.1 ++ [32] ++ kd.1)), .ref lr]) t5 = some (.lst [.str (S (kd.1 ++ [32] ++ kd.1)), .ref lr]) := upd_same
    generalize upd H40 t5 (.lst [.str (S (kd.1 ++ [32] ++ kd.1)), .ref lr]) = X5 at s5 b5 ⊢
    have hP5 := hP1.same s5
    have hpA : PartA X5 (t5, [kd.1, kd.1], lr, rs) := ⟨(by show X5 t5 = some (.lst [.str (S (gl [32] [kd.1, kd.1])), .ref lr]); rw [gl_two, gl_one, ← List.append_assoc]; exact b5), (gH.trans s5) _ _ hpA0.rl, fun x hx => (gH.trans s5) _ _ (hpA0.rw x hx)⟩
    have hof : Off l (t5, [kd.1, kd.1], lr, rs) := ⟨fresh_ne ht5 hP1.top, hpO.rl, hpO.rw⟩
    obtain ⟨z1, z2⟩ := hP5.setX (k := k) (gH.trans s5) hpA hof
    refine ⟨_, rfl, _, rfl, l, _, _, k, rfl, rfl, hP5.top, L2.ixN_nat (by rw [List.length_map]; exact hkp), ?_⟩
    refine ⟨rfl, .inr ⟨by omega, _, z1, z2, ?_⟩⟩
    show BadP ([kd.1, kd.1], rs.map fun x : RwA => x.2) _
    rw [hrs]
    exact bad4 hNk
  rintro σ5 H50 hR
  obtain ⟨rfl, hR2⟩ := hR
  have ha : Str.ofString " a" = S [32, 97] := by decide +kernel
  have e58 : Str.ofString ":" = S [58] := by decide +kernel
  have e59 : Str.ofString ";" = S [59] := by decide +kernel
  have e61 : Str.ofString "=" = S [61] := by decide +kernel
  have e124 : Str.ofString "|" = S [124] := by decide +kernel
  have e42 : Str.ofString "*" = S [42] := by decide +kernel
  have e7 : Str.ofString "7 " = S [55, 32] := by decide +kernel
  rw [e58, e59, e61, e124, ha, e40]
  have fit : ∀ y : List Nat, y.length ≤ 2 → (S (textS (Wd.map partD))).length + (S y).length ≤ sizeLine := fun y hy => by rw [S_len, S_len]; exact line_of (by omega)
  have fit2 : ∀ y : List Nat, y.length ≤ 2 → (S y).length + (S (textS (Wd.map partD))).length ≤ sizeLine := fun y hy => by rw [S_len, S_len]; exact line_of (by omega)
  refine ⟨_, rfl, rfl, _, rfl, ite2 (fun c => ?_) (fun c5 => ?_)⟩
  · obtain ⟨ew, hP1, gH⟩ := here 5 _ c hR2
    refine ⟨_, rfl, (by show 6 ≤ sizeLine; decide), fun l2 hl2 => ?_⟩
    have s2 := same_new hl2 (.lst [.str (S [59]), .str (S [58]), .str (S [61]), .str (S [124]), .str (S [32, 97]), .str (S [40])])
    obtain ⟨v, hv, hatv⟩ := six_at num (a := .str (S [59])) (b := .str (S [58])) (c := .str (S [61])) (d := .str (S [124])) (e := .str (S [32, 97])) (f := .str (S [40]))
    have go : ∀ x y : List Nat, v = .str (S y) → (y = x ∨ y = 32 :: x) → x ∈ [[59], [58], [61], [124], [97], [40]] → (x = [97] → y = 32 :: x) → _ := fun x y e h1 h2 h3 => And.intro e (form5 h0 hn h700 h1 h2 h3)
    obtain ⟨y, hvy, hyl, hno⟩ : ∃ y, v = .str (S y) ∧ y.length ≤ 2 ∧ NoForm (textS (Wd.map partD) ++ y) := by
      rcases hv with e | e | e | e | e | e
      · exact ⟨_, e, by decide, (go [59] _ e (.inl rfl) (by decide) (by decide)).2⟩
      · exact ⟨_, e, by decide, (go [58] _ e (.inl rfl) (by decide) (by decide)).2⟩
      · exact ⟨_, e, by decide, (go [61] _ e (.inl rfl) (by decide) (by decide)).2⟩
      · exact ⟨_, e, by decide, (go [124] _ e (.inl rfl) (by decide) (by decide)).2⟩
      · exact ⟨_, e, by decide, (go [97] _ e (.inr rfl) (by decide) (fun _ => rfl)).2⟩
      · exact ⟨_, e, by decide, (go [40] _ e (.inl rfl) (by decide) (by decide)).2⟩
    subst hvy
    refine ⟨_, rfl, _, _, rfl, rfl, (by show (0 : Int) < 6; decide), l2, _, _, _, rfl, rfl, SqL.of upd_same, hatv, _, _, rfl, rfl, fit y hyl, ?_⟩
    rw [S_app]
    exact q _ _ hno (SameX.of (gH.trans s2))
  refine ⟨_, rfl, way, rfl, fun c => ?_, fun c6 => ?_⟩
  · obtain ⟨ew, hP1, gH⟩ := here 6 _ (decide_eq_true (by rw [c]; rfl)) (by
      rcases hR2 with ⟨h1, h2⟩ | ⟨h1, h2⟩
      · exact .inl ⟨by have : way ≠ 5 := fun z => c5 (decide_eq_true (by rw [z]; rfl)); omega, h2⟩
      · exact .inr ⟨by omega, h2⟩)
    have es : Str.ofString " = " = S [32, 61, 32] := by decide +kernel
    obtain ⟨u, v, hz⟩ := text_eq (ps := Wd.map partD) (fun z => h0 (List.map_eq_nil_iff.mp z))
    obtain ⟨i, u', v', ho, hz', hgl⟩ := repl_ok hz
    have hno := form6 h0 hn h700 hz'
    refine ⟨_, rfl, S (textS (Wd.map partD)), i, rfl, (by rw [es]; exact ho), ?_, ?_, ?_⟩
    · rw [es, e32, hgl, S_len]; exact line_of hno.len
    · rw [e32, S_len, S_len]; show _ + 1 * 1 ≤ _; omega
    · rw [es, e32, hgl]
      exact q _ _ hno (SameX.of gH)
  rw [e42, e41, e7]
  refine ⟨_, rfl, rfl, _, rfl, ite2 (fun c => ?_) (fun c7 => ?_)⟩
  · obtain ⟨ew, hP1, gH⟩ := here 7 _ c (by
      rcases hR2 with ⟨h1, h2⟩ | ⟨h1, h2⟩
      · exact .inl ⟨by
          have : way ≠ 5 := fun z => c5 (decide_eq_true (by rw [z]; rfl))
          have : way ≠ 6 := fun z => c6 (by rw [z]; rfl)
          omega, h2⟩
      · exact .inr ⟨by omega, h2⟩)
    refine ⟨(by show 7 ≤ sizeLine; decide), fun l2 hl2 => ?_⟩
    have s2 := same_new hl2 (.lst [.str (S [59]), .str (S [61]), .str (S [124]), .str (S [40]), .str (S [41]), .str (S [42]), .str (S [55, 32])])
    obtain ⟨v, hv, hatv⟩ := seven_at num (a := .str (S [59])) (b := .str (S [61])) (c := .str (S [124])) (d := .str (S [40])) (e := .str (S [41])) (f := .str (S [42])) (g := .str (S [55, 32]))
    obtain ⟨y, hvy, hyl, hno⟩ : ∃ y, v = .str (S y) ∧ y.length ≤ 2 ∧ NoForm (y ++ textS (Wd.map partD)) := by
      rcases hv with e | e | e | e | e | e | e
      · exact ⟨_, e, by decide, form7 hn h700 (x := [59]) (.inl ⟨rfl, by decide⟩)⟩
      · exact ⟨_, e, by decide, form7 hn h700 (x := [61]) (.inl ⟨rfl, by decide⟩)⟩
      · exact ⟨_, e, by decide, form7 hn h700 (x := [124]) (.inl ⟨rfl, by decide⟩)⟩
      · exact ⟨_, e, by decide, form7 hn h700 (x := [40]) (.inl ⟨rfl, by decide⟩)⟩
      · exact ⟨_, e, by decide, form7 hn h700 (x := [41]) (.inl ⟨rfl, by decide⟩)⟩
      · exact ⟨_, e, by decide, form7 hn h700 (x := [42]) (.inl ⟨rfl, by decide⟩)⟩
      · exact ⟨_, e, by decide, form7 hn h700 (x := [55]) (.inr ⟨rfl, rfl⟩)⟩
    subst hvy
    refine ⟨_, rfl, _, _, rfl, rfl, (by show (0 : Int) < 7; decide), l2, _, _, _, rfl, rfl, SqL.of upd_same, hatv, _, rfl, _, _, rfl, rfl, fit2 y hyl, ?_⟩
    rw [S_app]
    exact q _ _ hno (SameX.of (gH.trans s2))
  rcases hR2 with ⟨h1, _⟩ | ⟨h1, p', hP', gX, hb⟩
  · exfalso
    have : way ≠ 5 := fun z => c5 (decide_eq_true (by rw [z]; rfl))
    have : way ≠ 6 := fun z => c6 (by rw [z]; rfl)
    have : way ≠ 7 := fun z => c7 (decide_eq_true (by rw [z]; rfl))
    omega
  · have hmap : (ps.set k p').map datP = (Wd.map partD).set k (datP p') := by rw [List.map_set, hD]
    obtain ⟨f1, f2, f3⟩ := hform _ hb
    refine ⟨_, rfl, l, ps.set k p', rfl, hP', fun p hp => f2 _ (by rw [← hmap]; exact List.mem_map_of_mem hp), (by rw [hmap]; exact f3), fun H' g' => ?_⟩
    rw [hmap]
    exact q _ _ f1 (gX.trans (SameX.of g'))
end
end K8
namespace K8
open PySem L2 K3 TM K9
theorem pt_le {α : Type} {sg : List Nat} {tk : α → List (List Nat)} {m : Nat} : ∀ xs : List α, (∀ x ∈ xs, (tk x).length ≤ m) → (ptT sg tk xs).length ≤ xs.length * (m + 1)
  | [], _ => Nat.zero_le _
  | [x], h => by
    have := h x List.mem_cons_self
    have e : ptT sg tk [x] = tk x := by simp [ptT, tlT]
    rw [e]; simp; omega
  | x :: y :: r, h => by
    have h1 := h x List.mem_cons_self
    have h2 := pt_le (sg := sg) (y :: r) fun z hz => h z (List.mem_cons_of_mem _ hz)
    have e : ptT sg tk (x :: y :: r) = tk x ++ (sg :: (ptT sg tk (y :: r))) := by simp [ptT, tlT, List.flatMap_cons]
    rw [e, List.length_append, List.length_cons, List.length_cons (as := y :: r), Nat.succ_mul]
    omega
theorem brT_len (bs : List (List Nat)) : (brT bs).length ≤ bs.length + 2 := by
  unfold brT; split <;> simp
theorem kindT_le {k : KindD} {m : Nat} (h : ∀ r ∈ k.2, r.2.length ≤ m) : (kindT k).length ≤ 2 + k.2.length * (m + 4) := by
  have := pt_le (sg := [124]) (tk := rowT) (m := m + 3) k.2 fun r hr => by
    have h1 := h r hr
    have h2 := brT_len r.2
    have e : (rowT r).length = (brT r.2).length + 1 := rfl
    omega
  have e : (kindT k).length = (ptT [124] rowT k.2).length + 1 + 1 := rfl
  have e2 : m + 3 + 1 = m + 4 := by omega
  rw [e2] at this
  omega
theorem RwDr.nmr {n : Int} {L : Nat} {rs : List RowD} (h : RwDr n L rs) : rs ≠ [] ∧ rs.length ≤ 2 ∧ (∀ r ∈ rs, NmR r ∧ r.2.length ≤ 4 ∧ ∀ x ∈ r.2, ∃ j : Nat, j < L ∧ x = wd n j) ∧ (rs.map fun r => r.1).Nodup ∧ ∃ r ∈ rs, r.2 = [] := by
  obtain ⟨a, ha, rfl | ⟨b, bs, hb, hab, rfl, h1, h4, hx⟩⟩ := h
  · refine ⟨by simp, by simp, fun r hr => ?_, by simp, _, List.mem_cons_self, rfl⟩
    obtain rfl := List.mem_singleton.mp hr
    exact ⟨⟨ha, fun b hb => (nomatch hb)⟩, by simp, fun b hb => (nomatch hb)⟩
  · refine ⟨by simp, by simp, fun r hr => ?_, by simp [hab], _, List.mem_cons_self, rfl⟩
    rcases List.mem_cons.mp hr with rfl | hr
    · exact ⟨⟨ha, fun b hb => (nomatch hb)⟩, by simp, fun b hb => (nomatch hb)⟩
    · obtain rfl := List.mem_singleton.mp hr
      exact ⟨⟨hb, fun x hx' => by obtain ⟨j, _, rfl⟩ := hx x hx'; exact wd_nm _ _⟩, h4, hx⟩
theorem sum_le2 : ∀ W : List KindD, (∀ k ∈ W, k.2.length ≤ 2) → (W.map fun k => k.2.length).sum ≤ 2 * W.length
  | [], _ => Nat.zero_le _
  | k :: W, h => by
    have h1 := h k List.mem_cons_self
    have h2 := sum_le2 W fun x hx => h x (List.mem_cons_of_mem _ hx)
    rw [List.map_cons, List.sum_cons, List.length_cons]; omega
section
variable {n : Int} {L : Nat} {Wd : List KindD} (h : DrW n L L Wd) (h1 : 1 ≤ L) (h5 : L ≤ 5)
include h
theorem DrW.kn : Wd.map (fun k => k.1) = (List.range L).map fun j : Nat => wd n j := by
  refine List.ext_getElem (by simp [h.len]) fun i h1 h2 => ?_
  rw [List.getElem_map, List.getElem_map, List.getElem_range]
  exact h.nm i _
theorem DrW.nmk : ∀ k ∈ Wd, NmK k := fun k hk => by
  obtain ⟨i, hi, rfl⟩ := List.mem_iff_getElem.mp hk
  obtain ⟨a, _, b, _⟩ := (h.rw _ hk).nmr
  exact ⟨by rw [h.nm i hi]; exact wd_nm _ _, a, fun r hr => (b r hr).1⟩
include h1 in
theorem DrW.ne : Wd ≠ [] := fun z => by have := h.len; rw [z] at this; simp at this; omega
include h5 in
theorem DrW.small : (woodT Wd).length ≤ 100 := by
  have := pt_le (sg := [59]) (tk := kindT) (m := 18) Wd fun k hk => by
    obtain ⟨_, a, b, _⟩ := (h.rw k hk).nmr
    have := kindT_le (m := 4) fun r hr => (b r hr).2.1
    omega
  have e : (woodT Wd).length = (ptT [59] kindT Wd).length := rfl
  have := h.len
  omega
theorem DrW.sum : (Wd.map fun k => k.2.length).sum ≤ 2 * L := by
  have := sum_le2 Wd fun k hk => (h.rw k hk).nmr.2.1
  rw [h.len] at this
  exact this
include h5 in
theorem DrW.num : NumOkD Wd := ⟨by have := h.len; omega, by have := h.sum; omega, fun k hk r hr => ((h.rw k hk).nmr.2.2.1 r hr).2.1⟩
include h5 in
theorem DrW.nd : (Wd.map fun k => k.1).Nodup := by
  have e : (List.range L).map (fun j : Nat => wd n j) = ((List.range L).map fun j : Nat => (j : Int)).map (wd n) := by rw [List.map_map]; rfl
  rw [h.kn, e]
  refine wd_nd n _ (fun k hk => ?_) ?_
  · obtain ⟨j, hj, rfl⟩ := List.mem_map.mp hk
    have := List.mem_range.mp hj
    omega
  · unfold List.Nodup
    rw [List.pairwise_map]
    exact List.nodup_range.imp fun hne e => hne (by omega)
include h5 in
theorem DrW.kinds : KindsOkD Wd := ⟨h.nd h5, fun k hk => (h.rw k hk).nmr.2.2.2.1, fun k hk r hr x hx => by
  obtain ⟨j, hj, rfl⟩ := ((h.rw k hk).nmr.2.2.1 r hr).2.2 x hx
  rw [h.kn]
  exact List.mem_map.mpr ⟨j, List.mem_range.mpr hj, rfl⟩, fun k hk => (h.rw k hk).nmr.2.2.2.2⟩
include h5 in
theorem DrW.strange : wd n 20 ∉ Wd.map fun k => k.1 := fun hm => by
  rw [h.kn] at hm
  obtain ⟨j, hj, e⟩ := List.mem_map.mp hm
  have := List.mem_range.mp hj
  have := wd_inj (n := n) ⟨by omega, by omega⟩ ⟨by decide, by decide⟩ e
  omega
end
theorem set_sum : ∀ (W : List KindD) (k : Nat) (x : KindD) (hk : k < W.length), ((W.set k x).map fun k => k.2.length).sum + W[k].2.length = (W.map fun k => k.2.length).sum + x.2.length
  | y :: W, 0, x, _ => by simp; omega
  | y :: W, k + 1, x, hk => by
    have := set_sum W k x (by simpa using hk)
    simp only [List.set_cons_succ, List.map_cons, List.sum_cons, List.getElem_cons_succ]
    omega
structure ChW (n : Int) (L : Nat) (Wd : List KindD) (k : Nat) (x : KindD) : Prop where
  dr : DrW n L L Wd
  l5 : L ≤ 5
  kl : k < Wd.length
  nm : NmK x
  len : x.2.length ≤ 3
  br : ∀ r ∈ x.2, r.2.length ≤ 7
theorem ChW.nmk {n : Int} {L k : Nat} {Wd : List KindD} {x : KindD} (h : ChW n L Wd k x) : ∀ y ∈ Wd.set k x, NmK y := fun y hy => by
  rcases List.mem_or_eq_of_mem_set hy with hy | rfl
  · exact h.dr.nmk y hy
  · exact h.nm
theorem ChW.small {n : Int} {L k : Nat} {Wd : List KindD} {x : KindD} (h : ChW n L Wd k x) : (woodT (Wd.set k x)).length ≤ 200 := by
  have h1 := set_len [59] kindT x Wd k h.kl
  have h2 := kindT_le (m := 7) h.br
  have h3 := h.dr.small h.l5
  have h4 := h.len
  have e1 : (woodT (Wd.set k x)).length = (ptT [59] kindT (Wd.set k x)).length := rfl
  have e2 : (woodT Wd).length = (ptT [59] kindT Wd).length := rfl
  omega
theorem ChW.num {n : Int} {L k : Nat} {Wd : List KindD} {x : KindD} (h : ChW n L Wd k x) (h4 : ∀ r ∈ x.2, r.2.length ≤ 4) : NumOkD (Wd.set k x) := by
  refine ⟨by rw [List.length_set]; have := h.dr.len; have := h.l5; omega, ?_, fun y hy r hr => ?_⟩
  · have h1 := set_sum Wd k x h.kl
    have h2 := h.dr.sum
    have := h.len
    have := h.l5
    omega
  · rcases List.mem_or_eq_of_mem_set hy with hy | rfl
    · exact (h.dr.num h.l5).2.2 y hy r hr
    · exact h4 r hr
theorem ChW.mem {n : Int} {L k : Nat} {Wd : List KindD} {x : KindD} (h : ChW n L Wd k x) : x ∈ Wd.set k x := List.mem_iff_getElem.mpr ⟨k, by rw [List.length_set]; exact h.kl, by rw [List.getElem_set_self]⟩
theorem set_map (Wd : List KindD) (k : Nat) (x : KindD) : (Wd.set k x).map partD = (Wd.map partD).set k (partD x) := List.map_set ..
theorem set_kn {Wd : List KindD} {k : Nat} (hk : k < Wd.length) {x : KindD} (e : x.1 = Wd[k].1) : (Wd.set k x).map (fun k => k.1) = Wd.map fun k => k.1 := by
  rw [List.map_set, e]
  have : Wd[k].1 = (Wd.map fun k => k.1)[k]'(by simpa using hk) := by rw [List.getElem_map]
  rw [this, List.set_getElem_self]
theorem no_num_br {W : List KindD} {k : KindD} {r : RowD} (hk : k ∈ W) (hr : r ∈ k.2) (h : 4 < r.2.length) : ¬ NumOkD W := fun z => by
  have := z.2.2 k hk r hr; omega
theorem no_num_rows {W : List KindD} (h : 16 < (W.map fun k => k.2.length).sum) : ¬ NumOkD W := fun z => by have := z.2.1; omega
theorem no_num_kinds {W : List KindD} (h : 6 < W.length) : ¬ NumOkD W := fun z => by have := z.1; omega
theorem no_kinds0 {W : List KindD} {k x : KindD} (hk : k ∈ W) (e : x.1 = k.1) : ¬ KindsOkD (W ++ [x]) := fun z => by
  have := z.nd
  rw [List.map_append, List.nodup_append] at this
  exact this.2.2 _ (List.mem_map_of_mem hk) _ (List.mem_singleton.mpr rfl) e.symm
theorem no_kinds1 {W : List KindD} {k : KindD} {rs : List RowD} {r x : RowD} (hk : k ∈ W) (ek : k.2 = rs ++ [x]) (hr : r ∈ rs) (e : x.1 = r.1) : ¬ KindsOkD W := fun z => by
  have := z.rnd k hk
  rw [ek, List.map_append, List.nodup_append] at this
  exact this.2.2 _ (List.mem_map_of_mem hr) _ (List.mem_singleton.mpr rfl) e.symm
theorem no_kinds2 {W : List KindD} {k : KindD} {r : RowD} {x : List Nat} (hk : k ∈ W) (hr : r ∈ k.2) (hx : x ∈ r.2) (e : x ∉ W.map fun k => k.1) : ¬ KindsOkD W := fun z => e (z.ins k hk r hr x hx)
theorem no_kinds3 {W : List KindD} {k : KindD} (hk : k ∈ W) (h : ∀ r ∈ k.2, r.2 ≠ []) : ¬ KindsOkD W := fun z => by
  obtain ⟨r, hr, e⟩ := z.leaf k hk
  exact h r hr e
end K8
namespace K8
open PySem L2 K3 TM K9
theorem PartsA.new {X : Hp} {l : Addr} {ps : List PtA} (h : ∀ p ∈ ps, PartA X p) (hl : X l = none) : PartsA (upd X l (.lst (ps.map fun p => V.ref p.1))) l ps :=
  ⟨upd_same, fun p hp => (h p hp).same (same_new hl _), fun p hp => (h p hp).off hl⟩
structure ResW (k : Nat) (Wd : List KindD) : Prop where
  nmk : ∀ k ∈ Wd, NmK k
  kl : k < Wd.length
  small : (woodT Wd).length ≤ 700
  num : NumOkD Wd
  no : ¬ KindsOkD Wd
def spWoodF : Sp := fun vs H Q _ => ∃ (l : Addr) (way k : Nat) (num n : Int) (L : Nat) (ps : List PtA) (Wd : List KindD), vs = [.ref l, .int (way : Int), .int (k : Int), .int num, .str (S (wd n 20))] ∧ way < 4 ∧ k < Wd.length ∧ PartsA H l ps ∧ ps.map datP = Wd.map partD ∧ DrW n L L Wd ∧ L ≤ 5 ∧ ∀ (l' : Addr) (H' : Hp) (ps' : List PtA) (Wd' : List KindD), PartsA H' l' ps' → ps'.map datP = Wd'.map partD → ResW k Wd' → SameX l H H' → Q (.ref l') H'
theorem rowT_one (a b : List Nat) : rowT (a, [b]) = [a, [40], b, [41]] := by unfold rowT brT; rw [if_neg (by simp)]; rfl
theorem rowT_two (a b c : List Nat) : rowT (a, [b, c]) = [a, [40], b, c, [41]] := by unfold rowT brT; rw [if_neg (by simp)]; rfl
section
variable {P : Program} {w : World} {K : PySem.W.Frag} {mg : Str → Option Value} {base : Heap} {f : Addr} {fd : FuncData}
theorem scWoodF : FnScope ["_law_parts", "_law_way", "_law_k", "_law_number", "_law_strange", "_law_kind", "_law_rows"] ["_law_parts", "_law_way", "_law_k", "_law_number", "_law_strange"] (defScope sWoodF) := ⟨rfl, rfl, rfl, by decide +kernel, rfl, by decide +kernel, by decide +kernel⟩
theorem ok_woodF (F : Fun K "_law_wood_fault" "_law_wood_fault" sWoodF f fd) (G : Gm mg) : FnOk P w K mg base CX0 1 f fd ["_law_parts", "_law_way", "_law_k", "_law_number", "_law_strange"] spWoodF := by
  refine F.ok scWoodF (fun vs H Q E h => ?_) (fun cdv A outer s H vs Q E hr h => ?_)
  · obtain ⟨l, way, k, num, n, L, ps, Wd, rfl, _⟩ := h
    rfl
  obtain ⟨l, way, k, num, n, L, ps, Wd, rfl, hway, hk, hP, hD, hdr, hL5, q⟩ := h
  refine ⟨_, (pss_cons (ps_asg (pe_ix ix_list (pv 0) (pv 2) (fun _ _ => rfl)) (pg_lst rfl (pgs_cons (pg_name (i := 5) scWoodF.nd rfl (Or.inl rfl)) (pgs_cons (pg_name (i := 6) scWoodF.nd rfl (Or.inl rfl)) pgs_nil))))
    (pss_cons (ps_cut (ps_if (pt_cmpR op_eq (pv 1) pe_int (nomark _)) (pss_one (ps_set (i := 0) scWoodF.nd rfl (Or.inl rfl) (pe_op op_catL (pv 0) (pe_lst (pa_cons ((pe_lst (pa_cons (pv 5) (pa_cons ((pe_lst (pa_cons ((pe_lst (pa_cons (pe_str) pa_nil))) pa_nil))) pa_nil)))) pa_nil))))) pss_nil))
    (pss_cons (ps_cut (ps_if (pt_cmpR op_eq (pv 1) pe_int (nomark _)) (pss_one (ps_asg (pe_lst (pa_cons (pv 5) (pa_cons (pe_op op_catL (pv 6) (pe_lst (pa_cons (pe_op op_catL (pe_lst (pa_cons (pe_ix ix_list (pe_ix ix_list (pv 6) (pe_op op_mod (pv 3) (pe_callB call_len_seq rfl G.len PySem.boot_len (pa_cons (pv 6) pa_nil))) (fun _ _ => rfl)) pe_int (fun _ _ => rfl)) pa_nil)) (pe_op op_rep (pe_lst (pa_cons (pe_str) (pa_cons (pv 5) (pa_cons (pe_str) pa_nil)))) (pe_op op_mod (pe_op op_fdiv (pv 3) pe_int) pe_int))) pa_nil))) pa_nil))) (pg_sub (pv 0) (pv 2) set_list))) pss_nil))
    (pss_cons (ps_cut (ps_if (pt_cmpR op_eq (pv 1) pe_int (nomark _)) (pss_one (ps_asg (pe_lst (pa_cons (pv 5) (pa_cons (pe_op op_catL (pv 6) (pe_lst (pa_cons ((pe_lst (pa_cons (pe_str) (pa_cons (pe_str) (pa_cons (pv 5) (pa_cons (pv 4) (pa_cons (pe_str) pa_nil))))))) pa_nil))) pa_nil))) (pg_sub (pv 0) (pv 2) set_list))) pss_nil))
    (pss_cons (ps_cut (ps_if (pt_cmpR op_eq (pv 1) pe_int (nomark _)) (pss_one (ps_asg (pe_lst (pa_cons (pv 5) (pa_cons (pe_op op_catL (pe_lst (pa_cons ((pe_lst (pa_cons (pe_ix ix_list (pe_ix ix_list (pv 6) pe_int (fun _ _ => rfl)) pe_int (fun _ _ => rfl)) (pa_cons (pe_str) (pa_cons (pv 5) (pa_cons (pe_str) pa_nil)))))) pa_nil)) (pe_slice sl_list (pv 6) (po_some pe_int) po_none)) pa_nil))) (pg_sub (pv 0) (pv 2) set_list))) pss_nil))
    (pss_one (ps_ret (pv 0)))))))), ?_⟩
  have hlen : ps.length = Wd.length := by have := congrArg List.length hD; rwa [List.length_map, List.length_map] at this
  have hkp : k < ps.length := by omega
  have hdk : datP ps[k] = partD Wd[k] := by
    have h1 : (ps.map datP)[k]'(by rw [List.length_map]; exact hkp) = (Wd.map partD)[k]'(by rw [List.length_map]; exact hk) := by congr 1
    rw [List.getElem_map, List.getElem_map] at h1
    exact h1
  have hpA0 := hP.at_ ps[k] (List.getElem_mem hkp)
  have hpO := hP.off ps[k] (List.getElem_mem hkp)
  have hmk : Wd[k] ∈ Wd := List.getElem_mem hk
  have hNk := hdr.nmk Wd[k] hmk
  have hrw := hdr.rw Wd[k] hmk
  have hat : atI (ps.map fun p => V.ref p.1) (k : Int) = some (.ref ps[k].1) := atI_nat (by rw [List.getElem?_map, List.getElem?_eq_getElem hkp]; rfl)
  have hkn : ∀ x : KindD, x.1 = Wd[k].1 → (Wd.set k x).map (fun k => k.1) = Wd.map fun k => k.1 := fun x e => set_kn hk e
  generalize hpk : ps[k] = pk at *
  obtain ⟨t, kws, lr, rs⟩ := pk
  obtain ⟨rfl, hrs⟩ : kws = [Wd[k].1] ∧ (rs.map fun x => x.2) = Wd[k].2.map rowT := by
    injection hdk with a b
    exact ⟨a, b⟩
  generalize hWk : Wd[k] = kd at *
  obtain ⟨hr1, hr2, hr3, hr4, hr5⟩ := hrw.nmr
  have hrl : rs.length = kd.2.length := by have := congrArg List.length hrs; rwa [List.length_map, List.length_map] at this
  have hr0 : 0 < kd.2.length := List.length_pos_iff.mpr hr1
  have hrat : ∀ (j : Nat) (h1 : j < rs.length) (h2 : j < kd.2.length), rs[j].2 = rowT kd.2[j] := fun j h1 h2 => by
    have h3 : (rs.map fun x => x.2)[j]'(by simpa using h1) = (kd.2.map rowT)[j]'(by simpa using h2) := by congr 1
    rw [List.getElem_map, List.getElem_map] at h3
    exact h3
  refine ⟨_, rfl, _, rfl, l, _, _, _, rfl, rfl, SqL.of hP.top, hat, _, _, rfl, SqL.of hpA0.pr, rfl, _, _, rfl, _, _, rfl, rfl, ?_⟩
  rw [gl_one]
  have en : Str.ofString "n" = S [110] := by decide +kernel
  have enn : Str.ofString "nn" = S [110, 110] := by decide +kernel
  have e40 : Str.ofString "(" = S [40] := by decide +kernel
  have e41 : Str.ofString ")" = S [41] := by decide +kernel
  have hst := wd_nm n 20
  let R : Nat → St → Hp → Prop := fun j σ' H' => ∃ l' : Addr, σ' = [some (.ref l'), some (.int (way : Int)), some (.int (k : Int)), some (.int num), some (.str (S (wd n 20))), some (.str (S kd.1)), some (.ref lr)] ∧ ((j ≤ way ∧ l' = l ∧ PartsA H' l ps ∧ Same H H') ∨ (way < j ∧ ∃ ps' Wd', PartsA H' l' ps' ∧ SameX l H H' ∧ ps'.map datP = Wd'.map partD ∧ ResW k Wd'))
  have skip : ∀ (j : Nat) σ' H', ¬ (decide (V.int (way : Int) = V.int (j : Int)) = true) → R j σ' H' → R (j + 1) σ' H' := fun j σ' H' hne ⟨l', e, h⟩ => ⟨l', e, by
    rcases h with ⟨h1, h2⟩ | ⟨h1, h2⟩
    · refine .inl ⟨?_, h2⟩
      have : way ≠ j := fun z => hne (decide_eq_true (by rw [z]))
      omega
    · exact .inr ⟨by omega, h2⟩⟩
  have here : ∀ (j : Nat) (l' : Addr) H', decide (V.int (way : Int) = V.int (j : Int)) = true → ((j ≤ way ∧ l' = l ∧ PartsA H' l ps ∧ Same H H') ∨ (way < j ∧ ∃ ps' Wd', PartsA H' l' ps' ∧ SameX l H H' ∧ ps'.map datP = Wd'.map partD ∧ ResW k Wd')) → way = j ∧ l' = l ∧ PartsA H' l ps ∧ Same H H' := fun j l' H' he h => by
    have e := of_decide_eq_true he
    injection e with e
    have e : way = j := by omega
    rcases h with ⟨h1, h2⟩ | ⟨h1, h2⟩
    · exact ⟨e, h2⟩
    · omega
  have nm1 : Nm [110] := ⟨by decide, by decide, by decide⟩
  have nm2 : Nm [110, 110] := ⟨by decide, by decide, by decide⟩
  refine ⟨R 1, ?_, ?_⟩
  · have hR : R 0 [some (.ref l), some (.int (way : Int)), some (.int (k : Int)), some (.int num), some (.str (S (wd n 20))), some (.str (S kd.1)), some (.ref lr)] H := ⟨l, rfl, .inl ⟨Nat.zero_le _, rfl, hP, fun _ _ e => e⟩⟩
    refine ⟨_, rfl, rfl, _, rfl, ite2 (fun c => ?_) (fun c => skip 0 _ _ c hR)⟩
    have e := of_decide_eq_true c
    injection e with e
    rw [en]
    refine ⟨_, rfl, _, rfl, (by show 1 ≤ sizeLine; decide), fun r1 hr1 => ?_⟩
    generalize hX : upd _ r1 _ = X1
    have s1 : Same H X1 := by rw [← hX]; exact same_new hr1 _
    have b1 : X1 r1 = some (.lst (W [[110]])) := by rw [← hX]; exact upd_same
    clear hX
    refine ⟨(by show 1 ≤ sizeLine; decide), fun l2 hl2 => ?_⟩
    have s2 := same_new hl2 (.lst [.ref r1])
    have b2 : upd X1 l2 (.lst [.ref r1]) l2 = some (.lst [.ref r1]) := upd_same
    generalize upd X1 l2 (.lst [.ref r1]) = X2 at s2 b2 ⊢
    refine ⟨(by show 2 ≤ sizeLine; decide), fun t3 ht3 => ?_⟩
    have s3 := same_new ht3 (.lst [.str (S kd.1), .ref l2])
    have b3 : upd X2 t3 (.lst [.str (S kd.1), .ref l2]) t3 = some (.lst [.str (S kd.1), .ref l2]) := upd_same
    generalize upd X2 t3 (.lst [.str (S kd.1), .ref l2]) = X3 at s3 b3 ⊢
    refine ⟨(by show 1 ≤ sizeLine; decide), fun l4 hl4 => ?_⟩
    have s4 := same_new hl4 (.lst [.ref t3])
    have b4 : upd X3 l4 (.lst [.ref t3]) l4 = some (.lst [.ref t3]) := upd_same
    generalize upd X3 l4 (.lst [.ref t3]) = X4 at s4 b4 ⊢
    have g4 : Same H X4 := s1.trans (s2.trans (s3.trans s4))
    have hpA : PartA X4 (t3, [kd.1], l2, [(r1, [[110]])]) := ⟨(by show X4 t3 = some (.lst [.str (S (gl [32] [kd.1])), .ref l2]); rw [gl_one]; exact s4 _ _ b3), (s3.trans s4) _ _ b2, fun x hx => by obtain rfl := List.mem_singleton.mp hx; exact (s2.trans (s3.trans s4)) _ _ b1⟩
    refine ⟨l, l4, _, _, rfl, rfl, SqL.of (g4 _ _ hP.top), SqL.of b4, (by rw [List.length_map]; exact line_of (by show _ + 1 ≤ _; have := hdr.len; omega)), fun l5 hl5 => ?_⟩
    rw [show (ps.map fun p => V.ref p.1) ++ [V.ref t3] = (ps ++ [((t3, [kd.1], l2, [(r1, [[110]])]) : PtA)]).map fun p => V.ref p.1 by simp]
    refine ⟨l5, rfl, .inr ⟨by omega, _, Wd ++ [(kd.1, [([110], [])])], PartsA.new (fun p hp => ?_) hl5, fun b u _ e => same_new hl5 _ _ _ (g4 _ _ e), ?_, ?_⟩⟩
    · rcases List.mem_append.mp hp with hp | hp
      · exact (hP.at_ p hp).same g4
      · obtain rfl := List.mem_singleton.mp hp; exact hpA
    · rw [List.map_append, List.map_append, hD]; rfl
    · have hNx : NmK (kd.1, [([110], [])]) := ⟨hNk.1, by simp, fun r hr => by obtain rfl := List.mem_singleton.mp hr; exact ⟨nm1, fun b hb => (nomatch hb)⟩⟩
      refine ⟨fun x hx => ?_, by rw [List.length_append]; omega, ?_, ⟨?_, ?_, fun x hx r hr => ?_⟩, no_kinds0 hmk rfl⟩
      · rcases List.mem_append.mp hx with hx | hx
        · exact hdr.nmk x hx
        · obtain rfl := List.mem_singleton.mp hx; exact hNx
      · have h1 := hdr.small hL5
        have e1 : woodT (Wd ++ [(kd.1, [([110], [])])]) = woodT Wd ++ [59] :: kindT (kd.1, [([110], [])]) := pt_more _ _ _ _ (fun z => by rw [z] at hk; cases hk)
        rw [e1, List.length_append, List.length_cons]
        show _ + (3 + 1) ≤ _
        omega
      · rw [List.length_append]; have := hdr.len; show _ + 1 ≤ _; omega
      · rw [List.map_append, List.sum_append]; have := hdr.sum; show _ + 1 ≤ _; omega
      · rcases List.mem_append.mp hx with hx | hx
        · exact (hdr.num hL5).2.2 x hx r hr
        · obtain rfl := List.mem_singleton.mp hx
          obtain rfl := List.mem_singleton.mp hr
          exact Nat.zero_le _
  rintro σ1 H10 ⟨l', rfl, hR2⟩
  refine ⟨R 2, ?_, ?_⟩
  · have hR : R 1 [some (.ref l'), some (.int (way : Int)), some (.int (k : Int)), some (.int num), some (.str (S (wd n 20))), some (.str (S kd.1)), some (.ref lr)] H10 := ⟨l', rfl, hR2⟩
    refine ⟨_, rfl, rfl, _, rfl, ite2 (fun c => ?_) (fun c => skip 1 _ _ c hR)⟩
    obtain ⟨ew, rfl, hP1, gH⟩ := here 1 _ _ c hR2
    have hc2 : 0 ≤ num / 4 % 2 := Int.emod_nonneg _ (by decide)
    have hc3 : num / 4 % 2 < 2 := Int.emod_lt_of_pos _ (by decide)
    have hj0 : 0 ≤ num % (kd.2.length : Int) := Int.emod_nonneg _ (by omega)
    have hj1 : num % (kd.2.length : Int) < (kd.2.length : Int) := Int.emod_lt_of_pos _ (by omega)
    obtain ⟨j, hj, hjl⟩ : ∃ j : Nat, num % (kd.2.length : Int) = (j : Int) ∧ j < kd.2.length := ⟨_, (Int.toNat_of_nonneg hj0).symm, by omega⟩
    have hjr : j < rs.length := by omega
    have hrow := hpA0.rw rs[j] (List.getElem_mem hjr)
    rw [hrat j hjr hjl] at hrow
    have hlrH : H10 lr = some (.lst (rs.map fun x => V.ref x.1)) := gH _ _ hpA0.rl
    have hatj : atI (rs.map fun x => V.ref x.1) (num % (((rs.map fun x => V.ref x.1).length : Nat) : Int)) = some (.ref rs[j].1) := by
      rw [List.length_map, hrl, hj]
      exact atI_nat (by rw [List.getElem?_map, List.getElem?_eq_getElem hjr]; rfl)
    have hmj := List.getElem_mem hjl
    generalize hkj : kd.2[j] = rj at *
    refine ⟨_, rfl, _, rfl, _, rfl, _, rfl, _, rfl, lr, _, rfl, .inl (SqL.of hlrH), _, _, rfl, rfl, (by rw [List.length_map]; omega), lr, _, _, _, rfl, rfl, SqL.of hlrH, hatj, rs[j].1, _, ((0 : Nat) : Int), .str (S rj.1), rfl, rfl, SqL.of (gH _ _ hrow), atI_nat rfl, (by show 1 ≤ sizeLine; decide), fun r0 hr0' => ?_⟩
    generalize hX : upd _ r0 _ = Xa
    have sa : Same H10 Xa := by rw [← hX]; exact same_new hr0' _
    have ba : Xa r0 = some (.lst (W [rj.1])) := by rw [← hX]; exact upd_same
    clear hX
    rw [e40, e41]
    refine ⟨_, rfl, (by show 3 ≤ sizeLine; decide), fun r2 hr2' => ?_⟩
    generalize hX : upd _ r2 _ = Xb
    have sb : Same Xa Xb := by rw [← hX]; exact same_new hr2' _
    have bb : Xb r2 = some (.lst (W [[40], kd.1, [41]])) := by rw [← hX]; exact upd_same
    clear hX
    obtain ⟨cn, hcn, hcn2⟩ : ∃ cn : Nat, num / 4 % 2 = (cn : Int) ∧ cn ≤ 1 := ⟨_, (Int.toNat_of_nonneg hc2).symm, by omega⟩
    refine ⟨_, rfl, _, _, rfl, rfl, ⟨(by show (0 : Int) < 4; decide), (by show (4 : Int) < 1073741824; decide)⟩, _, _, rfl, rfl, (by show (0 : Int) < 2; decide), r2, (cn : Int), _, rfl, (by rw [← hcn]), bb, (by omega), (by omega), (by rw [W_len, Int.toNat_natCast]; show 3 * cn ≤ sizeLine; exact line_of (by omega)), fun r3 hr3' => ?_⟩
    have hrep : (List.replicate ((cn : Int)).toNat (W [[40], kd.1, [41]])).flatten = W (List.replicate cn [[40], kd.1, [41]]).flatten := by
      rw [Int.toNat_natCast]
      rcases (show cn = 0 ∨ cn = 1 by omega) with rfl | rfl <;> rfl
    rw [hrep]
    generalize hX : upd _ r3 _ = Xc
    have sc : Same Xb Xc := by rw [← hX]; exact same_new hr3' _
    have bc : Xc r3 = some (.lst (W (List.replicate cn [[40], kd.1, [41]]).flatten)) := by rw [← hX]; exact upd_same
    clear hX
    refine ⟨r0, r3, _, _, rfl, rfl, SqL.of ((sb.trans sc) _ _ ba), SqL.of bc, (by rw [W_len, W_len, L2.len_rep]; exact line_of (by show 1 + cn * 3 ≤ _; omega)), fun r1 hr1 => ?_⟩
    rw [← W_app]
    have hbr : [rj.1] ++ (List.replicate cn [[40], kd.1, [41]]).flatten = rowT (rj.1, List.replicate cn kd.1) := by
      rcases (show cn = 0 ∨ cn = 1 by omega) with rfl | rfl
      · rfl
      · show _ = rowT (rj.1, [kd.1])
        rw [rowT_one]; rfl
    rw [hbr]
    have gN : Same H10 Xc := sa.trans (sb.trans sc)
    generalize hX : upd _ r1 _ = X2
    have s2 : Same Xc X2 := by rw [← hX]; exact same_new hr1 _
    have b2 : X2 r1 = some (.lst (W (rowT (rj.1, List.replicate cn kd.1)))) := by rw [← hX]; exact upd_same
    clear hX
    have gF : Same H10 X2 := gN.trans s2
    refine ⟨(by show 1 ≤ sizeLine; decide), fun l2 hl2 => ?_⟩
    have s3 := same_new hl2 (.lst [.ref r1])
    have b3 : upd X2 l2 (.lst [.ref r1]) l2 = some (.lst [.ref r1]) := upd_same
    generalize upd X2 l2 (.lst [.ref r1]) = X3 at s3 b3 ⊢
    have gg3 : Same H10 X3 := gF.trans s3
    have hlr3 : X3 lr = some (.lst (rs.map fun x => V.ref x.1)) := (gH.trans gg3) _ _ hpA0.rl
    refine ⟨lr, l2, _, _, rfl, rfl, SqL.of hlr3, SqL.of b3, (by rw [List.length_map]; exact line_of (by show _ + 1 ≤ _; omega)), fun l4 hl4 => ?_⟩
    rw [show (rs.map fun x => V.ref x.1) ++ [V.ref r1] = (rs ++ [(r1, rowT (rj.1, List.replicate cn kd.1))]).map fun x : RwA => V.ref x.1 by simp]
    have s4 := same_new hl4 (.lst ((rs ++ [(r1, rowT (rj.1, List.replicate cn kd.1))]).map fun x : RwA => V.ref x.1))
    have b4 : upd X3 l4 (.lst ((rs ++ [(r1, rowT (rj.1, List.replicate cn kd.1))]).map fun x : RwA => V.ref x.1)) l4 = some (.lst ((rs ++ [(r1, rowT (rj.1, List.replicate cn kd.1))]).map fun x : RwA => V.ref x.1)) := upd_same
    generalize upd X3 l4 (.lst ((rs ++ [(r1, rowT (rj.1, List.replicate cn kd.1))]).map fun x : RwA => V.ref x.1)) = X4 at s4 b4 ⊢
    refine ⟨(by show 2 ≤ sizeLine; decide), fun t5 ht5 => ?_⟩
    have s5 := same_new ht5 (.lst [.str (S kd.1), .ref l4])
    have b5 : upd X4 t5 (.lst [.str (S kd.1), .ref l4]) t5 = some (.lst [.str (S kd.1), .ref l4]) := upd_same
    generalize upd X4 t5 (.lst [.str (S kd.1), .ref l4]) = X5 at s5 b5 ⊢
    have g35 : Same X3 X5 := (s4.trans s5)
    have g5 : Same H10 X5 := gg3.trans g35
    have hP5 := hP1.same g5
    have hpA : PartA X5 (t5, [kd.1], l4, rs ++ [(r1, rowT (rj.1, List.replicate cn kd.1))]) := ⟨(by show X5 t5 = some (.lst [.str (S (gl [32] [kd.1])), .ref l4]); rw [gl_one]; exact b5), s5 _ _ b4, fun x hx => by
      rcases (show x ∈ rs ∨ x = (r1, rowT (rj.1, List.replicate cn kd.1)) from (List.mem_append.mp hx).imp id List.mem_singleton.mp) with hx | hx
      · exact (gH.trans g5) _ _ (hpA0.rw x hx)
      · obtain rfl := hx; exact (s3.trans g35) _ _ b2⟩
    have hof : Off l' (t5, [kd.1], l4, rs ++ [(r1, rowT (rj.1, List.replicate cn kd.1))]) := ⟨fresh_ne ht5 ((gg3.trans (s4)) _ _ hP1.top), fresh_ne hl4 (gg3 _ _ hP1.top), fun x hx => by
      rcases (show x ∈ rs ∨ x = (r1, rowT (rj.1, List.replicate cn kd.1)) from (List.mem_append.mp hx).imp id List.mem_singleton.mp) with hx | hx
      · exact hpO.rw x hx
      · obtain rfl := hx; exact fresh_ne hr1 (gN _ _ hP1.top)⟩
    obtain ⟨z1, z2⟩ := hP5.setX (k := k) (gH.trans g5) hpA hof
    refine ⟨_, rfl, _, rfl, l', _, _, k, rfl, rfl, hP5.top, L2.ixN_nat (by rw [List.length_map]; exact hkp), ?_⟩
    refine ⟨l', rfl, .inr ⟨by omega, _, Wd.set k (kd.1, kd.2 ++ [(rj.1, List.replicate cn kd.1)]), z1, z2, ?_, ?_⟩⟩
    · rw [List.map_set, hD, set_map]
      congr 1
      show ([kd.1], (rs ++ [(r1, rowT (rj.1, List.replicate cn kd.1))]).map fun x : RwA => x.2) = ([kd.1], (kd.2 ++ [(rj.1, List.replicate cn kd.1)]).map rowT)
      congr 1
      rw [List.map_append, List.map_append, hrs]; rfl
    · have hc : ChW n L Wd k (kd.1, kd.2 ++ [(rj.1, List.replicate cn kd.1)]) := by
        refine ⟨hdr, hL5, hk, ⟨hNk.1, by simp, fun r hr => ?_⟩, by rw [List.length_append]; show _ + 1 ≤ _; omega, fun r hr => ?_⟩
        · rcases List.mem_append.mp hr with hr | hr
          · exact (hr3 r hr).1
          · obtain rfl := List.mem_singleton.mp hr; exact ⟨(hr3 rj hmj).1.1, fun b hb => by rw [(List.mem_replicate.mp hb).2]; exact hNk.1⟩
        · rcases List.mem_append.mp hr with hr | hr
          · have := (hr3 r hr).2.1; omega
          · obtain rfl := List.mem_singleton.mp hr; show (List.replicate cn kd.1).length ≤ 7; rw [List.length_replicate]; omega
      refine ⟨hc.nmk, by rw [List.length_set]; exact hk, Nat.le_trans hc.small (by decide), hc.num fun r hr => ?_, ?_⟩
      · rcases List.mem_append.mp hr with hr | hr
        · exact (hr3 r hr).2.1
        · obtain rfl := List.mem_singleton.mp hr; show (List.replicate cn kd.1).length ≤ 4; rw [List.length_replicate]; omega
      · exact no_kinds1 hc.mem rfl hmj rfl
  rintro σ2 H20 ⟨l', rfl, hR2⟩
  refine ⟨R 3, ?_, ?_⟩
  · have hR : R 2 [some (.ref l'), some (.int (way : Int)), some (.int (k : Int)), some (.int num), some (.str (S (wd n 20))), some (.str (S kd.1)), some (.ref lr)] H20 := ⟨l', rfl, hR2⟩
    refine ⟨_, rfl, rfl, _, rfl, ite2 (fun c => ?_) (fun c => skip 2 _ _ c hR)⟩
    obtain ⟨ew, rfl, hP1, gH⟩ := here 2 _ _ c hR2
    rw [enn, e40, e41]
    refine ⟨_, rfl, _, rfl, _, rfl, _, rfl, (by show 5 ≤ sizeLine; decide), fun r1 hr1 => ?_⟩
    have gN : Same H20 H20 := fun _ _ e => e
    generalize hX : upd _ r1 _ = X2
    have gF : Same H20 X2 := by rw [← hX]; exact same_new hr1 _
    have b2 : X2 r1 = some (.lst (W (rowT ([110, 110], [kd.1, wd n 20])))) := by rw [← hX, rowT_two]; exact upd_same
    clear hX
    refine ⟨(by show 1 ≤ sizeLine; decide), fun l2 hl2 => ?_⟩
    have s3 := same_new hl2 (.lst [.ref r1])
    have b3 : upd X2 l2 (.lst [.ref r1]) l2 = some (.lst [.ref r1]) := upd_same
    generalize upd X2 l2 (.lst [.ref r1]) = X3 at s3 b3 ⊢
    have gg3 : Same H20 X3 := gF.trans s3
    have hlr3 : X3 lr = some (.lst (rs.map fun x => V.ref x.1)) := (gH.trans gg3) _ _ hpA0.rl
    refine ⟨lr, l2, _, _, rfl, rfl, SqL.of hlr3, SqL.of b3, (by rw [List.length_map]; exact line_of (by show _ + 1 ≤ _; omega)), fun l4 hl4 => ?_⟩
    rw [show (rs.map fun x => V.ref x.1) ++ [V.ref r1] = (rs ++ [(r1, rowT ([110, 110], [kd.1, wd n 20]))]).map fun x : RwA => V.ref x.1 by simp]
    have s4 := same_new hl4 (.lst ((rs ++ [(r1, rowT ([110, 110], [kd.1, wd n 20]))]).map fun x : RwA => V.ref x.1))
    have b4 : upd X3 l4 (.lst ((rs ++ [(r1, rowT ([110, 110], [kd.1, wd n 20]))]).map fun x : RwA => V.ref x.1)) l4 = some (.lst ((rs ++ [(r1, rowT ([110, 110], [kd.1, wd n 20]))]).map fun x : RwA => V.ref x.1)) := upd_same
    generalize upd X3 l4 (.lst ((rs ++ [(r1, rowT ([110, 110], [kd.1, wd n 20]))]).map fun x : RwA => V.ref x.1)) = X4 at s4 b4 ⊢
    refine ⟨(by show 2 ≤ sizeLine; decide), fun t5 ht5 => ?_⟩
    have s5 := same_new ht5 (.lst [.str (S kd.1), .ref l4])
    have b5 : upd X4 t5 (.lst [.str (S kd.1), .ref l4]) t5 = some (.lst [.str (S kd.1), .ref l4]) := upd_same
    generalize upd X4 t5 (.lst [.str (S kd.1), .ref l4]) = X5 at s5 b5 ⊢
    have g35 : Same X3 X5 := (s4.trans s5)
    have g5 : Same H20 X5 := gg3.trans g35
    have hP5 := hP1.same g5
    have hpA : PartA X5 (t5, [kd.1], l4, rs ++ [(r1, rowT ([110, 110], [kd.1, wd n 20]))]) := ⟨(by show X5 t5 = some (.lst [.str (S (gl [32] [kd.1])), .ref l4]); rw [gl_one]; exact b5), s5 _ _ b4, fun x hx => by
      rcases (show x ∈ rs ∨ x = (r1, rowT ([110, 110], [kd.1, wd n 20])) from (List.mem_append.mp hx).imp id List.mem_singleton.mp) with hx | hx
      · exact (gH.trans g5) _ _ (hpA0.rw x hx)
      · obtain rfl := hx; exact (s3.trans g35) _ _ b2⟩
    have hof : Off l' (t5, [kd.1], l4, rs ++ [(r1, rowT ([110, 110], [kd.1, wd n 20]))]) := ⟨fresh_ne ht5 ((gg3.trans (s4)) _ _ hP1.top), fresh_ne hl4 (gg3 _ _ hP1.top), fun x hx => by
      rcases (show x ∈ rs ∨ x = (r1, rowT ([110, 110], [kd.1, wd n 20])) from (List.mem_append.mp hx).imp id List.mem_singleton.mp) with hx | hx
      · exact hpO.rw x hx
      · obtain rfl := hx; exact fresh_ne hr1 (gN _ _ hP1.top)⟩
    obtain ⟨z1, z2⟩ := hP5.setX (k := k) (gH.trans g5) hpA hof
    refine ⟨_, rfl, _, rfl, l', _, _, k, rfl, rfl, hP5.top, L2.ixN_nat (by rw [List.length_map]; exact hkp), ?_⟩
    refine ⟨l', rfl, .inr ⟨by omega, _, Wd.set k (kd.1, kd.2 ++ [([110, 110], [kd.1, wd n 20])]), z1, z2, ?_, ?_⟩⟩
    · rw [List.map_set, hD, set_map]
      congr 1
      show ([kd.1], (rs ++ [(r1, rowT ([110, 110], [kd.1, wd n 20]))]).map fun x : RwA => x.2) = ([kd.1], (kd.2 ++ [([110, 110], [kd.1, wd n 20])]).map rowT)
      congr 1
      rw [List.map_append, List.map_append, hrs]; rfl
    · have hc : ChW n L Wd k (kd.1, kd.2 ++ [([110, 110], [kd.1, wd n 20])]) := by
        refine ⟨hdr, hL5, hk, ⟨hNk.1, by simp, fun r hr => ?_⟩, by rw [List.length_append]; show _ + 1 ≤ _; omega, fun r hr => ?_⟩
        · rcases List.mem_append.mp hr with hr | hr
          · exact (hr3 r hr).1
          · obtain rfl := List.mem_singleton.mp hr
            refine ⟨nm2, fun b hb => ?_⟩
            simp only [List.mem_cons, List.not_mem_nil, or_false] at hb
            rcases hb with rfl | rfl
            · exact hNk.1
            · exact hst
        · rcases List.mem_append.mp hr with hr | hr
          · have := (hr3 r hr).2.1; omega
          · obtain rfl := List.mem_singleton.mp hr; show 2 ≤ 7; decide
      refine ⟨hc.nmk, by rw [List.length_set]; exact hk, Nat.le_trans hc.small (by decide), hc.num fun r hr => ?_, ?_⟩
      · rcases List.mem_append.mp hr with hr | hr
        · exact (hr3 r hr).2.1
        · obtain rfl := List.mem_singleton.mp hr; show 2 ≤ 4; decide
      · exact no_kinds2 hc.mem (r := ([110, 110], [kd.1, wd n 20])) (List.mem_append_right _ List.mem_cons_self) (x := wd n 20) (by simp) (by rw [hkn (kd.1, kd.2 ++ [([110, 110], [kd.1, wd n 20])]) rfl]; exact hdr.strange hL5)
  rintro σ3 H30 ⟨l', rfl, hR2⟩
  refine ⟨R 4, ?_, ?_⟩
  · have hR : R 3 [some (.ref l'), some (.int (way : Int)), some (.int (k : Int)), some (.int num), some (.str (S (wd n 20))), some (.str (S kd.1)), some (.ref lr)] H30 := ⟨l', rfl, hR2⟩
    refine ⟨_, rfl, rfl, _, rfl, ite2 (fun c => ?_) (fun c => skip 3 _ _ c hR)⟩
    obtain ⟨ew, rfl, hP1, gH⟩ := here 3 _ _ c hR2
    have hjr : 0 < rs.length := by omega
    have hrow := hpA0.rw rs[0] (List.getElem_mem hjr)
    rw [hrat 0 hjr hr0] at hrow
    have hlrH : H30 lr = some (.lst (rs.map fun x => V.ref x.1)) := gH _ _ hpA0.rl
    have hatj : atI (rs.map fun x => V.ref x.1) (0 : Int) = some (.ref rs[0].1) := atI_nat (j := 0) (by rw [List.getElem?_map, List.getElem?_eq_getElem hjr]; rfl)
    have hmj := List.getElem_mem hr0
    have hrest : ∀ r ∈ kd.2.drop 1, r ∈ kd.2 ∧ r.2 ≠ [] := fun r hr => by
      refine ⟨List.mem_of_mem_drop hr, fun z => ?_⟩
      obtain ⟨a, _, e | ⟨b, bs, _, _, e, h1, _⟩⟩ := hrw
      · rw [e] at hr; cases hr
      · rw [e] at hr
        obtain rfl := List.mem_singleton.mp hr
        rw [show bs = [] from z] at h1
        cases h1
    generalize hkj : kd.2[0] = rj at *
    rw [e40, e41]
    refine ⟨_, rfl, _, rfl, lr, _, _, _, rfl, rfl, SqL.of hlrH, hatj, rs[0].1, _, ((0 : Nat) : Int), .str (S rj.1), rfl, rfl, SqL.of (gH _ _ hrow), atI_nat rfl, _, rfl, (by show 4 ≤ sizeLine; decide), fun r1 hr1 => ?_⟩
    have gN : Same H30 H30 := fun _ _ e => e
    generalize hX : upd _ r1 _ = X2
    have gF : Same H30 X2 := by rw [← hX]; exact same_new hr1 _
    have b2 : X2 r1 = some (.lst (W (rowT (rj.1, [kd.1])))) := by rw [← hX, rowT_one]; exact upd_same
    clear hX
    refine ⟨(by show 1 ≤ sizeLine; decide), fun l2 hl2 => ?_⟩
    have s3 := same_new hl2 (.lst [.ref r1])
    have b3 : upd X2 l2 (.lst [.ref r1]) l2 = some (.lst [.ref r1]) := upd_same
    generalize upd X2 l2 (.lst [.ref r1]) = X3 at s3 b3 ⊢
    have gg3 : Same H30 X3 := gF.trans s3
    have hlr3 : X3 lr = some (.lst (rs.map fun x => V.ref x.1)) := (gH.trans gg3) _ _ hpA0.rl
    refine ⟨_, rfl, _, rfl, lr, _, rfl, SqL.of hlr3, fun l6 hl6 => ?_⟩
    rw [show cutV (rs.map fun x => V.ref x.1) (some 1) none = (rs.drop 1).map fun x => V.ref x.1 from (cutFrom _ 1).trans (List.map_drop ..).symm]
    generalize hX : upd _ l6 _ = X6
    have s6 : Same X3 X6 := by rw [← hX]; exact same_new hl6 _
    have b6 : X6 l6 = some (.lst ((rs.drop 1).map fun x => V.ref x.1)) := by rw [← hX]; exact upd_same
    clear hX
    refine ⟨l2, l6, _, _, rfl, rfl, SqL.of (s6 _ _ b3), SqL.of b6, (by rw [List.length_map, List.length_drop]; exact line_of (by show 1 + _ ≤ _; omega)), fun l4 hl4 => ?_⟩
    rw [show [V.ref r1] ++ ((rs.drop 1).map fun x => V.ref x.1) = ((r1, rowT (rj.1, [kd.1])) :: rs.drop 1).map fun x : RwA => V.ref x.1 by simp]
    have s4 := same_new hl4 (.lst (((r1, rowT (rj.1, [kd.1])) :: rs.drop 1).map fun x : RwA => V.ref x.1))
    have b4 : upd X6 l4 (.lst (((r1, rowT (rj.1, [kd.1])) :: rs.drop 1).map fun x : RwA => V.ref x.1)) l4 = some (.lst (((r1, rowT (rj.1, [kd.1])) :: rs.drop 1).map fun x : RwA => V.ref x.1)) := upd_same
    generalize upd X6 l4 (.lst (((r1, rowT (rj.1, [kd.1])) :: rs.drop 1).map fun x : RwA => V.ref x.1)) = X4 at s4 b4 ⊢
    refine ⟨(by show 2 ≤ sizeLine; decide), fun t5 ht5 => ?_⟩
    have s5 := same_new ht5 (.lst [.str (S kd.1), .ref l4])
    have b5 : upd X4 t5 (.lst [.str (S kd.1), .ref l4]) t5 = some (.lst [.str (S kd.1), .ref l4]) := upd_same
    generalize upd X4 t5 (.lst [.str (S kd.1), .ref l4]) = X5 at s5 b5 ⊢
    have g35 : Same X3 X5 := s6.trans (s4.trans s5)
    have g5 : Same H30 X5 := gg3.trans g35
    have hP5 := hP1.same g5
    have hpA : PartA X5 (t5, [kd.1], l4, (r1, rowT (rj.1, [kd.1])) :: rs.drop 1) := ⟨(by show X5 t5 = some (.lst [.str (S (gl [32] [kd.1])), .ref l4]); rw [gl_one]; exact b5), s5 _ _ b4, fun x hx => by
      rcases (show x ∈ rs ∨ x = (r1, rowT (rj.1, [kd.1])) from (List.mem_cons.mp hx).symm.imp List.mem_of_mem_drop id) with hx | hx
      · exact (gH.trans g5) _ _ (hpA0.rw x hx)
      · obtain rfl := hx; exact (s3.trans g35) _ _ b2⟩
    have hof : Off l' (t5, [kd.1], l4, (r1, rowT (rj.1, [kd.1])) :: rs.drop 1) := ⟨fresh_ne ht5 ((gg3.trans (s6.trans s4)) _ _ hP1.top), fresh_ne hl4 ((gg3.trans s6) _ _ hP1.top), fun x hx => by
      rcases (show x ∈ rs ∨ x = (r1, rowT (rj.1, [kd.1])) from (List.mem_cons.mp hx).symm.imp List.mem_of_mem_drop id) with hx | hx
      · exact hpO.rw x hx
      · obtain rfl := hx; exact fresh_ne hr1 (gN _ _ hP1.top)⟩
    obtain ⟨z1, z2⟩ := hP5.setX (k := k) (gH.trans g5) hpA hof
    refine ⟨_, rfl, _, rfl, l', _, _, k, rfl, rfl, hP5.top, L2.ixN_nat (by rw [List.length_map]; exact hkp), ?_⟩
    refine ⟨l', rfl, .inr ⟨by omega, _, Wd.set k (kd.1, (rj.1, [kd.1]) :: kd.2.drop 1), z1, z2, ?_, ?_⟩⟩
    · rw [List.map_set, hD, set_map]
      congr 1
      show ([kd.1], ((r1, rowT (rj.1, [kd.1])) :: rs.drop 1).map fun x : RwA => x.2) = ([kd.1], ((rj.1, [kd.1]) :: kd.2.drop 1).map rowT)
      congr 1
      rw [List.map_cons, List.map_cons, List.map_drop, hrs, List.map_drop]
    · have hc : ChW n L Wd k (kd.1, (rj.1, [kd.1]) :: kd.2.drop 1) := by
        refine ⟨hdr, hL5, hk, ⟨hNk.1, by simp, fun r hr => ?_⟩, by rw [List.length_cons, List.length_drop]; omega, fun r hr => ?_⟩
        · rcases List.mem_cons.mp hr with rfl | hr
          · exact ⟨(hr3 rj hmj).1.1, fun b hb => by rw [List.mem_singleton.mp hb]; exact hNk.1⟩
          · exact (hr3 r (hrest r hr).1).1
        · rcases List.mem_cons.mp hr with rfl | hr
          · show 1 ≤ 7; decide
          · have := (hr3 r (hrest r hr).1).2.1; omega
      refine ⟨hc.nmk, by rw [List.length_set]; exact hk, Nat.le_trans hc.small (by decide), hc.num fun r hr => ?_, ?_⟩
      · rcases List.mem_cons.mp hr with rfl | hr
        · show 1 ≤ 4; decide
        · exact (hr3 r (hrest r hr).1).2.1
      · refine no_kinds3 hc.mem fun r hr => ?_
        rcases List.mem_cons.mp hr with rfl | hr
        · exact fun z => (by cases z)
        · exact (hrest r hr).2
  rintro σ4 H40 ⟨l', rfl, hR2⟩
  rcases hR2 with ⟨h1, _⟩ | ⟨_, ps', Wd', z1, z2, z3, z4⟩
  · omega
  · exact ⟨_, rfl, q l' H40 ps' Wd' z1 z3 z4 z2⟩
end
end K8
namespace K8
open PySem L2 K3 TM K9
structure ResN (Wd : List KindD) : Prop where
  ne : Wd ≠ []
  nmk : ∀ k ∈ Wd, NmK k
  small : (woodT Wd).length ≤ 700
  no : ¬ NumOkD Wd
def spNumF : Sp := fun vs H Q _ => ∃ (l : Addr) (way k : Nat) (num n : Int) (L : Nat) (ps : List PtA) (Wd : List KindD), vs = [.ref l, .int (way : Int), .int (k : Int), .int num] ∧ way < 3 ∧ k < Wd.length ∧ PartsA H l ps ∧ ps.map datP = Wd.map partD ∧ DrW n L L Wd ∧ L ≤ 5 ∧ ∀ (l' : Addr) (H' : Hp) (ps' : List PtA) (Wd' : List KindD), PartsA H' l' ps' → ps'.map datP = Wd'.map partD → ResN Wd' → SameX l H H' → Q (.ref l') H'
theorem two_at {x y : V} (n : Int) : ∃ v, (v = x ∨ v = y) ∧ atI [x, y] (n % 2) = some v := by
  have h0 : 0 ≤ n % 2 := Int.emod_nonneg _ (by decide)
  have h1 : n % 2 < 2 := Int.emod_lt_of_pos _ (by decide)
  rcases (show n % 2 = 0 ∨ n % 2 = 1 by omega) with h | h <;> rw [h]
  · exact ⟨x, .inl rfl, rfl⟩
  · exact ⟨y, .inr rfl, rfl⟩
theorem seven_let : ∀ x ∈ ([[97, 98, 99, 100, 101, 102, 103], [97, 98, 99, 100, 101, 102, 97]] : List (List Nat)), ∀ j : Nat, j < 7 → ∃ c, c ∈ letL ∧ x[j]? = some c := by
  intro x hx j hj
  have hl : ∀ x ∈ ([[97, 98, 99, 100, 101, 102, 103], [97, 98, 99, 100, 101, 102, 97]] : List (List Nat)), x.length = 7 ∧ ∀ c ∈ x, c ∈ letL := by decide
  obtain ⟨h1, h2⟩ := hl x hx
  exact ⟨x[j], h2 _ (List.getElem_mem (by omega)), List.getElem?_eq_getElem (by omega)⟩
theorem rowT_rep (a b : List Nat) (c : Nat) (h : 0 < c) : rowT (a, List.replicate c b) = [a, [40]] ++ List.replicate c b ++ [[41]] := by
  unfold rowT brT
  rw [if_neg (by intro z; have := congrArg List.length z; simp at this; omega)]
  simp
theorem rowsC {K : PySem.W.Frag} {a acc : Addr} {nn : List (List Nat)} {H1 : Hp} {Q : Hp → Prop} (hl : SqL K H1 a (W nn)) (hacc : H1 acc = none) (hn : nn.length ≤ 100)
    (hd : ∀ (rs : List RwA) (H' : Hp), (rs.map fun x => x.2) = nn.map (fun x => [x]) → H' acc = some (.lst (rs.map fun x => V.ref x.1)) → Same H1 H' → (∀ x ∈ rs, H' x.1 = some (.lst (W x.2)) ∧ H1 x.1 = none) → Q H') :
    CGoal (Itl K a) 1 [] (gName 0) (fun _ H Q => Q true H) (tLst (tCons (tVar 0) tNil)) H1 acc Q := by
  refine c1_list (K := K) (xs := W nn) (cs := []) (tt := fun _ H Q => Q true H) (fun j ys H' => ∃ rs : List RwA, ys = rs.map (fun x => V.ref x.1) ∧ (rs.map fun x => x.2) = (nn.take j).map (fun x => [x]) ∧ H' acc = some (.lst ys) ∧ Same H1 H' ∧ ∀ x ∈ rs, H' x.1 = some (.lst (W x.2)) ∧ H1 x.1 = none ∧ x.1 ≠ acc)
    ⟨[], rfl, rfl, upd_same, same_new hacc _, fun x hx => (nomatch hx)⟩ ?_ ?_ ?_
  · rintro j ys H' _ ⟨_, _, _, _, g, _⟩
    exact g.seq hl
  · rintro j x ys H' hj hx ⟨rs, rfl, hrs, hy, g, hA⟩
    rw [W_len] at hj
    obtain rfl : x = .str (S nn[j]) := by
      unfold W at hx
      rw [List.getElem?_map, List.getElem?_eq_getElem hj] at hx
      exact (Option.some.inj hx).symm
    refine iteT ⟨_, rfl, (by show 1 ≤ sizeLine; decide), fun r hr => ?_⟩
    generalize hX : upd _ r _ = X2
    have s2 : Same H' X2 := by rw [← hX]; exact same_new hr _
    have b2 : X2 r = some (.lst (W [nn[j]])) := by rw [← hX]; exact upd_same
    clear hX
    have nr : r ≠ acc := fresh_ne hr hy
    have hlr : rs.length = j := by have := congrArg List.length hrs; rw [List.length_map, List.length_map, List.length_take] at this; omega
    rw [W_len]
    refine comp_next hj (s2 _ _ hy) (by rw [List.length_map]; omega) ⟨rs ++ [(r, [nn[j]])], by simp, ?_, upd_same, fun b u e => ?_, fun x hx => ?_⟩
    · rw [List.map_append, hrs, List.take_add_one, List.getElem?_eq_getElem hj, Option.toList_some, List.map_append]; rfl
    · rw [upd_ne (ne_of_none e hacc)]; exact s2 _ _ (g _ _ e)
    · rcases List.mem_append.mp hx with hx | hx
      · obtain ⟨a1, a2, a3⟩ := hA x hx
        exact ⟨by rw [upd_ne a3]; exact s2 _ _ a1, a2, a3⟩
      · obtain rfl := List.mem_singleton.mp hx
        exact ⟨by rw [upd_ne nr]; exact b2, none_back g hr, nr⟩
  · rintro ys H' ⟨rs, rfl, hrs, hy, g, hA⟩
    rw [W_len, List.take_length] at hrs
    exact hd rs H' hrs hy g fun x hx => ⟨(hA x hx).1, (hA x hx).2.1⟩
def oneR (x : List Nat) : RowD := (x, [])
theorem ones_map (nn : List (List Nat)) : nn.map (fun x => [x]) = (nn.map oneR).map rowT := by
  rw [List.map_map]
  refine List.map_congr_left fun x _ => ?_
  show [x] = rowT (x, [])
  unfold rowT brT
  rw [if_pos rfl]
theorem ones_nmk {c : List Nat} {nn : List (List Nat)} (hc : Nm c) (h0 : nn ≠ []) (h : ∀ x ∈ nn, Nm x) : NmK (c, nn.map oneR) := ⟨hc, by simpa using h0, fun r hr => by
  obtain ⟨x, hx, rfl⟩ := List.mem_map.mp hr
  exact ⟨h x hx, fun b hb => (nomatch hb)⟩⟩
theorem ones_len (c : List Nat) (nn : List (List Nat)) : (kindT (c, nn.map oneR)).length ≤ 2 + nn.length * 4 := by
  have := kindT_le (k := (c, nn.map oneR)) (m := 0) fun r hr => by obtain ⟨x, hx, rfl⟩ := List.mem_map.mp hr; exact Nat.le_refl _
  rw [List.length_map] at this
  exact this
section
variable {P : Program} {w : World} {K : PySem.W.Frag} {mg : Str → Option Value} {base : Heap} {f : Addr} {fd : FuncData}
theorem scNumF : FnScope ["_law_parts", "_law_way", "_law_k", "_law_number", "_law_kind", "_law_rows", "_law_names", "_law_cut"] ["_law_parts", "_law_way", "_law_k", "_law_number"] (defScope sNumF) := ⟨rfl, rfl, rfl, by decide +kernel, rfl, by decide +kernel, by decide +kernel⟩
theorem ok_numF (F : Fun K "_law_number_fault" "_law_number_fault" sNumF f fd) (G : Gm mg) : FnOk P w K mg base CX0 1 f fd ["_law_parts", "_law_way", "_law_k", "_law_number"] spNumF := by
  refine F.ok scNumF (fun vs H Q E h => ?_) (fun cdv A outer s H vs Q E hr h => ?_)
  · obtain ⟨l, way, k, num, n, L, ps, Wd, rfl, _⟩ := h
    rfl
  obtain ⟨l, way, k, num, n, L, ps, Wd, rfl, hway, hk, hP, hD, hdr, hL5, q⟩ := h
  refine ⟨_, (pss_cons (ps_asg (pe_ix ix_list (pv 0) (pv 2) (fun _ _ => rfl)) (pg_lst rfl (pgs_cons (pg_name (i := 4) scNumF.nd rfl (Or.inl rfl)) (pgs_cons (pg_name (i := 5) scNumF.nd rfl (Or.inl rfl)) pgs_nil))))
    (pss_cons (ps_cut (ps_if (pt_cmpR op_eq (pv 1) pe_int (nomark _)) (pss_one (ps_setG (i := 0) (CompG.many (xs := ["_law_j"]) (caps := ["_law_number"]) (cap := [3]) (cs := [_]) rfl rfl (by decide +kernel) (by decide +kernel) (by decide +kernel) (by decide +kernel) (by decide +kernel) (by decide +kernel) rfl rfl rfl) rfl (pi_range1 rfl G.rng (pa_cons (pe_int) pa_nil)) (pg_c1 (CompG.many (xs := ["_law_j"]) (caps := ["_law_number"]) (cap := [3]) (cs := [_]) rfl rfl (by decide +kernel) (by decide +kernel) (by decide +kernel) (by decide +kernel) (by decide +kernel) (by decide +kernel) rfl rfl rfl)) (fun _ _ _ _ => pf_nil) (fun _ _ _ _ => (pe_lst (pa_cons (pe_op op_add_str pe_str (pe_ix ix_str (pe_ix (r := rIxL K) ix_list (pe_lst (pa_cons (pe_str) (pa_cons (pe_str) pa_nil))) (pe_op op_mod (pv 1) pe_int) (fun _ _ => rfl)) (pv 0) (fun _ _ => rfl))) (pa_cons ((pe_lst (pa_cons ((pe_lst (pa_cons (pe_str) pa_nil))) pa_nil))) pa_nil)))) scNumF.nd rfl rfl)) pss_nil))
    (pss_cons (ps_cut (ps_if (pt_cmpR op_eq (pv 1) pe_int (nomark _)) (pss_cons (ps_setG (i := 6) (CompG.many (xs := ["_law_j"]) (caps := ["_law_number"]) (cap := [3]) (cs := [_]) rfl rfl (by decide +kernel) (by decide +kernel) (by decide +kernel) (by decide +kernel) (by decide +kernel) (by decide +kernel) rfl rfl rfl) rfl (pi_range1 rfl G.rng (pa_cons (pe_int) pa_nil)) (pg_c1 (CompG.many (xs := ["_law_j"]) (caps := ["_law_number"]) (cap := [3]) (cs := [_]) rfl rfl (by decide +kernel) (by decide +kernel) (by decide +kernel) (by decide +kernel) (by decide +kernel) (by decide +kernel) rfl rfl rfl)) (fun _ _ _ _ => pf_nil) (fun _ _ _ _ => pe_op op_add_str pe_str (pe_ix ix_str pe_str (pe_op op_mod (pv 0) (pe_op op_sub pe_int (pe_op op_mod (pv 1) pe_int))) (fun _ _ => rfl))) scNumF.nd rfl rfl)
    (pss_cons (ps_set (i := 7) scNumF.nd rfl (Or.inl rfl) (pe_op op_add pe_int (pe_op op_mod (pe_op op_fdiv (pv 3) pe_int) pe_int)))
    (pss_cons (ps_set (i := 0) scNumF.nd rfl (Or.inl rfl) (pe_lst (pa_cons ((pe_lst (pa_cons (pe_str) (pa_cons (pe_lcompG (CompG.many (xs := ["_law_name"]) (caps := []) (cap := []) (cs := []) rfl rfl (by decide +kernel) (by decide +kernel) (by decide +kernel) (by decide +kernel) (by decide +kernel) (by decide +kernel) rfl rfl rfl) rfl (pi_list (pe_slice sl_list (pv 6) po_none (po_some (pv 7)))) (pg_c1 (CompG.many (xs := ["_law_name"]) (caps := []) (cap := []) (cs := []) rfl rfl (by decide +kernel) (by decide +kernel) (by decide +kernel) (by decide +kernel) (by decide +kernel) (by decide +kernel) rfl rfl rfl)) (fun _ _ _ _ => pf_nil) (fun _ _ _ _ => (pe_lst (pa_cons (pv 0) pa_nil)))) pa_nil)))) pa_nil)))
    (pss_one (ps_if (pt_cmpR op_lt (pv 7) pe_int (nomark _)) (pss_one (ps_expr (pe_bm PySem.F.plainAttrs_list PySem.F.slot_list_append PySem.F.type_list_append mt_append (pv 0) (pa_cons ((pe_lst (pa_cons (pe_str) (pa_cons (pe_lcompG (CompG.many (xs := ["_law_name"]) (caps := []) (cap := []) (cs := []) rfl rfl (by decide +kernel) (by decide +kernel) (by decide +kernel) (by decide +kernel) (by decide +kernel) (by decide +kernel) rfl rfl rfl) rfl (pi_list (pe_slice sl_list (pv 6) (po_some (pv 7)) po_none)) (pg_c1 (CompG.many (xs := ["_law_name"]) (caps := []) (cap := []) (cs := []) rfl rfl (by decide +kernel) (by decide +kernel) (by decide +kernel) (by decide +kernel) (by decide +kernel) (by decide +kernel) rfl rfl rfl)) (fun _ _ _ _ => pf_nil) (fun _ _ _ _ => (pe_lst (pa_cons (pv 0) pa_nil)))) pa_nil)))) pa_nil)))) pss_nil))))) pss_nil))
    (pss_cons (ps_cut (ps_if (pt_cmpR op_eq (pv 1) pe_int (nomark _)) (pss_one (ps_asg (pe_lst (pa_cons (pv 4) (pa_cons (pe_op op_catL (pv 5) (pe_lst (pa_cons (pe_op op_catL (pe_op op_catL (pe_lst (pa_cons (pe_str) (pa_cons (pe_str) pa_nil))) (pe_op op_rep (pe_lst (pa_cons (pe_ix ix_list (pe_lst (pa_cons (pv 4) (pa_cons (pe_str) pa_nil))) (pe_op op_mod (pv 3) pe_int) (fun _ _ => rfl)) pa_nil)) (pe_op op_add pe_int (pe_op op_mod (pv 3) pe_int)))) (pe_lst (pa_cons (pe_str) pa_nil))) pa_nil))) pa_nil))) (pg_sub (pv 0) (pv 2) set_list))) pss_nil))
    (pss_one (ps_ret (pv 0))))))), ?_⟩
  have hlen : ps.length = Wd.length := by have := congrArg List.length hD; rwa [List.length_map, List.length_map] at this
  have hkp : k < ps.length := by omega
  have hdk : datP ps[k] = partD Wd[k] := by
    have h1 : (ps.map datP)[k]'(by rw [List.length_map]; exact hkp) = (Wd.map partD)[k]'(by rw [List.length_map]; exact hk) := by congr 1
    rw [List.getElem_map, List.getElem_map] at h1
    exact h1
  have hpA0 := hP.at_ ps[k] (List.getElem_mem hkp)
  have hpO := hP.off ps[k] (List.getElem_mem hkp)
  have hmk : Wd[k] ∈ Wd := List.getElem_mem hk
  have hNk := hdr.nmk Wd[k] hmk
  have hrw := hdr.rw Wd[k] hmk
  have hat : atI (ps.map fun p => V.ref p.1) (k : Int) = some (.ref ps[k].1) := atI_nat (by rw [List.getElem?_map, List.getElem?_eq_getElem hkp]; rfl)
  generalize hpk : ps[k] = pk at *
  obtain ⟨t, kws, lr, rs⟩ := pk
  obtain ⟨rfl, hrs⟩ : kws = [Wd[k].1] ∧ (rs.map fun x => x.2) = Wd[k].2.map rowT := by
    injection hdk with a b
    exact ⟨a, b⟩
  generalize hWk : Wd[k] = kd at *
  obtain ⟨hr1, hr2, hr3, hr4, hr5⟩ := hrw.nmr
  have hrl : rs.length = kd.2.length := by have := congrArg List.length hrs; rwa [List.length_map, List.length_map] at this
  refine ⟨_, rfl, _, rfl, l, _, _, _, rfl, rfl, SqL.of hP.top, hat, _, _, rfl, SqL.of hpA0.pr, rfl, _, _, rfl, _, _, rfl, rfl, ?_⟩
  rw [gl_one]
  have eq1 : Str.ofString "q" = S [113] := by decide +kernel
  have er1 : Str.ofString "r" = S [114] := by decide +kernel
  have ew1 : Str.ofString "w" = S [119] := by decide +kernel
  have en : Str.ofString "n" = S [110] := by decide +kernel
  have ewa : Str.ofString "wa" = S [119, 97] := by decide +kernel
  have eun : Str.ofString "unknown" = S [117, 110, 107, 110, 111, 119, 110] := by decide +kernel
  have eg : Str.ofString "abcdefg" = S [97, 98, 99, 100, 101, 102, 103] := by decide +kernel
  have ea : Str.ofString "abcdefa" = S [97, 98, 99, 100, 101, 102, 97] := by decide +kernel
  have e40 : Str.ofString "(" = S [40] := by decide +kernel
  have e41 : Str.ofString ")" = S [41] := by decide +kernel
  let R : Nat → St → Hp → Prop := fun j σ' H' => ∃ (l' : Addr) (c6 c7 : Option V), σ' = [some (.ref l'), some (.int (way : Int)), some (.int (k : Int)), some (.int num), some (.str (S kd.1)), some (.ref lr), c6, c7] ∧ ((j ≤ way ∧ l' = l ∧ PartsA H' l ps ∧ Same H H') ∨ (way < j ∧ ∃ ps' Wd', PartsA H' l' ps' ∧ SameX l H H' ∧ ps'.map datP = Wd'.map partD ∧ ResN Wd'))
  have skip : ∀ (j : Nat) σ' H', ¬ (decide (V.int (way : Int) = V.int (j : Int)) = true) → R j σ' H' → R (j + 1) σ' H' := fun j σ' H' hne ⟨l', c6, c7, e, h⟩ => ⟨l', c6, c7, e, by
    rcases h with ⟨h1, h2⟩ | ⟨h1, h2⟩
    · refine .inl ⟨?_, h2⟩
      have : way ≠ j := fun z => hne (decide_eq_true (by rw [z]))
      omega
    · exact .inr ⟨by omega, h2⟩⟩
  have here : ∀ (j : Nat) (l' : Addr) H', decide (V.int (way : Int) = V.int (j : Int)) = true → ((j ≤ way ∧ l' = l ∧ PartsA H' l ps ∧ Same H H') ∨ (way < j ∧ ∃ ps' Wd', PartsA H' l' ps' ∧ SameX l H H' ∧ ps'.map datP = Wd'.map partD ∧ ResN Wd')) → way = j ∧ l' = l ∧ PartsA H' l ps ∧ Same H H' := fun j l' H' he h => by
    have e := of_decide_eq_true he
    injection e with e
    have e : way = j := by omega
    rcases h with ⟨h1, h2⟩ | ⟨h1, h2⟩
    · exact ⟨e, h2⟩
    · omega
  refine ⟨R 1, ?_, ?_⟩
  · have hR : R 0 [some (.ref l), some (.int (way : Int)), some (.int (k : Int)), some (.int num), some (.str (S kd.1)), some (.ref lr), none, none] H := ⟨l, none, none, rfl, .inl ⟨Nat.zero_le _, rfl, hP, fun _ _ e => e⟩⟩
    refine ⟨_, rfl, rfl, _, rfl, ite2 (fun c => ?_) (fun c => skip 0 _ _ c hR)⟩
    have e := of_decide_eq_true c
    injection e with e
    refine ⟨7, rfl, (by decide), (by decide), fun acc hacc => ?_⟩
    refine c1_range (lo := 0) (n := 7) (cs := [some (.int num)]) (tt := fun _ H Q => Q true H) (fun j ys H' => ∃ (ps' : List PtA) (Wd' : List KindD), ys = ps'.map (fun p => V.ref p.1) ∧ PartsA H' acc ps' ∧ ps'.map datP = Wd'.map partD ∧ Wd'.length = j ∧ (∀ k ∈ Wd', NmK k ∧ (kindT k).length ≤ 3) ∧ Same H H')
      ⟨[], [], rfl, ⟨upd_same, fun p hp => (nomatch hp), fun p hp => (nomatch hp)⟩, rfl, rfl, fun k hk => (nomatch hk), same_new hacc _⟩ ?_ ?_
    · rintro j ys H' hj ⟨ps', Wd', rfl, hP', hD', hl', hK', g⟩
      have ej : (0 : Int) + (j : Int) = (j : Int) := by omega
      rw [ej, eq1, eg, ea, en]
      refine iteT ⟨(by show 2 ≤ sizeLine; decide), fun la hla => ?_⟩
      generalize hX : upd _ la _ = X1
      have s1 : Same H' X1 := by rw [← hX]; exact same_new hla _
      have b1 : X1 la = some (.lst [.str (S [97, 98, 99, 100, 101, 102, 103]), .str (S [97, 98, 99, 100, 101, 102, 97])]) := by rw [← hX]; exact upd_same
      clear hX
      obtain ⟨v, hv, hatv⟩ := two_at (x := .str (S [97, 98, 99, 100, 101, 102, 103])) (y := .str (S [97, 98, 99, 100, 101, 102, 97])) num
      obtain ⟨x, hx, rfl⟩ : ∃ x ∈ ([[97, 98, 99, 100, 101, 102, 103], [97, 98, 99, 100, 101, 102, 97]] : List (List Nat)), v = .str (S x) := by
        rcases hv with rfl | rfl
        · exact ⟨_, List.mem_cons_self, rfl⟩
        · exact ⟨_, List.mem_cons_of_mem _ List.mem_cons_self, rfl⟩
      obtain ⟨ch, hch, hxj⟩ := seven_let x hx j hj
      have hxl : x.length ≤ 7 := by
        have : ∀ x ∈ ([[97, 98, 99, 100, 101, 102, 103], [97, 98, 99, 100, 101, 102, 97]] : List (List Nat)), x.length ≤ 7 := by decide
        exact this x hx
      refine ⟨_, rfl, _, _, rfl, rfl, (by show (0 : Int) < 2; decide), la, _, _, _, rfl, rfl, SqL.of b1, hatv, _, rfl, S x, _, ch, rfl, rfl, (by rw [S_len]; exact line_of (by omega)), (by rw [S_list]; exact atI_nat hxj), ?_⟩
      refine ⟨_, _, rfl, rfl, (by rw [S_len]; exact line_of (by show 1 + 1 ≤ _; decide)), ?_⟩
      rw [one_S, S_app]
      refine ⟨(by show 1 ≤ sizeLine; decide), fun r1 hr1 => ?_⟩
      generalize hX : upd _ r1 _ = X2
      have s2 : Same X1 X2 := by rw [← hX]; exact same_new hr1 _
      have b2 : X2 r1 = some (.lst (W [[110]])) := by rw [← hX]; exact upd_same
      clear hX
      refine ⟨(by show 1 ≤ sizeLine; decide), fun l2 hl2 => ?_⟩
      have s3 := same_new hl2 (.lst [.ref r1])
      have b3 : upd X2 l2 (.lst [.ref r1]) l2 = some (.lst [.ref r1]) := upd_same
      generalize upd X2 l2 (.lst [.ref r1]) = X3 at s3 b3 ⊢
      refine ⟨(by show 2 ≤ sizeLine; decide), fun t4 ht4 => ?_⟩
      have s4 := same_new ht4 (.lst [.str (S ([113] ++ [ch])), .ref l2])
      have b4 : upd X3 t4 (.lst [.str (S ([113] ++ [ch])), .ref l2]) t4 = some (.lst [.str (S ([113] ++ [ch])), .ref l2]) := upd_same
      generalize upd X3 t4 (.lst [.str (S ([113] ++ [ch])), .ref l2]) = X4 at s4 b4 ⊢
      have g4 : Same H' X4 := s1.trans (s2.trans (s3.trans s4))
      have hpA : PartA X4 (t4, [[113] ++ [ch]], l2, [(r1, [[110]])]) := ⟨(by show X4 t4 = some (.lst [.str (S (gl [32] [[113] ++ [ch]])), .ref l2]); rw [gl_one]; exact b4), s4 _ _ b3, fun x hx => by obtain rfl := List.mem_singleton.mp hx; exact (s3.trans s4) _ _ b2⟩
      have hof : Off acc (t4, [[113] ++ [ch]], l2, [(r1, [[110]])]) := ⟨fresh_ne (none_back (s1.trans (s2.trans s3)) ht4) hP'.top, fresh_ne (none_back (s1.trans s2) hl2) hP'.top, fun x hx => by obtain rfl := List.mem_singleton.mp hx; exact fresh_ne (none_back s1 hr1) hP'.top⟩
      have hlp : ps'.length = j := by have := congrArg List.length hD'; rw [List.length_map, List.length_map] at this; omega
      have hP4 := hP'.same g4
      refine comp_next hj hP4.top (by rw [List.length_map]; omega) ⟨ps' ++ [(t4, [[113] ++ [ch]], l2, [(r1, [[110]])])], Wd' ++ [([113] ++ [ch], [([110], [])])], by simp, hP4.add hpA hof, ?_, by simp [hl'], fun x hx => ?_, fun b u e => ?_⟩
      · rw [List.map_append, List.map_append, hD']; rfl
      · rcases List.mem_append.mp hx with hx | hx
        · exact hK' x hx
        · obtain rfl := List.mem_singleton.mp hx
          refine ⟨⟨⟨by simp, by simp, fun c hc => ?_⟩, by simp, fun r hr => ?_⟩, by show 3 ≤ 3; decide⟩
          · simp only [List.mem_append, List.mem_singleton] at hc
            rcases hc with rfl | rfl
            · decide
            · exact hch
          · obtain rfl := List.mem_singleton.mp hr
            exact ⟨⟨by decide, by decide, by decide⟩, fun b hb => (nomatch hb)⟩
      · rw [upd_ne (ne_of_none e hacc)]; exact g4 _ _ (g _ _ e)
    · rintro ys H' ⟨ps', Wd', rfl, hP', hD', hl', hK', g⟩
      refine ⟨acc, none, none, rfl, .inr ⟨by omega, ps', Wd', hP', SameX.of g, hD', ⟨fun z => (by rw [z] at hl'; cases hl'), fun k hk => (hK' k hk).1, ?_, no_num_kinds (by omega)⟩⟩⟩
      have := pt_le (sg := [59]) (tk := kindT) (m := 3) Wd' fun k hk => (hK' k hk).2
      show (ptT [59] kindT Wd').length ≤ _
      omega
  rintro σ1 H10 ⟨l', c6, c7, rfl, hR2⟩
  refine ⟨R 2, ?_, ?_⟩
  · have hR : R 1 [some (.ref l'), some (.int (way : Int)), some (.int (k : Int)), some (.int num), some (.str (S kd.1)), some (.ref lr), c6, c7] H10 := ⟨l', c6, c7, rfl, hR2⟩
    refine ⟨_, rfl, rfl, _, rfl, ite2 (fun c => ?_) (fun c => skip 1 _ _ c hR)⟩
    obtain ⟨ew, rfl, hP1, gH⟩ := here 1 _ _ c hR2
    refine ⟨17, rfl, (by decide), (by decide), fun an han => ?_⟩
    refine c1_range (lo := 0) (n := 17) (cs := [some (.int num)]) (tt := fun _ H Q => Q true H) (fun j ys H' => ∃ nn : List (List Nat), ys = W nn ∧ nn.length = j ∧ (∀ x ∈ nn, Nm x) ∧ H' an = some (.lst ys) ∧ Same H10 H')
      ⟨[], rfl, rfl, fun x hx => (nomatch hx), upd_same, same_new han _⟩ ?_ ?_
    · rintro j ys H' hj ⟨nn, rfl, hnl, hnn, hy, g⟩
      have ej : (0 : Int) + (j : Int) = (j : Int) := by omega
      rw [ej, ew1]
      have h20 : 0 ≤ num % 2 := Int.emod_nonneg _ (by decide)
      have h21 : num % 2 < 2 := Int.emod_lt_of_pos _ (by decide)
      have i0 : 0 ≤ (j : Int) % (17 - num % 2) := Int.emod_nonneg _ (by omega)
      have i1 : (j : Int) % (17 - num % 2) < 17 - num % 2 := Int.emod_lt_of_pos _ (by omega)
      obtain ⟨y, hy0, hy1⟩ : ∃ y : Nat, (j : Int) % (17 - num % 2) = (y : Int) ∧ y < 26 := ⟨_, (Int.toNat_of_nonneg i0).symm, by omega⟩
      refine iteT ⟨_, rfl, _, rfl, _, _, rfl, rfl, (by show (0 : Int) < 2; decide), _, _, rfl, rfl, _, _, rfl, rfl, (by show (0 : Int) < 17 - num % 2; omega), LETS, _, 97 + y, rfl, rfl, (by rw [let_eq, S_len]; exact line_of (by decide)), (by rw [let_cps]; show atI letL ((j : Int) % (17 - num % 2)) = _; rw [hy0]; exact atI_nat (let_ix y hy1)), ?_⟩
      refine ⟨_, _, rfl, rfl, (by rw [S_len]; exact line_of (by show 1 + 1 ≤ _; decide)), ?_⟩
      rw [one_S, S_app]
      refine comp_next hj hy (by rw [W_len]; omega) ⟨nn ++ [[119] ++ [97 + y]], by rw [W_app]; rfl, by simp [hnl], fun x hx => ?_, upd_same, fun b u e => ?_⟩
      · rcases List.mem_append.mp hx with hx | hx
        · exact hnn x hx
        · obtain rfl := List.mem_singleton.mp hx
          refine ⟨by simp, by simp, fun c hc => ?_⟩
          simp only [List.mem_append, List.mem_singleton] at hc
          rcases hc with rfl | rfl
          · decide
          · exact let_in y hy1
      · rw [upd_ne (ne_of_none e han)]; exact g _ _ e
    rintro ys H11 ⟨nn, rfl, hnl, hnn, hy, g11⟩
    have hc0 : 0 ≤ num / 2 % 17 := Int.emod_nonneg _ (by decide)
    have hc1 : num / 2 % 17 < 17 := Int.emod_lt_of_pos _ (by decide)
    obtain ⟨cu, hcu, hcu1, hcu2⟩ : ∃ cu : Nat, 1 + num / 2 % 17 = (cu : Int) ∧ 1 ≤ cu ∧ cu ≤ 17 := ⟨(1 + num / 2 % 17).toNat, by omega, by omega, by omega⟩
    refine ⟨_, rfl, _, _, rfl, rfl, ⟨(by show (0 : Int) < 2; decide), (by show (2 : Int) < 1073741824; decide)⟩, _, _, rfl, rfl, (by show (0 : Int) < 17; decide), _, _, rfl, rfl, ?_⟩
    dsimp only
    rw [hcu, eq1]
    refine ⟨_, rfl, _, rfl, _, rfl, an, _, rfl, SqL.of hy, fun ls hls => ?_⟩
    rw [cutTo, show (W nn).take cu = W (nn.take cu) from (List.map_take ..).symm]
    generalize hX : upd _ ls _ = X1
    have s1 : Same H11 X1 := by rw [← hX]; exact same_new hls _
    have b1 : X1 ls = some (.lst (W (nn.take cu))) := by rw [← hX]; exact upd_same
    clear hX
    refine ⟨ls, rfl, ⟨_, SqL.of b1⟩, fun ac hac => ?_⟩
    refine rowsC (nn := nn.take cu) (SqL.of b1) hac (by rw [List.length_take]; omega) fun rs1 X2 hr1' hac2 s2 hA1 => ?_
    refine ⟨(by show 2 ≤ sizeLine; decide), fun t3 ht3 => ?_⟩
    have s3 := same_new ht3 (.lst [.str (S [113]), .ref ac])
    have b3 : upd X2 t3 (.lst [.str (S [113]), .ref ac]) t3 = some (.lst [.str (S [113]), .ref ac]) := upd_same
    generalize upd X2 t3 (.lst [.str (S [113]), .ref ac]) = X3 at s3 b3 ⊢
    refine ⟨(by show 1 ≤ sizeLine; decide), fun l4 hl4 => ?_⟩
    have hpA : PartA X3 (t3, [[113]], ac, rs1) := ⟨(by show X3 t3 = some (.lst [.str (S (gl [32] [[113]])), .ref ac]); rw [gl_one]; exact b3), s3 _ _ hac2, fun x hx => s3 _ _ (hA1 x hx).1⟩
    have hP4 := PartsA.new (ps := [(t3, [[113]], ac, rs1)]) (l := l4) (fun p hp => by obtain rfl := List.mem_singleton.mp hp; exact hpA) hl4
    have s4 := same_new hl4 (.lst [.ref t3])
    change PartsA (upd X3 l4 (.lst [.ref t3])) l4 _ at hP4
    generalize upd X3 l4 (.lst [.ref t3]) = X4 at s4 hP4 ⊢
    have g4 : Same H11 X4 := s1.trans (s2.trans (s3.trans s4))
    have gT : Same H X4 := gH.trans (g11.trans g4)
    have hn1 : Nm [113] := ⟨by decide, by decide, by decide⟩
    have hn2 : Nm [114] := ⟨by decide, by decide, by decide⟩
    have ht0 : nn.take cu ≠ [] := fun z => by have := congrArg List.length z; rw [List.length_take, List.length_nil] at this; omega
    have hk1 := ones_nmk hn1 ht0 fun x hx => hnn x (List.mem_of_mem_take hx)
    have hl1 := ones_len [113] (nn.take cu)
    rw [List.length_take] at hl1
    have hlt : ((nn.take cu).map oneR).length = cu := by rw [List.length_map, List.length_take]; omega
    refine ⟨_, rfl, _, _, rfl, rfl, _, rfl, ite2 (fun cc => ?_) (fun cc => ?_)⟩
    · have hcl : cu < 17 := by have : (cu : Int) < 17 := of_decide_eq_true cc; omega
      rw [er1]
      refine ⟨_, rfl, .inl ⟨rfl, _, SqL.of hP4.top⟩, _, rfl, _, rfl, _, rfl, an, _, rfl, SqL.of (g4 _ _ hy), fun ls5 hls5 => ?_⟩
      rw [cutFrom, show (W nn).drop cu = W (nn.drop cu) from (List.map_drop ..).symm]
      generalize hX : upd _ ls5 _ = X5
      have s5 : Same X4 X5 := by rw [← hX]; exact same_new hls5 _
      have b5 : X5 ls5 = some (.lst (W (nn.drop cu))) := by rw [← hX]; exact upd_same
      clear hX
      refine ⟨ls5, rfl, ⟨_, SqL.of b5⟩, fun ac6 hac6 => ?_⟩
      refine rowsC (nn := nn.drop cu) (SqL.of b5) hac6 (by rw [List.length_drop]; omega) fun rs6 X6 hr6 hac6' s6 hA6 => ?_
      refine ⟨(by show 2 ≤ sizeLine; decide), fun t7 ht7 => ?_⟩
      have s7 := same_new ht7 (.lst [.str (S [114]), .ref ac6])
      have b7 : upd X6 t7 (.lst [.str (S [114]), .ref ac6]) t7 = some (.lst [.str (S [114]), .ref ac6]) := upd_same
      generalize upd X6 t7 (.lst [.str (S [114]), .ref ac6]) = X7 at s7 b7 ⊢
      have g7 : Same X4 X7 := s5.trans (s6.trans s7)
      have hpA7 : PartA X7 (t7, [[114]], ac6, rs6) := ⟨(by show X7 t7 = some (.lst [.str (S (gl [32] [[114]])), .ref ac6]); rw [gl_one]; exact b7), s7 _ _ hac6', fun x hx => s7 _ _ (hA6 x hx).1⟩
      have hof7 : Off l4 (t7, [[114]], ac6, rs6) := ⟨fresh_ne (none_back (s5.trans s6) ht7) hP4.top, fresh_ne (none_back s5 hac6) hP4.top, fun x hx => fresh_ne (none_back s5 (hA6 x hx).2) hP4.top⟩
      have hP7 := hP4.same g7
      have nl4 : H l4 = none := none_back (gH.trans (g11.trans (s1.trans (s2.trans s3)))) hl4
      have hd0 : nn.drop cu ≠ [] := fun z => by have := congrArg List.length z; rw [List.length_drop, List.length_nil] at this; omega
      have hk2 := ones_nmk hn2 hd0 fun x hx => hnn x (List.mem_of_mem_drop hx)
      have hl2 := ones_len [114] (nn.drop cu)
      rw [List.length_drop] at hl2
      refine ⟨l4, _, _, rfl, rfl, hP7.top, (by show 1 < sizeLine; decide), ?_⟩
      refine ⟨l4, _, _, rfl, .inr ⟨by omega, _, [([113], (nn.take cu).map oneR), ([114], (nn.drop cu).map oneR)], hP7.add hpA7 hof7, fun b u _ e => ?_, ?_, ⟨by simp, fun x hx => ?_, ?_, no_num_rows ?_⟩⟩⟩
      · rw [upd_ne (ne_of_none e nl4)]; exact g7 _ _ (gT _ _ e)
      · show [([[113]], rs1.map fun x => x.2), ([[114]], rs6.map fun x => x.2)] = [([[113]], ((nn.take cu).map oneR).map rowT), ([[114]], ((nn.drop cu).map oneR).map rowT)]
        rw [hr1', hr6, ones_map, ones_map]
      · simp only [List.mem_cons, List.not_mem_nil, or_false] at hx
        rcases hx with rfl | rfl
        · exact hk1
        · exact hk2
      · have := pt_le (sg := [59]) (tk := kindT) (m := 70) [([113], (nn.take cu).map oneR), ([114], (nn.drop cu).map oneR)] fun x hx => by
          simp only [List.mem_cons, List.not_mem_nil, or_false] at hx
          rcases hx with rfl | rfl
          · omega
          · omega
        show (ptT [59] kindT _).length ≤ _
        simp only [List.length_cons, List.length_nil] at this
        omega
      · show 16 < ((nn.take cu).map oneR).length + (((nn.drop cu).map oneR).length + 0)
        rw [hlt, List.length_map, List.length_drop]; omega
    · have hcl : cu = 17 := by
        have : ¬ (cu : Int) < 17 := fun z => cc (decide_eq_true z)
        omega
      refine ⟨l4, _, _, rfl, .inr ⟨by omega, _, [([113], (nn.take cu).map oneR)], hP4, SameX.of gT, ?_, ⟨by simp, fun x hx => ?_, ?_, no_num_rows ?_⟩⟩⟩
      · show [([[113]], rs1.map fun x => x.2)] = [([[113]], ((nn.take cu).map oneR).map rowT)]
        rw [hr1', ones_map]
      · obtain rfl := List.mem_singleton.mp hx; exact hk1
      · have := pt_le (sg := [59]) (tk := kindT) (m := 70) [([113], (nn.take cu).map oneR)] fun x hx => by
          obtain rfl := List.mem_singleton.mp hx
          omega
        show (ptT [59] kindT _).length ≤ _
        simp only [List.length_cons, List.length_nil] at this
        omega
      · show 16 < ((nn.take cu).map oneR).length + 0
        rw [hlt]; omega
  rintro σ2 H20 ⟨l', c6, c7, rfl, hR2⟩
  refine ⟨R 3, ?_, ?_⟩
  · have hR : R 2 [some (.ref l'), some (.int (way : Int)), some (.int (k : Int)), some (.int num), some (.str (S kd.1)), some (.ref lr), c6, c7] H20 := ⟨l', c6, c7, rfl, hR2⟩
    refine ⟨_, rfl, rfl, _, rfl, ite2 (fun c => ?_) (fun c => skip 2 _ _ c hR)⟩
    obtain ⟨ew, rfl, hP1, gH⟩ := here 2 _ _ c hR2
    rw [ewa, e40, e41, eun]
    refine ⟨_, rfl, _, rfl, (by show 2 ≤ sizeLine; decide), fun ra hra => ?_⟩
    generalize hX : upd _ ra _ = Xa
    have sa : Same H20 Xa := by rw [← hX]; exact same_new hra _
    have ba : Xa ra = some (.lst (W [[119, 97], [40]])) := by rw [← hX]; exact upd_same
    clear hX
    refine ⟨_, rfl, (by show 2 ≤ sizeLine; decide), fun rb hrb => ?_⟩
    generalize hX : upd _ rb _ = Xb
    have sb : Same Xa Xb := by rw [← hX]; exact same_new hrb _
    have bb : Xb rb = some (.lst [.str (S kd.1), .str (S [117, 110, 107, 110, 111, 119, 110])]) := by rw [← hX]; exact upd_same
    clear hX
    obtain ⟨v, hv, hatv⟩ := two_at (x := .str (S kd.1)) (y := .str (S [117, 110, 107, 110, 111, 119, 110])) num
    obtain ⟨bn, hbn, rfl⟩ : ∃ bn, Nm bn ∧ v = .str (S bn) := by
      rcases hv with rfl | rfl
      · exact ⟨_, hNk.1, rfl⟩
      · exact ⟨_, ⟨by decide, by decide, by decide⟩, rfl⟩
    refine ⟨_, rfl, _, _, rfl, rfl, (by show (0 : Int) < 2; decide), rb, _, _, _, rfl, rfl, SqL.of bb, hatv, (by show 1 ≤ sizeLine; decide), fun rc hrc => ?_⟩
    generalize hX : upd _ rc _ = Xc
    have sc : Same Xb Xc := by rw [← hX]; exact same_new hrc _
    have bc : Xc rc = some (.lst [.str (S bn)]) := by rw [← hX]; exact upd_same
    clear hX
    have hm0 : 0 ≤ num % 3 := Int.emod_nonneg _ (by decide)
    have hm1 : num % 3 < 3 := Int.emod_lt_of_pos _ (by decide)
    obtain ⟨cn, hcn, hcn5, hcn7⟩ : ∃ cn : Nat, 5 + num % 3 = (cn : Int) ∧ 5 ≤ cn ∧ cn ≤ 7 := ⟨(5 + num % 3).toNat, by omega, by omega, by omega⟩
    refine ⟨_, rfl, _, _, rfl, rfl, (by show (0 : Int) < 3; decide), _, _, rfl, rfl, rc, (cn : Int), _, rfl, (by rw [← hcn]), bc, (by omega), (by omega), (by rw [Int.toNat_natCast]; show 1 * cn ≤ sizeLine; exact line_of (by omega)), fun rd hrd => ?_⟩
    have hrep : (List.replicate ((cn : Int)).toNat [V.str (S bn)]).flatten = W (List.replicate cn bn) := by
      rw [Int.toNat_natCast]
      unfold W
      rw [List.map_replicate]
      clear hcn hcn5 hcn7
      induction cn with
      | zero => rfl
      | succ m ih => rw [List.replicate_succ, List.flatten_cons, ih, List.replicate_succ]; rfl
    rw [hrep]
    generalize hX : upd _ rd _ = Xd
    have sd : Same Xc Xd := by rw [← hX]; exact same_new hrd _
    have bd : Xd rd = some (.lst (W (List.replicate cn bn))) := by rw [← hX]; exact upd_same
    clear hX
    refine ⟨ra, rd, _, _, rfl, rfl, SqL.of ((sb.trans (sc.trans sd)) _ _ ba), SqL.of bd, (by rw [W_len, W_len, List.length_replicate]; exact line_of (by show 2 + cn ≤ _; omega)), fun re hre => ?_⟩
    rw [← W_app]
    generalize hX : upd _ re _ = Xe
    have se : Same Xd Xe := by rw [← hX]; exact same_new hre _
    have be : Xe re = some (.lst (W ([[119, 97], [40]] ++ List.replicate cn bn))) := by rw [← hX]; exact upd_same
    clear hX
    refine ⟨(by show 1 ≤ sizeLine; decide), fun rf hrf => ?_⟩
    generalize hX : upd _ rf _ = Xf
    have sf : Same Xe Xf := by rw [← hX]; exact same_new hrf _
    have bf : Xf rf = some (.lst (W [[41]])) := by rw [← hX]; exact upd_same
    clear hX
    refine ⟨re, rf, _, _, rfl, rfl, SqL.of (sf _ _ be), SqL.of bf, (by rw [W_len, W_len, List.length_append, List.length_replicate]; exact line_of (by show 2 + cn + 1 ≤ _; omega)), fun r1 hr1 => ?_⟩
    rw [← W_app, ← rowT_rep _ _ _ (by omega)]
    have gN : Same H20 Xf := sa.trans (sb.trans (sc.trans (sd.trans (se.trans sf))))
    generalize hX : upd _ r1 _ = X2
    have s2 : Same Xf X2 := by rw [← hX]; exact same_new hr1 _
    have b2 : X2 r1 = some (.lst (W (rowT ([119, 97], List.replicate cn bn)))) := by rw [← hX]; exact upd_same
    clear hX
    have gF : Same H20 X2 := gN.trans s2
    refine ⟨(by show 1 ≤ sizeLine; decide), fun l2 hl2 => ?_⟩
    have s3 := same_new hl2 (.lst [.ref r1])
    have b3 : upd X2 l2 (.lst [.ref r1]) l2 = some (.lst [.ref r1]) := upd_same
    generalize upd X2 l2 (.lst [.ref r1]) = X3 at s3 b3 ⊢
    have gg3 : Same H20 X3 := gF.trans s3
    have hlr3 : X3 lr = some (.lst (rs.map fun x => V.ref x.1)) := (gH.trans gg3) _ _ hpA0.rl
    refine ⟨lr, l2, _, _, rfl, rfl, SqL.of hlr3, SqL.of b3, (by rw [List.length_map]; exact line_of (by show _ + 1 ≤ _; omega)), fun l4 hl4 => ?_⟩
    rw [show (rs.map fun x => V.ref x.1) ++ [V.ref r1] = (rs ++ [(r1, rowT ([119, 97], List.replicate cn bn))]).map fun x : RwA => V.ref x.1 by simp]
    have s4 := same_new hl4 (.lst ((rs ++ [(r1, rowT ([119, 97], List.replicate cn bn))]).map fun x : RwA => V.ref x.1))
    have b4 : upd X3 l4 (.lst ((rs ++ [(r1, rowT ([119, 97], List.replicate cn bn))]).map fun x : RwA => V.ref x.1)) l4 = some (.lst ((rs ++ [(r1, rowT ([119, 97], List.replicate cn bn))]).map fun x : RwA => V.ref x.1)) := upd_same
    generalize upd X3 l4 (.lst ((rs ++ [(r1, rowT ([119, 97], List.replicate cn bn))]).map fun x : RwA => V.ref x.1)) = X4 at s4 b4 ⊢
    refine ⟨(by show 2 ≤ sizeLine; decide), fun t5 ht5 => ?_⟩
    have s5 := same_new ht5 (.lst [.str (S kd.1), .ref l4])
    have b5 : upd X4 t5 (.lst [.str (S kd.1), .ref l4]) t5 = some (.lst [.str (S kd.1), .ref l4]) := upd_same
    generalize upd X4 t5 (.lst [.str (S kd.1), .ref l4]) = X5 at s5 b5 ⊢
    have g35 : Same X3 X5 := (s4.trans s5)
    have g5 : Same H20 X5 := gg3.trans g35
    have hP5 := hP1.same g5
    have hpA : PartA X5 (t5, [kd.1], l4, rs ++ [(r1, rowT ([119, 97], List.replicate cn bn))]) := ⟨(by show X5 t5 = some (.lst [.str (S (gl [32] [kd.1])), .ref l4]); rw [gl_one]; exact b5), s5 _ _ b4, fun x hx => by
      rcases (show x ∈ rs ∨ x = (r1, rowT ([119, 97], List.replicate cn bn)) from (List.mem_append.mp hx).imp id List.mem_singleton.mp) with hx | hx
      · exact (gH.trans g5) _ _ (hpA0.rw x hx)
      · obtain rfl := hx; exact (s3.trans g35) _ _ b2⟩
    have hof : Off l' (t5, [kd.1], l4, rs ++ [(r1, rowT ([119, 97], List.replicate cn bn))]) := ⟨fresh_ne ht5 ((gg3.trans (s4)) _ _ hP1.top), fresh_ne hl4 (gg3 _ _ hP1.top), fun x hx => by
      rcases (show x ∈ rs ∨ x = (r1, rowT ([119, 97], List.replicate cn bn)) from (List.mem_append.mp hx).imp id List.mem_singleton.mp) with hx | hx
      · exact hpO.rw x hx
      · obtain rfl := hx; exact fresh_ne hr1 (gN _ _ hP1.top)⟩
    obtain ⟨z1, z2⟩ := hP5.setX (k := k) (gH.trans g5) hpA hof
    refine ⟨_, rfl, _, rfl, l', _, _, k, rfl, rfl, hP5.top, L2.ixN_nat (by rw [List.length_map]; exact hkp), ?_⟩
    refine ⟨l', c6, c7, rfl, .inr ⟨by omega, _, Wd.set k (kd.1, kd.2 ++ [([119, 97], List.replicate cn bn)]), z1, z2, ?_, ?_⟩⟩
    · rw [List.map_set, hD, set_map]
      congr 1
      show ([kd.1], (rs ++ [(r1, rowT ([119, 97], List.replicate cn bn))]).map fun x : RwA => x.2) = ([kd.1], (kd.2 ++ [([119, 97], List.replicate cn bn)]).map rowT)
      congr 1
      rw [List.map_append, List.map_append, hrs]; rfl
    · have hc : ChW n L Wd k (kd.1, kd.2 ++ [([119, 97], List.replicate cn bn)]) := by
        refine ⟨hdr, hL5, hk, ⟨hNk.1, by simp, fun r hr => ?_⟩, by rw [List.length_append]; show _ + 1 ≤ _; omega, fun r hr => ?_⟩
        · rcases List.mem_append.mp hr with hr | hr
          · exact (hr3 r hr).1
          · obtain rfl := List.mem_singleton.mp hr; exact ⟨(show Nm [119, 97] from ⟨by decide, by decide, by decide⟩), fun b hb => by rw [(List.mem_replicate.mp hb).2]; exact hbn⟩
        · rcases List.mem_append.mp hr with hr | hr
          · have := (hr3 r hr).2.1; omega
          · obtain rfl := List.mem_singleton.mp hr; show (List.replicate cn bn).length ≤ 7; rw [List.length_replicate]; omega
      refine ⟨fun z => by have := congrArg List.length z; rw [List.length_set, List.length_nil] at this; omega, hc.nmk, Nat.le_trans hc.small (by decide), no_num_br hc.mem (r := ([119, 97], List.replicate cn bn)) (List.mem_append_right _ List.mem_cons_self) (by show 4 < (List.replicate cn bn).length; rw [List.length_replicate]; omega)⟩
  rintro σ4 H40 ⟨l', c6, c7, rfl, hR2⟩
  rcases hR2 with ⟨h1, _⟩ | ⟨_, ps', Wd', z1, z2, z3, z4⟩
  · omega
  · exact ⟨_, rfl, q l' H40 ps' Wd' z1 z3 z4 z2⟩
end
end K8
namespace K8
open PySem L2 K3 TM K9
theorem text_ok {Wd : List KindD} (hn : ∀ k ∈ Wd, NmK k) (hl : (woodT Wd).length ≤ 700) : (textS (Wd.map partD)).length ≤ 9000 ∧ Writ (textS (Wd.map partD)) (woodT Wd) ∧ (woodT Wd).length ≤ 1000 ∧ (∀ p ∈ Wd.map partD, ShP 9 p) := by
  have hpw : ∀ p ∈ Wd.map partD, WdP p ∧ ShP 9 p := fun p hp => by obtain ⟨x, hx, rfl⟩ := List.mem_map.mp hp; exact part_words (hn x hx)
  have hw := writ_text (ps := Wd.map partD) fun p hp => (hpw p hp).1
  have ht := len_text (m := 9) (by decide) (ps := Wd.map partD) fun p hp => (hpw p hp).2
  rw [words_wood] at hw ht
  exact ⟨by omega, hw, by omega, fun p hp => (hpw p hp).2⟩
theorem told_ok {Wd : List KindD} {o : Str} (h0 : Wd ≠ []) (hn : ∀ k ∈ Wd, NmK k) (h1 : NumOkD Wd) (h2 : KindsOkD Wd) (h : toldT (woodT Wd) o) : o = Str.ofString "" := by
  have hr := read_woodT h0 hn
  rcases h with ⟨e, _⟩ | ⟨_, e | ⟨W, e, n⟩⟩ | ⟨_, W, e, _, n⟩
  · exact e
  · rw [hr] at e; cases e
  · rw [hr] at e; cases e; exact absurd h1 n
  · rw [hr] at e; cases e; exact absurd h2 n
theorem told_num {Wd : List KindD} {o : Str} (h0 : Wd ≠ []) (hn : ∀ k ∈ Wd, NmK k) (h1 : ¬ NumOkD Wd) (h : toldT (woodT Wd) o) : o = Str.ofString "text" := by
  have hr := read_woodT h0 hn
  rcases h with ⟨_, W, e, n, _⟩ | ⟨e, _⟩ | ⟨_, W, e, n, _⟩
  · rw [hr] at e; cases e; exact absurd n h1
  · exact e
  · rw [hr] at e; cases e; exact absurd n h1
theorem told_wood {Wd : List KindD} {o : Str} (h0 : Wd ≠ []) (hn : ∀ k ∈ Wd, NmK k) (h1 : NumOkD Wd) (h2 : ¬ KindsOkD Wd) (h : toldT (woodT Wd) o) : o = Str.ofString "wood" := by
  have hr := read_woodT h0 hn
  rcases h with ⟨_, W, e, _, n⟩ | ⟨_, e | ⟨W, e, n⟩⟩ | ⟨e, _⟩
  · rw [hr] at e; cases e; exact absurd n h2
  · rw [hr] at e; cases e
  · rw [hr] at e; cases e; exact absurd h1 n
  · exact e
theorem told_form {ws : List (List Nat)} {o : Str} (h1 : readR ws = none) (h : toldT ws o) : o = Str.ofString "text" := by
  rcases h with ⟨_, W, e, _⟩ | ⟨e, _⟩ | ⟨_, W, e, _⟩
  · rw [h1] at e; cases e
  · exact e
  · rw [h1] at e; cases e
section
variable {T1 T2 T3 l : Addr} {H H' : Hp} {ps : List PtA}
theorem Z3.no (z : Z3 T1 T2 T3 H) {b : Addr} {u : HO} (e : H b = some u) (n : ∀ ps, u ≠ .tbl ps) : b ∉ [T1, T2, T3] := fun hm => by
  obtain ⟨ps, h⟩ := (z3_ok T1 T2 T3).tb H z b hm
  rw [h] at e; exact n ps (Option.some.inj e).symm
theorem Z3.parts (z : Z3 T1 T2 T3 H) (x : SXT [T1, T2, T3] H H') (h : PartsA H l ps) : PartsA H' l ps :=
  have k : ∀ b xs, H b = some (.lst xs) → H' b = some (.lst xs) := fun b xs e => x _ _ (z.no e fun _ z => nomatch z) e
  ⟨k _ _ h.top, fun p hp => ⟨k _ _ (h.at_ p hp).pr, k _ _ (h.at_ p hp).rl, fun y hy => k _ _ ((h.at_ p hp).rw y hy)⟩, h.off⟩
theorem tbs_lstX {T a : Addr} {xs : List V} {pos : Pos} {qual : Str} (ha : H a = some (.lst xs)) (g : SameX a H H') (h : TbS H T pos qual) : TbS H' T pos qual := by
  rcases h with q | ⟨c, q, q2⟩
  · exact .inl (g _ _ (ne_of q ha (by intro z; cases z)) q)
  · exact .inr ⟨c, g _ _ (ne_of q ha (by intro z; cases z)) q, g _ _ (ne_of q2 ha (by intro z; cases z)) q2⟩
theorem Z3.lstX (z : Z3 T1 T2 T3 H) {xs : List V} (ha : H l = some (.lst xs)) (g : SameX l H H') : Z3 T1 T2 T3 H' := ⟨tbs_lstX ha g z.z1, tbs_lstX ha g z.z2, tbs_lstX ha g z.z3⟩
end
def gk (j : Nat) : KindD := ([113, 97 + j], [([110], []), ([109], List.replicate 4 [113, 97])])
def g0 : KindD := ([113, 97], [([110], []), ([109], List.replicate 4 [113, 97])] ++ [([111], []), ([112], []), ([114], []), ([115], [])])
def GW : List KindD := g0 :: [gk 1, gk 2, gk 3, gk 4, gk 5]
abbrev NmB (w : List Nat) : Prop := w ≠ [] ∧ w.length ≤ 8 ∧ ∀ c ∈ w, c ∈ letL
theorem gw_nmk : ∀ k ∈ GW, NmK k := by
  have h : ∀ k ∈ GW, NmB k.1 ∧ k.2 ≠ [] ∧ ∀ r ∈ k.2, NmB r.1 ∧ ∀ b ∈ r.2, NmB b := by decide +kernel
  intro k hk
  obtain ⟨a, b, c⟩ := h k hk
  exact ⟨⟨a.1, a.2.1, a.2.2⟩, b, fun r hr => ⟨⟨(c r hr).1.1, (c r hr).1.2.1, (c r hr).1.2.2⟩, fun x hx => ⟨((c r hr).2 x hx).1, ((c r hr).2 x hx).2.1, ((c r hr).2 x hx).2.2⟩⟩⟩
theorem gw_num : NumOkD GW := ⟨by decide +kernel, by decide +kernel, by decide +kernel⟩
theorem gw_kinds : KindsOkD GW := ⟨by decide +kernel, by decide +kernel, by decide +kernel, fun k hk => by
  have : ∀ k ∈ GW, (k.2.any fun r => decide (r.2 = [])) = true := by decide +kernel
  obtain ⟨r, hr, e⟩ := List.any_eq_true.mp (this k hk)
  exact ⟨r, hr, of_decide_eq_true e⟩⟩
theorem gw_len : (woodT GW).length ≤ 700 := by decide +kernel
theorem six_let : ∀ j : Nat, j < 6 → ([97, 98, 99, 100, 101, 102] : List Nat)[j]? = some (97 + j) := by decide
structure HdP (ps : List PtA) : Prop where
  own : ∀ p0 r, ps = p0 :: r → p0.2.2.1 ≠ p0.1 ∧ (∀ x ∈ p0.2.2.2, x.1 ≠ p0.1) ∧ ∀ p ∈ r, Off p0.1 p
theorem HdP.nil : HdP [] := ⟨fun _ _ e => by cases e⟩
theorem HdP.add {H : Hp} {ps : List PtA} {p : PtA} (h : HdP ps) (hA : ∀ q ∈ ps, PartA H q) (h1 : p.2.2.1 ≠ p.1) (h2 : ∀ x ∈ p.2.2.2, x.1 ≠ p.1) (h3 : H p.1 = none) (h4 : H p.2.2.1 = none) (h5 : ∀ x ∈ p.2.2.2, H x.1 = none) : HdP (ps ++ [p]) := ⟨fun p0 r e => by
  cases ps with
  | nil =>
    injection e with e1 e2
    subst e1; subst e2
    exact ⟨h1, h2, fun q hq => (nomatch hq)⟩
  | cons q0 qs =>
    injection e with e1 e2
    subst e1; subst e2
    obtain ⟨a, b, c⟩ := h.own _ _ rfl
    have hq0 := (hA q0 List.mem_cons_self).pr
    refine ⟨a, b, fun q hq => ?_⟩
    rcases List.mem_append.mp hq with hq | hq
    · exact c q hq
    · obtain rfl := List.mem_singleton.mp hq
      exact ⟨fresh_ne h3 hq0, fresh_ne h4 hq0, fun x hx => fresh_ne (h5 x hx) hq0⟩⟩
theorem PartsA.head {H : Hp} {l lr : Addr} {p0 : PtA} {r : List PtA} {rs : List RwA} (h : PartsA H l (p0 :: r)) (hd : HdP (p0 :: r)) (h1 : H lr = some (.lst (rs.map fun x => V.ref x.1))) (h2 : ∀ x ∈ rs, H x.1 = some (.lst (W x.2)) ∧ x.1 ≠ l ∧ x.1 ≠ p0.1) (h3 : lr ≠ l) (h4 : lr ≠ p0.1) :
    PartsA (upd H p0.1 (.lst [.str (S (gl [32] p0.2.1)), .ref lr])) l ((p0.1, p0.2.1, lr, rs) :: r) := by
  obtain ⟨a, b, c⟩ := hd.own _ _ rfl
  have ho := h.off p0 List.mem_cons_self
  refine ⟨by rw [upd_ne ho.pr.symm]; exact h.top, fun p hp => ?_, fun p hp => ?_⟩
  · rcases List.mem_cons.mp hp with rfl | hp
    · exact ⟨upd_same, by show upd H p0.1 _ lr = _; rw [upd_ne h4]; exact h1, fun x hx => by show upd H p0.1 _ x.1 = _; rw [upd_ne (h2 x hx).2.2]; exact (h2 x hx).1⟩
    · exact (h.at_ p (List.mem_cons_of_mem _ hp)).put (c p hp)
  · rcases List.mem_cons.mp hp with rfl | hp
    · exact ⟨ho.pr, h3, fun x hx => (h2 x hx).2.1⟩
    · exact h.off p (List.mem_cons_of_mem _ hp)
end K8
namespace L2
open PySem PySem.Spec PyProof.Rows
structure WS (X : Cx) (ss : List Stmt) (t : TS) : Prop where
  h : PSs X ss t
structure W1 (X : Cx) (st : Stmt) (t : TS) : Prop where
  h : PS X st t
section
variable {X : Cx} {st : Stmt} {rest a b : List Stmt} {t u : TS} {e c : Expr} {es : List Expr} {te : TE} {ta : TA} {tc : TT} {pos : Pos}
theorem w_cons (h1 : W1 X st t) (h2 : WS X rest u) : WS X (st :: rest) (tSeq t u) := ⟨pss_cons h1.h h2.h⟩
theorem w_one (h1 : W1 X st t) : WS X [st] t := ⟨pss_one h1.h⟩
theorem w_nil : WS X [] tNext := ⟨pss_nil⟩
theorem w_st (h : PS X st t) : W1 X st t := ⟨h⟩
theorem w_if (hc : PT X c tc) (ha : WS X a t) (hb : WS X b u) : W1 X (.If c a b pos) (tIfS tc t u) := ⟨ps_if hc ha.h hb.h⟩
end
end L2
namespace L2
open PySem PySem.Spec PyProof.Rows
section
variable {X : Cx} {p0 p1 p2 p3 p4 p5 : Pos}
end
section
variable {X : Cx} {p0 p1 p2 p3 p4 : Pos} {e1 e2 e3 e4 : Expr} {t1 t2 t3 t4 : TE}
end
end L2
namespace K8
open PySem L2 K3 TM K9
theorem WS.read {X : Cx} {ss : List Stmt} {t : TS} {R : TS → Prop} (h : WS X ss t) (k : R t) : ∃ t, PSs X ss t ∧ R t := ⟨t, h.h, k⟩
def spLaw (K : PySem.W.Frag) (T1 T2 T3 : Addr) : Sp := fun vs H Q _ => ∃ (a : Addr) (ns : List Int), vs = [.ref a] ∧ SqL K H a (ns.map V.int) ∧ ns.length ≤ 63 ∧ T1 ≠ T2 ∧ T1 ≠ T3 ∧ T2 ≠ T3 ∧ H T1 = some (.tbl #[]) ∧ H T2 = some (.tbl #[]) ∧ H T3 = some (.tbl #[]) ∧ ∀ H', Q (.bl true) H'
section
variable {P : Program} {w : World} {K : PySem.W.Frag} {mg : Str → Option Value} {base : Heap} {f : Addr} {fd : FuncData} {T1 T2 T3 : Addr}
theorem scLaw : FnScope ["_law_script", "_law_number", "_law_more", "_law_fault", "_law_parts", "_law_k", "_law_way", "_law_great"] ["_law_script"] (defScope sLaw) := ⟨rfl, rfl, rfl, by decide +kernel, rfl, by decide +kernel, by decide +kernel⟩
theorem ok_law (F : Fun K "law" "law" sLaw f fd) (G : Gm mg) (RC : Fn P w K mg base 1 "_law_cell_at" ["_law_script", "_law_k"] (spCell K)) (RWd : Fn P w K mg base 1 "_law_word" ["_law_number", "_law_k"] spWord) (RW : Fn P w K mg base 2 "_law_wood" ["_law_number", "_law_more", "_law_lots"] spWood) (RT : Fn P w K mg base 1 "_law_text" ["_law_parts"] spText)
    (RF : Fn P w K mg base 2 "_law_form_fault" ["_law_parts", "_law_way", "_law_k", "_law_number"] spForm) (RN : Fn P w K mg base 1 "_law_number_fault" ["_law_parts", "_law_way", "_law_k", "_law_number"] spNumF) (RWF : Fn P w K mg base 1 "_law_wood_fault" ["_law_parts", "_law_way", "_law_k", "_law_number", "_law_strange"] spWoodF)
    (RO : Fn P w K mg base 13 "_law_told" ["_law_text_here"] (spTold T1 T2 T3)) : FnOk P w K mg base CX0 14 f fd ["_law_script"] (spLaw K T1 T2 T3) := by
  refine F.ok scLaw (fun vs H Q E h => ?_) (fun cdv A outer s H vs Q E hr h => ?_)
  · obtain ⟨a, ns, rfl, _⟩ := h
    rfl
  obtain ⟨a, ns, rfl, hS, h63, _, _, _, hT1, hT2, hT3, q⟩ := h
  refine WS.read (w_cons (w_st (ps_set (i := 1) scLaw.nd rfl (Or.inl rfl) (pe_op op_mod (pe_fn RC hr (pa_cons (pv 0) (pa_cons (pe_int) pa_nil))) (pe_op op_pow pe_int pe_int))))
    (w_cons (w_st (ps_set (i := 2) scLaw.nd rfl (Or.inl rfl) (pe_op op_mod (pe_fn RC hr (pa_cons (pv 0) (pa_cons (pe_int) pa_nil))) (pe_op op_pow pe_int pe_int))))
    (w_cons (w_st (ps_set (i := 3) scLaw.nd rfl (Or.inl rfl) (pe_op op_mod (pe_fn RC hr (pa_cons (pv 0) (pa_cons (pe_int) pa_nil))) (pe_op op_pow pe_int pe_int))))
    (w_cons (w_st (ps_set (i := 4) scLaw.nd rfl (Or.inl rfl) (pe_fn RW hr (pa_cons (pv 1) (pa_cons (pv 2) (pa_cons (pe_op op_add pe_int (pe_op op_mod (pe_fn RC hr (pa_cons (pv 0) (pa_cons (pe_int) pa_nil))) pe_int)) pa_nil))))))
    (w_cons (w_st (ps_set (i := 5) scLaw.nd rfl (Or.inl rfl) (pe_op op_mod (pe_fn RC hr (pa_cons (pv 0) (pa_cons (pe_int) pa_nil))) (pe_callB call_len_seq rfl G.len PySem.boot_len (pa_cons (pv 4) pa_nil)))))
    (w_cons (w_st (ps_set (i := 6) scLaw.nd rfl (Or.inl rfl) (pe_op op_mod (pe_fn RC hr (pa_cons (pv 0) (pa_cons (pe_int) pa_nil))) pe_int)))
    (w_cons (w_st (ps_if (pt_cmpR op_ne (pe_fn RO hr (pa_cons (pe_fn RT hr (pa_cons (pv 4) pa_nil)) pa_nil)) pe_str (nomark _)) (pss_one (ps_ret pe_bl)) pss_nil))
    (w_cons (w_if (pt_cmpR op_eq (pv 6) pe_int (nomark _)) (w_cons (w_st (ps_setG (i := 7) (CompG.many (xs := ["_law_j"]) (caps := []) (cap := []) (cs := []) rfl rfl (by decide +kernel) (by decide +kernel) (by decide +kernel) (by decide +kernel) (by decide +kernel) (by decide +kernel) rfl rfl rfl) rfl (pi_range1 rfl G.rng (pa_cons (pe_int) pa_nil)) (pg_c1 (CompG.many (xs := ["_law_j"]) (caps := []) (cap := []) (cs := []) rfl rfl (by decide +kernel) (by decide +kernel) (by decide +kernel) (by decide +kernel) (by decide +kernel) (by decide +kernel) rfl rfl rfl)) (fun _ _ _ _ => pf_nil) (fun _ _ _ _ => (pe_lst (pa_cons (pe_op op_add_str pe_str (pe_ix ix_str pe_str (pv 0) (fun _ _ => rfl))) (pa_cons ((pe_lst (pa_cons ((pe_lst (pa_cons (pe_str) pa_nil))) (pa_cons (pe_op (r := rCatL K) op_catL (pe_op (r := rCatL K) op_catL (pe_lst (pa_cons (pe_str) (pa_cons (pe_str) pa_nil))) (pe_op op_rep (pe_lst (pa_cons (pe_str) pa_nil)) pe_int)) (pe_lst (pa_cons (pe_str) pa_nil))) pa_nil)))) pa_nil)))) scLaw.nd rfl rfl))
    (w_cons (w_st (ps_asg (pe_op op_catL (pe_ix ix_list (pe_ix ix_list (pv 7) pe_int (fun _ _ => rfl)) pe_int (fun _ _ => rfl)) (pe_lst (pa_cons ((pe_lst (pa_cons (pe_str) pa_nil))) (pa_cons ((pe_lst (pa_cons (pe_str) pa_nil))) (pa_cons ((pe_lst (pa_cons (pe_str) pa_nil))) (pa_cons ((pe_lst (pa_cons (pe_str) pa_nil))) pa_nil)))))) (pg_sub (pe_ix ix_list (pv 7) pe_int (fun _ _ => rfl)) pe_int set_list)))
    (w_one (w_st (ps_ret (pe_cmpR op_eq (pe_fn RO hr (pa_cons (pe_fn RT hr (pa_cons (pv 7) pa_nil)) pa_nil)) pe_str (nomark _))))))) w_nil)
    (w_cons (w_st (ps_if (pt_cmpR op_eq (pv 6) pe_int (nomark _)) (pss_one (ps_ret (pe_cmpR op_eq (pe_fn RO hr (pa_cons (pe_fn RF hr (pa_cons (pv 4) (pa_cons (pe_op op_mod (pv 3) pe_int) (pa_cons (pv 5) (pa_cons (pe_op op_fdiv (pv 3) pe_int) pa_nil))))) pa_nil)) pe_str (nomark _)))) pss_nil))
    (w_cons (w_st (ps_if (pt_cmpR op_eq (pv 6) pe_int (nomark _)) (pss_one (ps_ret (pe_cmpR op_eq (pe_fn RO hr (pa_cons (pe_fn RT hr (pa_cons (pe_fn RN hr (pa_cons (pv 4) (pa_cons (pe_op op_mod (pv 3) pe_int) (pa_cons (pv 5) (pa_cons (pe_op op_fdiv (pv 3) pe_int) pa_nil))))) pa_nil)) pa_nil)) pe_str (nomark _)))) pss_nil))
    (w_cons (w_st (ps_set (i := 4) scLaw.nd rfl (Or.inl rfl) (pe_fn RWF hr (pa_cons (pv 4) (pa_cons (pe_op op_mod (pv 3) pe_int) (pa_cons (pv 5) (pa_cons (pe_op op_fdiv (pv 3) pe_int) (pa_cons (pe_fn RWd hr (pa_cons (pv 1) (pa_cons (pe_int) pa_nil))) pa_nil))))))))
    (w_cons (w_st (ps_if (pt_cmpR op_eq (pv 6) pe_int (nomark _)) (pss_one (ps_ret (pe_cmpR op_eq (pe_fn RO hr (pa_cons (pe_fn RT hr (pa_cons (pv 4) pa_nil)) pa_nil)) pe_str (nomark _)))) pss_nil))
    (w_one (w_st (ps_ret (pe_cmpR op_eq (pe_fn RO hr (pa_cons (pe_fn RF hr (pa_cons (pv 4) (pa_cons (pe_op op_mod (pe_op op_fdiv (pv 3) pe_int) pe_int) (pa_cons (pv 5) (pa_cons (pe_op op_fdiv (pv 3) pe_int) pa_nil))))) pa_nil)) pe_str (nomark _))))))))))))))))) ?_
  have z0 : Z3 T1 T2 T3 H := ⟨.inl hT1, .inl hT2, .inl hT3⟩
  have zo := z3_ok T1 T2 T3
  refine ⟨_, rfl, a, ns, 0, rfl, hS, fun c0 => ⟨_, _, rfl, rfl, ⟨by decide, by decide, by decide⟩, _, _, rfl, rfl, (by show (0 : Int) < 10 ^ 15; decide), ?_⟩⟩
  refine ⟨_, rfl, a, ns, 1, rfl, hS, fun c1 => ⟨_, _, rfl, rfl, ⟨by decide, by decide, by decide⟩, _, _, rfl, rfl, (by show (0 : Int) < 10 ^ 15; decide), ?_⟩⟩
  refine ⟨_, rfl, a, ns, 2, rfl, hS, fun c2 => ⟨_, _, rfl, rfl, ⟨by decide, by decide, by decide⟩, _, _, rfl, rfl, (by show (0 : Int) < 10 ^ 9; decide), ?_⟩⟩
  dsimp only
  generalize c0 % 10 ^ Int.toNat 15 = n
  generalize c1 % 10 ^ Int.toNat 15 = m
  have hf0 : 0 ≤ c2 % 10 ^ Int.toNat 9 := Int.emod_nonneg _ (by decide)
  generalize c2 % 10 ^ Int.toNat 9 = fa at hf0 ⊢
  refine ⟨_, rfl, _, rfl, _, rfl, a, ns, 3, rfl, hS, fun c3 => ⟨_, _, rfl, rfl, (by show (0 : Int) < 5; decide), _, _, rfl, rfl, ?_⟩⟩
  obtain ⟨L, hL, hL1, hL5⟩ : ∃ L : Nat, 1 + c3 % 5 = (L : Int) ∧ 1 ≤ L ∧ L ≤ 5 := by
    have x0 : 0 ≤ c3 % 5 := Int.emod_nonneg _ (by decide)
    have x1 : c3 % 5 < 5 := Int.emod_lt_of_pos _ (by decide)
    exact ⟨(1 + c3 % 5).toNat, by omega, by omega, by omega⟩
  refine ⟨n, m, L, (by show [_, _, V.int (1 + c3 % 5)] = _; rw [hL]), hL1, hL5, fun l H1 ps Wd g1 hP nl hD hW => ?_⟩
  have hn := hW.nmk
  have h0 := hW.ne hL1
  have hsm := hW.small hL5
  have hlen : ps.length = L := by have := congrArg List.length hD; rw [List.length_map, List.length_map, hW.len] at this; exact this
  have z1 := zo.sm _ _ g1 z0
  refine ⟨_, rfl, a, ns, 4, rfl, g1.seq hS, fun c4 => ⟨_, rfl, l, _, rfl, .inl (SqL.of hP.top), _, _, rfl, rfl, (by rw [List.length_map]; omega), ?_⟩⟩
  refine ⟨_, rfl, a, ns, 5, rfl, g1.seq hS, fun c5 => ⟨_, _, rfl, rfl, (by show (0 : Int) < 5; decide), ?_⟩⟩
  dsimp only
  rw [List.length_map, hlen]
  obtain ⟨k, hk, hkL⟩ : ∃ k : Nat, c4 % (L : Int) = (k : Int) ∧ k < L := by
    have x0 : 0 ≤ c4 % (L : Int) := Int.emod_nonneg _ (by omega)
    have x1 : c4 % (L : Int) < (L : Int) := Int.emod_lt_of_pos _ (by omega)
    exact ⟨_, (Int.toNat_of_nonneg x0).symm, by omega⟩
  rw [hk]
  have hkW : k < Wd.length := by rw [hW.len]; exact hkL
  have hw0 : 0 ≤ c5 % 5 := Int.emod_nonneg _ (by decide)
  have hw1 : c5 % 5 < 5 := Int.emod_lt_of_pos _ (by decide)
  generalize c5 % 5 = wy at hw0 hw1 ⊢
  obtain ⟨t1, t2, t3, t4⟩ := text_ok hn (Nat.le_trans hsm (by decide))
  refine ⟨_, rfl, l, ps, rfl, hP, fun p hp => t4 _ (by rw [← hD]; exact List.mem_map_of_mem hp), (by rw [hD, words_wood]; omega), fun H2 g2 => ?_⟩
  rw [hD]
  refine ⟨_, _, rfl, t1, t2, t3, zo.sm _ _ g2 z1, fun o H3 ht x3 z3 => ?_⟩
  obtain rfl := told_ok h0 hn (hW.num hL5) (hW.kinds hL5) ht
  have z2 := zo.sm _ _ g2 z1
  have hP3 := z2.parts x3 (hP.same g2)
  have nd : ∀ (H : Hp) (o : Str), Q (.bl (decide (V.str o = V.str o))) H := fun H o => by rw [decide_eq_true rfl]; exact q H
  refine ⟨rfl, _, rfl, ?_⟩
  show if _ = true then _ else _
  rw [decide_eq_true (show V.str (Str.ofString "") = V.str (Str.ofString "") from rfl)]
  refine iteF ?_
  refine ⟨_, rfl, rfl, _, rfl, ite2 (fun c => ?_) (fun n0 => ?_)⟩
  · -- the great wood
    have eq1 : Str.ofString "q" = S [113] := by decide +kernel
    have eg : Str.ofString "abcdef" = S [97, 98, 99, 100, 101, 102] := by decide +kernel
    have en : Str.ofString "n" = S [110] := by decide +kernel
    have em : Str.ofString "m" = S [109] := by decide +kernel
    have eqa : Str.ofString "qa" = S [113, 97] := by decide +kernel
    have e40 : Str.ofString "(" = S [40] := by decide +kernel
    have e41 : Str.ofString ")" = S [41] := by decide +kernel
    have eo : Str.ofString "o" = S [111] := by decide +kernel
    have ep : Str.ofString "p" = S [112] := by decide +kernel
    have er : Str.ofString "r" = S [114] := by decide +kernel
    have es : Str.ofString "s" = S [115] := by decide +kernel
    refine ⟨6, rfl, (by decide), (by decide), fun acc hacc => ?_⟩
    refine c1_range (lo := 0) (n := 6) (cs := []) (tt := fun _ H Q => Q true H) (fun j ys H' => ∃ ps' : List PtA, ys = ps'.map (fun p => V.ref p.1) ∧ PartsA H' acc ps' ∧ ps'.map datP = ((List.range j).map gk).map partD ∧ HdP ps' ∧ Same H3 H')
      ⟨[], rfl, ⟨upd_same, fun p hp => (nomatch hp), fun p hp => (nomatch hp)⟩, rfl, HdP.nil, same_new hacc _⟩ ?_ ?_
    · rintro j ys H' hj ⟨ps', rfl, hP', hD', hH', g⟩
      have ej : (0 : Int) + (j : Int) = (j : Int) := by omega
      rw [ej, eq1, eg, en, em, e40, eqa, e41]
      refine iteT ⟨_, rfl, S [97, 98, 99, 100, 101, 102], _, 97 + j, rfl, rfl, (by rw [S_len]; exact line_of (by decide)), (by rw [S_list]; exact atI_nat (six_let j hj)), ?_⟩
      refine ⟨_, _, rfl, rfl, (by rw [S_len]; exact line_of (by show 1 + 1 ≤ _; decide)), ?_⟩
      rw [one_S, S_app]
      refine ⟨(by show 1 ≤ sizeLine; decide), fun rn hrn => ?_⟩
      generalize hX : upd _ rn _ = X1
      have s1 : Same H' X1 := by rw [← hX]; exact same_new hrn _
      have b1 : X1 rn = some (.lst (W (rowT ([110], [])))) := by rw [← hX]; exact upd_same
      clear hX
      refine ⟨(by show 2 ≤ sizeLine; decide), fun ra hra => ?_⟩
      generalize hX : upd _ ra _ = X2
      have s2 : Same X1 X2 := by rw [← hX]; exact same_new hra _
      have b2 : X2 ra = some (.lst (W [[109], [40]])) := by rw [← hX]; exact upd_same
      clear hX
      refine ⟨(by show 1 ≤ sizeLine; decide), fun rb hrb => ?_⟩
      generalize hX : upd _ rb _ = X3
      have s3 : Same X2 X3 := by rw [← hX]; exact same_new hrb _
      have b3 : X3 rb = some (.lst [.str (S [113, 97])]) := by rw [← hX]; exact upd_same
      clear hX
      refine ⟨rb, 4, _, rfl, rfl, b3, (by decide), (by decide), (by show 1 * 4 ≤ sizeLine; decide), fun rc hrc => ?_⟩
      generalize hX : upd _ rc _ = X4
      have s4 : Same X3 X4 := by rw [← hX]; exact same_new hrc _
      have b4 : X4 rc = some (.lst (W (List.replicate 4 [113, 97]))) := by rw [← hX]; exact upd_same
      clear hX
      refine ⟨ra, rc, _, _, rfl, rfl, SqL.of ((s3.trans s4) _ _ b2), SqL.of b4, (by show 2 + 4 ≤ sizeLine; decide), fun rd hrd => ?_⟩
      rw [← W_app]
      generalize hX : upd _ rd _ = X5
      have s5 : Same X4 X5 := by rw [← hX]; exact same_new hrd _
      have b5 : X5 rd = some (.lst (W ([[109], [40]] ++ List.replicate 4 [113, 97]))) := by rw [← hX]; exact upd_same
      clear hX
      refine ⟨(by show 1 ≤ sizeLine; decide), fun re hre => ?_⟩
      generalize hX : upd _ re _ = X6
      have s6 : Same X5 X6 := by rw [← hX]; exact same_new hre _
      have b6 : X6 re = some (.lst (W [[41]])) := by rw [← hX]; exact upd_same
      clear hX
      refine ⟨rd, re, _, _, rfl, rfl, SqL.of (s6 _ _ b5), SqL.of b6, (by show 6 + 1 ≤ sizeLine; decide), fun rm hrm => ?_⟩
      rw [← W_app, ← rowT_rep _ _ _ (by decide)]
      generalize hX : upd _ rm _ = X7
      have s7 : Same X6 X7 := by rw [← hX]; exact same_new hrm _
      have b7 : X7 rm = some (.lst (W (rowT ([109], List.replicate 4 [113, 97])))) := by rw [← hX]; exact upd_same
      clear hX
      refine ⟨(by show 2 ≤ sizeLine; decide), fun lr hlr => ?_⟩
      have s8 := same_new hlr (.lst [.ref rn, .ref rm])
      have b8 : upd X7 lr (.lst [.ref rn, .ref rm]) lr = some (.lst [.ref rn, .ref rm]) := upd_same
      generalize upd X7 lr (.lst [.ref rn, .ref rm]) = X8 at s8 b8 ⊢
      refine ⟨(by show 2 ≤ sizeLine; decide), fun t9 ht9 => ?_⟩
      have s9 := same_new ht9 (.lst [.str (S ([113] ++ [97 + j])), .ref lr])
      have b9 : upd X8 t9 (.lst [.str (S ([113] ++ [97 + j])), .ref lr]) t9 = some (.lst [.str (S ([113] ++ [97 + j])), .ref lr]) := upd_same
      generalize upd X8 t9 (.lst [.str (S ([113] ++ [97 + j])), .ref lr]) = X9 at s9 b9 ⊢
      have g16 : Same H' X6 := s1.trans (s2.trans (s3.trans (s4.trans (s5.trans s6))))
      have g18 : Same H' X8 := g16.trans (s7.trans s8)
      have g19 : Same H' X9 := g18.trans s9
      have g29 : Same X1 X9 := s2.trans (s3.trans (s4.trans (s5.trans (s6.trans (s7.trans (s8.trans s9))))))
      have nrn := hrn
      have nrm := none_back g16 hrm
      have nlr := none_back (g16.trans s7) hlr
      have nt := none_back g18 ht9
      have rs2 : ∀ x ∈ [((rn, rowT ([110], [])) : RwA), (rm, rowT ([109], List.replicate 4 [113, 97]))], X9 x.1 = some (.lst (W x.2)) ∧ H' x.1 = none ∧ x.1 ≠ t9 := fun x hx => by
        simp only [List.mem_cons, List.not_mem_nil, or_false] at hx
        rcases hx with rfl | rfl
        · exact ⟨g29 _ _ b1, nrn, fun z => by
            have := (s2.trans (s3.trans (s4.trans (s5.trans (s6.trans (s7.trans s8)))))) _ _ b1
            rw [show rn = t9 from z, ht9] at this; cases this⟩
        · exact ⟨(s8.trans s9) _ _ b7, nrm, fun z => by
            have := s8 _ _ b7
            rw [show rm = t9 from z, ht9] at this; cases this⟩
      have hpA : PartA X9 (t9, [[113] ++ [97 + j]], lr, [(rn, rowT ([110], [])), (rm, rowT ([109], List.replicate 4 [113, 97]))]) := ⟨(by show X9 t9 = some (.lst [.str (S (gl [32] [[113] ++ [97 + j]])), .ref lr]); rw [gl_one]; exact b9), s9 _ _ b8, fun x hx => (rs2 x hx).1⟩
      have hof : Off acc (t9, [[113] ++ [97 + j]], lr, [(rn, rowT ([110], [])), (rm, rowT ([109], List.replicate 4 [113, 97]))]) := ⟨fresh_ne nt hP'.top, fresh_ne nlr hP'.top, fun x hx => fresh_ne (rs2 x hx).2.1 hP'.top⟩
      have hlp : ps'.length = j := by have := congrArg List.length hD'; rw [List.length_map, List.length_map, List.length_map, List.length_range] at this; omega
      have hP9 := hP'.same g19
      refine comp_next hj hP9.top (by rw [List.length_map]; omega) ⟨ps' ++ [(t9, [[113] ++ [97 + j]], lr, [(rn, rowT ([110], [])), (rm, rowT ([109], List.replicate 4 [113, 97]))])], by simp, hP9.add hpA hof, ?_, ?_, fun b u e => ?_⟩
      · rw [List.range_succ, List.map_append, List.map_append, List.map_append, hD']; rfl
      · exact hH'.add hP'.at_ (fun z => by rw [show lr = t9 from z, ht9] at b8; cases b8) (fun x hx => (rs2 x hx).2.2) nt nlr fun x hx => (rs2 x hx).2.1
      · rw [upd_ne (ne_of_none e hacc)]; exact g19 _ _ (g _ _ e)
    rintro ys H4 ⟨ps', rfl, hP4, hD4, hH4, g4⟩
    cases ps' with
    | nil => exact absurd hD4 (by simp)
    | cons p0 r =>
      obtain ⟨t0, kws, lr, rs⟩ := p0
      injection hD4 with hd1 hd2
      obtain ⟨rfl, hrs⟩ : kws = [[113, 97]] ∧ (rs.map fun x => x.2) = [rowT ([110], []), rowT ([109], List.replicate 4 [113, 97])] := by
        injection hd1 with a b
        exact ⟨a, b⟩
      have hpA := hP4.at_ _ List.mem_cons_self
      have hrl : rs.length = 2 := by have := congrArg List.length hrs; rw [List.length_map] at this; exact this
      rw [eo, ep, er, es]
      refine ⟨_, rfl, acc, _, ((0 : Nat) : Int), .ref t0, rfl, rfl, SqL.of hP4.top, atI_nat rfl, t0, _, ((1 : Nat) : Int), .ref lr, rfl, rfl, SqL.of hpA.pr, atI_nat rfl, (by show 1 ≤ sizeLine; decide), fun ra hra => ?_⟩
      generalize hX : upd _ ra _ = X1
      have s1 : Same H4 X1 := by rw [← hX]; exact same_new hra _
      have b1 : X1 ra = some (.lst (W (rowT ([111], [])))) := by rw [← hX]; exact upd_same
      clear hX
      refine ⟨(by show 1 ≤ sizeLine; decide), fun rb hrb => ?_⟩
      generalize hX : upd _ rb _ = X2
      have s2 : Same X1 X2 := by rw [← hX]; exact same_new hrb _
      have b2 : X2 rb = some (.lst (W (rowT ([112], [])))) := by rw [← hX]; exact upd_same
      clear hX
      refine ⟨(by show 1 ≤ sizeLine; decide), fun rc hrc => ?_⟩
      generalize hX : upd _ rc _ = X3
      have s3 : Same X2 X3 := by rw [← hX]; exact same_new hrc _
      have b3 : X3 rc = some (.lst (W (rowT ([114], [])))) := by rw [← hX]; exact upd_same
      clear hX
      refine ⟨(by show 1 ≤ sizeLine; decide), fun rd hrd => ?_⟩
      generalize hX : upd _ rd _ = X4
      have s4 : Same X3 X4 := by rw [← hX]; exact same_new hrd _
      have b4 : X4 rd = some (.lst (W (rowT ([115], [])))) := by rw [← hX]; exact upd_same
      clear hX
      refine ⟨(by show 4 ≤ sizeLine; decide), fun l5 hl5 => ?_⟩
      have s5 := same_new hl5 (.lst [.ref ra, .ref rb, .ref rc, .ref rd])
      have b5 : upd X4 l5 (.lst [.ref ra, .ref rb, .ref rc, .ref rd]) l5 = some (.lst [.ref ra, .ref rb, .ref rc, .ref rd]) := upd_same
      generalize upd X4 l5 (.lst [.ref ra, .ref rb, .ref rc, .ref rd]) = X5 at s5 b5 ⊢
      have gb : Same H4 X3 := s1.trans (s2.trans s3)
      have g5 : Same H4 X5 := gb.trans (s4.trans s5)
      refine ⟨lr, l5, _, _, rfl, rfl, SqL.of (g5 _ _ hpA.rl), SqL.of b5, (by rw [List.length_map]; exact line_of (by show rs.length + 4 ≤ _; omega)), fun l6 hl6 => ?_⟩
      rw [show (rs.map fun x => V.ref x.1) ++ [V.ref ra, V.ref rb, V.ref rc, V.ref rd] = (rs ++ [(ra, rowT ([111], [])), (rb, rowT ([112], [])), (rc, rowT ([114], [])), (rd, rowT ([115], []))]).map fun x : RwA => V.ref x.1 by simp]
      generalize hX : upd _ l6 _ = X6
      have s6 : Same X5 X6 := by rw [← hX]; exact same_new hl6 _
      have b6 : X6 l6 = some (.lst ((rs ++ [(ra, rowT ([111], [])), (rb, rowT ([112], [])), (rc, rowT ([114], [])), (rd, rowT ([115], []))]).map fun x : RwA => V.ref x.1)) := by rw [← hX]; exact upd_same
      clear hX
      have g6 : Same H4 X6 := g5.trans s6
      have hP6 := hP4.same g6
      have n6 : H4 l6 = none := none_back g5 hl6
      have htop := hP4.top
      have nf : ∀ x, H4 x = none → x ≠ acc ∧ x ≠ t0 := fun x hx => ⟨fresh_ne hx htop, fresh_ne hx hpA.pr⟩
      have hrows : ∀ x ∈ rs ++ [((ra, rowT ([111], [])) : RwA), (rb, rowT ([112], [])), (rc, rowT ([114], [])), (rd, rowT ([115], []))], X6 x.1 = some (.lst (W x.2)) ∧ x.1 ≠ acc ∧ x.1 ≠ t0 := fun x hx => by
        rcases List.mem_append.mp hx with hx | hx
        · exact ⟨g6 _ _ (hpA.rw x hx), (hP4.off _ List.mem_cons_self).rw x hx, (hH4.own _ _ rfl).2.1 x hx⟩
        · simp only [List.mem_cons, List.not_mem_nil, or_false] at hx
          rcases hx with rfl | rfl | rfl | rfl
          · exact ⟨(s2.trans (s3.trans (s4.trans (s5.trans s6)))) _ _ b1, nf _ hra⟩
          · exact ⟨(s3.trans (s4.trans (s5.trans s6))) _ _ b2, nf _ (none_back s1 hrb)⟩
          · exact ⟨(s4.trans (s5.trans s6)) _ _ b3, nf _ (none_back (s1.trans s2) hrc)⟩
          · exact ⟨(s5.trans s6) _ _ b4, nf _ (none_back gb hrd)⟩
      have hP7 := hP6.head hH4 b6 hrows (nf _ n6).1 (nf _ n6).2
      refine ⟨_, rfl, acc, _, ((0 : Nat) : Int), .ref t0, rfl, rfl, SqL.of hP6.top, atI_nat rfl, t0, _, _, 1, rfl, rfl, (g6 _ _ hpA.pr), L2.ixN_nat (by show 1 < 2; decide), ?_⟩
      have hD7 : (((t0, [[113, 97]], l6, rs ++ [(ra, rowT ([111], [])), (rb, rowT ([112], [])), (rc, rowT ([114], [])), (rd, rowT ([115], []))]) : PtA) :: r).map datP = GW.map partD := by
        rw [List.map_cons, hd2]
        show (([[113, 97]], (rs ++ [(ra, rowT ([111], [])), (rb, rowT ([112], [])), (rc, rowT ([114], [])), (rd, rowT ([115], []))]).map fun x : RwA => x.2) : Part) :: _ = _
        rw [List.map_append, hrs]
        rfl
      have z4 : Z3 T1 T2 T3 X6 := zo.sm _ _ (g4.trans g6) z3
      have z7 := zo.lst X6 t0 _ [.str (S (gl [32] [[113, 97]])), .ref l6] (g6 _ _ hpA.pr) z4
      obtain ⟨u1, u2, u3, u4⟩ := text_ok gw_nmk gw_len
      refine ⟨_, rfl, acc, _, rfl, hP7, fun p hp => u4 _ (by rw [← hD7]; exact List.mem_map_of_mem hp), (by rw [hD7, words_wood]; exact Nat.le_trans gw_len (by decide)), fun H8 g8 => ?_⟩
      rw [hD7]
      refine ⟨_, _, rfl, u1, u2, u3, zo.sm _ _ g8 z7, fun o H9 ht x9 z9 => ?_⟩
      obtain rfl := told_ok (by decide) gw_nmk gw_num gw_kinds ht
      exact ⟨rfl, nd _ _⟩
  have fd : ∀ d : Nat, 0 < d → ∃ y : Nat, fa % (d : Int) = (y : Int) ∧ y < d := fun d hd => by
    have x0 : 0 ≤ fa % (d : Int) := Int.emod_nonneg _ (by omega)
    have x1 : fa % (d : Int) < (d : Int) := Int.emod_lt_of_pos _ (by omega)
    exact ⟨_, (Int.toNat_of_nonneg x0).symm, by omega⟩
  refine ⟨_, rfl, rfl, _, rfl, ite2 (fun c => ?_) (fun n1 => ?_)⟩
  · obtain ⟨y, hy, hy8⟩ := fd 8 (by decide)
    refine ⟨_, rfl, _, rfl, _, _, rfl, rfl, (by show (0 : Int) < 8; decide), _, rfl, _, rfl, _, _, rfl, rfl, ⟨(by show (0 : Int) < 8; decide), (by show (8 : Int) < 1073741824; decide)⟩, ?_⟩
    refine ⟨l, y, k, fa / 8, ps, Wd, (by show [_, V.int (fa % 8), _, _] = _; rw [show fa % 8 = (y : Int) from hy]), hy8, hkW, hP3, hD, hn, Nat.le_trans hsm (by decide), fun z H4 nf gx => ?_⟩
    obtain ⟨ws, w1, w2, w3⟩ := nf.ex
    refine ⟨z, ws, rfl, nf.len, w1, w3, z3.lstX hP3.top gx, fun o H5 ht x5 z5 => ?_⟩
    obtain rfl := told_form w2 ht
    exact ⟨rfl, nd _ _⟩
  refine ⟨_, rfl, rfl, _, rfl, ite2 (fun c => ?_) (fun n2 => ?_)⟩
  · obtain ⟨y, hy, hy8⟩ := fd 3 (by decide)
    refine ⟨_, rfl, _, rfl, _, _, rfl, rfl, (by show (0 : Int) < 3; decide), _, rfl, _, rfl, _, _, rfl, rfl, ⟨(by show (0 : Int) < 3; decide), (by show (3 : Int) < 1073741824; decide)⟩, ?_⟩
    refine ⟨l, y, k, fa / 3, n, L, ps, Wd, (by show [_, V.int (fa % 3), _, _] = _; rw [show fa % 3 = (y : Int) from hy]), hy8, hkW, hP3, hD, hW, hL5, fun l' H4 ps' Wd' hP4 hD4 hR gx => ?_⟩
    obtain ⟨u1, u2, u3, u4⟩ := text_ok hR.nmk hR.small
    refine ⟨l', ps', rfl, hP4, fun p hp => u4 _ (by rw [← hD4]; exact List.mem_map_of_mem hp), (by rw [hD4, words_wood]; exact Nat.le_trans hR.small (by decide)), fun H5 g5 => ?_⟩
    rw [hD4]
    refine ⟨_, _, rfl, u1, u2, u3, zo.sm _ _ g5 (z3.lstX hP3.top gx), fun o H6 ht x6 z6 => ?_⟩
    obtain rfl := told_num hR.ne hR.nmk hR.no ht
    exact ⟨rfl, nd _ _⟩
  obtain ⟨y, hy, hy8⟩ := fd 4 (by decide)
  refine ⟨_, rfl, _, rfl, _, _, rfl, rfl, (by show (0 : Int) < 4; decide), _, rfl, _, rfl, _, _, rfl, rfl, ⟨(by show (0 : Int) < 4; decide), (by show (4 : Int) < 1073741824; decide)⟩, _, rfl, n, 20, rfl, fun H4 g4 => ?_⟩
  refine ⟨l, y, k, fa / 4, n, L, ps, Wd, (by show [_, V.int (fa % 4), _, _, _] = _; rw [show fa % 4 = (y : Int) from hy]), hy8, hkW, hP3.same g4, hD, hW, hL5, fun l' H5 ps' Wd' hP5 hD5 hR gx => ?_⟩
  have z5 : Z3 T1 T2 T3 H5 := (zo.sm _ _ g4 z3).lstX (hP3.same g4).top gx
  have hW5 : Wd' ≠ [] := fun z => by have := hR.kl; rw [z] at this; cases this
  refine ⟨_, rfl, rfl, _, rfl, ite2 (fun c => ?_) (fun n3 => ?_)⟩
  · obtain ⟨u1, u2, u3, u4⟩ := text_ok hR.nmk hR.small
    refine ⟨_, rfl, l', ps', rfl, hP5, fun p hp => u4 _ (by rw [← hD5]; exact List.mem_map_of_mem hp), (by rw [hD5, words_wood]; exact Nat.le_trans hR.small (by decide)), fun H6 g6 => ?_⟩
    rw [hD5]
    refine ⟨_, _, rfl, u1, u2, u3, zo.sm _ _ g6 z5, fun o H7 ht x7 z7 => ?_⟩
    obtain rfl := told_wood hW5 hR.nmk hR.num hR.no ht
    exact ⟨rfl, nd _ _⟩
  obtain ⟨y2, hy2, hy28⟩ : ∃ y : Nat, fa / 16 % 8 = (y : Int) ∧ y < 8 := by
    have x0 : 0 ≤ fa / 16 % 8 := Int.emod_nonneg _ (by decide)
    have x1 : fa / 16 % 8 < 8 := Int.emod_lt_of_pos _ (by decide)
    exact ⟨_, (Int.toNat_of_nonneg x0).symm, by omega⟩
  refine ⟨_, rfl, _, rfl, _, _, rfl, rfl, ⟨(by show (0 : Int) < 16; decide), (by show (16 : Int) < 1073741824; decide)⟩, _, _, rfl, rfl, (by show (0 : Int) < 8; decide), _, rfl, _, rfl, _, _, rfl, rfl, ⟨(by show (0 : Int) < 128; decide), (by show (128 : Int) < 1073741824; decide)⟩, ?_⟩
  refine ⟨l', y2, k, fa / 128, ps', Wd', (by show [_, V.int (fa / 16 % 8), _, _] = _; rw [hy2]), hy28, hR.kl, hP5, hD5, hR.nmk, hR.small, fun z H6 nf gx => ?_⟩
  obtain ⟨ws, w1, w2, w3⟩ := nf.ex
  refine ⟨z, ws, rfl, nf.len, w1, w3, z5.lstX hP5.top gx, fun o H7 ht x7 z7 => ?_⟩
  obtain rfl := told_form w2 ht
  exact ⟨rfl, nd _ _⟩
end
end K8
namespace L2
theorem ln1 {α : Type} {us : List α} (h : us.length = 1) : ∃ a, us = [a] := List.length_eq_one_iff.mp h
theorem ln2 {α : Type} {us : List α} (h : us.length = 2) : ∃ a b, us = [a, b] := by
  match us, h with
  | [a, b], _ => exact ⟨a, b, rfl⟩
theorem ln3 {α : Type} {us : List α} (h : us.length = 3) : ∃ a b c, us = [a, b, c] := by
  match us, h with
  | [a, b, c], _ => exact ⟨a, b, c, rfl⟩
theorem ln4 {α : Type} {us : List α} (h : us.length = 4) : ∃ a b c d, us = [a, b, c, d] := by
  match us, h with
  | [a, b, c, d], _ => exact ⟨a, b, c, d, rfl⟩
theorem ln5 {α : Type} {us : List α} (h : us.length = 5) : ∃ a b c d e, us = [a, b, c, d, e] := by
  match us, h with
  | [a, b, c, d, e], _ => exact ⟨a, b, c, d, e, rfl⟩
end L2
namespace L2
open PySem
structure MethAt (K : PySem.W.Frag) (C : Addr) (m qual : Str) (st : Stmt) : Prop where
  ex : ∃ (f : Addr) (oc : Value) (od : Option Addr) (kV doc pm : Value) (an : Option Addr) (cdv ct : Value) (osl : Array (Option Value)),
    PySem.W.findIn K (.ref C) m = some (some (.ref f)) ∧ PySem.W.isFn K (.ref f) = true ∧ K.lookup f = some ⟨oc, od, .func (PySem.W.fnOf m qual (defArgs st) (defBody st) (defScope st) .none kV doc pm an cdv ct), osl⟩ ∧ PySem.W.codeIn K cdv qual = true ∧ PySem.W.keepIn K (.ref f) = true
theorem MethAt.mk' {K : PySem.W.Frag} {C : Addr} {m qual : Str} {st : Stmt} {f : Addr} {oc : Value} {od : Option Addr} {kV doc pm : Value} {an : Option Addr} {cdv ct : Value} {osl : Array (Option Value)}
    (a : PySem.W.findIn K (.ref C) m = some (some (.ref f))) (i : PySem.W.isFn K (.ref f) = true) (l : K.lookup f = some ⟨oc, od, .func (PySem.W.fnOf m qual (defArgs st) (defBody st) (defScope st) .none kV doc pm an cdv ct), osl⟩) (c : PySem.W.codeIn K cdv qual = true) (k : PySem.W.keepIn K (.ref f) = true) : MethAt K C m qual st :=
  ⟨f, oc, od, kV, doc, pm, an, cdv, ct, osl, a, i, l, c, k⟩
theorem MethAt.mt {P : Program} {w : World} {K : PySem.W.Frag} {mg : Str → Option Value} {C : Addr} {m qual : Str} {st : Stmt} {k : Nat} {ps : List Str} {sp : Sp} (M : MethAt K C m qual st) (ok : ∀ (g : Heap) (f : Addr) (fd : FuncData), Fun K m qual st f fd → FnOk P w K mg g CX0 k f fd ps sp) (bi : ∀ (f : Addr) (fd : FuncData), Fun K m qual st f fd → Binds K fd ps []) : ∀ g : Heap, Mt P w K mg g C k m ps sp := fun g => by
  obtain ⟨f, oc, od, kV, doc, pm, an, cdv, ct, osl, a, i, l, c, kp⟩ := M.ex
  have F := fun_mk (st := st) l c kp
  exact ⟨f, _, ⟨a, i, kp⟩, ok g _ _ F, bi _ _ F⟩
theorem MethAt.mtX {P : Program} {w : World} {K : PySem.W.Frag} {mg : Str → Option Value} {C : Addr} {m qual : Str} {st : Stmt} {k : Nat} {ps : List Str} {sp : Sp} (M : MethAt K C m qual st) (ok : ∀ (g : Heap) (f : Addr) (fd : FuncData), Fun K m qual st f fd → FnOk P w K mg g (CX1 P w) k f fd ps sp) (bi : ∀ (f : Addr) (fd : FuncData), Fun K m qual st f fd → Binds K fd ps []) : ∀ g : Heap, MtX P w K mg g C k m ps sp := fun g => by
  obtain ⟨f, oc, od, kV, doc, pm, an, cdv, ct, osl, a, i, l, c, kp⟩ := M.ex
  have F := fun_mk (st := st) l c kp
  exact ⟨f, _, ⟨a, i, kp⟩, ok g _ _ F, bi _ _ F⟩
end L2
namespace K8
open PySem L2 K3
structure RdK (K : PySem.W.Frag) : Prop where
  ex : ∃ C : Addr, PySem.W.nsIn K mainGlobals "Reader" = some (some (.ref C)) ∧ Cls K C ∧ NoAttr K C "found" ∧ NoAttr K C "spot" ∧ PySem.W.makesIn K C = true ∧ PySem.W.keepIn K (.ref C) = true ∧
    MethAt K C "__init__" "Reader.__init__" sInit ∧ MethAt K C "ahead" "Reader.ahead" sAhead ∧ MethAt K C "at_name" "Reader.at_name" sAtName ∧ MethAt K C "passed" "Reader.passed" sPassed ∧ MethAt K C "need" "Reader.need" sNeed ∧ MethAt K C "need_end" "Reader.need_end" sNeedEnd ∧ MethAt K C "take_name" "Reader.take_name" sTakeName ∧ MethAt K C "take_word" "Reader.take_word" sTakeWord ∧ MethAt K C "in_brackets" "Reader.in_brackets" sInB ∧ MethAt K C "parted_by" "Reader.parted_by" sPart
theorem RdK.mk' {K : PySem.W.Frag} {C : Addr} (aC : PySem.W.nsIn K mainGlobals "Reader" = some (some (.ref C))) (pg : PySem.W.plainGet K C Str.empty = true) (hd : PySem.W.hasDictIn K C = true) (po : PySem.W.plainOver K C = true)
    (sa : PySem.W.findIn K (.ref C) "__setattr__" = some (some (.builtin "object.__setattr__"))) (n1 : PySem.W.findIn K (.ref C) "found" = some none) (n2 : PySem.W.findIn K (.ref C) "spot" = some none)
    (mk : PySem.W.makesIn K C = true) (kc : PySem.W.keepIn K (.ref C) = true) (m1 : MethAt K C "__init__" "Reader.__init__" sInit) (m2 : MethAt K C "ahead" "Reader.ahead" sAhead) (m3 : MethAt K C "at_name" "Reader.at_name" sAtName) (m4 : MethAt K C "passed" "Reader.passed" sPassed) (m5 : MethAt K C "need" "Reader.need" sNeed) (m6 : MethAt K C "need_end" "Reader.need_end" sNeedEnd) (m7 : MethAt K C "take_name" "Reader.take_name" sTakeName) (m8 : MethAt K C "take_word" "Reader.take_word" sTakeWord) (m9 : MethAt K C "in_brackets" "Reader.in_brackets" sInB) (m10 : MethAt K C "parted_by" "Reader.parted_by" sPart) : RdK K :=
  ⟨C, aC, ⟨pg, hd, po, sa⟩, n1, n2, mk, kc, m1, m2, m3, m4, m5, m6, m7, m8, m9, m10⟩
structure RdM (P : Program) (w : World) (K : PySem.W.Frag) (mg : Str → Option Value) (C NT : Addr) : Prop where
  tn : ∀ g : Heap, MtX P w K mg g C 3 "take_name" ["self"] (spTakeN C NT)
  nd : ∀ g : Heap, MtX P w K mg g C 3 "need" ["self", "sign"] (spNeedX C NT)
  en : ∀ g : Heap, MtX P w K mg g C 2 "need_end" ["self"] (spEnd C NT)
  ib : ∃ (fI : Addr) (fdI : FuncData), Meth K C "in_brackets" fI ∧ Binds K fdI ["self", "take_one"] [] ∧ ∀ (T1 T2 T3 : Addr) (g : Heap), FnOk P w K mg g (CX1 P w) (2 + 3) fI fdI ["self", "take_one"] (spInX P w K mg C [T1, T2, T3] (Z3 T1 T2 T3) RvN NT (2 + 2) g)
  pb : ∃ (fP : Addr) (fdP : FuncData), Meth K C "parted_by" fP ∧ Binds K fdP ["self", "sign", "take_one"] [] ∧ ∀ (T1 T2 T3 : Addr) (g : Heap), FnOk P w K mg g (CX1 P w) (5 + 3) fP fdP ["self", "sign", "take_one"] (spParX P w K mg C [T1, T2, T3] (Z3 T1 T2 T3) (RvR K) NT (5 + 2) g) ∧ FnOk P w K mg g (CX1 P w) (8 + 3) fP fdP ["self", "sign", "take_one"] (spParX P w K mg C [T1, T2, T3] (Z3 T1 T2 T3) (RvK K) NT (8 + 2) g)
theorem RdK.m {P : Program} {w : World} {K : PySem.W.Frag} {mg : Str → Option Value} {h : Heap} {NT : Addr} (S : RdK K) (X : K.In h) (N : h.Ns mainGlobals mg) (G : Gm mg) (R : Rs K mg "NoText" NT) (RB : ∀ g : Heap, Fn P w K mg g 1 "begins_in" ["word", "signs"] spBeg) :
    ∃ C, RdT K mg C ∧ RdM P w K mg C NT ∧ ∀ g : Heap, Fn P w K mg g 5 "words" ["text"] spWords → ∃ (fI : Addr) (fdI : FuncData), Mk K C fI ∧ FnOk P w K mg g CX0 6 fI fdI ["self", "text"] (spInit C) ∧ Binds K fdI ["self", "text"] [] := by
  obtain ⟨C, aC, cl, n1, n2, mk, kc, m1, m2, m3, m4, m5, m6, m7, m8, m9, m10⟩ := S.ex
  have T : RdT K mg C := ⟨cl, n1, n2, PySem.W.mg_of X N aC⟩
  have MA := m2.mt (P := P) (w := w) (mg := mg) (fun g f fd F => ok_ahead F G T) fun f fd F => F.binds fun _ _ _ _ _ _ us hl => by obtain ⟨a1, rfl⟩ := ln1 hl; rfl
  have MN := m3.mt (P := P) (w := w) (mg := mg) (fun g f fd F => ok_atName F G T (RB g) (MA g)) fun f fd F => F.binds fun _ _ _ _ _ _ us hl => by obtain ⟨a1, rfl⟩ := ln1 hl; rfl
  have MP := m4.mt (P := P) (w := w) (mg := mg) (fun g f fd F => ok_passed F T (MA g)) fun f fd F => F.binds fun _ _ _ _ _ _ us hl => by obtain ⟨a1, a2, rfl⟩ := ln2 hl; rfl
  have MD := m5.mtX (P := P) (w := w) (mg := mg) (fun g f fd F => ok_needX F R T (MP g)) fun f fd F => F.binds fun _ _ _ _ _ _ us hl => by obtain ⟨a1, a2, rfl⟩ := ln2 hl; rfl
  have ME := m6.mtX (P := P) (w := w) (mg := mg) (fun g f fd F => ok_needEnd F R T (MA g)) fun f fd F => F.binds fun _ _ _ _ _ _ us hl => by obtain ⟨a1, rfl⟩ := ln1 hl; rfl
  have MW := m8.mt (P := P) (w := w) (mg := mg) (fun g f fd F => ok_takeWord F T (MA g)) fun f fd F => F.binds fun _ _ _ _ _ _ us hl => by obtain ⟨a1, rfl⟩ := ln1 hl; rfl
  have MT := m7.mtX (P := P) (w := w) (mg := mg) (fun g f fd F => ok_takeName F R T (MN g) (MW g)) fun f fd F => F.binds fun _ _ _ _ _ _ us hl => by obtain ⟨a1, rfl⟩ := ln1 hl; rfl
  refine ⟨C, T, ⟨MT, MD, ME, ?_, ?_⟩, fun g RW => ?_⟩
  · obtain ⟨f, oc, od, kV, doc, pm, an, cdv, ct, osl, a, i, l, c, kp⟩ := m9.ex
    have F := fun_mk (st := sInB) l c kp
    exact ⟨f, _, ⟨a, i, kp⟩, F.binds fun _ _ _ _ _ _ us hl => by obtain ⟨a1, a2, rfl⟩ := ln2 hl; rfl, fun T1 T2 T3 g => ok_inX (z3_ok T1 T2 T3) (rpN C _) F G T (MP g)⟩
  · obtain ⟨f, oc, od, kV, doc, pm, an, cdv, ct, osl, a, i, l, c, kp⟩ := m10.ex
    have F := fun_mk (st := sPart) l c kp
    exact ⟨f, _, ⟨a, i, kp⟩, F.binds fun _ _ _ _ _ _ us hl => by obtain ⟨a1, a2, a3, rfl⟩ := ln3 hl; rfl, fun T1 T2 T3 g => ⟨ok_parX (z3_ok T1 T2 T3) (rpR K C _) F T (MP g), ok_parX (z3_ok T1 T2 T3) (rpK K C _) F T (MP g)⟩⟩
  · obtain ⟨f, oc, od, kV, doc, pm, an, cdv, ct, osl, a, i, l, c, kp⟩ := m1.ex
    have F := fun_mk (st := sInit) l c kp
    exact ⟨f, _, ⟨mk, a, i, kc⟩, ok_init F T RW, F.binds fun _ _ _ _ _ _ us hl => by obtain ⟨a1, a2, rfl⟩ := ln2 hl; rfl⟩
end K8
namespace K8
open PySem L2
theorem all_mk {c1 T1 : Addr} {c2 T2 : Addr} {c3 T3 : Addr} {l : PySem.W.OpenLaw} {w : World} {K : PySem.W.Frag} {h : Heap} {mg : Str → Option Value} {fa : Addr} (X : K.In h) (N : h.Ns mainGlobals mg) (hfa : mg "law" = some (.ref fa))
    (d1 : DefAt K "words" sWords) (d2 : DefAt K "word_at" sWordAt) (d3 : DefAt K "name_at" sNameAt) (d4 : DefAt K "below_zero_at" sBelow) (d5 : DefAt K "figures_at" sFigures) (d6 : DefAt K "run_at" sRun) (d7 : DefAt K "begins_in" sBegins) (d8 : DefAt K "read_wood" sReadW) (d9 : DefAt K "kind_from" sKindF) (d10 : DefAt K "row_from" sRowF) (d11 : DefAt K "check_numbers" sChkN) (d12 : DefAt K "check_kinds" sChkK) (d13 : DefAt K "check_rows" sChkR) (d14 : DefAt K "has_one_twice" sTwice) (d15 : DefAt K "_law_cell_at" sCell) (d16 : DefAt K "_law_word" sWord) (d17 : DefAt K "_law_wood" sWood) (d18 : DefAt K "_law_text" sText) (d19 : DefAt K "_law_form_fault" sForm) (d20 : DefAt K "_law_number_fault" sNumF) (d21 : DefAt K "_law_wood_fault" sWoodF) (d22 : DefAt K "_law_told" sTold) (d23 : DefAt K "law" sLaw)
    (z1 : PySem.W.nsIn K mainGlobals "len" = some none) (z2 : PySem.W.nsIn K mainGlobals "isinstance" = some none) (z3 : PySem.W.nsIn K mainGlobals "str" = some none) (z4 : PySem.W.nsIn K mainGlobals "list" = some none) (z5 : PySem.W.nsIn K mainGlobals "range" = some none) (z6 : PySem.W.nsIn K mainGlobals "tuple" = some none) (z7 : PySem.W.nsIn K mainGlobals "int" = some none) (z8 : PySem.W.nsIn K mainGlobals "sum" = some none) (y1 : PySem.W.nsIn K mainGlobals "ValueError" = some none)  (ht1 : PySem.W.tabIn K "read_wood" = some (c1, T1)) (hh1 : PySem.W.codeHdIn K c1 T1 = true) (ht2 : PySem.W.tabIn K "kind_from" = some (c2, T2)) (hh2 : PySem.W.codeHdIn K c2 T2 = true) (ht3 : PySem.W.tabIn K "row_from" = some (c3, T3)) (hh3 : PySem.W.codeHdIn K c3 T3 = true) (ne12 : T1 ≠ T2) (ne13 : T1 ≠ T3) (ne23 : T2 ≠ T3) {tA tB tC tD tE tF tG tH : Tok} {NT NW NU CT : Addr} (gA : PySem.W.nsIn K mainGlobals "LETTERS" = some (some (.str LETS tA))) (gB : PySem.W.nsIn K mainGlobals "FIGURES" = some (some (.str FIGS tB))) (gC : PySem.W.nsIn K mainGlobals "SIGNS" = some (some (.str SGNS tC))) (gD : PySem.W.nsIn K mainGlobals "MOST_LETTERS" = some (some (.int 8 tD))) (gE : PySem.W.nsIn K mainGlobals "MOST_FIGURES" = some (some (.int 60 tE))) (gF : PySem.W.nsIn K mainGlobals "MOST_KINDS" = some (some (.int 6 tF))) (gG : PySem.W.nsIn K mainGlobals "MOST_ROWS" = some (some (.int 16 tG))) (gH : PySem.W.nsIn K mainGlobals "MOST_BRANCHES" = some (some (.int 4 tH))) (gI : PySem.W.nsIn K mainGlobals "all" = some none) (gJ : PySem.W.nsIn K mainGlobals "sorted" = some none) (gK : PySem.W.nsIn K mainGlobals "set" = some none) (gL : PySem.W.nsIn K mainGlobals "min" = some none) (gN : PySem.W.nsIn K mainGlobals "NoText" = some (some (.ref NT))) (gW : PySem.W.nsIn K mainGlobals "NoWood" = some (some (.ref NW))) (gU : PySem.W.nsIn K mainGlobals "NoTurning" = some (some (.ref NU))) (gT : PySem.W.nsIn K mainGlobals "TurnError" = some (some (.ref CT))) (qt : PySem.W.excIn K NT mroV "ValueError.__new__" = true) (xt : PySem.W.exmOne K (.ref NT) (.ref CT) = some true) (et1 : PySem.W.findIn K (.ref NT) "__getattribute__" = some (some (.builtin "BaseException.__getattribute__"))) (et2 : PySem.W.findIn K (.ref NT) "__getattr__" = some none) (et3 : PySem.W.findIn K (.ref NT) "__class__" = some (some (.builtin "object.__class__"))) (et4 : PySem.W.mroIn K NT (.type "BaseException") = some true) (et5 : PySem.W.mroIn K NT (.type "object") = some true) (ut : PySem.W.kitOne K (.ref NT) (.ref NU) = some false) (vt : PySem.W.kitOne K (.ref NT) (.type "ValueError") = some true) (tt : PySem.W.kitOne K (.ref NT) (.ref NT) = some true) (kt : PySem.W.kitOne K (.ref NT) (.ref NW) = some false) (qw : PySem.W.excIn K NW mroV "ValueError.__new__" = true) (xw : PySem.W.exmOne K (.ref NW) (.ref CT) = some true) (ew1 : PySem.W.findIn K (.ref NW) "__getattribute__" = some (some (.builtin "BaseException.__getattribute__"))) (ew2 : PySem.W.findIn K (.ref NW) "__getattr__" = some none) (ew3 : PySem.W.findIn K (.ref NW) "__class__" = some (some (.builtin "object.__class__"))) (ew4 : PySem.W.mroIn K NW (.type "BaseException") = some true) (ew5 : PySem.W.mroIn K NW (.type "object") = some true) (uw : PySem.W.kitOne K (.ref NW) (.ref NU) = some false) (vw : PySem.W.kitOne K (.ref NW) (.type "ValueError") = some true) (tw : PySem.W.kitOne K (.ref NW) (.ref NT) = some false) (kw : PySem.W.kitOne K (.ref NW) (.ref NW) = some true) (s1 : RdK K) :
    ∃ fd : FuncData, (∀ (s : Shared) (v : Value), BindsTo s fd ⟨[v], []⟩ [("_law_script", v)]) ∧ ∀ base : Heap, K.In base → base.Ns mainGlobals mg → BtAt mg base → FnOk l.prog w K mg base CX0 14 fa fd ["_law_script"] (spLaw K T1 T2 T3) := by
  have G : Gm mg := ⟨PySem.W.mg_none_of X N z1, PySem.W.mg_none_of X N z2, PySem.W.mg_none_of X N z3, PySem.W.mg_none_of X N z4, PySem.W.mg_none_of X N z5, PySem.W.mg_none_of X N z6, PySem.W.mg_none_of X N z7, PySem.W.mg_none_of X N z8, ⟨_, PySem.W.mg_of X N gA⟩, ⟨_, PySem.W.mg_of X N gB⟩, ⟨_, PySem.W.mg_of X N gC⟩, ⟨_, PySem.W.mg_of X N gD⟩, ⟨_, PySem.W.mg_of X N gE⟩⟩
  obtain ⟨f, oc, od, kV, doc, pm, an, cdv, ct, osl, a, lk, c, kp⟩ := d23.ex
  have e := hfa.symm.trans (PySem.W.mg_of X N a)
  cases e
  have F := fun_mk (st := sLaw) lk c kp
  refine ⟨PySem.W.fnOf "law" "law" (defArgs sLaw) (defBody sLaw) (defScope sLaw) .none kV doc pm an cdv ct, fun s v => .of_eq rfl, fun base _ _ hB => ?_⟩
  have hve : mg "ValueError" = none := PySem.W.mg_none_of X N y1
  have G2 : Gm2 mg := ⟨⟨_, PySem.W.mg_of X N gF⟩, ⟨_, PySem.W.mg_of X N gG⟩, ⟨_, PySem.W.mg_of X N gH⟩, PySem.W.mg_none_of X N gI, PySem.W.mg_none_of X N gJ, PySem.W.mg_none_of X N gK, PySem.W.mg_none_of X N gL⟩
  have RN : Rs K mg "NoText" NT := ⟨PySem.W.mg_of X N gN, qt⟩
  have RW : Rs K mg "NoWood" NW := ⟨PySem.W.mg_of X N gW, qw⟩
  have LC : Cs K mg NT NW NU CT := ⟨PySem.W.mg_of X N gN, PySem.W.mg_of X N gW, PySem.W.mg_of X N gU, PySem.W.mg_of X N gT, hve, xt, xw, ⟨et1, et2, et3, et4, et5⟩, ⟨ew1, ew2, ew3, ew4, ew5⟩, ut, uw, vt, vw, tt, tw, kt, kw⟩
  have aB : ∀ g : Heap, Fn l.prog w K mg g 1 "begins_in" ["word", "signs"] spBeg := fun g => d7.fn X N (fun f fd F => ok_begins F) (fun _ _ _ _ _ _ us hl => by obtain ⟨a1, a2, rfl⟩ := ln2 hl; rfl)
  obtain ⟨C, TT, MM, II⟩ := s1.m (P := l.prog) (w := w) X N G RN aB
  have ne3 : Ne3 T1 T2 T3 := ⟨ne12, ne13, ne23⟩
  obtain ⟨fB, fdB, mB, bB, FB⟩ := MM.ib
  obtain ⟨fP, fdP, mP, bP, FP⟩ := MM.pb
  have rR : ∀ g : Heap, BtAt mg g → FnX l.prog w K mg g 6 "row_from" ["reader"] (spFromX C [T1, T2, T3] (Z3 T1 T2 T3) (RvR K) rowP NT) := fun g hBg => by
    obtain ⟨f, oc, od, kV, doc, pm, an, cdv, ct, osl, a, lk, c, kp⟩ := d10.ex
    have F := fun_mk (st := sRowF) lk c kp
    have hb : Binds K _ ["reader"] [] := F.binds fun _ _ _ _ _ _ us hl => by obtain ⟨a1, rfl⟩ := ln1 hl; rfl
    exact ⟨⟨f, _, ok_rowF ne3 F a ht3 hh3 hBg TT MM.tn mB bB (fun g => FB T1 T2 T3 g), hb, kp, PySem.W.mg_of X N a⟩⟩
  have rK : ∀ g : Heap, BtAt mg g → FnX l.prog w K mg g 9 "kind_from" ["reader"] (spFromX C [T1, T2, T3] (Z3 T1 T2 T3) (RvK K) kindP NT) := fun g hBg => by
    obtain ⟨f, oc, od, kV, doc, pm, an, cdv, ct, osl, a, lk, c, kp⟩ := d9.ex
    have F := fun_mk (st := sKindF) lk c kp
    have hb : Binds K _ ["reader"] [] := F.binds fun _ _ _ _ _ _ us hl => by obtain ⟨a1, rfl⟩ := ln1 hl; rfl
    exact ⟨⟨f, _, ok_kindF ne3 F a ht2 hh2 hBg TT (MM.tn g) (MM.nd g) mP bP (fun g => (FP T1 T2 T3 g).1) rR, hb, kp, PySem.W.mg_of X N a⟩⟩
  have w1 : Fn l.prog w K mg base 1 "run_at" ["text", "start", "signs"] spRun := d6.fn X N (fun f fd F => ok_run F G) fun _ _ _ _ _ _ us hl => by obtain ⟨a1, a2, a3, rfl⟩ := ln3 hl; rfl
  have w2 : Fn l.prog w K mg base 2 "figures_at" ["text", "start"] spFig := d5.fn X N (fun f fd F => ok_fig F G w1) fun _ _ _ _ _ _ us hl => by obtain ⟨a1, a2, rfl⟩ := ln2 hl; rfl
  have w3 : Fn l.prog w K mg base 3 "below_zero_at" ["text", "start"] spBelow := d4.fn X N (fun f fd F => ok_below F w2) fun _ _ _ _ _ _ us hl => by obtain ⟨a1, a2, rfl⟩ := ln2 hl; rfl
  have w4 : Fn l.prog w K mg base 2 "name_at" ["text", "start"] spNameAt := d3.fn X N (fun f fd F => ok_nameAt F G w1) fun _ _ _ _ _ _ us hl => by obtain ⟨a1, a2, rfl⟩ := ln2 hl; rfl
  have w5 : Fn l.prog w K mg base 4 "word_at" ["text", "start"] spWordAt := d2.fn X N (fun f fd F => ok_wordAt F G w4 w2 w3) fun _ _ _ _ _ _ us hl => by obtain ⟨a1, a2, rfl⟩ := ln2 hl; rfl
  have w6 : Fn l.prog w K mg base 5 "words" ["text"] spWords := d1.fn X N (fun f fd F => ok_words F G w5) fun _ _ _ _ _ _ us hl => by obtain ⟨a1, rfl⟩ := ln1 hl; rfl
  have c1 : FnX l.prog w K mg base 1 "check_numbers" ["wood"] (spChkNX K NT) := by
    obtain ⟨f, oc, od, kV, doc, pm, an, cdv, ct, osl, a, lk, c, kp⟩ := d11.ex
    have F := fun_mk (st := sChkN) lk c kp
    have hb : Binds K _ ["wood"] [] := F.binds fun _ _ _ _ _ _ us hl => by obtain ⟨a1, rfl⟩ := ln1 hl; rfl
    exact ⟨⟨f, _, ok_chkN F G G2 RN, hb, kp, PySem.W.mg_of X N a⟩⟩
  have c2 : Fn l.prog w K mg base 1 "has_one_twice" ["names"] (spTwB K) := d14.fn X N (fun f fd F => ok_tw F G G2) fun _ _ _ _ _ _ us hl => by obtain ⟨a1, rfl⟩ := ln1 hl; rfl
  have c3 : FnX l.prog w K mg base 2 "check_rows" ["kinds", "kind", "rows"] (spChkRX K NW) := by
    obtain ⟨f, oc, od, kV, doc, pm, an, cdv, ct, osl, a, lk, c, kp⟩ := d13.ex
    have F := fun_mk (st := sChkR) lk c kp
    have hb : Binds K _ ["kinds", "kind", "rows"] [] := F.binds fun _ _ _ _ _ _ us hl => by obtain ⟨a1, a2, a3, rfl⟩ := ln3 hl; rfl
    exact ⟨⟨f, _, ok_chkR F G G2 RW c2, hb, kp, PySem.W.mg_of X N a⟩⟩
  have c4 : FnX l.prog w K mg base 3 "check_kinds" ["wood"] (spChkKX K NW) := by
    obtain ⟨f, oc, od, kV, doc, pm, an, cdv, ct, osl, a, lk, c, kp⟩ := d12.ex
    have F := fun_mk (st := sChkK) lk c kp
    have hb : Binds K _ ["wood"] [] := F.binds fun _ _ _ _ _ _ us hl => by obtain ⟨a1, rfl⟩ := ln1 hl; rfl
    exact ⟨⟨f, _, ok_chkK F RW c2 c3, hb, kp, PySem.W.mg_of X N a⟩⟩
  obtain ⟨fI, fdI, mkI, FI, bI⟩ := II base w6
  have r6 : FnX l.prog w K mg base 12 "read_wood" ["text"] (spReadWX K T1 T2 T3 NT NW) := by
    obtain ⟨f, oc, od, kV, doc, pm, an, cdv, ct, osl, a, lk, c, kp⟩ := d8.ex
    have F := fun_mk (st := sReadW) lk c kp
    have hb : Binds K _ ["text"] [] := F.binds fun _ _ _ _ _ _ us hl => by obtain ⟨a1, rfl⟩ := ln1 hl; rfl
    exact ⟨⟨f, _, ok_readW ne3 F a ht1 hh1 hB G G2 TT mkI FI bI (MM.en base) mP bP (fun g => (FP T1 T2 T3 g).2) rK c1 c4, hb, kp, PySem.W.mg_of X N a⟩⟩
  have l1 : Fn l.prog w K mg base 1 "_law_cell_at" ["_law_script", "_law_k"] (spCell K) := d15.fn X N (fun f fd F => ok_cell F G) fun _ _ _ _ _ _ us hl => by obtain ⟨a1, a2, rfl⟩ := ln2 hl; rfl
  have l2 : Fn l.prog w K mg base 1 "_law_word" ["_law_number", "_law_k"] spWord := d16.fn X N (fun f fd F => ok_word F) fun _ _ _ _ _ _ us hl => by obtain ⟨a1, a2, rfl⟩ := ln2 hl; rfl
  have l3 : Fn l.prog w K mg base 2 "_law_wood" ["_law_number", "_law_more", "_law_lots"] spWood := d17.fn X N (fun f fd F => ok_wood F G l2) fun _ _ _ _ _ _ us hl => by obtain ⟨a1, a2, a3, rfl⟩ := ln3 hl; rfl
  have l4 : Fn l.prog w K mg base 1 "_law_text" ["_law_parts"] spText := d18.fn X N (fun f fd F => ok_text F) fun _ _ _ _ _ _ us hl => by obtain ⟨a1, rfl⟩ := ln1 hl; rfl
  have l5 : Fn l.prog w K mg base 2 "_law_form_fault" ["_law_parts", "_law_way", "_law_k", "_law_number"] spForm := d19.fn X N (fun f fd F => ok_form F G l4 l2) fun _ _ _ _ _ _ us hl => by obtain ⟨a1, a2, a3, a4, rfl⟩ := ln4 hl; rfl
  have l6 : Fn l.prog w K mg base 1 "_law_number_fault" ["_law_parts", "_law_way", "_law_k", "_law_number"] spNumF := d20.fn X N (fun f fd F => ok_numF F G) fun _ _ _ _ _ _ us hl => by obtain ⟨a1, a2, a3, a4, rfl⟩ := ln4 hl; rfl
  have l7 : Fn l.prog w K mg base 1 "_law_wood_fault" ["_law_parts", "_law_way", "_law_k", "_law_number", "_law_strange"] spWoodF := d21.fn X N (fun f fd F => ok_woodF F G) fun _ _ _ _ _ _ us hl => by obtain ⟨a1, a2, a3, a4, a5, rfl⟩ := ln5 hl; rfl
  have l8 : Fn l.prog w K mg base 13 "_law_told" ["_law_text_here"] (spTold T1 T2 T3) := d22.fn X N (fun f fd F => ok_told F G LC r6) fun _ _ _ _ _ _ us hl => by obtain ⟨a1, rfl⟩ := ln1 hl; rfl
  exact ok_law F G l1 l2 l3 l4 l5 l6 l7 l8
theorem walk {c1 T1 : Addr} {c2 T2 : Addr} {c3 T3 : Addr} {l : PySem.W.OpenLaw} {q : Program} {loose : List Str} {XP : (Str → Option Value) → Heap → Prop} {YP : World → Heap → Prop} {d : DefRec} {K : Params → PySem.W.Frag} (hn : l.most = some 63) (hdf : d.params.defaults = [])
    (hY : ∀ (w : World) (h : Heap), YP w h → (K w.params).In h) (tb1 : ∀ w : World, TabAt q (K w.params) "read_wood" c1 T1) (tb2 : ∀ w : World, TabAt q (K w.params) "kind_from" c2 T2) (tb3 : ∀ w : World, TabAt q (K w.params) "row_from" c3 T3) (ne12 : T1 ≠ T2) (ne13 : T1 ≠ T3) (ne23 : T2 ≠ T3)
    (F : ∀ (w : World) (mg : Str → Option Value) (fa : Addr) (h : Heap), (K w.params).In h → h.Ns mainGlobals mg → mg d.name = some (.ref fa) →
      ∃ fd : FuncData, (∀ (s : Shared) (u : Value), BindsTo s fd ⟨[u], []⟩ [("_law_script", u)]) ∧ ∀ base : Heap, (K w.params).In base → base.Ns mainGlobals mg → BtAt mg base → FnOk l.prog w (K w.params) mg base CX0 14 fa fd ["_law_script"] (spLaw (K w.params) T1 T2 T3)) :
    PySem.W.WalkO q loose XP YP l.row.toRowW d [] (fun f vs => PySem.call f vs) :=
  L2.walk_ofT (n := 63) (k := 14) (x := "_law_script") (tabs := [("read_wood", c1, T1), ("kind_from", c2, T2), ("row_from", c3, T3)]) (sp := fun w => spLaw (K w.params) T1 T2 T3) hn (by decide) hdf ⟨rfl, by decide, by decide⟩ hY (fun w p hp => by
    simp only [List.mem_cons, List.not_mem_nil, or_false] at hp
    rcases hp with rfl | rfl | rfl
    · exact tb1 w
    · exact tb2 w
    · exact tb3 w) F (fun _ _ a ns hl hS hT => ⟨a, ns, rfl, hS, hl, ne12, ne13, ne23, hT ("read_wood", c1, T1) (by simp), hT ("kind_from", c2, T2) (by simp), hT ("row_from", c3, T3) (by simp), fun _ => rfl⟩)
end K8
section
open PySem
noncomputable def K8.vS (x : String) (n : Nat) : Value := .str (Str.ofString x) n
noncomputable def K8.vR (a : Nat) : Value := .ref a
noncomputable def K8.vI (i : Int) (n : Nat) : Value := .int i n
noncomputable def K8.hE (P : Params) (x : String) (n : Nat) (v : Value) : DictEntry := ⟨PyData.keyHash P (Str.ofString x), .str (Str.ofString x) n, v⟩
noncomputable def K8.vN : Value := .none
noncomputable def K8.vF : Value := .type "function"
noncomputable def K8.vT : Value := .bool true
noncomputable def K8.i0 : Value := .int 0 0
noncomputable def K8.i3 : Value := .int 3 0
noncomputable def K8.i1 : Value := .int 181 0
noncomputable def K8.cP (k : Nat) : Value := .str (Str.ofString "/claim/cut.py") k
noncomputable def K8.oT (x : Array Value) : Obj := Obj.mk (Value.type "tuple") none (Data.seq x) #[]
noncomputable def K8.oC (x : Array Value) : Obj := Obj.mk (Value.type "code") none (Data.fields x) #[]
noncomputable def K8.oF (c : Value) (x y : String) (s : Stmt) (k : Nat) (pm cd : Value) : Obj := Obj.mk c none (Data.func (FuncData.mk (Str.ofString x) (Str.ofString y) (L2.defArgs s) (.stmts (L2.defBody s)) (L2.defScope s) k [] Value.none Value.none Value.none pm none cd Value.none 0)) #[]
open K8 in
noncomputable def K8.hp : Params → PySem.W.Frag := fun P => [ (2, Obj.mk vN none (Data.dict #[]) #[])
, (3, Obj.mk (Value.type "dict") none (Data.dict #[hE P "__name__" 165 (vS "law_turnery_k08_woods_refused" 513), hE P "__doc__" 166 vN, hE P "__package__" 167 vN, hE P "__loader__" 168 (Value.builtin "__main__.__loader__#opaque"), hE P "__spec__" 169 vN, hE P "__annotations__" 170 (vR 6), hE P "__builtins__" 171 (vR 4), hE P "__file__" 173 (cP 172), hE P "__cached__" 174 vN, hE P "_wall" 193 (vR 21), hE P "TurnError" 213 (vR 31), hE P "NoText" 229 (vR 44), hE P "NoWood" 245 (vR 56), hE P "NoTurning" 261 (vR 68), hE P "LETTERS" 265 (vS "abcdefghijklmnopqrstuvwxyz" 264), hE P "FIGURES" 267 (vS "0123456789" 266), hE P "SIGNS" 269 (vS "();:=|*" 268), hE P "MOST_LETTERS" 271 (vI 8 270), hE P "MOST_FIGURES" 273 (vI 60 272), hE P "words" 283 (vR 77), hE P "word_at" 292 (vR 84), hE P "name_at" 301 (vR 91), hE P "below_zero_at" 310 (vR 98), hE P "figures_at" 319 (vR 105), hE P "run_at" 329 (vR 112), hE P "Reader" 447 (vR 206), hE P "begins_in" 455 (vR 217), hE P "MOST_KINDS" 459 (vI 6 458), hE P "MOST_ROWS" 461 (vI 16 460), hE P "MOST_BRANCHES" 463 (vI 4 462), hE P "read_wood" 469 (vR 222), hE P "kind_from" 478 (vR 229), hE P "row_from" 487 (vR 236), hE P "check_numbers" 493 (vR 241), hE P "check_kinds" 499 (vR 246), hE P "check_rows" 505 (vR 251), hE P "has_one_twice" 512 (vR 258), hE P "_law_cell_at" 522 (vR 265), hE P "_law_word" 532 (vR 272), hE P "_law_wood" 538 (vR 277), hE P "_law_text" 544 (vR 282), hE P "_law_form_fault" 557 (vR 289), hE P "_law_number_fault" 563 (vR 294), hE P "_law_wood_fault" 576 (vR 301), hE P "_law_told" 585 (vR 308), hE P "law" 591 (vR 313)] 46) #[])
, (15, oT #[])
, (17, oT #[vS "k" 190])
, (18, oT #[])
, (20, oC #[vS "_wall" 187, vS "_wall" 188, cP 189, vI 1 0, vI 1 0, i0, i0, i3, vR 15, vT, i1, vR 16, vN, vR 17, vR 18, vR 19, vI 191 0, vI 1 0, cP 192])
, (21, oF vF "_wall" "_wall" (top 0) 3 (vS "__main__" 164) (vR 20))
, (22, oT #[Value.type "ValueError"])
, (29, oT #[])
, (30, Obj.mk (Value.type "dict") none (Data.dict #[hE P "__module__" 203 (vS "turnery.errors" 194), hE P "__firstlineno__" 207 (vI 5 206), hE P "__static_attributes__" 208 (vR 29), hE P "__weakref__" 210 (vR 32), hE P "__doc__" 211 vN] 3) #[])
, (31, Obj.mk (Value.type "type") none (Data.cls (ClassData.mk (Str.ofString "TurnError") [Value.type "ValueError"] [vR 31, Value.type "ValueError", Value.type "Exception", Value.type "BaseException", Value.type "object"] 30 (Str.ofString "TurnError") true [] [vR 44, vR 56, vR 68] false none false)) #[some (vR 22), none, some (vS "TurnError" 196), some (vS "TurnError" 204), some (Value.builtin "ValueError.__new__"), some (Value.bool true)])
, (32, Obj.mk (Value.type "getset_descriptor") none (Data.fields #[vS "__weakref__" 209, vR 31, Value.builtin "ExceptionGroup.__weakref__", vN]) #[])
, (35, oT #[vR 31])
, (42, oT #[])
, (43, Obj.mk (Value.type "dict") none (Data.dict #[hE P "__module__" 221 (vS "turnery.errors" 194), hE P "__firstlineno__" 225 (vI 7 224), hE P "__static_attributes__" 226 (vR 42), hE P "__doc__" 227 vN] 2) #[])
, (44, Obj.mk (Value.type "type") none (Data.cls (ClassData.mk (Str.ofString "NoText") [vR 31] [vR 44, vR 31, Value.type "ValueError", Value.type "Exception", Value.type "BaseException", Value.type "object"] 43 (Str.ofString "NoText") true [] [] false none false)) #[some (vR 35), none, some (vS "NoText" 214), some (vS "NoText" 222), some (Value.builtin "ValueError.__new__"), some (Value.bool true)])
, (47, oT #[vR 31])
, (54, oT #[])
, (55, Obj.mk (Value.type "dict") none (Data.dict #[hE P "__module__" 237 (vS "turnery.errors" 194), hE P "__firstlineno__" 241 (vI 9 240), hE P "__static_attributes__" 242 (vR 54), hE P "__doc__" 243 vN] 2) #[])
, (56, Obj.mk (Value.type "type") none (Data.cls (ClassData.mk (Str.ofString "NoWood") [vR 31] [vR 56, vR 31, Value.type "ValueError", Value.type "Exception", Value.type "BaseException", Value.type "object"] 55 (Str.ofString "NoWood") true [] [] false none false)) #[some (vR 47), none, some (vS "NoWood" 230), some (vS "NoWood" 238), some (Value.builtin "ValueError.__new__"), some (Value.bool true)])
, (59, oT #[vR 31])
, (66, oT #[])
, (67, Obj.mk (Value.type "dict") none (Data.dict #[hE P "__module__" 253 (vS "turnery.errors" 194), hE P "__firstlineno__" 257 (vI 11 256), hE P "__static_attributes__" 258 (vR 66), hE P "__doc__" 259 vN] 2) #[])
, (68, Obj.mk (Value.type "type") none (Data.cls (ClassData.mk (Str.ofString "NoTurning") [vR 31] [vR 68, vR 31, Value.type "ValueError", Value.type "Exception", Value.type "BaseException", Value.type "object"] 67 (Str.ofString "NoTurning") true [] [] false none false)) #[some (vR 59), none, some (vS "NoTurning" 246), some (vS "NoTurning" 254), some (Value.builtin "ValueError.__new__"), some (Value.bool true)])
, (71, oT #[])
, (73, oT #[vS "text" 277, vS "told" 278, vS "start" 279, vS "word" 280])
, (74, oT #[])
, (76, oC #[vS "words" 274, vS "words" 275, cP 276, vI 19 0, vI 1 0, i0, i0, i3, vR 71, vT, i1, vR 72, vN, vR 73, vR 74, vR 75, vI 281 0, vI 19 0, cP 282])
, (77, oF vF "words" "words" (top 12) 3 (vS "turnery.words" 262) (vR 76))
, (78, oT #[])
, (80, oT #[vS "text" 287, vS "start" 288, vS "first" 289])
, (81, oT #[])
, (83, oC #[vS "word_at" 284, vS "word_at" 285, cP 286, vI 32 0, vI 2 0, i0, i0, i3, vR 78, vT, i1, vR 79, vN, vR 80, vR 81, vR 82, vI 290 0, vI 32 0, cP 291])
, (84, oF vF "word_at" "word_at" (top 13) 3 (vS "turnery.words" 262) (vR 83))
, (85, oT #[])
, (87, oT #[vS "text" 296, vS "start" 297, vS "name" 298])
, (88, oT #[])
, (90, oC #[vS "name_at" 293, vS "name_at" 294, cP 295, vI 43 0, vI 2 0, i0, i0, i3, vR 85, vT, i1, vR 86, vN, vR 87, vR 88, vR 89, vI 299 0, vI 43 0, cP 300])
, (91, oF vF "name_at" "name_at" (top 14) 3 (vS "turnery.words" 262) (vR 90))
, (92, oT #[])
, (94, oT #[vS "text" 305, vS "start" 306, vS "figures" 307])
, (95, oT #[])
, (97, oC #[vS "below_zero_at" 302, vS "below_zero_at" 303, cP 304, vI 48 0, vI 2 0, i0, i0, i3, vR 92, vT, i1, vR 93, vN, vR 94, vR 95, vR 96, vI 308 0, vI 48 0, cP 309])
, (98, oF vF "below_zero_at" "below_zero_at" (top 15) 3 (vS "turnery.words" 262) (vR 97))
, (99, oT #[])
, (101, oT #[vS "text" 314, vS "start" 315, vS "figures" 316])
, (102, oT #[])
, (104, oC #[vS "figures_at" 311, vS "figures_at" 312, cP 313, vI 53 0, vI 2 0, i0, i0, i3, vR 99, vT, i1, vR 100, vN, vR 101, vR 102, vR 103, vI 317 0, vI 53 0, cP 318])
, (105, oF vF "figures_at" "figures_at" (top 16) 3 (vS "turnery.words" 262) (vR 104))
, (106, oT #[])
, (108, oT #[vS "text" 323, vS "start" 324, vS "signs" 325, vS "end" 326])
, (109, oT #[])
, (111, oC #[vS "run_at" 320, vS "run_at" 321, cP 322, vI 62 0, vI 3 0, i0, i0, i3, vR 106, vT, i1, vR 107, vN, vR 108, vR 109, vR 110, vI 327 0, vI 62 0, cP 328])
, (112, oF vF "run_at" "run_at" (top 17) 3 (vS "turnery.words" 262) (vR 111))
, (120, oT #[])
, (122, oT #[vS "self" 347, vS "text" 348])
, (123, oT #[])
, (125, oC #[vS "__init__" 344, vS "Reader.__init__" 345, cP 346, vI 70 0, vI 2 0, i0, i0, i3, vR 120, vT, i1, vR 121, vN, vR 122, vR 123, vR 124, vI 349 0, vI 70 0, cP 350])
, (126, oF vF "__init__" "Reader.__init__" (L2.inClass (top 19) 0) 3 (vS "turnery.readers" 330) (vR 125))
, (127, oT #[])
, (129, oT #[vS "self" 355])
, (130, oT #[])
, (132, oC #[vS "ahead" 352, vS "Reader.ahead" 353, cP 354, vI 74 0, vI 1 0, i0, i0, i3, vR 127, vT, i1, vR 128, vN, vR 129, vR 130, vR 131, vI 356 0, vI 74 0, cP 357])
, (133, oF vF "ahead" "Reader.ahead" (L2.inClass (top 19) 1) 3 (vS "turnery.readers" 330) (vR 132))
, (134, oT #[])
, (136, oT #[vS "self" 362])
, (137, oT #[])
, (139, oC #[vS "at_name" 359, vS "Reader.at_name" 360, cP 361, vI 79 0, vI 1 0, i0, i0, i3, vR 134, vT, i1, vR 135, vN, vR 136, vR 137, vR 138, vI 363 0, vI 79 0, cP 364])
, (140, oF vF "at_name" "Reader.at_name" (L2.inClass (top 19) 2) 3 (vS "turnery.readers" 330) (vR 139))
, (141, oT #[])
, (143, oT #[vS "self" 369])
, (144, oT #[])
, (146, oC #[vS "at_number" 366, vS "Reader.at_number" 367, cP 368, vI 82 0, vI 1 0, i0, i0, i3, vR 141, vT, i1, vR 142, vN, vR 143, vR 144, vR 145, vI 370 0, vI 82 0, cP 371])
, (147, oF vF "at_number" "Reader.at_number" (L2.inClass (top 19) 3) 3 (vS "turnery.readers" 330) (vR 146))
, (148, oT #[])
, (150, oT #[vS "self" 376, vS "sign" 377])
, (151, oT #[])
, (153, oC #[vS "passed" 373, vS "Reader.passed" 374, cP 375, vI 85 0, vI 2 0, i0, i0, i3, vR 148, vT, i1, vR 149, vN, vR 150, vR 151, vR 152, vI 378 0, vI 85 0, cP 379])
, (154, oF vF "passed" "Reader.passed" (L2.inClass (top 19) 4) 3 (vS "turnery.readers" 330) (vR 153))
, (155, oT #[])
, (157, oT #[vS "self" 384, vS "sign" 385])
, (158, oT #[])
, (160, oC #[vS "need" 381, vS "Reader.need" 382, cP 383, vI 91 0, vI 2 0, i0, i0, i3, vR 155, vT, i1, vR 156, vN, vR 157, vR 158, vR 159, vI 386 0, vI 91 0, cP 387])
, (161, oF vF "need" "Reader.need" (L2.inClass (top 19) 5) 3 (vS "turnery.readers" 330) (vR 160))
, (162, oT #[])
, (164, oT #[vS "self" 392, vS "word" 393])
, (165, oT #[])
, (167, oC #[vS "need_end" 389, vS "Reader.need_end" 390, cP 391, vI 95 0, vI 1 0, i0, i0, i3, vR 162, vT, i1, vR 163, vN, vR 164, vR 165, vR 166, vI 394 0, vI 95 0, cP 395])
, (168, oF vF "need_end" "Reader.need_end" (L2.inClass (top 19) 6) 3 (vS "turnery.readers" 330) (vR 167))
, (169, oT #[])
, (171, oT #[vS "self" 400])
, (172, oT #[])
, (174, oC #[vS "take_name" 397, vS "Reader.take_name" 398, cP 399, vI 100 0, vI 1 0, i0, i0, i3, vR 169, vT, i1, vR 170, vN, vR 171, vR 172, vR 173, vI 401 0, vI 100 0, cP 402])
, (175, oF vF "take_name" "Reader.take_name" (L2.inClass (top 19) 7) 3 (vS "turnery.readers" 330) (vR 174))
, (176, oT #[])
, (178, oT #[vS "self" 407])
, (179, oT #[])
, (181, oC #[vS "take_number" 404, vS "Reader.take_number" 405, cP 406, vI 105 0, vI 1 0, i0, i0, i3, vR 176, vT, i1, vR 177, vN, vR 178, vR 179, vR 180, vI 408 0, vI 105 0, cP 409])
, (182, oF vF "take_number" "Reader.take_number" (L2.inClass (top 19) 8) 3 (vS "turnery.readers" 330) (vR 181))
, (183, oT #[])
, (185, oT #[vS "self" 414, vS "word" 415])
, (186, oT #[])
, (188, oC #[vS "take_word" 411, vS "Reader.take_word" 412, cP 413, vI 108 0, vI 1 0, i0, i0, i3, vR 183, vT, i1, vR 184, vN, vR 185, vR 186, vR 187, vI 416 0, vI 108 0, cP 417])
, (189, oF vF "take_word" "Reader.take_word" (L2.inClass (top 19) 9) 3 (vS "turnery.readers" 330) (vR 188))
, (190, oT #[])
, (192, oT #[vS "self" 422, vS "take_one" 423, vS "taken" 424])
, (193, oT #[])
, (195, oC #[vS "in_brackets" 419, vS "Reader.in_brackets" 420, cP 421, vI 113 0, vI 2 0, i0, i0, i3, vR 190, vT, i1, vR 191, vN, vR 192, vR 193, vR 194, vI 425 0, vI 113 0, cP 426])
, (196, oF vF "in_brackets" "Reader.in_brackets" (L2.inClass (top 19) 10) 3 (vS "turnery.readers" 330) (vR 195))
, (197, oT #[])
, (199, oT #[vS "self" 431, vS "sign" 432, vS "take_one" 433, vS "taken" 434])
, (200, oT #[])
, (202, oC #[vS "parted_by" 428, vS "Reader.parted_by" 429, cP 430, vI 121 0, vI 3 0, i0, i0, i3, vR 197, vT, i1, vR 198, vN, vR 199, vR 200, vR 201, vI 435 0, vI 121 0, cP 436])
, (203, oF vF "parted_by" "Reader.parted_by" (L2.inClass (top 19) 11) 3 (vS "turnery.readers" 330) (vR 202))
, (204, oT #[vS "found" 438, vS "spot" 439])
, (205, Obj.mk (Value.type "dict") none (Data.dict #[hE P "__module__" 339 (vS "turnery.readers" 330), hE P "__firstlineno__" 343 (vI 68 342), hE P "__init__" 351 (vR 126), hE P "ahead" 358 (vR 133), hE P "at_name" 365 (vR 140), hE P "at_number" 372 (vR 147), hE P "passed" 380 (vR 154), hE P "need" 388 (vR 161), hE P "need_end" 396 (vR 168), hE P "take_name" 403 (vR 175), hE P "take_number" 410 (vR 182), hE P "take_word" 418 (vR 189), hE P "in_brackets" 427 (vR 196), hE P "parted_by" 437 (vR 203), hE P "__static_attributes__" 440 (vR 204), hE P "__dict__" 442 (vR 207), hE P "__weakref__" 444 (vR 208), hE P "__doc__" 445 vN] 4) #[])
, (206, Obj.mk (Value.type "type") none (Data.cls (ClassData.mk (Str.ofString "Reader") [Value.type "object"] [vR 206, Value.type "object"] 205 (Str.ofString "Reader") true [] [] false none false)) #[none, none, some (vS "Reader" 332), some (vS "Reader" 340), some (Value.builtin "object.__new__"), some (Value.bool true)])
, (207, Obj.mk (Value.type "getset_descriptor") none (Data.fields #[vS "__dict__" 441, vR 206, Value.builtin "function.__dict__", Value.builtin "function.__dict__#set"]) #[])
, (208, Obj.mk (Value.type "getset_descriptor") none (Data.fields #[vS "__weakref__" 443, vR 206, Value.builtin "ExceptionGroup.__weakref__", vN]) #[])
, (211, oT #[])
, (213, oT #[vS "word" 451, vS "signs" 452])
, (214, oT #[])
, (216, oC #[vS "begins_in" 448, vS "begins_in" 449, cP 450, vI 126 0, vI 2 0, i0, i0, i3, vR 211, vT, i1, vR 212, vN, vR 213, vR 214, vR 215, vI 453 0, vI 126 0, cP 454])
, (217, oF vF "begins_in" "begins_in" (top 20) 3 (vS "turnery.readers" 330) (vR 216))
, (218, oT #[])
, (221, oC #[vS "read_wood" 464, vS "read_wood" 465, cP 466, vI 132 0, vI 1 0, i0, i0, i3, vR 218, vT, i1, vR 219, vN, vN, vN, vR 220, vI 467 0, vI 132 0, cP 468])
, (222, oF vF "read_wood" "read_wood" (top 25) 3 (vS "turnery.woods" 456) (vR 221))
, (223, oT #[])
, (225, oT #[vS "reader" 473, vS "kind" 474])
, (226, oT #[vS "reader" 475])
, (228, oC #[vS "kind_from" 470, vS "kind_from" 471, cP 472, vI 139 0, vI 1 0, i0, i0, i3, vR 223, vT, i1, vR 224, vN, vR 225, vR 226, vR 227, vI 476 0, vI 139 0, cP 477])
, (229, oF vF "kind_from" "kind_from" (top 26) 3 (vS "turnery.woods" 456) (vR 228))
, (230, oT #[])
, (232, oT #[vS "reader" 482, vS "name" 483])
, (233, oT #[vS "reader" 484])
, (235, oC #[vS "row_from" 479, vS "row_from" 480, cP 481, vI 143 0, vI 1 0, i0, i0, i3, vR 230, vT, i1, vR 231, vN, vR 232, vR 233, vR 234, vI 485 0, vI 143 0, cP 486])
, (236, oF vF "row_from" "row_from" (top 27) 3 (vS "turnery.woods" 456) (vR 235))
, (237, oT #[])
, (240, oC #[vS "check_numbers" 488, vS "check_numbers" 489, cP 490, vI 146 0, vI 1 0, i0, i0, i3, vR 237, vT, i1, vR 238, vN, vN, vN, vR 239, vI 491 0, vI 146 0, cP 492])
, (241, oF vF "check_numbers" "check_numbers" (top 28) 3 (vS "turnery.woods" 456) (vR 240))
, (242, oT #[])
, (245, oC #[vS "check_kinds" 494, vS "check_kinds" 495, cP 496, vI 155 0, vI 1 0, i0, i0, i3, vR 242, vT, i1, vR 243, vN, vN, vN, vR 244, vI 497 0, vI 155 0, cP 498])
, (246, oF vF "check_kinds" "check_kinds" (top 29) 3 (vS "turnery.woods" 456) (vR 245))
, (247, oT #[])
, (250, oC #[vS "check_rows" 500, vS "check_rows" 501, cP 502, vI 161 0, vI 3 0, i0, i0, i3, vR 247, vT, i1, vR 248, vN, vN, vN, vR 249, vI 503 0, vI 161 0, cP 504])
, (251, oF vF "check_rows" "check_rows" (top 30) 3 (vS "turnery.woods" 456) (vR 250))
, (252, oT #[])
, (254, oT #[vS "names" 509])
, (255, oT #[])
, (257, oC #[vS "has_one_twice" 506, vS "has_one_twice" 507, cP 508, vI 170 0, vI 1 0, i0, i0, i3, vR 252, vT, i1, vR 253, vN, vR 254, vR 255, vR 256, vI 510 0, vI 170 0, cP 511])
, (258, oF vF "has_one_twice" "has_one_twice" (top 31) 3 (vS "turnery.woods" 456) (vR 257))
, (259, oT #[])
, (261, oT #[vS "_law_script" 518, vS "_law_k" 519])
, (262, oT #[])
, (264, oC #[vS "_law_cell_at" 515, vS "_law_cell_at" 516, cP 517, vI 173 0, vI 2 0, i0, i0, i3, vR 259, vT, i1, vR 260, vN, vR 261, vR 262, vR 263, vI 520 0, vI 173 0, cP 521])
, (265, oF vF "_law_cell_at" "_law_cell_at" (top 33) 3 (vS "law_turnery_k08_woods_refused" 513) (vR 264))
, (266, oT #[])
, (268, oT #[vS "_law_number" 526, vS "_law_k" 527, vS "_law_letters" 528, vS "_law_word_here" 529])
, (269, oT #[])
, (271, oC #[vS "_law_word" 523, vS "_law_word" 524, cP 525, vI 177 0, vI 2 0, i0, i0, i3, vR 266, vT, i1, vR 267, vN, vR 268, vR 269, vR 270, vI 530 0, vI 177 0, cP 531])
, (272, oF vF "_law_word" "_law_word" (top 34) 3 (vS "law_turnery_k08_woods_refused" 513) (vR 271))
, (273, oT #[])
, (276, oC #[vS "_law_wood" 533, vS "_law_wood" 534, cP 535, vI 181 0, vI 3 0, i0, i0, i3, vR 273, vT, i1, vR 274, vN, vN, vN, vR 275, vI 536 0, vI 181 0, cP 537])
, (277, oF vF "_law_wood" "_law_wood" (top 35) 3 (vS "law_turnery_k08_woods_refused" 513) (vR 276))
, (278, oT #[])
, (281, oC #[vS "_law_text" 539, vS "_law_text" 540, cP 541, vI 190 0, vI 1 0, i0, i0, i3, vR 278, vT, i1, vR 279, vN, vN, vN, vR 280, vI 542 0, vI 190 0, cP 543])
, (282, oF vF "_law_text" "_law_text" (top 36) 3 (vS "law_turnery_k08_woods_refused" 513) (vR 281))
, (283, oT #[])
, (285, oT #[vS "_law_parts" 548, vS "_law_way" 549, vS "_law_k" 550, vS "_law_number" 551, vS "_law_text_here" 552, vS "_law_kind" 553, vS "_law_rows" 554])
, (286, oT #[])
, (288, oC #[vS "_law_form_fault" 545, vS "_law_form_fault" 546, cP 547, vI 195 0, vI 4 0, i0, i0, i3, vR 283, vT, i1, vR 284, vN, vR 285, vR 286, vR 287, vI 555 0, vI 195 0, cP 556])
, (289, oF vF "_law_form_fault" "_law_form_fault" (top 37) 3 (vS "law_turnery_k08_woods_refused" 513) (vR 288))
, (290, oT #[])
, (293, oC #[vS "_law_number_fault" 558, vS "_law_number_fault" 559, cP 560, vI 215 0, vI 4 0, i0, i0, i3, vR 290, vT, i1, vR 291, vN, vN, vN, vR 292, vI 561 0, vI 215 0, cP 562])
, (294, oF vF "_law_number_fault" "_law_number_fault" (top 38) 3 (vS "law_turnery_k08_woods_refused" 513) (vR 293))
, (295, oT #[])
, (297, oT #[vS "_law_parts" 567, vS "_law_way" 568, vS "_law_k" 569, vS "_law_number" 570, vS "_law_strange" 571, vS "_law_kind" 572, vS "_law_rows" 573])
, (298, oT #[])
, (300, oC #[vS "_law_wood_fault" 564, vS "_law_wood_fault" 565, cP 566, vI 228 0, vI 5 0, i0, i0, i3, vR 295, vT, i1, vR 296, vN, vR 297, vR 298, vR 299, vI 574 0, vI 228 0, cP 575])
, (301, oF vF "_law_wood_fault" "_law_wood_fault" (top 39) 3 (vS "law_turnery_k08_woods_refused" 513) (vR 300))
, (302, oT #[])
, (304, oT #[vS "_law_text_here" 580, vS "_law_error" 581, vS "e" 582])
, (305, oT #[])
, (307, oC #[vS "_law_told" 577, vS "_law_told" 578, cP 579, vI 239 0, vI 1 0, i0, i0, i3, vR 302, vT, i1, vR 303, vN, vR 304, vR 305, vR 306, vI 583 0, vI 239 0, cP 584])
, (308, oF vF "_law_told" "_law_told" (top 40) 3 (vS "law_turnery_k08_woods_refused" 513) (vR 307))
, (309, oT #[])
, (312, oC #[vS "law" 586, vS "law" 587, cP 588, vI 250 0, vI 1 0, i0, i0, i3, vR 309, vT, i1, vR 310, vN, vN, vN, vR 311, vI 589 0, vI 250 0, cP 590])
, (313, oF vF "law" "law" (top 41) 3 (vS "law_turnery_k08_woods_refused" 513) (vR 312)) ]
end
noncomputable def PySem.W.Fast.tw9625765221730440396 : PySem.Params → PySem.W.Frag := K8.hp
theorem PySem.W.Fast.te9625765221730440396 : K8.hp = PySem.W.Fast.tw9625765221730440396 := rfl
namespace PySem.W.Fast
open PySem K8
noncomputable def tw17520727503633868599 : Params → Obj := fun P => oF vF "law" "law" (top 41) 3 (vS "law_turnery_k08_woods_refused" 513) (vR 312)
theorem te17520727503633868599 : tw17520727503633868599 = tw17520727503633868599 := rfl
noncomputable def tw14010730592334610121 : Params → Obj := fun P => oF vF "words" "words" (top 12) 3 (vS "turnery.words" 262) (vR 76)
theorem te14010730592334610121 : tw14010730592334610121 = tw14010730592334610121 := rfl
noncomputable def tw2098360079176802107 : Params → Obj := fun P => oF vN "below_zero_at" "below_zero_at" (top 15) 0 vN vN
theorem te2098360079176802107 : tw2098360079176802107 = tw2098360079176802107 := rfl
noncomputable def tw7040688681084530256 : Params → Obj := fun P => oF vF "kind_from" "kind_from" (top 26) 3 (vS "turnery.woods" 456) (vR 228)
theorem te7040688681084530256 : tw7040688681084530256 = tw7040688681084530256 := rfl
noncomputable def tw7351981614013172350 : Params → Obj := fun P => oF vN "need_end" "Reader.need_end" (L2.inClass (top 19) 6) 0 vN vN
theorem te7351981614013172350 : tw7351981614013172350 = tw7351981614013172350 := rfl
noncomputable def tw343268788489565195 : Params → Obj := fun P => oF vN "check_kinds" "check_kinds" (top 29) 0 vN vN
theorem te343268788489565195 : tw343268788489565195 = tw343268788489565195 := rfl
noncomputable def tw186966671137390447 : Params → Obj := fun P => oF vF "_law_cell_at" "_law_cell_at" (top 33) 3 (vS "law_turnery_k08_woods_refused" 513) (vR 264)
theorem te186966671137390447 : tw186966671137390447 = tw186966671137390447 := rfl
noncomputable def tw12579893596682385907 : Params → Obj := fun P => oF vF "_law_form_fault" "_law_form_fault" (top 37) 3 (vS "law_turnery_k08_woods_refused" 513) (vR 288)
theorem te12579893596682385907 : tw12579893596682385907 = tw12579893596682385907 := rfl
noncomputable def tw17110338378796935871 : Params → Obj := fun P => oF vF "check_numbers" "check_numbers" (top 28) 3 (vS "turnery.woods" 456) (vR 240)
theorem te17110338378796935871 : tw17110338378796935871 = tw17110338378796935871 := rfl
noncomputable def tw17763871700489145755 : Params → Obj := fun P => oF vF "below_zero_at" "below_zero_at" (top 15) 3 (vS "turnery.words" 262) (vR 97)
theorem te17763871700489145755 : tw17763871700489145755 = tw17763871700489145755 := rfl
noncomputable def tw15965398837647297997 : Params → Obj := fun P => oF vF "_law_number_fault" "_law_number_fault" (top 38) 3 (vS "law_turnery_k08_woods_refused" 513) (vR 293)
theorem te15965398837647297997 : tw15965398837647297997 = tw15965398837647297997 := rfl
noncomputable def tw13327063760361283179 : Params → Obj := fun P => oF vN "kind_from" "kind_from" (top 26) 0 vN vN
theorem te13327063760361283179 : tw13327063760361283179 = tw13327063760361283179 := rfl
noncomputable def tw15881152896511585488 : Params → Obj := fun P => oF vN "_law_number_fault" "_law_number_fault" (top 38) 0 vN vN
theorem te15881152896511585488 : tw15881152896511585488 = tw15881152896511585488 := rfl
noncomputable def tw672731527643584831 : Params → Obj := fun P => oF vN "__init__" "Reader.__init__" (L2.inClass (top 19) 0) 0 vN vN
theorem te672731527643584831 : tw672731527643584831 = tw672731527643584831 := rfl
noncomputable def tw18446270312321509694 : Params → Obj := fun P => oF vF "ahead" "Reader.ahead" (L2.inClass (top 19) 1) 3 (vS "turnery.readers" 330) (vR 132)
theorem te18446270312321509694 : tw18446270312321509694 = tw18446270312321509694 := rfl
noncomputable def tw16238530166486085475 : Params → Obj := fun P => oF vN "in_brackets" "Reader.in_brackets" (L2.inClass (top 19) 10) 0 vN vN
theorem te16238530166486085475 : tw16238530166486085475 = tw16238530166486085475 := rfl
noncomputable def tw16190126571525947081 : Params → Obj := fun P => oF vF "run_at" "run_at" (top 17) 3 (vS "turnery.words" 262) (vR 111)
theorem te16190126571525947081 : tw16190126571525947081 = tw16190126571525947081 := rfl
noncomputable def tw572177867359572160 : Params → Obj := fun P => oF vF "in_brackets" "Reader.in_brackets" (L2.inClass (top 19) 10) 3 (vS "turnery.readers" 330) (vR 195)
theorem te572177867359572160 : tw572177867359572160 = tw572177867359572160 := rfl
noncomputable def tw61508323964832356 : Params → Obj := fun P => oF vN "_wall" "_wall" (top 0) 0 vN vN
theorem te61508323964832356 : tw61508323964832356 = tw61508323964832356 := rfl
noncomputable def tw3295754321104756884 : Params → Obj := fun P => oF vF "figures_at" "figures_at" (top 16) 3 (vS "turnery.words" 262) (vR 104)
theorem te3295754321104756884 : tw3295754321104756884 = tw3295754321104756884 := rfl
noncomputable def tw11005576727326989984 : Params → Obj := fun P => oF vN "has_one_twice" "has_one_twice" (top 31) 0 vN vN
theorem te11005576727326989984 : tw11005576727326989984 = tw11005576727326989984 := rfl
noncomputable def tw9463104366652718185 : Params → Obj := fun P => oF vN "passed" "Reader.passed" (L2.inClass (top 19) 4) 0 vN vN
theorem te9463104366652718185 : tw9463104366652718185 = tw9463104366652718185 := rfl
noncomputable def tw14269155724703909953 : Params → Obj := fun P => oF vN "figures_at" "figures_at" (top 16) 0 vN vN
theorem te14269155724703909953 : tw14269155724703909953 = tw14269155724703909953 := rfl
noncomputable def tw3135979288989125649 : Params → Obj := fun P => oF vN "_law_form_fault" "_law_form_fault" (top 37) 0 vN vN
theorem te3135979288989125649 : tw3135979288989125649 = tw3135979288989125649 := rfl
noncomputable def tw6814049844615690509 : Params → Obj := fun P => oF vF "row_from" "row_from" (top 27) 3 (vS "turnery.woods" 456) (vR 235)
theorem te6814049844615690509 : tw6814049844615690509 = tw6814049844615690509 := rfl
noncomputable def tw10331479619378445320 : Params → Obj := fun P => oF vN "_law_wood" "_law_wood" (top 35) 0 vN vN
theorem te10331479619378445320 : tw10331479619378445320 = tw10331479619378445320 := rfl
noncomputable def tw874773007315063873 : Params → Obj := fun P => oF vN "_law_cell_at" "_law_cell_at" (top 33) 0 vN vN
theorem te874773007315063873 : tw874773007315063873 = tw874773007315063873 := rfl
noncomputable def tw2688592326239149986 : Params → Obj := fun P => oF vN "take_word" "Reader.take_word" (L2.inClass (top 19) 9) 0 vN vN
theorem te2688592326239149986 : tw2688592326239149986 = tw2688592326239149986 := rfl
noncomputable def tw6044944265011710302 : Params → Obj := fun P => oF vN "ahead" "Reader.ahead" (L2.inClass (top 19) 1) 0 vN vN
theorem te6044944265011710302 : tw6044944265011710302 = tw6044944265011710302 := rfl
noncomputable def tw18299787176909187881 : Params → Obj := fun P => oF vF "_wall" "_wall" (top 0) 3 (vS "__main__" 164) (vR 20)
theorem te18299787176909187881 : tw18299787176909187881 = tw18299787176909187881 := rfl
noncomputable def tw8993069690948730265 : Params → Obj := fun P => oF vF "need" "Reader.need" (L2.inClass (top 19) 5) 3 (vS "turnery.readers" 330) (vR 160)
theorem te8993069690948730265 : tw8993069690948730265 = tw8993069690948730265 := rfl
noncomputable def tw13395861232733632573 : Params → Obj := fun P => oF vF "_law_told" "_law_told" (top 40) 3 (vS "law_turnery_k08_woods_refused" 513) (vR 307)
theorem te13395861232733632573 : tw13395861232733632573 = tw13395861232733632573 := rfl
noncomputable def tw12829906535824838274 : Params → Obj := fun P => oF vF "take_number" "Reader.take_number" (L2.inClass (top 19) 8) 3 (vS "turnery.readers" 330) (vR 181)
theorem te12829906535824838274 : tw12829906535824838274 = tw12829906535824838274 := rfl
noncomputable def tw1033177884178290415 : Params → Obj := fun P => oF vN "need" "Reader.need" (L2.inClass (top 19) 5) 0 vN vN
theorem te1033177884178290415 : tw1033177884178290415 = tw1033177884178290415 := rfl
noncomputable def tw2139002583282264906 : Params → Obj := fun P => oF vN "parted_by" "Reader.parted_by" (L2.inClass (top 19) 11) 0 vN vN
theorem te2139002583282264906 : tw2139002583282264906 = tw2139002583282264906 := rfl
noncomputable def tw11911937134682753168 : Params → Obj := fun P => oF vN "words" "words" (top 12) 0 vN vN
theorem te11911937134682753168 : tw11911937134682753168 = tw11911937134682753168 := rfl
noncomputable def tw13704250321668596813 : Params → Obj := fun P => oF vN "_law_text" "_law_text" (top 36) 0 vN vN
theorem te13704250321668596813 : tw13704250321668596813 = tw13704250321668596813 := rfl
noncomputable def tw4956632011321248911 : Params → Obj := fun P => oF vF "need_end" "Reader.need_end" (L2.inClass (top 19) 6) 3 (vS "turnery.readers" 330) (vR 167)
theorem te4956632011321248911 : tw4956632011321248911 = tw4956632011321248911 := rfl
noncomputable def tw5635438190057658918 : Params → Obj := fun P => oF vF "begins_in" "begins_in" (top 20) 3 (vS "turnery.readers" 330) (vR 216)
theorem te5635438190057658918 : tw5635438190057658918 = tw5635438190057658918 := rfl
noncomputable def tw16744632097065013040 : Params → Obj := fun P => oF vF "read_wood" "read_wood" (top 25) 3 (vS "turnery.woods" 456) (vR 221)
theorem te16744632097065013040 : tw16744632097065013040 = tw16744632097065013040 := rfl
noncomputable def tw16326066180316405001 : Params → Obj := fun P => oF vF "_law_wood" "_law_wood" (top 35) 3 (vS "law_turnery_k08_woods_refused" 513) (vR 276)
theorem te16326066180316405001 : tw16326066180316405001 = tw16326066180316405001 := rfl
noncomputable def tw2020965389535342450 : Params → Obj := fun P => oF vN "check_numbers" "check_numbers" (top 28) 0 vN vN
theorem te2020965389535342450 : tw2020965389535342450 = tw2020965389535342450 := rfl
noncomputable def tw13513659481979791897 : Params → Obj := fun P => oF vN "take_name" "Reader.take_name" (L2.inClass (top 19) 7) 0 vN vN
theorem te13513659481979791897 : tw13513659481979791897 = tw13513659481979791897 := rfl
noncomputable def tw3811332172489029591 : Params → Obj := fun P => oF vF "at_number" "Reader.at_number" (L2.inClass (top 19) 3) 3 (vS "turnery.readers" 330) (vR 146)
theorem te3811332172489029591 : tw3811332172489029591 = tw3811332172489029591 := rfl
noncomputable def tw501934127579320397 : Params → Obj := fun P => oF vN "at_name" "Reader.at_name" (L2.inClass (top 19) 2) 0 vN vN
theorem te501934127579320397 : tw501934127579320397 = tw501934127579320397 := rfl
noncomputable def tw16095782271639203833 : Params → Obj := fun P => oF vN "word_at" "word_at" (top 13) 0 vN vN
theorem te16095782271639203833 : tw16095782271639203833 = tw16095782271639203833 := rfl
noncomputable def tw15606023739866848518 : Params → Obj := fun P => oF vN "check_rows" "check_rows" (top 30) 0 vN vN
theorem te15606023739866848518 : tw15606023739866848518 = tw15606023739866848518 := rfl
noncomputable def tw9127618336290967495 : Params → Obj := fun P => oF vN "row_from" "row_from" (top 27) 0 vN vN
theorem te9127618336290967495 : tw9127618336290967495 = tw9127618336290967495 := rfl
noncomputable def tw9849684998360699463 : Params → Obj := fun P => oF vF "__init__" "Reader.__init__" (L2.inClass (top 19) 0) 3 (vS "turnery.readers" 330) (vR 125)
theorem te9849684998360699463 : tw9849684998360699463 = tw9849684998360699463 := rfl
noncomputable def tw6035976382320149740 : Params → Obj := fun P => oF vN "read_wood" "read_wood" (top 25) 0 vN vN
theorem te6035976382320149740 : tw6035976382320149740 = tw6035976382320149740 := rfl
noncomputable def tw7019955932895910508 : Params → Obj := fun P => oF vN "at_number" "Reader.at_number" (L2.inClass (top 19) 3) 0 vN vN
theorem te7019955932895910508 : tw7019955932895910508 = tw7019955932895910508 := rfl
noncomputable def tw10515219348367200900 : Params → Obj := fun P => oF vN "law" "law" (top 41) 0 vN vN
theorem te10515219348367200900 : tw10515219348367200900 = tw10515219348367200900 := rfl
noncomputable def tw15787580637803944037 : Params → Obj := fun P => oF vN "run_at" "run_at" (top 17) 0 vN vN
theorem te15787580637803944037 : tw15787580637803944037 = tw15787580637803944037 := rfl
noncomputable def tw16477578481835027784 : Params → Obj := fun P => oF vF "_law_word" "_law_word" (top 34) 3 (vS "law_turnery_k08_woods_refused" 513) (vR 271)
theorem te16477578481835027784 : tw16477578481835027784 = tw16477578481835027784 := rfl
noncomputable def tw2657479210323982305 : Params → Obj := fun P => oF vF "take_word" "Reader.take_word" (L2.inClass (top 19) 9) 3 (vS "turnery.readers" 330) (vR 188)
theorem te2657479210323982305 : tw2657479210323982305 = tw2657479210323982305 := rfl
noncomputable def tw3097414412574144833 : Params → Obj := fun P => oF vF "name_at" "name_at" (top 14) 3 (vS "turnery.words" 262) (vR 90)
theorem te3097414412574144833 : tw3097414412574144833 = tw3097414412574144833 := rfl
noncomputable def tw5626420439779292074 : Params → Obj := fun P => oF vF "parted_by" "Reader.parted_by" (L2.inClass (top 19) 11) 3 (vS "turnery.readers" 330) (vR 202)
theorem te5626420439779292074 : tw5626420439779292074 = tw5626420439779292074 := rfl
noncomputable def tw8312261723555370337 : Params → Obj := fun P => oF vF "has_one_twice" "has_one_twice" (top 31) 3 (vS "turnery.woods" 456) (vR 257)
theorem te8312261723555370337 : tw8312261723555370337 = tw8312261723555370337 := rfl
noncomputable def tw15156771950773333274 : Params → Obj := fun P => oF vN "_law_wood_fault" "_law_wood_fault" (top 39) 0 vN vN
theorem te15156771950773333274 : tw15156771950773333274 = tw15156771950773333274 := rfl
noncomputable def tw11895523034814321368 : Params → Obj := fun P => oF vF "_law_text" "_law_text" (top 36) 3 (vS "law_turnery_k08_woods_refused" 513) (vR 281)
theorem te11895523034814321368 : tw11895523034814321368 = tw11895523034814321368 := rfl
noncomputable def tw3158650634834368314 : Params → Obj := fun P => oF vN "begins_in" "begins_in" (top 20) 0 vN vN
theorem te3158650634834368314 : tw3158650634834368314 = tw3158650634834368314 := rfl
noncomputable def tw14271364667831966172 : Params → Obj := fun P => oF vF "check_rows" "check_rows" (top 30) 3 (vS "turnery.woods" 456) (vR 250)
theorem te14271364667831966172 : tw14271364667831966172 = tw14271364667831966172 := rfl
noncomputable def tw7233986250138690155 : Params → Obj := fun P => oF vF "passed" "Reader.passed" (L2.inClass (top 19) 4) 3 (vS "turnery.readers" 330) (vR 153)
theorem te7233986250138690155 : tw7233986250138690155 = tw7233986250138690155 := rfl
noncomputable def tw9993517516550722658 : Params → Obj := fun P => oF vF "word_at" "word_at" (top 13) 3 (vS "turnery.words" 262) (vR 83)
theorem te9993517516550722658 : tw9993517516550722658 = tw9993517516550722658 := rfl
noncomputable def tw5201280011371256824 : Params → Obj := fun P => oF vN "_law_word" "_law_word" (top 34) 0 vN vN
theorem te5201280011371256824 : tw5201280011371256824 = tw5201280011371256824 := rfl
noncomputable def tw7330553854277364412 : Params → Obj := fun P => oF vN "take_number" "Reader.take_number" (L2.inClass (top 19) 8) 0 vN vN
theorem te7330553854277364412 : tw7330553854277364412 = tw7330553854277364412 := rfl
noncomputable def tw17929075484533247033 : Params → Obj := fun P => oF vN "name_at" "name_at" (top 14) 0 vN vN
theorem te17929075484533247033 : tw17929075484533247033 = tw17929075484533247033 := rfl
noncomputable def tw4421479753023319390 : Params → Obj := fun P => oF vF "check_kinds" "check_kinds" (top 29) 3 (vS "turnery.woods" 456) (vR 245)
theorem te4421479753023319390 : tw4421479753023319390 = tw4421479753023319390 := rfl
noncomputable def tw5172152573612100056 : Params → Obj := fun P => oF vF "take_name" "Reader.take_name" (L2.inClass (top 19) 7) 3 (vS "turnery.readers" 330) (vR 174)
theorem te5172152573612100056 : tw5172152573612100056 = tw5172152573612100056 := rfl
noncomputable def tw15911270332022839127 : Params → Obj := fun P => oF vF "at_name" "Reader.at_name" (L2.inClass (top 19) 2) 3 (vS "turnery.readers" 330) (vR 139)
theorem te15911270332022839127 : tw15911270332022839127 = tw15911270332022839127 := rfl
noncomputable def tw11765401434412841962 : Params → Obj := fun P => oF vN "_law_told" "_law_told" (top 40) 0 vN vN
theorem te11765401434412841962 : tw11765401434412841962 = tw11765401434412841962 := rfl
noncomputable def tw6454636708068527587 : Params → Obj := fun P => oF vF "_law_wood_fault" "_law_wood_fault" (top 39) 3 (vS "law_turnery_k08_woods_refused" 513) (vR 300)
theorem te6454636708068527587 : tw6454636708068527587 = tw6454636708068527587 := rfl
end PySem.W.Fast
noncomputable def PySem.W.Fast.tw2757018263748172546 : PySem.Program := PySem.Challenge.pw_turnery_k08_woods_refused
theorem PySem.W.Fast.te2757018263748172546 : (PySem.Challenge.pw_turnery_k08_woods_refused : PySem.Program) = PySem.W.Fast.tw2757018263748172546 := rfl
noncomputable def PySem.W.Fast.tw3048018502942723761 : PySem.Program := { PySem.Challenge.pw_turnery_k08_woods_refused with main := { PySem.Challenge.pw_turnery_k08_woods_refused.main with body := [K8.top 0, K8.top 2, K8.top 3, K8.top 4, K8.top 5, K8.top 7, K8.top 8, K8.top 9, K8.top 10, K8.top 11, K8.top 12, K8.top 13, K8.top 14, K8.top 15, K8.top 16, K8.top 17, K8.top 19, K8.top 20, K8.top 22, K8.top 23, K8.top 24, K8.top 25, K8.top 26, K8.top 27, K8.top 28, K8.top 29, K8.top 30, K8.top 31, K8.top 33, K8.top 34, K8.top 35, K8.top 36, K8.top 37, K8.top 38, K8.top 39, K8.top 40, K8.top 41] } }
theorem PySem.W.Fast.te3048018502942723761 : ({ PySem.Challenge.pw_turnery_k08_woods_refused with main := { PySem.Challenge.pw_turnery_k08_woods_refused.main with body := [K8.top 0, K8.top 2, K8.top 3, K8.top 4, K8.top 5, K8.top 7, K8.top 8, K8.top 9, K8.top 10, K8.top 11, K8.top 12, K8.top 13, K8.top 14, K8.top 15, K8.top 16, K8.top 17, K8.top 19, K8.top 20, K8.top 22, K8.top 23, K8.top 24, K8.top 25, K8.top 26, K8.top 27, K8.top 28, K8.top 29, K8.top 30, K8.top 31, K8.top 33, K8.top 34, K8.top 35, K8.top 36, K8.top 37, K8.top 38, K8.top 39, K8.top 40, K8.top 41] } } : PySem.Program) = PySem.W.Fast.tw3048018502942723761 := rfl
noncomputable def PySem.W.Fast.tw8501379427139240205 : List PySem.Stmt := (PySem.Challenge.pw_turnery_k08_woods_refused.main.body.drop 0).take 3
theorem PySem.W.Fast.te8501379427139240205 : ((PySem.Challenge.pw_turnery_k08_woods_refused.main.body.drop 0).take 3 : List PySem.Stmt) = PySem.W.Fast.tw8501379427139240205 := rfl
noncomputable def PySem.W.Fast.tw16211131374695576085 : List PySem.Stmt := (PySem.Challenge.pw_turnery_k08_woods_refused.main.body.drop 3).take 1
theorem PySem.W.Fast.te16211131374695576085 : ((PySem.Challenge.pw_turnery_k08_woods_refused.main.body.drop 3).take 1 : List PySem.Stmt) = PySem.W.Fast.tw16211131374695576085 := rfl
noncomputable def PySem.W.Fast.tw3887662242547416968 : List PySem.Stmt := (PySem.Challenge.pw_turnery_k08_woods_refused.main.body.drop 4).take 1
theorem PySem.W.Fast.te3887662242547416968 : ((PySem.Challenge.pw_turnery_k08_woods_refused.main.body.drop 4).take 1 : List PySem.Stmt) = PySem.W.Fast.tw3887662242547416968 := rfl
noncomputable def PySem.W.Fast.tw16915475723281880073 : List PySem.Stmt := (PySem.Challenge.pw_turnery_k08_woods_refused.main.body.drop 5).take 11
theorem PySem.W.Fast.te16915475723281880073 : ((PySem.Challenge.pw_turnery_k08_woods_refused.main.body.drop 5).take 11 : List PySem.Stmt) = PySem.W.Fast.tw16915475723281880073 := rfl
noncomputable def PySem.W.Fast.tw2446793441843450470 : List PySem.Stmt := (PySem.Challenge.pw_turnery_k08_woods_refused.main.body.drop 16).take 3
theorem PySem.W.Fast.te2446793441843450470 : ((PySem.Challenge.pw_turnery_k08_woods_refused.main.body.drop 16).take 3 : List PySem.Stmt) = PySem.W.Fast.tw2446793441843450470 := rfl
noncomputable def PySem.W.Fast.tw1919951918893514299 : List PySem.Stmt := (PySem.Challenge.pw_turnery_k08_woods_refused.main.body.drop 19).take 1
theorem PySem.W.Fast.te1919951918893514299 : ((PySem.Challenge.pw_turnery_k08_woods_refused.main.body.drop 19).take 1 : List PySem.Stmt) = PySem.W.Fast.tw1919951918893514299 := rfl
noncomputable def PySem.W.Fast.tw9429749115177987569 : List PySem.Stmt := (PySem.Challenge.pw_turnery_k08_woods_refused.main.body.drop 20).take 17
theorem PySem.W.Fast.te9429749115177987569 : ((PySem.Challenge.pw_turnery_k08_woods_refused.main.body.drop 20).take 17 : List PySem.Stmt) = PySem.W.Fast.tw9429749115177987569 := rfl
noncomputable def PySem.W.Fast.tw17536342065128682532 : List PySem.Stmt := (PySem.Challenge.pw_turnery_k08_woods_refused.main.body.drop 37).take 5
theorem PySem.W.Fast.te17536342065128682532 : ((PySem.Challenge.pw_turnery_k08_woods_refused.main.body.drop 37).take 5 : List PySem.Stmt) = PySem.W.Fast.tw17536342065128682532 := rfl
open PySem PySem.W PyProof.Rows
set_option maxRecDepth 100000 in
set_option maxHeartbeats 0 in
theorem PySem.Challenge.cw_turnery_k08_woods_refused_holds : PySem.Challenge.rw_turnery_k08_woods_refused.Holds := by
  w_on; o_law; k_head; (case hw => w_witness2)
  k_fill
  refine K8.walk (c1 := 221) (T1 := 219) (c2 := 228) (T2 := 224) (c3 := 235) (T3 := 231) (l := PySem.Challenge.rw_turnery_k08_woods_refused) rfl rfl (fun w h Y => PySem.W.km_in_of Y) ?tb1 ?tb2 ?tb3 (by decide) (by decide) (by decide) ?F
  case tb1 =>
    intro w
    refine' L2.TabAt.mk ⟨_, ?a⟩ ?b ?c ?d; (case a => exact rfl); (case b => kernel_rfl); (case c => kernel_rfl); (case d => kernel_rfl)
  case tb2 =>
    intro w
    refine' L2.TabAt.mk ⟨_, ?a⟩ ?b ?c ?d; (case a => exact rfl); (case b => kernel_rfl); (case c => kernel_rfl); (case d => kernel_rfl)
  case tb3 =>
    intro w
    refine' L2.TabAt.mk ⟨_, ?a⟩ ?b ?c ?d; (case a => exact rfl); (case b => kernel_rfl); (case c => kernel_rfl); (case d => kernel_rfl)
  case F =>
    intro w mg fa h KX G hmg
    refine' K8.all_mk (c1 := 221) (T1 := 219) (c2 := 228) (T2 := 224) (c3 := 235) (T3 := 231) KX G hmg ?d1 ?d2 ?d3 ?d4 ?d5 ?d6 ?d7 ?d8 ?d9 ?d10 ?d11 ?d12 ?d13 ?d14 ?d15 ?d16 ?d17 ?d18 ?d19 ?d20 ?d21 ?d22 ?d23 ?z1 ?z2 ?z3 ?z4 ?z5 ?z6 ?z7 ?z8 ?y1 ?ht1 ?hh1 ?ht2 ?hh2 ?ht3 ?hh3 (by decide) (by decide) (by decide) ?gA ?gB ?gC ?gD ?gE ?gF ?gG ?gH ?gI ?gJ ?gK ?gL ?gN ?gW ?gU ?gT ?qt ?xt ?et1 ?et2 ?et3 ?et4 ?et5 ?ut ?vt ?tt ?kt ?qw ?xw ?ew1 ?ew2 ?ew3 ?ew4 ?ew5 ?uw ?vw ?tw ?kw ?s1
    (case ht1 => kernel_rfl); (case hh1 => kernel_rfl)
    (case ht2 => kernel_rfl); (case hh2 => kernel_rfl)
    (case ht3 => kernel_rfl); (case hh3 => kernel_rfl)
    (case d1 => refine' L2.DefAt.mk' ?a ?l ?c ?k; (case a => k_is); (case l => k_is); (case c => k_is); (case k => k_is))
    (case d2 => refine' L2.DefAt.mk' ?a ?l ?c ?k; (case a => k_is); (case l => k_is); (case c => k_is); (case k => k_is))
    (case d3 => refine' L2.DefAt.mk' ?a ?l ?c ?k; (case a => k_is); (case l => k_is); (case c => k_is); (case k => k_is))
    (case d4 => refine' L2.DefAt.mk' ?a ?l ?c ?k; (case a => k_is); (case l => k_is); (case c => k_is); (case k => k_is))
    (case d5 => refine' L2.DefAt.mk' ?a ?l ?c ?k; (case a => k_is); (case l => k_is); (case c => k_is); (case k => k_is))
    (case d6 => refine' L2.DefAt.mk' ?a ?l ?c ?k; (case a => k_is); (case l => k_is); (case c => k_is); (case k => k_is))
    (case d7 => refine' L2.DefAt.mk' ?a ?l ?c ?k; (case a => k_is); (case l => k_is); (case c => k_is); (case k => k_is))
    (case d8 => refine' L2.DefAt.mk' ?a ?l ?c ?k; (case a => k_is); (case l => k_is); (case c => k_is); (case k => k_is))
    (case d9 => refine' L2.DefAt.mk' ?a ?l ?c ?k; (case a => k_is); (case l => k_is); (case c => k_is); (case k => k_is))
    (case d10 => refine' L2.DefAt.mk' ?a ?l ?c ?k; (case a => k_is); (case l => k_is); (case c => k_is); (case k => k_is))
    (case d11 => refine' L2.DefAt.mk' ?a ?l ?c ?k; (case a => k_is); (case l => k_is); (case c => k_is); (case k => k_is))
    (case d12 => refine' L2.DefAt.mk' ?a ?l ?c ?k; (case a => k_is); (case l => k_is); (case c => k_is); (case k => k_is))
    (case d13 => refine' L2.DefAt.mk' ?a ?l ?c ?k; (case a => k_is); (case l => k_is); (case c => k_is); (case k => k_is))
    (case d14 => refine' L2.DefAt.mk' ?a ?l ?c ?k; (case a => k_is); (case l => k_is); (case c => k_is); (case k => k_is))
    (case d15 => refine' L2.DefAt.mk' ?a ?l ?c ?k; (case a => k_is); (case l => k_is); (case c => k_is); (case k => k_is))
    (case d16 => refine' L2.DefAt.mk' ?a ?l ?c ?k; (case a => k_is); (case l => k_is); (case c => k_is); (case k => k_is))
    (case d17 => refine' L2.DefAt.mk' ?a ?l ?c ?k; (case a => k_is); (case l => k_is); (case c => k_is); (case k => k_is))
    (case d18 => refine' L2.DefAt.mk' ?a ?l ?c ?k; (case a => k_is); (case l => k_is); (case c => k_is); (case k => k_is))
    (case d19 => refine' L2.DefAt.mk' ?a ?l ?c ?k; (case a => k_is); (case l => k_is); (case c => k_is); (case k => k_is))
    (case d20 => refine' L2.DefAt.mk' ?a ?l ?c ?k; (case a => k_is); (case l => k_is); (case c => k_is); (case k => k_is))
    (case d21 => refine' L2.DefAt.mk' ?a ?l ?c ?k; (case a => k_is); (case l => k_is); (case c => k_is); (case k => k_is))
    (case d22 => refine' L2.DefAt.mk' ?a ?l ?c ?k; (case a => k_is); (case l => k_is); (case c => k_is); (case k => k_is))
    (case d23 => refine' L2.DefAt.mk' ?a ?l ?c ?k; (case a => k_is); (case l => k_is); (case c => k_is); (case k => k_is))
    (case z1 => k_is); (case z2 => k_is); (case z3 => k_is); (case z4 => k_is); (case z5 => k_is); (case z6 => k_is); (case z7 => k_is); (case z8 => k_is)
    (case y1 => k_is)
    (case gA => k_is)
    (case gB => k_is)
    (case gC => k_is)
    (case gD => k_is)
    (case gE => k_is)
    (case gF => k_is)
    (case gG => k_is)
    (case gH => k_is)
    (case gI => k_is)
    (case gJ => k_is)
    (case gK => k_is)
    (case gL => k_is)
    (case gN => k_is)
    (case gW => k_is)
    (case gU => k_is)
    (case gT => k_is)
    (case qt => kernel_rfl)
    (case xt => kernel_rfl)
    (case et1 => kernel_rfl)
    (case et2 => kernel_rfl)
    (case et3 => kernel_rfl)
    (case et4 => kernel_rfl)
    (case et5 => kernel_rfl)
    (case ut => kernel_rfl)
    (case vt => kernel_rfl)
    (case tt => kernel_rfl)
    (case kt => kernel_rfl)
    (case qw => kernel_rfl)
    (case xw => kernel_rfl)
    (case ew1 => kernel_rfl)
    (case ew2 => kernel_rfl)
    (case ew3 => kernel_rfl)
    (case ew4 => kernel_rfl)
    (case ew5 => kernel_rfl)
    (case uw => kernel_rfl)
    (case vw => kernel_rfl)
    (case tw => kernel_rfl)
    (case kw => kernel_rfl)
    case s1 =>
      refine' K8.RdK.mk' ?aC ?pg ?hd ?po ?sa ?n1 ?n2 ?mk ?kc ?m1 ?m2 ?m3 ?m4 ?m5 ?m6 ?m7 ?m8 ?m9 ?m10
      (case aC => k_is); (case pg => k_is); (case hd => k_is); (case po => k_is); (case sa => k_is); (case n1 => k_is); (case n2 => k_is); (case mk => k_is); (case kc => k_is)
      (case m1 => refine' L2.MethAt.mk' ?a ?i ?l ?c ?k; (case a => k_is); (case i => k_is); (case l => k_is); (case c => k_is); (case k => k_is))
      (case m2 => refine' L2.MethAt.mk' ?a ?i ?l ?c ?k; (case a => k_is); (case i => k_is); (case l => k_is); (case c => k_is); (case k => k_is))
      (case m3 => refine' L2.MethAt.mk' ?a ?i ?l ?c ?k; (case a => k_is); (case i => k_is); (case l => k_is); (case c => k_is); (case k => k_is))
      (case m4 => refine' L2.MethAt.mk' ?a ?i ?l ?c ?k; (case a => k_is); (case i => k_is); (case l => k_is); (case c => k_is); (case k => k_is))
      (case m5 => refine' L2.MethAt.mk' ?a ?i ?l ?c ?k; (case a => k_is); (case i => k_is); (case l => k_is); (case c => k_is); (case k => k_is))
      (case m6 => refine' L2.MethAt.mk' ?a ?i ?l ?c ?k; (case a => k_is); (case i => k_is); (case l => k_is); (case c => k_is); (case k => k_is))
      (case m7 => refine' L2.MethAt.mk' ?a ?i ?l ?c ?k; (case a => k_is); (case i => k_is); (case l => k_is); (case c => k_is); (case k => k_is))
      (case m8 => refine' L2.MethAt.mk' ?a ?i ?l ?c ?k; (case a => k_is); (case i => k_is); (case l => k_is); (case c => k_is); (case k => k_is))
      (case m9 => refine' L2.MethAt.mk' ?a ?i ?l ?c ?k; (case a => k_is); (case i => k_is); (case l => k_is); (case c => k_is); (case k => k_is))
      (case m10 => refine' L2.MethAt.mk' ?a ?i ?l ?c ?k; (case a => k_is); (case i => k_is); (case l => k_is); (case c => k_is); (case k => k_is))
