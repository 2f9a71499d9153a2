import PyProof.Rows.All
import Wide.All
import OpenK.AllK
import Wide.FinOn
import Lean
import PyProof.EqAt
import PyProof.EqKinds
import PyProof.TupleCall
import KE.KLam
import KE.KNestM
import KE.KSortTup
import PyProof.DictItems
import PyProof.DictValues
import PyProof.DictWalks
import PyProof.MeetsDict
import KE.KRevIter
import PySem.Challenge.RW_turnery_k14_many_modes_shown
noncomputable section
set_option Elab.async false
set_option linter.all false
set_option maxRecDepth 100000
namespace L2
open PySem PySem.Spec PyProof.Rows
abbrev Key := Sum Int Str
def keyIs : Key → Value → Bool
  | .inl k, v => Value.isInt k v
  | .inr x, v => Value.isStrOf x v
def keyH (w : World) : Key → Int
  | .inl k => hashInt k
  | .inr x => hashStr w x
theorem keyIs_shape : ∀ {k : Key} {v : Value}, keyIs k v = true → (∃ i t, k = Sum.inl i ∧ v = Value.int i t) ∨ (∃ x t, k = Sum.inr x ∧ v = Value.str x t)
  | .inl i, v, h => by
    obtain ⟨t, e⟩ := Value.isInt_shape (k := i) (v := v) h
    exact .inl ⟨i, t, rfl, e⟩
  | .inr x, v, h => by
    obtain ⟨t, e⟩ := Value.isStrOf_shape (x := x) (v := v) h
    exact .inr ⟨x, t, rfl, e⟩
theorem keyIs_int (i : Int) (t : Tok) : keyIs (.inl i) (.int i t) = true := by simp [keyIs, Value.isInt]
theorem keyIs_str (x : Str) (t : Tok) : keyIs (.inr x) (.str x t) = true := by simp [keyIs, Value.isStrOf]
theorem key_ll (a b : Int) : decide ((Sum.inl a : Key) = Sum.inl b) = (a == b) := by
  by_cases e : a = b
  · subst e; simp
  · have h : ¬ (Sum.inl a : Key) = Sum.inl b := fun q => e (Sum.inl.inj q)
    rw [decide_eq_false h]
    exact (beq_eq_false_iff_ne.mpr e).symm
theorem key_rr (a b : Str) : decide ((Sum.inr a : Key) = Sum.inr b) = decide (a = b) := by
  by_cases e : a = b
  · subst e; simp
  · have h : ¬ (Sum.inr a : Key) = Sum.inr b := fun q => e (Sum.inr.inj q)
    rw [decide_eq_false h, decide_eq_false e]
theorem key_lr (a : Int) (b : Str) : decide ((Sum.inl a : Key) = Sum.inr b) = false := decide_eq_false (fun q => nomatch q)
theorem key_rl (a : Str) (b : Int) : decide ((Sum.inr a : Key) = Sum.inl b) = false := decide_eq_false (fun q => nomatch q)
def mixKind (prog : Program) (w : World) : PySem.KeyKind prog w Key where
  is := keyIs
  hash := keyH w
  inj := fun v a b ha hb => by
    rcases keyIs_shape ha with ⟨i, t, rfl, rfl⟩ | ⟨x, t, rfl, rfl⟩
    · rcases keyIs_shape hb with ⟨j, u, rfl, e⟩ | ⟨y, u, rfl, e⟩
      · injection e with e1 _; rw [e1]
      · exact nomatch e
    · rcases keyIs_shape hb with ⟨j, u, rfl, e⟩ | ⟨y, u, rfl, e⟩
      · exact nomatch e
      · injection e with e1 _; rw [e1]
  byValue := fun k v h => by
    rcases keyIs_shape h with ⟨i, t, rfl, rfl⟩ | ⟨x, t, rfl, rfl⟩ <;> rfl
  pyHash := fun hv h => by
    rcases keyIs_shape hv with ⟨i, t, rfl, rfl⟩ | ⟨x, t, rfl, rfl⟩
    · exact wpAny_pyHash_int h
    · exact wpAny_pyHash_str h
  eqBool := fun hu hv h => by
    rcases keyIs_shape hu with ⟨i, t, rfl, rfl⟩ | ⟨x, t, rfl, rfl⟩
    · rcases keyIs_shape hv with ⟨j, u, rfl, rfl⟩ | ⟨y, u, rfl, rfl⟩
      · rw [key_ll] at h; exact wpAny_eqBool_int h
      · rw [key_lr] at h; exact SeqAt.EqAt.int_str i t y u _ _ _ _ h
    · rcases keyIs_shape hv with ⟨j, u, rfl, rfl⟩ | ⟨y, u, rfl, rfl⟩
      · rw [key_rl] at h; exact SeqAt.EqAt.str_int x t j u _ _ _ _ h
      · rw [key_rr] at h; exact wpAny_eqBool_str h
  «strs» := fun k x t v h => by
    rcases keyIs_shape h with ⟨i, u, rfl, e⟩ | ⟨y, u, rfl, e⟩
    · exact nomatch e
    · injection e with e1 _
      subst e1
      cases v <;> rfl
theorem mixKind_int (prog : Program) (w : World) (i : Int) (t : Tok) : (mixKind prog w).is (.inl i) (.int i t) = true := keyIs_int i t
theorem mixKind_str (prog : Program) (w : World) (x : Str) (t : Tok) : (mixKind prog w).is (.inr x) (.str x t) = true := keyIs_str x t
end L2
namespace L2
open PySem PySem.Spec PyProof.Rows
inductive V where
  | non | bl (b : Bool) | int (i : Int) | str (x : Str) | byt (b : Array UInt8) | flt (b : UInt64) | ref (a : Addr) | ty (n : String)
  deriving DecidableEq
def RelV : V → Value → Prop
  | .non, u => u = Value.none
  | .bl b, u => u = Value.bool b
  | .int i, u => ∃ t, u = Value.int i t
  | .str x, u => ∃ t, u = Value.str x t
  | .byt b, u => ∃ t, u = Value.bytes b t
  | .flt b, u => ∃ t, u = Value.float b t
  | .ref a, u => u = Value.ref a
  | .ty n, u => u = Value.type n
abbrev Vals : List V → List Value → Prop := Paired RelV
theorem Vals.length {xs : List V} {us : List Value} (r : Vals xs us) : xs.length = us.length := Paired.length r
theorem Vals.get : ∀ {xs : List V} {us : List Value} {i : Nat} {x : V}, Vals xs us → xs[i]? = some x → ∃ u, us[i]? = some u ∧ RelV x u
  | _, _, _, _, .nil, e => by simp at e
  | _, _, 0, _, .cons r _, e => by simp at e; subst e; exact ⟨_, rfl, r⟩
  | _, _, i + 1, x, .cons _ t, e => by
    obtain ⟨u, h1, h2⟩ := Vals.get (i := i) (x := x) t (by simpa using e)
    exact ⟨u, by simpa using h1, h2⟩
theorem Vals.append : ∀ {xs ys : List V} {us ws : List Value}, Vals xs us → Vals ys ws → Vals (xs ++ ys) (us ++ ws)
  | _, _, _, _, .nil, s => s
  | _, _, _, _, .cons r t, s => .cons r (Vals.append t s)
def RelO : Option V → Option Value → Prop
  | some v, some u => RelV v u
  | none, none => True
  | _, _ => False
def KV {κ : Type} : List (κ × V) → List (κ × Value) → Prop := Paired fun (p : κ × V) (q : κ × Value) => p.1 = q.1 ∧ RelV p.2 q.2
def kV : Key → V
  | .inl i => .int i
  | .inr x => .str x
inductive HO where
  /-- a list -/
  | lst (xs : List V)
  /-- a tuple (never changes) -/
  | tup (xs : List V)
  /-- a dict whose keys are ints and texts; one whose keys are tuples of ints and texts (the empty one is both) -/
  | dK (kvs : List (Key × V)) | dT (kvs : List (List Key × V))
  /-- a set of ints: its members, its size -/
  | set (S : Int → Bool) (n : Nat)
  /-- an instance of the class at C, its dict at dx, its attributes -/
  | ins (C dx : Addr) (fs : List (Str × V))
  /-- the dict of the instance at x -/
  | own (x : Addr)
  /-- the dict of an exception -/
  | xd (fs : List (Str × V))
  /-- a bound method, f of x -/
  | met (f x : Addr)
  /-- a range object lo, lo + 1, .. below hi -/
  | rng (lo hi : Int)
  /-- a thing that is known to the object (the script; a dict while a loop walks it): read, never written while it is so -/
  | frz (o : Obj) (u : HO)
  /-- a code object's table -/
  | tbl (ps : Array Value)
  /-- any other thing, by what is true of its one object (a def of one's own: SetO a S n := HO.ext fun h => ..) -/
  | ext (φ : Heap → Prop)
abbrev Hp := Addr → Option HO
def upd (H : Hp) (a : Addr) (o : HO) : Hp := fun b => if b = a then some o else H b
theorem upd_same {H : Hp} {a : Addr} {o : HO} : upd H a o a = some o := by unfold upd; rw [if_pos rfl]
theorem upd_ne {H : Hp} {a b : Addr} {o : HO} (h : b ≠ a) : upd H a o b = H b := by unfold upd; rw [if_neg h]
theorem ne_of {H : Hp} {a b : Addr} {o u : HO} (h : H a = some o) (h' : H b = some u) (d : o ≠ u) : a ≠ b := by
  intro e; subst e; rw [h] at h'; exact d (Option.some.inj h')
theorem ne_of_none {H : Hp} {a b : Addr} {o : HO} (h : H a = some o) (h' : H b = none) : a ≠ b := by
  intro e; subst e; rw [h] at h'; cases h'
section
variable (P : Program) (w : World)
def ObjOk (H : Hp) (h : Heap) (a : Addr) : HO → Prop
  | .lst xs => xs.length ≤ sizeLine ∧ ∃ (its : List Value) (n : Nat), Vals xs its ∧ h.get? a = some { cls := .type "list", data := .seq its.toArray n }
  | .tup xs => xs.length ≤ sizeLine ∧ ∃ its : List Value, Vals xs its ∧ IsTup h a its.toArray
  | .dK kvs => kvs.length ≤ sizeLine ∧ (a == sysModules) = false ∧ ∃ vs, KV kvs vs ∧ h.DictOf (mixKind P w) a vs
  | .dT kvs => kvs.length ≤ sizeLine ∧ (a == sysModules) = false ∧ ∃ xs : List (List Key × Addr × Value),
      Paired (fun (p : List Key × V) (q : List Key × Addr × Value) => p.1 = q.1 ∧ H q.2.1 = some (.tup (p.1.map kV)) ∧ RelV p.2 q.2.2) kvs xs ∧
      ∃ o es ep, h.get? a = some o ∧ o.ExactDict ∧ o.data = .dict es ep ∧ es.toList = xs.map (entryOfKey (tupleKind (mixKind P w))) ∧ (xs.map (·.1)).Nodup
  | .set S n => h.SetOf (intKind P w) a S n
  | .ins C dx fs => H dx = some (.own a) ∧ fs.length ≤ 1000 ∧ dx ≠ a ∧ h.get? a = some (PySem.W.instObj C dx) ∧
      ∃ mA, h.Ns1 dx mA ∧ (∀ f, RelO (fs.lookup f) (mA f)) ∧ PySem.Within mA (fs.map (·.1))
  | .own _ => ∃ o, h.get? a = some o
  | .xd fs => ∃ mA, h.Ns1 a mA ∧ ∀ f, RelO (fs.lookup f) (mA f)
  | .rng lo hi => ∃ t u v, h.get? a = some { cls := .type "range", data := .fields #[.int lo t, .int hi u, .int 1 v] }
  | .frz o u => h.get? a = some o ∧ ObjOk H h a u
  | .tbl ps => h.get? a = some { cls := .none, data := .fields ps }
  | .met f x => h.get? a = some (PySem.W.methodObj (.ref f) (.ref x))
  | .ext φ => φ h ∧ (∃ o, h.get? a = some o) ∧ ∀ h1 h2 : Heap, φ h1 → (∀ o, h1.get? a = some o → h2.get? a = some o) → φ h2
def HOk (H : Hp) (h : Heap) : Prop := ∀ a o, H a = some o → ObjOk P w H h a o
end
section
variable {P : Program} {w : World} {H H' : Hp} {h h' : Heap} {a : Addr} {o : HO}
theorem ObjOk.lt (x : ObjOk P w H h a o) : a < h.objs.size := by
  cases o with
  | lst xs => obtain ⟨_, _, _, _, e⟩ := x; exact Heap.lt_size e
  | tup xs => obtain ⟨_, _, _, p⟩ := x; exact p.lt
  | dK kvs => obtain ⟨_, _, _, _, o, _, _, e, _⟩ := x; exact Heap.lt_size e
  | dT kvs => obtain ⟨_, _, _, _, o, _, _, e, _⟩ := x; exact Heap.lt_size e
  | set S n => obtain ⟨o, _, _, _, e, _⟩ := x; exact Heap.lt_size e
  | ins C dx fs => obtain ⟨_, _, _, e, _⟩ := x; exact Heap.lt_size e
  | own y => obtain ⟨_, e⟩ := x; exact Heap.lt_size e
  | xd fs => obtain ⟨_, ⟨_, _, _, e, _⟩, _⟩ := x; exact Heap.lt_size e
  | rng lo hi => obtain ⟨_, _, _, e⟩ := x; exact Heap.lt_size e
  | frz ob u => obtain ⟨e, _⟩ := x; exact Heap.lt_size e
  | tbl ps => exact Heap.lt_size (show h.get? a = some _ from x)
  | met f y => exact Heap.lt_size (show h.get? a = some _ from x)
  | ext φ => obtain ⟨_, ⟨_, e⟩, _⟩ := x; exact Heap.lt_size e
theorem Paired.mapP {α β : Type} {F G : α → β → Prop} : ∀ {l₁ : List α} {l₂ : List β}, Paired F l₁ l₂ → (∀ a b, F a b → G a b) → Paired G l₁ l₂
  | _, _, .nil, _ => .nil
  | _, _, .cons r t, f => .cons (f _ _ r) (Paired.mapP t f)
theorem ObjOk.stay (x : ObjOk P w H h a o) (k : ∀ b u, (b = a ∨ H b = some (.own a)) → h.get? b = some u → h'.get? b = some u)
    (ho : ∀ b, H b = some (.own a) → H' b = some (.own a)) (ht : ∀ b xs, H b = some (.tup xs) → H' b = some (.tup xs)) : ObjOk P w H' h' a o := by
  induction o with
  | lst xs => obtain ⟨z, its, n, r, e⟩ := x; exact ⟨z, its, n, r, k _ _ (.inl rfl) e⟩
  | tup xs => obtain ⟨z, its, r, ob, e, c⟩ := x; exact ⟨z, its, r, ob, k _ _ (.inl rfl) e, c⟩
  | dK kvs => obtain ⟨z, y, vs, r, ob, es, ep, e, c⟩ := x; exact ⟨z, y, vs, r, ob, es, ep, k _ _ (.inl rfl) e, c⟩
  | dT kvs =>
    obtain ⟨z, y, xs, r, ob, es, ep, e, c⟩ := x
    exact ⟨z, y, xs, Paired.mapP r fun p q z => ⟨z.1, ht _ _ z.2.1, z.2.2⟩, ob, es, ep, k _ _ (.inl rfl) e, c⟩
  | set S n => obtain ⟨ob, es, ep, t, e, c⟩ := x; exact ⟨ob, es, ep, t, k _ _ (.inl rfl) e, c⟩
  | ins C dx fs =>
    obtain ⟨d, z, ne, e, mA, ⟨od, es, ep, e2, c⟩, r⟩ := x
    exact ⟨ho _ d, z, ne, k _ _ (.inl rfl) e, mA, ⟨od, es, ep, k _ _ (.inr d) e2, c⟩, r⟩
  | own y => obtain ⟨ob, e⟩ := x; exact ⟨ob, k _ _ (.inl rfl) e⟩
  | xd fs => obtain ⟨mA, ⟨od, es, ep, e, c⟩, r⟩ := x; exact ⟨mA, ⟨od, es, ep, k _ _ (.inl rfl) e, c⟩, r⟩
  | rng lo hi => obtain ⟨t, u, v, e⟩ := x; exact ⟨t, u, v, k _ _ (.inl rfl) e⟩
  | frz ob u ih => obtain ⟨e, q⟩ := x; exact ⟨k _ _ (.inl rfl) e, ih q⟩
  | tbl ps =>
    have e : h.get? a = some { cls := .none, data := .fields ps } := x
    show h'.get? a = some { cls := .none, data := .fields ps }
    exact k a _ (.inl rfl) e
  | met f y =>
    have e : h.get? a = some (PySem.W.methodObj (.ref f) (.ref y)) := x
    show h'.get? a = some (PySem.W.methodObj (.ref f) (.ref y))
    exact k a _ (.inl rfl) e
  | ext φ => obtain ⟨p, ⟨o, e⟩, st⟩ := x; exact ⟨st _ _ p fun o q => k _ _ (.inl rfl) q, ⟨o, k _ _ (.inl rfl) e⟩, st⟩
theorem HOk.lt (x : HOk P w H h) (e : H a = some o) : a < h.objs.size := (x a o e).lt
theorem HOk.fresh (x : HOk P w H h) (e : h.objs.size ≤ a) : H a = none := by
  cases q : H a with
  | none => rfl
  | some u => exact absurd (Nat.lt_of_lt_of_le (x.lt q) e) (Nat.lt_irrefl _)
theorem HOk.kept (x : HOk P w H h) (k : ∀ b u, h.get? b = some u → h'.get? b = some u) : HOk P w H h' := fun a o e =>
  (x a o e).stay (fun b u _ q => k b u q) (fun _ q => q) fun _ _ q => q
theorem HOk.laid (x : HOk P w H h) (k : ∀ b u, h.get? b = some u → h'.get? b = some u) (hp : h.objs.size ≤ a) (new : ObjOk P w (upd H a o) h' a o) : HOk P w (upd H a o) h' := fun b u e => by
  have hn := x.fresh hp
  by_cases hb : b = a
  · subst hb; rw [upd_same] at e; cases e; exact new
  · rw [upd_ne hb] at e
    exact (x b u e).stay (fun c v _ q => k c v q) (fun c q => by rw [upd_ne (ne_of_none q hn)]; exact q) fun c xs q => by rw [upd_ne (ne_of_none q hn)]; exact q
end
def Rd (H : Hp) (a : Addr) (u : HO) : Prop := H a = some u ∨ ∃ o, H a = some (.frz o u)
theorem Rd.ok {P : Program} {w : World} {H : Hp} {h : Heap} {a : Addr} {u : HO} (r : Rd H a u) (x : HOk P w H h) : ObjOk P w H h a u := by
  rcases r with r | ⟨o, r⟩
  · exact x a u r
  · obtain ⟨_, q⟩ := x a _ r
    exact q
def Mut : Option HO → Prop
  | some (.lst _) => True
  | some (.dK _) => True
  | some (.dT _) => True
  | some (.set _ _) => True
  | some (.ins _ _ _) => True
  | some (.ext _) => True
  | _ => False
section
variable {P : Program} {w : World} {H : Hp} {h h' : Heap} {x e : Addr} {o' : HO}
theorem HOk.write (ok : HOk P w H h) (mu : Mut (H x)) (he : e = x ∨ H e = some (.own x)) (k : ∀ b u, b ≠ e → h.get? b = some u → h'.get? b = some u) (heo : ∃ u, h'.get? e = some u)
    (new : ObjOk P w (upd H x o') h' x o') : HOk P w (upd H x o') h' := fun b u q => by
  have nown : ∀ c y, H c = some (.own y) → c ≠ x := fun c y r z => by subst z; rw [r] at mu; exact mu
  have ntup : ∀ c xs, H c = some (.tup xs) → c ≠ x := fun c xs r z => by subst z; rw [r] at mu; exact mu
  by_cases hb : b = x
  · subst hb; rw [upd_same] at q; cases q; exact new
  · rw [upd_ne hb] at q
    by_cases hbe : b = e
    · have q' : H b = some (.own x) := by
        rcases he with z | z
        · exact absurd (hbe.trans z) hb
        · rw [hbe]; exact z
      rw [q] at q'; cases q'
      obtain ⟨v, hv⟩ := heo
      exact ⟨v, by rw [hbe]; exact hv⟩
    · refine (ok b u q).stay (fun c v hc r => k c v ?_ r) (fun c r => by rw [upd_ne (nown c b r)]; exact r) fun c xs r => by rw [upd_ne (ntup c xs r)]; exact r
      rcases hc with rfl | hc
      · exact hbe
      · rintro rfl
        rcases he with z | z
        · exact nown c b hc z
        · rw [hc] at z; cases z; exact hb rfl
end
structure Un (fs ex : List Addr) (H H' : Hp) (h h' : Heap) : Prop where
  keep : ∀ b o, h.get? b = some o → H b = none → b ∉ fs → b ∉ ex → h'.get? b = some o
  slot : ∀ b o, h.get? b = some o → H b = none → b ∈ fs → b ∉ ex → ∃ sl, h'.get? b = some { o with slots := sl }
  free : ∀ b o, h.get? b = some o → H b = none → b ∉ ex → H' b = none
  there : ∀ b o, h.get? b = some o → b ∉ ex → ∃ o', h'.get? b = some o'
  tups : ∀ b xs, H b = some (.tup xs) → H' b = some (.tup xs)
  frzs : ∀ b o u, H b = some (.frz o u) → H' b = some (.frz o u)
  tbls : ∀ b ps, H b = some (.tbl ps) → ∃ more, H' b = some (.tbl (ps ++ more))
section
variable {fs fs' ex ex' : List Addr} {H H1 H2 : Hp} {h h1 h2 h' : Heap} {a x e : Addr} {o : HO}
theorem Un.any (u : Un fs ex H H1 h h1) {b : Addr} {ob : Obj} (q : h.get? b = some ob) (n : H b = none) (hx : b ∉ ex) : ∃ sl, h1.get? b = some { ob with slots := sl } := by
  by_cases hb : b ∈ fs
  · exact u.slot b ob q n hb hx
  · exact ⟨ob.slots, u.keep b ob q n hb hx⟩
theorem Un.kept (k : ∀ b u, h.get? b = some u → h'.get? b = some u) : Un fs ex H H h h' :=
  ⟨fun b ob q _ _ _ => k b ob q, fun b ob q _ _ _ => ⟨ob.slots, k b ob q⟩, fun _ _ _ n _ => n, fun b ob q _ => ⟨ob, k b ob q⟩, fun _ _ q => q, fun _ _ _ q => q, fun _ ps q => ⟨#[], by rw [q]; simp⟩⟩
theorem Un.refl : Un fs ex H H h h := Un.kept fun _ _ q => q
theorem Un.laid (k : ∀ b u, h.get? b = some u → h'.get? b = some u) (hp : h.objs.size ≤ a) (hn : H a = none) : Un fs ex H (upd H a o) h h' where
  keep := fun b u q _ _ _ => k b u q
  slot := fun b u q _ _ _ => ⟨u.slots, k b u q⟩
  free := fun b u q n _ => by rw [upd_ne (Nat.ne_of_lt (Nat.lt_of_lt_of_le (Heap.lt_size q) hp))]; exact n
  there := fun b u q _ => ⟨u, k b u q⟩
  tups := fun b xs q => by rw [upd_ne (ne_of_none q hn)]; exact q
  frzs := fun b u xs q => by rw [upd_ne (ne_of_none q hn)]; exact q
  tbls := fun b ps q => ⟨#[], by rw [upd_ne (ne_of_none q hn), q]; simp⟩
theorem Un.write (mu : Mut (H x)) (he : e = x ∨ H e = some (.own x)) (k : ∀ b u, b ≠ e → h.get? b = some u → h'.get? b = some u) (heo : ∃ u, h'.get? e = some u) : Un fs ex H (upd H x o) h h' := by
  have hx : ∀ b, H b = none → b ≠ x := fun b n z => by subst z; rw [n] at mu; exact mu
  have hb : ∀ b, H b = none → b ≠ e := fun b n z => by
    subst z
    rcases he with r | r
    · exact hx b n r
    · rw [n] at r; cases r
  have hm : ∀ b u, H b = some u → ¬ Mut (some u) → b ≠ x := fun b u q nm z => by subst z; rw [q] at mu; exact nm mu
  refine ⟨fun b u q n _ _ => k b u (hb b n) q, fun b u q n _ _ => ⟨u.slots, k b u (hb b n) q⟩, fun b u q n _ => by rw [upd_ne (hx b n)]; exact n, fun b u q _ => ?_,
    fun b xs q => by rw [upd_ne (hm b _ q fun z => z)]; exact q, fun b u xs q => by rw [upd_ne (hm b _ q fun z => z)]; exact q, fun b ps q => ⟨#[], by rw [upd_ne (hm b _ q fun z => z), q]; simp⟩⟩
  by_cases hbe : b = e
  · subst hbe; exact heo
  · exact ⟨u, k b u hbe q⟩
end
def trk (h : Heap) (H : Hp) : List Addr := (List.range h.objs.size).filter fun a => (H a).isSome
def hidT (h : Heap) (H : Hp) : Heap := PySem.W.hideAll h (trk h H)
theorem hidT_size (h : Heap) (H : Hp) : (hidT h H).objs.size = h.objs.size := PySem.W.hideAll_size _ _
theorem hidT_get {h : Heap} {H : Hp} {b : Addr} {o : Obj} (e : h.get? b = some o) (n : H b = none) : (hidT h H).get? b = some o :=
  PySem.W.hideAll_get _ e fun hm => by
    have q : (H b).isSome = true := (List.mem_filter.mp hm).2
    rw [n] at q; simp at q
theorem of_hidT {h : Heap} {H : Hp} {b : Addr} {o : Obj} (e : (hidT h H).get? b = some o) : h.get? b = some o ∧ H b = none := by
  have e' : h.get? b = some o := PySem.W.of_hideAll (trk h H) e
  refine ⟨e', ?_⟩
  cases q : H b with
  | none => rfl
  | some x =>
    have hm : b ∈ trk h H := List.mem_filter.mpr ⟨List.mem_range.mpr (Heap.lt_size e'), by simp [q]⟩
    have z : (hidT h H).get? b = none := PySem.W.hideAll_none (trk h H) hm
    rw [z] at e; cases e
def allNews (g h : Heap) (L : Addr) : List (Addr × Obj) := (List.range h.objs.size).filterMap fun a => if a = L ∨ (g.get? a).isSome = true then none else (h.get? a).map fun o => (a, o)
def rest (g h : Heap) (L d : Addr) : List (Addr × Obj) := (allNews g h L).filter fun p => decide (p.1 ≠ d)
end L2
namespace L2
open PySem PySem.Spec PyProof.Rows
structure Mod (K : PySem.W.Frag) (mg : Str → Option Value) (base : Heap) : Prop where
  kin : K.In base
  glob : base.Ns mainGlobals mg
  blt : ∃ mb, base.Ns builtinsNs mb ∧ ∀ x : Str, x ≠ "__name__" → mb x = bootBuiltins x
  nolimit : base.NoLimit
structure Cx where
  prog : Program
  w : World
  K : PySem.W.Frag
  mg : Str → Option Value
  base : Heap
  A : Around
  N : List Str
  s₀ : Shared
  H₀ : Hp
  env : Env
  outer : List Env
  stack : List Env
  ex : List Addr
  fn : Str → Bool
  calm : Bool
  pn : List (Addr × Obj)
  xe : Value → Shared → Prop
def frs (l : List Env) : List Addr := l.filterMap (·.frame)
abbrev Cx.fs (X : Cx) : List Addr := frs X.outer
def Vis (sc : Scope) (x : Str) : Prop := sc.names.lookup x = some .local ∨ sc.names.lookup x = some .cell ∨ sc.names.lookup x = some .free
def Loc (sc : Scope) (x : Str) : Prop := sc.names.lookup x = some .local ∨ sc.names.lookup x = some .cell
def Look (env : Env) (h : Heap) (m : Str → Option Value) (x : Str) (u : Value) : Prop :=
  (env.kindOf x = some .local ∧ m x = some u) ∨ ((env.kindOf x = some .cell ∨ env.kindOf x = some .free) ∧ ∃ c, env.cells.lookup x = some c ∧ h.IsCell c (some u))
structure Cx.Ok (X : Cx) : Prop where
  mod : Mod X.K X.mg X.base
  kind : X.env.scope.kind = .function
  glob : X.env.globals = mainGlobals
  blt : X.env.builtins = builtinsNs
  above : X.s₀.heap.objs.size ≤ X.env.locals
  inj : ∀ x y c, X.env.cells.lookup x = some c → X.env.cells.lookup y = some c → x = y
  has : ∀ x, (X.env.kindOf x = some .cell ∨ X.env.kindOf x = some .free) → ∃ c, X.env.cells.lookup x = some c
  cab : ∀ x c, X.fn x = true → X.env.cells.lookup x = some c → X.s₀.heap.objs.size ≤ c
  hd : X.calm = true → X.A.handled = none
  frames : X.A.frames = some X.stack
  stk : X.stack = X.outer ∨ (X.stack = X.env :: X.outer ∧ X.env.frame = some X.env.locals)
  exf : ∀ b ∈ X.ex, b ≠ X.env.locals ∧ ∀ x c, X.env.cells.lookup x = some c → c ≠ b
  bs : ∀ b o, X.base.get? b = some o → X.s₀.heap.get? b = some o ∧ X.H₀ b = none
  bsz : X.base.objs.size ≤ X.s₀.heap.objs.size
  noex : ∀ b o, X.base.get? b = some o → b ∉ X.ex
  exfs : ∀ b ∈ X.ex, b ∉ X.fs
  funs : X.s₀.heap.FunFrames X.base X.outer
  frf : ∀ b ∈ X.fs, X.H₀ b = none
structure Inv (X : Cx) (pins : List (Addr × Obj)) (σ : List (Option V)) (H : Hp) (s : Shared) : Prop where
  ok : X.Ok
  os : s.os = X.s₀.os
  bare : AllBare s.gens
  base : Un X.fs X.ex X.H₀ H X.s₀.heap s.heap
  loc : ∃ m, s.heap.Ns X.env.locals m ∧ ∀ (i : Nat) (x : Str) (v : V), X.N[i]? = some x → σ[i]? = some (some v) → Vis X.env.scope x → ∃ u, RelV v u ∧ Look X.env s.heap m x u
  cell : ∀ x c, X.env.cells.lookup x = some c → ∃ v, s.heap.IsCell c v
  free : H X.env.locals = none
  freeC : ∀ x c, X.env.cells.lookup x = some c → H c = none
  pin : ∀ p ∈ X.pn ++ pins, s.heap.get? p.1 = some p.2 ∧ H p.1 = none ∧ p.1 ≠ X.env.locals ∧ p.1 ∉ X.fs ∧ ∀ v, p.2.data ≠ .cell v
  hok : HOk X.prog X.w H s.heap
  len : σ.length = X.N.length
section
variable {X : Cx} {pins : List (Addr × Obj)} {σ : List (Option V)} {H H' : Hp} {s : Shared} {h' : Heap}
theorem Cx.Ok.nofr (ok : X.Ok) {b : Addr} {o : Obj} (e : X.base.get? b = some o) : b ∉ X.fs := fun hb => by
  have := (ok.funs.mem hb).1
  rw [e] at this; cases this
theorem Inv.bs (I : Inv X pins σ H s) : ∀ b o, X.base.get? b = some o → s.heap.get? b = some o ∧ H b = none := fun b o e =>
  ⟨I.base.keep b o (I.ok.bs b o e).1 (I.ok.bs b o e).2 (I.ok.nofr e) (I.ok.noex b o e), I.base.free b o (I.ok.bs b o e).1 (I.ok.bs b o e).2 (I.ok.noex b o e)⟩
theorem Inv.bk (I : Inv X pins σ H s) : ∀ b o, X.base.get? b = some o → s.heap.get? b = some o := fun b o e => (I.bs b o e).1
theorem Inv.mod (I : Inv X pins σ H s) : Mod X.K X.mg X.base := I.ok.mod
theorem Inv.kIn (I : Inv X pins σ H s) : X.K.In s.heap := I.ok.mod.kin.keeps I.bk
theorem Inv.lt (I : Inv X pins σ H s) : X.env.locals < s.heap.objs.size := let ⟨_, hn, _⟩ := I.loc; hn.lt
theorem Inv.sz (I : Inv X pins σ H s) : X.s₀.heap.objs.size ≤ s.heap.objs.size := Nat.le_trans I.ok.above (Nat.le_of_lt I.lt)
theorem Inv.nofs (I : Inv X pins σ H s) {a : Addr} (h : s.heap.objs.size ≤ a) : a ∉ X.fs := fun hb => by
  obtain ⟨_, o, ho, _⟩ := I.ok.funs.mem hb
  exact absurd (Nat.lt_of_lt_of_le (Heap.lt_size ho) (Nat.le_trans I.sz h)) (Nat.lt_irrefl _)
theorem Inv.cne (I : Inv X pins σ H s) : ∀ x c, X.env.cells.lookup x = some c → c ≠ X.env.locals := fun x c e z => by
  obtain ⟨v, o, ho, hd⟩ := I.cell x c e
  obtain ⟨m, ⟨o', es, ep, ho', hd', _⟩, _⟩ := I.loc
  rw [z, ho'] at ho; cases ho; rw [hd'] at hd; cases hd
theorem Inv.funs (I : Inv X pins σ H s) : s.heap.FunFrames X.base X.outer := by
  have all : ∀ (l : List Env), (∀ b ∈ frs l, b ∈ X.fs) → X.s₀.heap.FunFrames X.base l → s.heap.FunFrames X.base l := by
    intro l
    induction l with
    | nil => intro _ _; trivial
    | cons env r ih =>
      intro hs hl
      obtain ⟨hk, ⟨L, o, hf, hn, ho, hd⟩, hr⟩ := hl
      have hL : L ∈ X.fs := hs L (by unfold frs; rw [List.filterMap_cons, hf]; exact List.mem_cons_self)
      obtain ⟨sl, e⟩ := I.base.slot L o ho (I.ok.frf L hL) hL fun z => I.ok.exfs L z hL
      exact ⟨hk, ⟨L, _, hf, hn, e, hd⟩, ih (fun b hb => hs b (by unfold frs; rw [List.filterMap_cons, hf]; exact List.mem_cons_of_mem _ hb)) hr⟩
  exact all X.outer (fun _ hb => hb) I.ok.funs
theorem Inv.stack (I : Inv X pins σ H s) : s.heap.FunFrames X.base X.stack := by
  rcases I.ok.stk with e | ⟨e, hf⟩
  · rw [e]; exact I.funs
  · rw [e]
    obtain ⟨m, hn, _⟩ := I.loc
    refine .cons (by rw [I.ok.kind]; decide) hf hn ?_ I.funs
    exact Heap.get?_none_of_le (Nat.le_trans I.ok.bsz I.ok.above)
theorem Inv.stkSub (I : Inv X pins σ H s) : ∀ b ∈ frs X.stack, b ∈ X.env.locals :: X.fs := fun b hb => by
  rcases I.ok.stk with e | ⟨e, hf⟩
  · rw [e] at hb; exact List.mem_cons_of_mem _ hb
  · rw [e] at hb
    unfold frs at hb
    rw [List.filterMap_cons, hf] at hb
    exact hb
theorem Inv.stkFree (I : Inv X pins σ H s) : ∀ b ∈ frs X.stack, H b = none := fun b hb => by
  rcases List.mem_cons.mp (I.stkSub b hb) with e | hb
  · rw [e]; exact I.free
  · obtain ⟨_, o, ho, _⟩ := I.ok.funs.mem hb
    exact I.base.free b o ho (I.ok.frf b hb) fun z => I.ok.exfs b z hb
theorem Inv.step {g' : Array GenState} {t' : Nat} {d' : Drawn} {ch : List Addr} (I : Inv X pins σ H s)
    (hch : ∀ b ∈ ch, (b ∈ X.ex ∨ X.s₀.heap.objs.size ≤ b) ∧ b ≠ X.env.locals ∧ (∀ x c, X.env.cells.lookup x = some c → c ≠ b) ∧ ∀ p ∈ X.pn ++ pins, p.1 ≠ b)
    (keep : ∀ b o, b ≠ X.env.locals → b ∉ X.fs → b ∉ ch → s.heap.get? b = some o → H b = none → h'.get? b = some o)
    (slot : ∀ b o, b ≠ X.env.locals → b ∈ X.fs → b ∉ ch → s.heap.get? b = some o → H b = none → ∃ sl, h'.get? b = some { o with slots := sl }) (free : ∀ b o, b ∉ ch → s.heap.get? b = some o → H b = none → H' b = none)
    (there : ∀ b o, b ∉ ch → s.heap.get? b = some o → ∃ o', h'.get? b = some o')
    (tups : ∀ b xs, H b = some (.tup xs) → H' b = some (.tup xs)) (frzs : ∀ b o u, H b = some (.frz o u) → H' b = some (.frz o u)) (tbls : ∀ b ps, H b = some (.tbl ps) → ∃ more, H' b = some (.tbl (ps ++ more)))
    (ns : ∀ m, s.heap.Ns X.env.locals m → h'.Ns X.env.locals m) (hok : HOk X.prog X.w H' h') (hg : AllBare g') :
    Inv X pins σ H' { s with heap := h', gens := g', drawn := d', toks := t' } := by
  have neL : ∀ b o, X.s₀.heap.get? b = some o → b ≠ X.env.locals := fun b o e => Nat.ne_of_lt (Nat.lt_of_lt_of_le (Heap.lt_size e) I.ok.above)
  have neC : ∀ b o, X.s₀.heap.get? b = some o → b ∉ X.ex → b ∉ ch := fun b o e hx hb => by
    rcases (hch b hb).1 with z | z
    · exact hx z
    · exact absurd (Nat.lt_of_lt_of_le (Heap.lt_size e) z) (Nat.lt_irrefl _)
  have cellK : ∀ x c, X.env.cells.lookup x = some c → ∀ v, s.heap.IsCell c v → h'.IsCell c v := fun x c e v ⟨o, ho, hd⟩ => by
    have nch : c ∉ ch := fun z => (hch c z).2.2.1 x c e rfl
    by_cases hc : c ∈ X.fs
    · obtain ⟨sl, q⟩ := slot c o (I.cne x c e) hc nch ho (I.freeC x c e)
      exact ⟨_, q, hd⟩
    · exact ⟨o, keep c o (I.cne x c e) hc nch ho (I.freeC x c e), hd⟩
  refine ⟨I.ok, I.os, hg, ⟨fun b o e n hb hx => ?_, fun b o e n hb hx => ?_, fun b o e n hx => ?_, fun b o e hx => ?_, fun b xs e => tups b xs (I.base.tups b xs e), fun b o xs e => frzs b o xs (I.base.frzs b o xs e), fun b ps e => ?_⟩, ?_, fun x c e => ?_, ?_, fun x c e => ?_, fun p hp => ?_, hok, I.len⟩
  · exact keep b o (neL b o e) hb (neC b o e hx) (I.base.keep b o e n hb hx) (I.base.free b o e n hx)
  · obtain ⟨sl, e1⟩ := I.base.slot b o e n hb hx
    obtain ⟨sl', e2⟩ := slot b _ (neL b o e) hb (neC b o e hx) e1 (I.base.free b o e n hx)
    exact ⟨sl', e2⟩
  · obtain ⟨o', e1⟩ := I.base.there b o e hx
    exact free b o' (neC b o e hx) e1 (I.base.free b o e n hx)
  · obtain ⟨o', e1⟩ := I.base.there b o e hx
    exact there b o' (neC b o e hx) e1
  · obtain ⟨m1, e1⟩ := I.base.tbls b ps e
    obtain ⟨m2, e2⟩ := tbls b _ e1
    exact ⟨m1 ++ m2, by rw [e2, Array.append_assoc]⟩
  · obtain ⟨m, hn, hl⟩ := I.loc
    refine ⟨m, ns m hn, fun i x v e1 e2 e3 => ?_⟩
    obtain ⟨u, r, l⟩ := hl i x v e1 e2 e3
    refine ⟨u, r, ?_⟩
    rcases l with l | ⟨k, c, e, z⟩
    · exact .inl l
    · exact .inr ⟨k, c, e, cellK x c e _ z⟩
  · obtain ⟨v, z⟩ := I.cell x c e
    exact ⟨v, cellK x c e v z⟩
  · obtain ⟨m, ⟨o, _, _, ho, _⟩, _⟩ := I.loc
    exact free _ o (fun z => (hch _ z).2.1 rfl) ho I.free
  · obtain ⟨v, o, ho, hd⟩ := I.cell x c e
    exact free c o (fun z => (hch c z).2.2.1 x c e rfl) ho (I.freeC x c e)
  · obtain ⟨e, n, ne, nf, d⟩ := I.pin p hp
    have nch : p.1 ∉ ch := fun z => (hch p.1 z).2.2.2 p hp rfl
    exact ⟨keep p.1 p.2 ne nf nch e n, free p.1 p.2 nch e n, ne, nf, d⟩
theorem Inv.un {t' : Nat} (I : Inv X pins σ H s) (u : Un X.fs [] H H' s.heap h') (hok : HOk X.prog X.w H' h') : Inv X pins σ H' { s with heap := h', toks := t' } := by
  obtain ⟨m, ⟨o, es, ep, ho, r⟩, _⟩ := id I.loc
  obtain ⟨sl, hL⟩ := u.any ho I.free (by simp)
  exact I.step (g' := s.gens) (d' := s.drawn) (ch := []) (fun _ z => nomatch z) (fun b o _ hb _ e n => u.keep b o e n hb (by simp)) (fun b o _ hb _ e n => u.slot b o e n hb (by simp)) (fun b o _ e n => u.free b o e n (by simp)) (fun b o _ e => u.there b o e (by simp)) u.tups u.frzs u.tbls (fun m' hm => by
    obtain ⟨o', es', ep', ho', r'⟩ := hm
    rw [ho] at ho'; cases ho'
    exact ⟨_, es', ep', hL, r'⟩) hok I.bare
theorem Inv.call {g' : Array GenState} {t' : Nat} {d' : Drawn} {ch : List Addr} (I : Inv X pins σ H s) (u : Un (frs X.stack) ch H H' s.heap h') (hok : HOk X.prog X.w H' h') (hg : AllBare g')
    (hch : ∀ b ∈ ch, (b ∈ X.ex ∨ X.s₀.heap.objs.size ≤ b) ∧ b ≠ X.env.locals ∧ (∀ x c, X.env.cells.lookup x = some c → c ≠ b) ∧ ∀ p ∈ X.pn ++ pins, p.1 ≠ b) :
    Inv X pins σ H' { s with heap := h', gens := g', drawn := d', toks := t' } := by
  obtain ⟨m, ⟨o, es, ep, ho, r⟩, _⟩ := id I.loc
  obtain ⟨sl, hL⟩ := u.any ho I.free fun z => (hch _ z).2.1 rfl
  exact I.step (ch := ch) hch (fun b o hL hb hc e n => u.keep b o e n (fun z => (List.mem_cons.mp (I.stkSub b z)).elim hL hb) hc) (fun b o _ _ hc e n => u.any e n hc) (fun b o hc e n => u.free b o e n hc) (fun b o hc e => u.there b o e hc) u.tups u.frzs u.tbls (fun m' hm => by
    obtain ⟨o', es', ep', ho', r'⟩ := hm
    rw [ho] at ho'; cases ho'
    exact ⟨_, es', ep', hL, r'⟩) hok hg
theorem Inv.turned {t' : Nat} {it : Addr} (I : Inv X pins σ H s) (k : ∀ b o, b ≠ it → s.heap.get? b = some o → h'.get? b = some o) (hn : H it = none) (hL : it ≠ X.env.locals)
    (h1 : it ∈ X.ex ∨ X.s₀.heap.objs.size ≤ it) (h2 : ∀ x c, X.env.cells.lookup x = some c → c ≠ it) (h3 : ∀ p ∈ X.pn ++ pins, p.1 ≠ it) : Inv X pins σ H { s with heap := h', toks := t' } := by
  have nit : ∀ b u, H b = some u → b ≠ it := fun b u e z => by rw [z, hn] at e; cases e
  refine I.step (g' := s.gens) (d' := s.drawn) (ch := [it]) (fun b hb => ?_) (fun b o _ _ hc e _ => k b o (fun z => hc (by simp [z])) e) (fun b o _ _ hc e _ => ⟨o.slots, k b o (fun z => hc (by simp [z])) e⟩) (fun _ _ _ _ n => n)
    (fun b o hc e => ⟨o, k b o (fun z => hc (by simp [z])) e⟩) (fun _ _ e => e) (fun _ _ _ e => e) (fun b ps e => ⟨#[], by rw [e]; simp⟩) (fun m hm => ?_) (fun b u e => ?_) I.bare
  · have e : b = it := by simpa using hb
    subst e
    exact ⟨h1, hL, h2, h3⟩
  · obtain ⟨o, es, ep, ho, r⟩ := hm
    exact ⟨o, es, ep, k _ o (Ne.symm hL) ho, r⟩
  · refine (I.hok b u e).stay (fun c v hc q => k c v ?_ q) (fun _ q => q) fun _ _ q => q
    rcases hc with z | z
    · rw [z]; exact nit b u e
    · exact nit c _ z
theorem Inv.tok (I : Inv X pins σ H s) (t : Nat) : Inv X pins σ H { s with toks := t } := I.un (h' := s.heap) (t' := t) Un.refl I.hok
theorem Inv.kept {t' : Nat} (I : Inv X pins σ H s) (k : ∀ b u, s.heap.get? b = some u → h'.get? b = some u) : Inv X pins σ H { s with heap := h', toks := t' } := I.un (Un.kept k) (I.hok.kept k)
theorem Inv.laid {a : Addr} {o : HO} {t' : Nat} (I : Inv X pins σ H s) (k : ∀ b u, s.heap.get? b = some u → h'.get? b = some u) (hp : s.heap.objs.size ≤ a) (new : ObjOk X.prog X.w (upd H a o) h' a o) :
    Inv X pins σ (upd H a o) { s with heap := h', toks := t' } := I.un (Un.laid k hp (I.hok.fresh hp)) (I.hok.laid k hp new)
theorem Inv.write {x e : Addr} {o : HO} {t' : Nat} (I : Inv X pins σ H s) (mu : Mut (H x)) (he : e = x ∨ H e = some (.own x)) (k : ∀ b u, b ≠ e → s.heap.get? b = some u → h'.get? b = some u) (heo : ∃ u, h'.get? e = some u)
    (new : ObjOk X.prog X.w (upd H x o) h' x o) : Inv X pins σ (upd H x o) { s with heap := h', toks := t' } := I.un (Un.write mu he k heo) (I.hok.write mu he k heo new)
theorem Inv.pins_of {pins' : List (Addr × Obj)} (I : Inv X pins σ H s) (h : ∀ p ∈ pins', s.heap.get? p.1 = some p.2 ∧ H p.1 = none ∧ p.1 ≠ X.env.locals ∧ p.1 ∉ X.fs ∧ ∀ v, p.2.data ≠ .cell v) : Inv X pins' σ H s :=
  ⟨I.ok, I.os, I.bare, I.base, I.loc, I.cell, I.free, I.freeC, fun p hp => (List.mem_append.mp hp).elim (fun z => I.pin p (List.mem_append_left _ z)) (h p), I.hok, I.len⟩
theorem nodup_ix {N : List Str} (hN : N.Nodup) {i j : Nat} {x : Str} (a : N[i]? = some x) (b : N[j]? = some x) : i = j := by
  obtain ⟨h1, e1⟩ := List.getElem?_eq_some_iff.mp a
  obtain ⟨h2, e2⟩ := List.getElem?_eq_some_iff.mp b
  exact (List.getElem_inj hN).mp (e1.trans e2.symm)
theorem store_ok2 {M : Model} {A : Around} {E : Value → Shared → Prop} {i : Nat} {x : Str} {v : V} {u : Value} {Q : Unit → Shared → Prop} (I : Inv X pins σ H s) (hN : X.N.Nodup) (hi : X.N[i]? = some x) (hx : Loc X.env.scope x) (r : RelV v u)
    (h : ∀ s', Inv X pins (σ.set i (some v)) H s' → (∃ a, Heap.SameBut a s.heap s'.heap ∧ (a = X.env.locals ∨ X.env.cells.lookup x = some a)) → Q () s') (hf : X.fn x = true ∨ X.env.scope.names.lookup x = some .local := by first | exact .inl rfl | exact .inr rfl | assumption) : wpAny M A (storeName X.env x u) Q E s := by
  obtain ⟨m, hn, hl⟩ := id I.loc
  have hcls : (X.env.scope.kind == .class || (X.env.scope.kind == .module && X.env.locals != X.env.globals)) = false := by rw [I.ok.kind]; rfl
  have hiσ : i < σ.length := by rw [I.len]; exact (List.getElem?_eq_some_iff.mp hi).1
  have cne := I.cne
  have tracked : ∀ {a : Addr} {h' : Heap}, (∃ o, s.heap.get? a = some o ∧ H a = none) → Heap.SameBut a s.heap h' → HOk X.prog X.w H h' := fun {a h'} ha hs b ob e => by
    obtain ⟨_, _, hfree⟩ := ha
    refine (I.hok b ob e).stay (fun c w' hc q => (hs.2 c ?_).trans q) (fun _ q => q) fun _ _ q => q
    rintro rfl
    rcases hc with rfl | hc
    · rw [hfree] at e; cases e
    · rw [hfree] at hc; cases hc
  rcases hx with hk | hk
  · refine wpAny_storeName_local hk hn (fun h' hn' hs => ?_) hcls
    obtain ⟨oL, _, _, hoL, _⟩ := id hn
    refine h _ ⟨I.ok, I.os, I.bare, ⟨fun b o e n hb hx => ?_, fun b o e n hb hx => ?_, I.base.free, fun b o e hx => ?_, I.base.tups, I.base.frzs, I.base.tbls⟩, ⟨_, hn', fun j y v' e1 e2 e3 => ?_⟩, fun y c e => ?_, I.free, I.freeC, fun p hp => ?_, tracked ⟨oL, hoL, I.free⟩ hs, by simpa using I.len⟩ ⟨_, hs, .inl rfl⟩
    · exact (hs.2 b (Nat.ne_of_lt (Nat.lt_of_lt_of_le (Heap.lt_size e) I.ok.above))).trans (I.base.keep b o e n hb hx)
    · obtain ⟨sl, e1⟩ := I.base.slot b o e n hb hx
      exact ⟨sl, (hs.2 b (Nat.ne_of_lt (Nat.lt_of_lt_of_le (Heap.lt_size e) I.ok.above))).trans e1⟩
    · obtain ⟨o', e1⟩ := I.base.there b o e hx
      exact ⟨o', (hs.2 b (Nat.ne_of_lt (Nat.lt_of_lt_of_le (Heap.lt_size e) I.ok.above))).trans e1⟩
    · by_cases hj : j = i
      · subst hj
        rw [hi] at e1; cases e1
        rw [List.getElem?_set_self hiσ] at e2
        cases e2
        exact ⟨u, r, .inl ⟨hk, by simp⟩⟩
      · rw [List.getElem?_set_ne (Ne.symm hj)] at e2
        obtain ⟨u', r', q⟩ := hl j y v' e1 e2 e3
        refine ⟨u', r', ?_⟩
        rcases q with ⟨k, e⟩ | ⟨k, c, e, z⟩
        · refine .inl ⟨k, ?_⟩
          have : y ≠ x := fun e => hj (nodup_ix hN e1 (e ▸ hi))
          simp [this, e]
        · exact .inr ⟨k, c, e, z.sameBut hs (cne y c e)⟩
    · obtain ⟨w', z⟩ := I.cell y c e
      exact ⟨w', z.sameBut hs (cne y c e)⟩
    · obtain ⟨e, n, ne, nf, d⟩ := I.pin p hp
      exact ⟨(hs.2 p.1 ne).trans e, n, ne, nf, d⟩
  · have hfn : X.fn x = true := by
      rcases hf with z | z
      · exact z
      · rw [z] at hk; cases hk
    obtain ⟨c, hc⟩ := I.ok.has x (.inl hk)
    obtain ⟨w', z⟩ := I.cell x c hc
    refine wpAny_storeName_cell I.ok.kind hk hc z (fun h' hc' hs => ?_)
    obtain ⟨oc, hoc, hocd⟩ := id z
    refine h { s with heap := h' } ⟨I.ok, I.os, I.bare, ⟨fun b o e n hb hx => ?_, fun b o e n hb hx => ?_, I.base.free, fun b o e hx => ?_, I.base.tups, I.base.frzs, I.base.tbls⟩, ⟨m, hn.sameBut hs (Ne.symm (cne x c hc)), fun j y v' e1 e2 e3 => ?_⟩, fun y c' e => ?_, I.free, I.freeC, fun p hp => ?_, tracked ⟨oc, hoc, I.freeC x c hc⟩ hs, by simpa using I.len⟩ ⟨c, hs, .inr hc⟩
    · exact (hs.2 b (Nat.ne_of_lt (Nat.lt_of_lt_of_le (Heap.lt_size e) (I.ok.cab x c hfn hc)))).trans (I.base.keep b o e n hb hx)
    · obtain ⟨sl, e1⟩ := I.base.slot b o e n hb hx
      exact ⟨sl, (hs.2 b (Nat.ne_of_lt (Nat.lt_of_lt_of_le (Heap.lt_size e) (I.ok.cab x c hfn hc)))).trans e1⟩
    · obtain ⟨o', e1⟩ := I.base.there b o e hx
      exact ⟨o', (hs.2 b (Nat.ne_of_lt (Nat.lt_of_lt_of_le (Heap.lt_size e) (I.ok.cab x c hfn hc)))).trans e1⟩
    · by_cases hj : j = i
      · subst hj
        rw [hi] at e1; cases e1
        rw [List.getElem?_set_self hiσ] at e2
        cases e2
        exact ⟨u, r, .inr ⟨.inl hk, c, hc, hc'⟩⟩
      · rw [List.getElem?_set_ne (Ne.symm hj)] at e2
        obtain ⟨u', r', q⟩ := hl j y v' e1 e2 e3
        refine ⟨u', r', ?_⟩
        rcases q with q | ⟨k, c', e, z'⟩
        · exact .inl q
        · refine .inr ⟨k, c', e, z'.sameBut hs ?_⟩
          rintro rfl
          exact hj (nodup_ix hN e1 (I.ok.inj _ _ _ e hc ▸ hi))
    · by_cases hcc : c' = c
      · subst hcc; exact ⟨_, hc'⟩
      · obtain ⟨w2, z2⟩ := I.cell y c' e
        exact ⟨w2, z2.sameBut hs hcc⟩
    · obtain ⟨e, n, ne, nf, d⟩ := I.pin p hp
      refine ⟨(hs.2 p.1 ?_).trans e, n, ne, nf, d⟩
      intro q
      rw [q, hoc] at e
      have q' : oc = p.2 := Option.some.inj e
      exact d w' (by rw [← q']; exact hocd)
theorem store_ok {M : Model} {A : Around} {E : Value → Shared → Prop} {i : Nat} {x : Str} {v : V} {u : Value} {Q : Unit → Shared → Prop} (I : Inv X pins σ H s) (hN : X.N.Nodup) (hi : X.N[i]? = some x) (hx : Loc X.env.scope x) (r : RelV v u)
    (h : ∀ s', Inv X pins (σ.set i (some v)) H s' → Q () s') (hf : X.fn x = true ∨ X.env.scope.names.lookup x = some .local := by first | exact .inl rfl | exact .inr rfl | assumption) : wpAny M A (storeName X.env x u) Q E s :=
  store_ok2 I hN hi hx r (fun s' I' _ => h s' I') hf
theorem Inv.call' {s' : Shared} {ch : List Addr} (I : Inv X pins σ H s) (ho : s'.os = s.os) (u : Un (frs X.stack) ch H H' s.heap s'.heap) (hok : HOk X.prog X.w H' s'.heap) (hg : AllBare s'.gens)
    (hch : ∀ b ∈ ch, (b ∈ X.ex ∨ X.s₀.heap.objs.size ≤ b) ∧ b ≠ X.env.locals ∧ (∀ x c, X.env.cells.lookup x = some c → c ≠ b) ∧ ∀ p ∈ X.pn ++ pins, p.1 ≠ b) : Inv X pins σ H' s' := by
  obtain ⟨h', g', d', t', o'⟩ := s'
  have e : o' = s.os := ho
  subst e
  exact I.call (g' := g') (t' := t') (d' := d') u hok hg hch
end
abbrev XK := Value → Option Addr → Hp → Prop
abbrev St := List (Option V)
abbrev VK := V → Hp → Prop
abbrev TE := St → Hp → VK → Prop
abbrev TT := St → Hp → (Bool → Hp → Prop) → Prop
abbrev TA := St → Hp → (List V → Hp → Prop) → Prop
structure Ends where
  nx : St → Hp → Prop
  rt : VK
  bk : St → Hp → Prop := fun _ _ => False
  ct : St → Hp → Prop := fun _ _ => False
abbrev TS := Ends → St → Hp → Prop
def EP (X : Cx) (pins : List (Addr × Obj)) (σ : St) (Q : VK) (u : Value) (s' : Shared) : Prop := ∃ v H', Inv X pins σ H' s' ∧ RelV v u ∧ Q v H'
def TP (X : Cx) (pins : List (Addr × Obj)) (σ : St) (Q : Bool → Hp → Prop) (b : Bool) (s' : Shared) : Prop := ∃ H', Inv X pins σ H' s' ∧ Q b H'
def AP (X : Cx) (pins : List (Addr × Obj)) (σ : St) (Q : List V → Hp → Prop) (us : List Value) (s' : Shared) : Prop := ∃ vs H', Inv X pins σ H' s' ∧ Vals vs us ∧ Q vs H'
def SP (X : Cx) (pins : List (Addr × Obj)) (D : Ends) (f : Flow) (s' : Shared) : Prop :=
  match f with
  | .next => ∃ σ' H', Inv X pins σ' H' s' ∧ D.nx σ' H'
  | .brk => ∃ σ' H', Inv X pins σ' H' s' ∧ D.bk σ' H'
  | .cont => ∃ σ' H', Inv X pins σ' H' s' ∧ D.ct σ' H'
  | .ret u => ∃ v σ' H', Inv X pins σ' H' s' ∧ RelV v u ∧ D.rt v H'
def PE (X : Cx) (e : Expr) (t : TE) : Prop :=
  ∀ (pins : List (Addr × Obj)) (s : Shared) (σ : St) (H : Hp) (Q : VK), Inv X pins σ H s → t σ H Q → wpAny (model X.prog X.w) X.A (eval e X.env) (EP X pins σ Q) X.xe s
def PT (X : Cx) (e : Expr) (t : TT) : Prop :=
  ∀ (pins : List (Addr × Obj)) (s : Shared) (σ : St) (H : Hp) (Q : Bool → Hp → Prop), Inv X pins σ H s → t σ H Q → wpAny (model X.prog X.w) X.A (isTrue e X.env (eval e X.env)) (TP X pins σ Q) X.xe s
def PW (X : Cx) (e : Expr) (t : TT) : Prop :=
  ∀ (whole : Sem Value) (pins : List (Addr × Obj)) (s : Shared) (σ : St) (H : Hp) (Q : Bool → Hp → Prop), Inv X pins σ H s → t σ H Q → wpAny (model X.prog X.w) X.A (isTrue e X.env whole) (TP X pins σ Q) X.xe s
theorem PW.pt {X : Cx} {e : Expr} {t : TT} (h : PW X e t) : PT X e t := h _
def PA (X : Cx) (es : List Expr) (t : TA) : Prop :=
  ∀ (pos : Pos) (pins : List (Addr × Obj)) (s : Shared) (σ : St) (H : Hp) (Q : List V → Hp → Prop), Inv X pins σ H s → t σ H Q → wpAny (model X.prog X.w) X.A (spliced (backTo pos (starEach es X.env))) (AP X pins σ Q) X.xe s
def PS (X : Cx) (st : Stmt) (t : TS) : Prop :=
  ∀ (pins : List (Addr × Obj)) (s : Shared) (σ : St) (H : Hp) (D : Ends), Inv X pins σ H s → t D σ H → wpAny (model X.prog X.w) X.A (exec st X.env) (SP X pins D) X.xe s
def PSs (X : Cx) (st : List Stmt) (t : TS) : Prop :=
  ∀ (pins : List (Addr × Obj)) (s : Shared) (σ : St) (H : Hp) (D : Ends), Inv X pins σ H s → t D σ H → wpAny (model X.prog X.w) X.A (execs st X.env) (SP X pins D) X.xe s
theorem thn {α : Type} {t : Sem α} {Q Q' : α → Shared → Prop} {M : Model} {A : Around} {E : Value → Shared → Prop} {s : Shared} (h : wpAny M A t Q E s) (hQ : ∀ a s, Q a s → Q' a s) : wpAny M A t Q' E s := wpAny_mono h hQ fun _ _ x => x
end L2
namespace L2
open PySem PySem.Spec PyProof.Rows
section
variable {X : Cx}
def tVar (i : Nat) : TE := fun σ H Q => ∃ v, σ[i]? = some (some v) ∧ Q v H
def tC (v : V) : TE := fun _ H Q => Q v H
theorem pe_var {i : Nat} {x : Str} {pos : Pos} (hN : X.N[i]? = some x) (hv : Vis X.env.scope x) (hd : (x == ("__debug__" : Str)) = false := by decide) (hcd : (x == ("__classdict__" : Str)) = false := by decide) : PE X (.Name x pos) (tVar i) := by
  intro pins s σ H Q I h
  obtain ⟨v, e, h⟩ := h
  obtain ⟨m, hn, hl⟩ := I.loc
  obtain ⟨u, r, l⟩ := hl i x v hN e hv
  have fin : EP X pins σ Q u s := ⟨v, H, I, r, h⟩
  rcases l with ⟨hk, hm⟩ | ⟨hk, c, hc, hcell⟩
  · exact wpAny_Name (wpAny_loadName_local I.ok.kind hk hn hm fin) hd
  · rcases hk with hk | hk
    · exact wpAny_Name (wpAny_loadName_cell I.ok.kind hk hc hcell fin) hd
    · exact wpAny_Name (wpAny_loadName_free I.ok.kind hk hc hcell fin hcd) hd
theorem pe_int {i j pos} : PE X (.Constant (.int i) j pos) (tC (.int i)) := fun _ _ _ H _ I h => wpAny_Constant_int ⟨.int i, H, I.tok _, ⟨_, rfl⟩, h⟩
theorem pe_bl {b j pos} : PE X (.Constant (.bool b) j pos) (tC (.bl b)) := fun _ _ _ H _ I h => Constant_bool ⟨.bl b, H, I, rfl, h⟩
theorem pe_non {j pos} : PE X (.Constant .none j pos) (tC .non) := fun _ _ _ H _ I h => Constant_none ⟨.non, H, I, rfl, h⟩
theorem pe_str {x j pos} : PE X (.Constant (.str x) j pos) (tC (.str x)) := fun _ _ _ H _ I h => Calls.Constant_str ⟨.str x, H, I.tok _, ⟨_, rfl⟩, h⟩
def Gl (X : Cx) (x : Str) : Prop := X.env.kindOf x = some .globalImplicit
theorem ld_glob {E : Value → Shared → Prop} {pins : List (Addr × Obj)} {s : Shared} {σ : St} {H : Hp} {x : Str} {u : Value} {pos : Pos} {Q : Value → Shared → Prop} (I : Inv X pins σ H s) (hg : Gl X x) (hm : X.mg x = some u) (h : Q u s)
    (hd : (x == ("__debug__" : Str)) = false := by decide) : wpAny (model X.prog X.w) X.A (eval (.Name x pos) X.env) Q E s :=
  Calls.Name_function_global I.ok.kind hg (Calls.loadGlobal_global (by rw [I.ok.glob]; exact I.mod.glob.keeps I.bk) hm h) hd
theorem ld_blt {E : Value → Shared → Prop} {pins : List (Addr × Obj)} {s : Shared} {σ : St} {H : Hp} {x : Str} {u : Value} {pos : Pos} {Q : Value → Shared → Prop} (I : Inv X pins σ H s) (hg : Gl X x) (hm : X.mg x = none) (hv : bootBuiltins x = some u) (h : Q u s)
    (hn : x ≠ "__name__" := by decide) (hd : (x == ("__debug__" : Str)) = false := by decide) : wpAny (model X.prog X.w) X.A (eval (.Name x pos) X.env) Q E s := by
  obtain ⟨mb, h1, h2⟩ := I.mod.blt
  exact Calls.Name_function_global I.ok.kind hg (Calls.loadGlobal_builtin (by rw [I.ok.glob]; exact I.mod.glob.keeps I.bk) hm (by rw [I.ok.blt]; exact h1.keeps I.bk) ((h2 x hn).trans hv) h) hd
theorem pe_glob {x : Str} {v : V} {u : Value} {pos : Pos} (hg : Gl X x) (hm : X.mg x = some u) (r : RelV v u) (hd : (x == ("__debug__" : Str)) = false := by decide) : PE X (.Name x pos) (tC v) :=
  fun _ _ _ H _ I h => ld_glob I hg hm ⟨v, H, I, r, h⟩ hd
theorem pe_bltn {x : Str} {v : V} {u : Value} {pos : Pos} (hg : Gl X x) (hm : X.mg x = none) (hv : bootBuiltins x = some u) (r : RelV v u) (hn : x ≠ "__name__" := by decide) (hd : (x == ("__debug__" : Str)) = false := by decide) : PE X (.Name x pos) (tC v) :=
  fun _ _ _ H _ I h => ld_blt I hg hm hv ⟨v, H, I, r, h⟩ hn hd
variable {a b : Expr} {ta tb : TE} {pos : Pos}
def PC (X : Cx) (op : CmpOp) (a b : Expr) (t : TE) : Prop :=
  ∀ (pins : List (Addr × Obj)) (s : Shared) (σ : St) (H : Hp) (Q : VK), Inv X pins σ H s → t σ H Q →
    wpAny (model X.prog X.w) X.A (eval a X.env) (fun v s₁ => wpAny (model X.prog X.w) X.A (eval b X.env) (fun u s₂ => wpAny (model X.prog X.w) X.A (compareOp op v u) (EP X pins σ Q) X.xe s₂) X.xe s₁) X.xe s
theorem nobehind (b : Expr) {op : CmpOp} (h : op ≠ .In) (h2 : op ≠ .NotIn) : behindInMarks op b = false := by
  have e1 : (op == CmpOp.In) = false := by cases op <;> first | rfl | exact absurd rfl h
  have e2 : (op == CmpOp.NotIn) = false := by cases op <;> first | rfl | exact absurd rfl h2
  cases b <;> simp [behindInMarks, e1, e2]
def tB (t : TE) : TT := fun σ H Q => t σ H fun x H1 => ∃ c, x = .bl c ∧ Q c H1
theorem pt_cmp {op : CmpOp} {t : TE} (h : PC X op a b t) (h1 : behindInMarks op b = false := by first | exact nobehind _ (by decide) (by decide) | rfl) : PT X (.Compare a [op] [b] pos) (tB t) := by
  intro pins s σ H Q I hw
  refine wpAny_isTrue_Compare1 (thn (h pins s σ H _ I hw) fun v s1 h1 => thn h1 fun u s2 h2 => thn h2 fun c s3 ⟨x, H1, I1, r1, q1⟩ => ?_) h1
  obtain ⟨d, rfl, q⟩ := q1
  cases r1
  exact wpAny_truthy_bool ⟨H1, I1, q⟩
theorem pt_val {e : Expr} {t : TE} (h : PE X e t) (he : ∀ whole, isTrue e X.env whole = (do let v ← whole; standAt e.pos; holding [v] (truthy v)) := by intro _; rfl) : PT X e (tB t) := by
  intro pins s σ H Q I hw
  refine isTrue_plain (thn (h pins s σ H _ I hw) fun v s1 ⟨x, H1, I1, r1, q1⟩ => ?_) (he _)
  obtain ⟨d, rfl, q⟩ := q1
  cases r1
  exact wpAny_truthy_bool ⟨H1, I1, q⟩
variable {tA tB' : TT} {rest : List Expr}
def tAnd (t u : TT) : TT := fun σ H Q => t σ H fun c H1 => if c = true then u σ H1 Q else Q false H1
def tOr (t u : TT) : TT := fun σ H Q => t σ H fun c H1 => if c = true then Q true H1 else u σ H1 Q
def tNot (t : TT) : TT := fun σ H Q => t σ H fun c H1 => Q (!c) H1
theorem pw_and1 (ha : PT X a tA) : PW X (.BoolOp .And [a] pos) tA := by
  intro wh pins s σ H Q I h
  refine isTrue_and (thn (ha pins s σ H Q I h) fun c s1 e => ?_)
  cases c with
  | true => exact isTrue_and_nil e
  | false => exact e
theorem pw_or1 (ha : PT X a tA) : PW X (.BoolOp .Or [a] pos) tA := by
  intro wh pins s σ H Q I h
  refine isTrue_or (thn (ha pins s σ H Q I h) fun c s1 e => ?_)
  cases c with
  | false => exact isTrue_or_nil e
  | true => exact e
theorem pw_and (ha : PT X a tA) (hb : PW X (.BoolOp .And (b :: rest) pos) tB') : PW X (.BoolOp .And (a :: b :: rest) pos) (tAnd tA tB') := by
  intro wh pins s σ H Q I h
  refine isTrue_and (thn (ha pins s σ H _ I h) fun c s1 ⟨H1, I1, q1⟩ => ?_)
  cases c with
  | true => exact hb wh pins s1 σ H1 Q I1 q1
  | false => exact ⟨H1, I1, q1⟩
theorem pw_or (ha : PT X a tA) (hb : PW X (.BoolOp .Or (b :: rest) pos) tB') : PW X (.BoolOp .Or (a :: b :: rest) pos) (tOr tA tB') := by
  intro wh pins s σ H Q I h
  refine isTrue_or (thn (ha pins s σ H _ I h) fun c s1 ⟨H1, I1, q1⟩ => ?_)
  cases c with
  | true => exact ⟨H1, I1, q1⟩
  | false => exact hb wh pins s1 σ H1 Q I1 q1
theorem pt_not (ha : PT X a tA) : PT X (.UnaryOp .Not a pos) (tNot tA) := by
  intro pins s σ H Q I h
  exact isTrue_not (ha pins s σ H (fun c H1 => Q (!c) H1) I h)
def tAndV (ta tb : TE) : TE := fun σ H Q => ta σ H fun x H1 => ∃ c, x = .bl c ∧ if c = true then tb σ H1 Q else Q (.bl false) H1
def tOrV (ta tb : TE) : TE := fun σ H Q => ta σ H fun x H1 => ∃ c, x = .bl c ∧ if c = true then Q (.bl true) H1 else tb σ H1 Q
def tNotV (ta : TE) : TE := fun σ H Q => ta σ H fun x H1 => ∃ c, x = .bl c ∧ Q (.bl (!c)) H1
theorem pe_one {op} {t : TE} (h : PE X a t) : PE X (.BoolOp op [a] pos) t := fun pins s σ H Q I hw => BoolOp_one (h pins s σ H Q I hw)
theorem pe_and (ha : PE X a ta) (hb : PE X (.BoolOp .And (b :: rest) pos) tb) : PE X (.BoolOp .And (a :: b :: rest) pos) (tAndV ta tb) := by
  intro pins s σ H Q I h
  refine BoolOp_and (thn (ha pins s σ H _ I h) fun v s1 ⟨x, H1, I1, r1, q1⟩ => ?_)
  obtain ⟨c, rfl, q1⟩ := q1
  cases r1
  refine wpAny_truthy_bool ?_
  cases c with
  | true => exact hb pins s1 σ H1 Q I1 q1
  | false => exact ⟨.bl false, H1, I1, rfl, q1⟩
theorem pe_or (ha : PE X a ta) (hb : PE X (.BoolOp .Or (b :: rest) pos) tb) : PE X (.BoolOp .Or (a :: b :: rest) pos) (tOrV ta tb) := by
  intro pins s σ H Q I h
  refine BoolOp_or (thn (ha pins s σ H _ I h) fun v s1 ⟨x, H1, I1, r1, q1⟩ => ?_)
  obtain ⟨c, rfl, q1⟩ := q1
  cases r1
  refine wpAny_truthy_bool ?_
  cases c with
  | false => exact hb pins s1 σ H1 Q I1 q1
  | true => exact ⟨.bl true, H1, I1, rfl, q1⟩
theorem pe_not (ha : PE X a ta) : PE X (.UnaryOp .Not a pos) (tNotV ta) := by
  intro pins s σ H Q I h
  refine UnaryOp_ (thn (ha pins s σ H _ I h) fun v s1 ⟨x, H1, I1, r1, q1⟩ => ?_)
  obtain ⟨c, rfl, q1⟩ := q1
  cases r1
  exact not_of (wpAny_truthy_bool ⟨.bl (!c), H1, I1, rfl, q1⟩)
def tIf (t : TT) (ta tb : TE) : TE := fun σ H Q => t σ H fun c H1 => if c = true then ta σ H1 Q else tb σ H1 Q
theorem pe_ifExp {c : Expr} (hc : PT X c tA) (ha : PE X a ta) (hb : PE X b tb) : PE X (.IfExp c a b pos) (tIf tA ta tb) := by
  intro pins s σ H Q I h
  refine wpAny_IfExp (thn (hc pins s σ H _ I h) fun d s1 ⟨H1, I1, q1⟩ => ?_)
  cases d with
  | true => exact ha pins s1 σ H1 Q I1 q1
  | false => exact hb pins s1 σ H1 Q I1 q1
end
end L2
namespace L2
open PySem PySem.Spec PyProof.Rows
def SqL (K : PySem.W.Frag) (H : Hp) (a : Addr) (xs : List V) : Prop :=
  Rd H a (.lst xs) ∨
    ∃ (o : Obj) (its : Array Value) (n : Nat), K.lookup a = some o ∧ o.cls = .type "list" ∧ o.dict = none ∧ o.data = .seq its n ∧ its.size ≤ sizeLine ∧ Vals xs its.toList
def SqT (K : PySem.W.Frag) (H : Hp) (a : Addr) (xs : List V) : Prop :=
  Rd H a (.tup xs) ∨
    ∃ (o : Obj) (its : Array Value) (n : Nat), K.lookup a = some o ∧ o.cls = .type "tuple" ∧ o.data = .seq its n ∧ its.size ≤ sizeLine ∧ Vals xs its.toList
def absV : Value → Option V
  | .none => some .non
  | .bool b => some (.bl b)
  | .int i _ => some (.int i)
  | .str x _ => some (.str x)
  | .bytes b _ => some (.byt b)
  | .float b _ => some (.flt b)
  | .ref a => some (.ref a)
  | .type n => some (.ty n)
  | _ => none
theorem RelV.abs {x : V} {u : Value} (r : RelV x u) : absV u = some x := by
  cases x with
  | non => cases r; rfl
  | bl _ => cases r; rfl
  | int _ => obtain ⟨t, rfl⟩ := r; rfl
  | str _ => obtain ⟨t, rfl⟩ := r; rfl
  | byt _ => obtain ⟨t, rfl⟩ := r; rfl
  | flt _ => obtain ⟨t, rfl⟩ := r; rfl
  | ref _ => cases r; rfl
  | ty _ => cases r; rfl
theorem RelV.inj {x y : V} {u : Value} (r : RelV x u) (q : RelV y u) : x = y := Option.some.inj (r.abs.symm.trans q.abs)
theorem Vals.inj : ∀ {xs ys : List V} {us : List Value}, Vals xs us → Vals ys us → xs = ys
  | _, _, _, .nil, .nil => rfl
  | _, _, _, .cons r t, .cons r' t' => by rw [r.inj r', Vals.inj t t']
section
variable {X : Cx} {pins : List (Addr × Obj)} {σ : St} {H : Hp} {s : Shared} {a : Addr} {xs ys : List V}
theorem SqL.of {K : PySem.W.Frag} (h : H a = some (.lst xs)) : SqL K H a xs := .inl (.inl h)
theorem SqT.of {K : PySem.W.Frag} (h : H a = some (.tup xs)) : SqT K H a xs := .inl (.inl h)
theorem Inv.list (I : Inv X pins σ H s) (h : SqL X.K H a xs) : ∃ its : List Value, Vals xs its ∧ PlainL s.heap a its.toArray ∧ xs.length ≤ sizeLine := by
  rcases h with h | ⟨o, its, n, hk, hc, hd, hs, hz, r⟩
  · obtain ⟨z, its, n, r, e⟩ := h.ok I.hok
    exact ⟨its, r, ⟨_, n, e, rfl, rfl, rfl⟩, z⟩
  · refine ⟨its.toList, r, ⟨o, n, I.kIn a o hk, hc, hd, by simpa using hs⟩, ?_⟩
    have e := r.length
    simp only [Array.length_toList] at e
    omega
theorem Inv.tuple (I : Inv X pins σ H s) (h : SqT X.K H a xs) : ∃ its : List Value, Vals xs its ∧ IsTup s.heap a its.toArray ∧ xs.length ≤ sizeLine := by
  rcases h with h | ⟨o, its, n, hk, hc, hs, hz, r⟩
  · obtain ⟨z, its, r, p⟩ := h.ok I.hok
    exact ⟨its, r, p, z⟩
  · refine ⟨its.toList, r, ⟨o, I.kIn a o hk, hc, n, by simpa using hs⟩, ?_⟩
    have e := r.length
    simp only [Array.length_toList] at e
    omega
theorem Inv.list_inj (I : Inv X pins σ H s) (h : SqL X.K H a xs) (h' : SqL X.K H a ys) : xs = ys := by
  obtain ⟨its, r, ⟨o, n, e, _, _, d⟩, _⟩ := I.list h
  obtain ⟨its', r', ⟨o', n', e', _, _, d'⟩, _⟩ := I.list h'
  rw [e] at e'; cases e'
  rw [d] at d'
  injection d' with d1 _
  have : its = its' := by simpa using congrArg Array.toList d1
  subst this
  exact r.inj r'
theorem Inv.tuple_inj (I : Inv X pins σ H s) (h : SqT X.K H a xs) (h' : SqT X.K H a ys) : xs = ys := by
  obtain ⟨its, r, ⟨o, e, _, n, d⟩, _⟩ := I.tuple h
  obtain ⟨its', r', ⟨o', e', _, n', d'⟩, _⟩ := I.tuple h'
  rw [e] at e'; cases e'
  rw [d] at d'
  injection d' with d1 _
  have : its = its' := by simpa using congrArg Array.toList d1
  subst this
  exact r.inj r'
end
abbrev Cx.wish (X : Cx) (E : Value → Shared → Prop) : Cx := { X with xe := E }
abbrev Cx.nox (X : Cx) : Cx := X.wish fun _ _ => False
theorem Cx.Ok.wish {X : Cx} (ok : X.Ok) (E : Value → Shared → Prop) : (X.wish E).Ok :=
  ⟨ok.mod, ok.kind, ok.glob, ok.blt, ok.above, ok.inj, ok.has, ok.cab, ok.hd, ok.frames, ok.stk, ok.exf, ok.bs, ok.bsz, ok.noex, ok.exfs, ok.funs, ok.frf⟩
theorem Cx.Ok.unwish {X : Cx} {E : Value → Shared → Prop} (ok : (X.wish E).Ok) : X.Ok :=
  ⟨ok.mod, ok.kind, ok.glob, ok.blt, ok.above, ok.inj, ok.has, ok.cab, ok.hd, ok.frames, ok.stk, ok.exf, ok.bs, ok.bsz, ok.noex, ok.exfs, ok.funs, ok.frf⟩
section
variable {X : Cx} {pins : List (Addr × Obj)} {σ : St} {H : Hp} {s : Shared} {E : Value → Shared → Prop}
theorem Inv.wish (I : Inv X pins σ H s) (E : Value → Shared → Prop) : Inv (X.wish E) pins σ H s := ⟨I.ok.wish E, I.os, I.bare, I.base, I.loc, I.cell, I.free, I.freeC, I.pin, I.hok, I.len⟩
theorem Inv.unwish (I : Inv (X.wish E) pins σ H s) : Inv X pins σ H s := ⟨I.ok.unwish, I.os, I.bare, I.base, I.loc, I.cell, I.free, I.freeC, I.pin, I.hok, I.len⟩
theorem SP.unwish {D : Ends} {f : Flow} {s' : Shared} (h : SP (X.wish E) pins D f s') : SP X pins D f s' := by
  cases f with
  | next => obtain ⟨σ', H', I, q⟩ := h; exact ⟨σ', H', I.unwish, q⟩
  | brk => obtain ⟨σ', H', I, q⟩ := h; exact ⟨σ', H', I.unwish, q⟩
  | cont => obtain ⟨σ', H', I, q⟩ := h; exact ⟨σ', H', I.unwish, q⟩
  | ret u => obtain ⟨v, σ', H', I, r, q⟩ := h; exact ⟨v, σ', H', I.unwish, r, q⟩
theorem PE.nox {e : Expr} {t : TE} (h : PE X.nox e t) : PE X e t := fun pins s σ H Q I hw =>
  wpAny_mono (h pins s σ H Q (I.wish _) hw) (fun _ _ ⟨v, H', I', r, q⟩ => ⟨v, H', I'.unwish, r, q⟩) fun _ _ z => False.elim z
theorem PSs.nox {st : List Stmt} {t : TS} (h : PSs X.nox st t) : PSs X st t := fun pins s σ H D I hw =>
  wpAny_mono (h pins s σ H D (I.wish _) hw) (fun _ _ q => q.unwish) fun _ _ z => False.elim z
end
section
variable {X : Cx} {st : Stmt} {rest : List Stmt} {t u : TS} {e : Expr} {te : TE} {pos : Pos}
def tNext : TS := fun D σ H => D.nx σ H
def tSeq (t u : TS) : TS := fun D σ H => t { D with nx := u D } σ H
theorem pss_nil : PSs X [] tNext := fun _ _ σ H _ I h => wpAny_execs_nil ⟨σ, H, I, h⟩
theorem pss_cons (h1 : PS X st t) (h2 : PSs X rest u) : PSs X (st :: rest) (tSeq t u) := by
  intro pins s σ H D I h
  refine wpAny_execs_cons (thn (h1 pins s σ H { D with nx := u D } I h) fun f s1 q => ?_)
  cases f with
  | next =>
    obtain ⟨σ', H', I', q⟩ := q
    exact h2 pins s1 σ' H' D I' q
  | ret v => exact q
  | brk => exact q
  | cont => exact q
theorem pss_one (h1 : PS X st t) : PSs X [st] t := by
  intro pins s σ H D I h
  refine wpAny_execs_cons (thn (h1 pins s σ H D I h) fun f s1 q => ?_)
  cases f with
  | next => exact wpAny_execs_nil q
  | ret v => exact q
  | brk => exact q
  | cont => exact q
theorem Inv.quiet {pins : List (Addr × Obj)} {σ : St} {H : Hp} {s : Shared} (I : Inv X pins σ H s) : interactive X.env = false := by simp [interactive, I.ok.kind]
def tDrop (te : TE) : TS := fun D σ H => te σ H fun _ H1 => D.nx σ H1
theorem ps_expr (he : PE X e te) (hs : swapsWith e none pos.line X.env = pure false := by rfl) : PS X (.Expr e pos) (tDrop te) := by
  intro pins s σ H D I h
  exact wpAny_Expr_any (thn (he pins s σ H _ I h) fun v s1 ⟨x, H1, I1, r1, q1⟩ => ⟨σ, H1, I1, q1⟩) I.quiet hs
def tRet (te : TE) : TS := fun D σ H => te σ H D.rt
theorem ps_ret (he : PE X e te) : PS X (.Return (some e) pos) (tRet te) := by
  intro pins s σ H D I h
  exact wpAny_Return_some (thn (he pins s σ H _ I h) fun v s1 ⟨x, H1, I1, r1, q1⟩ => ⟨x, σ, H1, I1, r1, q1⟩)
def tIfS (c : TT) (t u : TS) : TS := fun D σ H => c σ H fun b H1 => if b = true then t D σ H1 else u D σ H1
theorem ps_if {c : Expr} {a b : List Stmt} {tc : TT} (hc : PT X c tc) (ha : PSs X a t) (hb : PSs X b u) : PS X (.If c a b pos) (tIfS tc t u) := by
  intro pins s σ H D I h
  refine wpAny_If (thn (hc pins s σ H _ I h) fun d s1 ⟨H1, I1, q1⟩ => ?_)
  cases d with
  | true => exact ha pins s1 σ H1 D I1 q1
  | false => exact hb pins s1 σ H1 D I1 q1
def tNever : TS := fun _ _ _ => False
theorem pss_never {sts : List Stmt} : PSs X sts tNever := fun _ _ _ _ _ _ h => h.elim
end
abbrev TG := V → St → Hp → (St → Hp → Prop) → Prop
abbrev TGs := List V → St → Hp → (St → Hp → Prop) → Prop
def PG (X : Cx) (target : Expr) (t : TG) : Prop :=
  ∀ (pins : List (Addr × Obj)) (s : Shared) (σ : St) (H : Hp) (v : V) (u : Value) (Q : St → Hp → Prop), Inv X pins σ H s → RelV v u → t v σ H Q →
    wpAny (model X.prog X.w) X.A (assign target X.env u) (fun _ s' => ∃ σ' H', Inv X pins σ' H' s' ∧ Q σ' H') X.xe s
def PGs (X : Cx) (ts : List Expr) (t : TGs) : Prop :=
  ∀ (pins : List (Addr × Obj)) (s : Shared) (σ : St) (H : Hp) (vs : List V) (us : List Value) (Q : St → Hp → Prop), Inv X pins σ H s → Vals vs us → t vs σ H Q →
    wpAny (model X.prog X.w) X.A (assignInOrder ((assignEach ts X.env).map (·.2)) us) (fun _ s' => ∃ σ' H', Inv X pins σ' H' s' ∧ Q σ' H') X.xe s
abbrev TIp := V → V → Hp → VK → Prop
def PIp (X : Cx) (op : Operator) (t : TIp) : Prop :=
  ∀ (pins : List (Addr × Obj)) (s : Shared) (σ : St) (H : Hp) (x y : V) (v u : Value) (Q : VK), Inv X pins σ H s → RelV x v → RelV y u → t x y H Q →
    wpAny (model X.prog X.w) X.A (inplaceOp op v u) (EP X pins σ Q) X.xe s
section
variable {X : Cx} {pos : Pos}
def gName (i : Nat) : TG := fun v σ H Q => Q (σ.set i (some v)) H
theorem pg_name {i : Nat} {x : Str} (hN : X.N.Nodup) (hi : X.N[i]? = some x) (hx : Loc X.env.scope x) (hf : X.fn x = true ∨ X.env.scope.names.lookup x = some .local := by first | exact .inl rfl | exact .inr rfl | assumption) : PG X (.Name x pos) (gName i) := by
  intro pins s σ H v u Q I r h
  exact wpAny_assign_Name (store_ok I hN hi hx r (fun s' I' => ⟨_, H, I', h⟩) hf)
def gNil : TGs := fun vs σ H Q => vs = [] ∧ Q σ H
def gCons (t : TG) (u : TGs) : TGs := fun vs σ H Q => ∃ v r, vs = v :: r ∧ t v σ H fun σ' H' => u r σ' H' Q
theorem pgs_nil : PGs X [] gNil := by
  intro pins s σ H vs us Q I r h
  obtain ⟨e, h⟩ := h
  subst e
  cases r
  exact assignInOrder_nil ⟨σ, H, I, h⟩
theorem pgs_cons {e : Expr} {es : List Expr} {t : TG} {u : TGs} (h1 : PG X e t) (h2 : PGs X es u)
    (hs : (assignEach (e :: es) X.env).map (·.2) = assign e X.env :: (assignEach es X.env).map (·.2) := by rfl) : PGs X (e :: es) (gCons t u) := by
  intro pins s σ H vs us Q I r h
  obtain ⟨v, vr, e1, h⟩ := h
  subst e1
  cases r with
  | cons r rr =>
    rw [hs]
    refine assignInOrder_cons (thn (h1 pins s σ H _ _ _ I r h) fun _ s1 ⟨σ1, H1, I1, q1⟩ => ?_)
    exact h2 pins s1 σ1 H1 _ _ Q I1 rr q1
def gTup (K : PySem.W.Frag) (n : Nat) (t : TGs) : TG := fun v σ H Q => ∃ a xs, v = .ref a ∧ SqT K H a xs ∧ xs.length = n ∧ t xs σ H Q
theorem pg_tup {es : List Expr} {k : Nat} {t : TGs} {n : Nat} (hc : X.calm = true) (h : PGs X es t)
    (hn : (assignEach es X.env).length = n := by rfl) (hst : (assignEach es X.env).findIdx? (·.1) = none := by rfl) : PG X (.Tuple es k pos) (gTup X.K n t) := by
  intro pins s σ H v u Q I r hw
  obtain ⟨a, xs, e1, hq, hl, hw⟩ := hw
  subst e1
  cases r
  obtain ⟨its, rv, ht, hz⟩ := I.tuple hq
  refine assign_Tuple_tuple (I.ok.hd hc) ht (by simp [hn, ← hl, rv.length]) hst fun h' hx => ?_
  have I1 : Inv X pins σ H { s with heap := h' } := I.kept (t' := s.toks) fun b o e => hx b o (Nat.ne_of_lt (Heap.lt_size e)) e
  exact h pins _ σ H xs _ Q I1 (by simpa using rv) hw
def tAsg (te : TE) (g : TG) : TS := fun D σ H => te σ H fun x H1 => g x σ H1 D.nx
theorem ps_set {i : Nat} {x : Str} {e : Expr} {te : TE} {pos' : Pos} (hN : X.N.Nodup) (hi : X.N[i]? = some x) (hx : Loc X.env.scope x) (he : PE X e te) (hs : swapsWith e (some (.Name x pos')) pos.line X.env = pure false := by rfl) (hf : X.fn x = true ∨ X.env.scope.names.lookup x = some .local := by first | exact .inl rfl | exact .inr rfl | assumption) :
    PS X (.Assign [.Name x pos'] e pos) (tAsg te (gName i)) := by
  intro pins s σ H D I h
  refine wpAny_Assign_Name (thn (he pins s σ H _ I h) fun v s1 ⟨y, H1, I1, r1, q1⟩ => ?_) hs
  exact store_ok I1 hN hi hx r1 (fun s2 I2 => ⟨_, H1, I2, q1⟩) hf
def tAug (i : Nat) (te : TE) (ti : TIp) : TS := fun D σ H => ∃ x, σ[i]? = some (some x) ∧ te σ H fun y H1 => ti x y H1 fun z H2 => D.nx (σ.set i (some z)) H2
theorem ps_aug {i : Nat} {x : Str} {e : Expr} {te : TE} {op : Operator} {ti : TIp} {pos' : Pos} (hN : X.N.Nodup) (hi : X.N[i]? = some x) (hx : Loc X.env.scope x) (he : PE X e te) (ho : PIp X op ti) (hf : X.fn x = true ∨ X.env.scope.names.lookup x = some .local := by first | exact .inl rfl | exact .inr rfl | assumption) :
    PS X (.AugAssign (.Name x pos') op e pos) (tAug i te ti) := by
  intro pins s σ H D I h
  obtain ⟨v, e1, h⟩ := h
  obtain ⟨m, hn, hl⟩ := I.loc
  have vis : Vis X.env.scope x := by rcases hx with k | k; exact .inl k; exact .inr (.inl k)
  obtain ⟨u, r, l⟩ := hl i x v hi e1 vis
  refine wpAny_AugAssign_Name ?_
  have go : wpAny (model X.prog X.w) X.A (eval e X.env) (fun w s₂ => wpAny (model X.prog X.w) X.A (inplaceOp op u w) (fun r s₃ => wpAny (model X.prog X.w) X.A (storeName X.env x r) (fun _ => SP X pins D .next) X.xe s₃) X.xe s₂) X.xe s := by
    refine thn (he pins s σ H _ I h) fun w s1 ⟨y, H1, I1, r1, q1⟩ => ?_
    refine thn (ho pins s1 σ H1 v y u w _ I1 r r1 q1) fun z s2 ⟨zv, H2, I2, r2, q2⟩ => ?_
    exact store_ok I2 hN hi hx r2 (fun s3 I3 => ⟨_, H2, I3, q2⟩) hf
  rcases l with ⟨hk, hm⟩ | ⟨hk, c, hc, hcell⟩
  · exact wpAny_loadName_local I.ok.kind hk hn hm go
  · rcases hk with hk | hk
    · exact wpAny_loadName_cell I.ok.kind hk hc hcell go
    · rcases hx with k | k
      · have : X.env.scope.names.lookup x = some .free := hk
        rw [k] at this; cases this
      · have : X.env.scope.names.lookup x = some .free := hk
        rw [k] at this; cases this
def ipI (f : Int → Int → Int) : TIp := fun x y H Q => ∃ i j, x = .int i ∧ y = .int j ∧ Q (.int (f i j)) H
theorem ip_add : PIp X .Add (ipI fun i j => i + j) := by
  intro pins s σ H x y v u Q I r1 r2 h
  obtain ⟨i, j, e1, e2, q⟩ := h
  subst e1; subst e2
  obtain ⟨t, rfl⟩ := r1
  obtain ⟨t', rfl⟩ := r2
  exact iadd_int ⟨.int _, H, I.tok _, ⟨_, rfl⟩, q⟩
end
section
variable {X : Cx} {pos : Pos}
def tWhile (c : TT) (tb : TS) : TS := fun D σ H => ∃ W : Nat → St → Hp → Prop, (∃ m, W m σ H) ∧ ∀ m σ H, W m σ H →
  c σ H fun b H1 => if b = true then ∃ N : St → Hp → Prop, (∀ σ' H', N σ' H' → ∃ m', m' < m ∧ W m' σ' H') ∧ tb { D with nx := N, ct := N, bk := D.nx } σ H1 else D.nx σ H1
theorem ps_while {c : Expr} {body : List Stmt} {tc : TT} {tb : TS} (hp : PassesOwn (model X.prog X.w) X.A X.env X.xe) (hc : PT X c tc) (hb : PSs X body tb) : PS X (.While c body [] pos) (tWhile tc tb) := by
  intro pins s σ H D I h
  obtain ⟨W, ⟨m0, w0⟩, turn⟩ := h
  refine wpAny_While (codeAny_whileLoop (fun n s' => ∃ σ' H', Inv X pins σ' H' s' ∧ W n σ' H') ?_ m0 ⟨σ, H, I, w0⟩)
  rintro n s1 ⟨σ1, H1, I1, w1⟩
  refine wpAny_passesOwn hp (thn (hc pins s1 σ1 H1 _ I1 (turn n σ1 H1 w1)) fun b s2 ⟨H2, I2, q2⟩ => ?_)
  cases b with
  | true =>
    obtain ⟨N, hN, q2⟩ := q2
    rw [if_pos rfl]
    refine wpAny_passesOwn hp (thn (hb pins s2 σ1 H2 _ I2 q2) fun f s3 q3 => ?_)
    cases f with
    | next =>
      obtain ⟨σ3, H3, I3, n3⟩ := q3
      obtain ⟨m', hm, w3⟩ := hN σ3 H3 n3
      exact ⟨m', hm, σ3, H3, I3, w3⟩
    | cont =>
      obtain ⟨σ3, H3, I3, n3⟩ := q3
      obtain ⟨m', hm, w3⟩ := hN σ3 H3 n3
      exact ⟨m', hm, σ3, H3, I3, w3⟩
    | brk => exact q3
    | ret v => exact q3
  | false =>
    rw [if_neg Bool.false_ne_true]
    exact wpAny_execs_nil ⟨σ1, H2, I2, q2⟩
end
structure It where
  go : Nat → Hp → Prop
  yld : Nat → Hp → V → Hp → Prop
  stop : Nat → Hp → Prop
def FpOk (X : Cx) (pins : List (Addr × Obj)) (H : Hp) (b : Addr) : Prop :=
  H b = none ∧ b ≠ X.env.locals ∧ b ∉ X.fs ∧ (b ∈ X.ex ∨ X.s₀.heap.objs.size ≤ b) ∧ (∀ x c, X.env.cells.lookup x = some c → c ≠ b) ∧ ∀ p ∈ X.pn ++ pins, p.1 ≠ b
theorem Inv.fpOk {X : Cx} {pins : List (Addr × Obj)} {σ : St} {H H' : Hp} {s : Shared} {b : Addr} (I : Inv X pins σ H s) (hb : s.heap.objs.size ≤ b) (hn : H' b = none) : FpOk X pins H' b := by
  refine ⟨hn, Nat.ne_of_gt (Nat.lt_of_lt_of_le I.lt hb), I.nofs hb, .inr (Nat.le_trans I.sz hb), fun x c e z => ?_, fun p hp z => ?_⟩
  · obtain ⟨v, q⟩ := I.cell x c e
    exact absurd (Nat.lt_of_lt_of_le q.lt (by rw [z]; exact hb)) (Nat.lt_irrefl _)
  · exact absurd (Nat.lt_of_lt_of_le (Heap.lt_size (I.pin p hp).1) (by rw [z]; exact hb)) (Nat.lt_irrefl _)
structure Turn (P : Program) (w : World) (K : PySem.W.Frag) (tg : Expr) (J : It) (fp : List Addr) (it : Addr) (tn : Nat → Heap → Prop) : Prop where
  mem : it ∈ fp
  obj : ∀ i h, tn i h → ∀ b ∈ fp, ∃ o, h.get? b = some o ∧ ∀ v, o.data ≠ .cell v
  keep : ∀ i h h', tn i h → (∀ b ∈ fp, ∀ o, h.get? b = some o → h'.get? b = some o) → tn i h'
  item : ∀ (X : Cx), X.prog = P → X.w = w → X.K = K → X.calm = true → ∀ (i : Nat) (pins : List (Addr × Obj)) (s : Shared) (σ : St) (H : Hp) (E : Value → Shared → Prop), Inv X pins σ H s → (∀ b ∈ fp, FpOk X pins H b) → tn i s.heap → J.go i H →
    wpAny (model P w) X.A (pyNext (.ref it)) (fun r s1 => ∃ u, r = some u ∧
      wpAny (model P w) X.A (letOwnedTupleGo tg (.ref it) u) (fun _ s2 => ∃ x H', Inv X pins σ H' s2 ∧ RelV x u ∧ J.yld i H x H' ∧ tn (i + 1) s2.heap ∧ ∀ b ∈ fp, H' b = none) E s1) E s
  done : ∀ (X : Cx), X.prog = P → X.w = w → X.K = K → X.calm = true → ∀ (i : Nat) (pins : List (Addr × Obj)) (s : Shared) (σ : St) (H : Hp) (E : Value → Shared → Prop), Inv X pins σ H s → (∀ b ∈ fp, FpOk X pins H b) → tn i s.heap → J.stop i H →
    wpAny (model P w) X.A (pyNext (.ref it)) (fun r s1 => r = none ∧ Inv X pins σ H s1) E s
  self : ∀ (A : Around) (i : Nat) (s : Shared) (Q : Value → Shared → Prop) (E : Value → Shared → Prop), tn i s.heap → Q (.ref it) s → wpAny (model P w) A (pyIter (.ref it)) Q E s
abbrev TI := St → Hp → (It → Hp → Prop) → Prop
def PIE (X : Cx) (pins : List (Addr × Obj)) (σ : St) (tg : Expr) (R : It → Hp → Prop) (itv : Value) (s2 : Shared) : Prop :=
  ∃ (it : Addr) (fp : List Addr) (tn : Nat → Heap → Prop) (J : It) (H' : Hp), itv = .ref it ∧ Inv X pins σ H' s2 ∧ Turn X.prog X.w X.K tg J fp it tn ∧ tn 0 s2.heap ∧ (∀ b ∈ fp, FpOk X pins H' b) ∧ R J H'
def PI (X : Cx) (tg iter : Expr) (wi : TI) : Prop :=
  ∀ (pins : List (Addr × Obj)) (s : Shared) (σ : St) (H : Hp) (R : It → Hp → Prop), Inv X pins σ H s → wi σ H R →
    wpAny (model X.prog X.w) X.A (eval iter X.env) (fun v s1 => wpAny (model X.prog X.w) X.A (pyIter v) (PIE X pins σ tg R) X.xe s1) X.xe s
theorem go_of {M : Model} {A : Around} {E : Value → Shared → Prop} {s : Shared} {tg : Expr} {it : Addr} {u : Value} {o : Obj} {n : String} {vs : Array Value} {Q : Unit → Shared → Prop} (ho : s.heap.get? it = some o) (hc : o.cls = .type n) (hd : o.data = .fields vs)
    (hn : ["enumerate", "zip", "dict_itemiterator", "dict_reverseitemiterator", "odict_iterator", "itertools.zip_longest", "itertools.pairwise"].contains n = false) (hQ : Q () s) : wpAny M A (letOwnedTupleGo tg (.ref it) u) Q E s := by
  unfold letOwnedTupleGo
  cases tg <;> first
    | exact wpAny_pure hQ
    | (cases u <;> first
        | exact wpAny_pure hQ
        | (refine wpAny_bind (wpAny_load ho ?_)
           rw [hc, hd]
           show wpAny M A (if (["enumerate", "zip", "dict_itemiterator", "dict_reverseitemiterator", "odict_iterator", "itertools.zip_longest", "itertools.pairwise"].contains n && vs[0]? == some (rawInt _)) = true then _ else _) Q E s
           rw [if_neg (by intro h; rw [hn, Bool.false_and] at h; cases h)]
           exact wpAny_pure hQ))
def Itl (K : PySem.W.Frag) (a : Addr) : It :=
  ⟨fun i H => ∃ xs x, SqL K H a xs ∧ xs[i]? = some x, fun i H x H' => H' = H ∧ ∀ xs, SqL K H a xs → xs[i]? = some x, fun i H => ∃ xs, SqL K H a xs ∧ xs.length ≤ i⟩
def Itt (K : PySem.W.Frag) (a : Addr) : It :=
  ⟨fun i H => ∃ xs x, SqT K H a xs ∧ xs[i]? = some x, fun i H x H' => H' = H ∧ ∀ xs, SqT K H a xs → xs[i]? = some x, fun i H => ∃ xs, SqT K H a xs ∧ xs.length ≤ i⟩
def Itr (lo : Int) (n : Nat) : It := ⟨fun i _ => i < n, fun i H x H' => H' = H ∧ x = .int (lo + i), fun i _ => n ≤ i⟩
theorem turn_list {P : Program} {w : World} {K : PySem.W.Frag} {tg : Expr} (a it : Addr) : Turn P w K tg (Itl K a) [it] it (fun i h => h.IsListIter it a i) where
  mem := by simp
  obj := fun i h st b hb => by
    have e : b = it := by simpa using hb
    subst e
    obtain ⟨o, e, c, d⟩ := st
    exact ⟨o, e, fun v z => by rw [d] at z; cases z⟩
  keep := fun i h h' st k => st.at fun o e => k it (by simp) o e
  item := by
    intro X hP hw hK hc i pins s σ H E I hf st hg
    subst hP hw hK
    obtain ⟨xs, x, hq, hx⟩ := hg
    obtain ⟨its, rv, p, hz⟩ := I.list hq
    obtain ⟨u, hu, ru⟩ := rv.get hx
    obtain ⟨f0, f1, f2, f3, f4, f5⟩ := hf it (by simp)
    refine wpAny_pyNext_list_item st p.isList (x := u) (by simpa using hu) fun h' st' sb => ?_
    have I1 : Inv X pins σ H { s with heap := h' } := I.turned (t' := s.toks) (fun b o hb e => (sb.2 b hb).trans e) f0 f1 f3 f4 f5
    obtain ⟨o, e, c, d⟩ := id st'
    exact ⟨u, rfl, go_of (s := { s with heap := h' }) e c d (by decide) ⟨x, H, I1, ru, ⟨rfl, fun ys hy => by rw [I.list_inj hy hq]; exact hx⟩, st', fun b hb => (hf b hb).1⟩⟩
  done := by
    intro X hP hw hK hc i pins s σ H E I hf st hg
    subst hP hw hK
    obtain ⟨xs, hq, hx⟩ := hg
    obtain ⟨its, rv, p, hz⟩ := I.list hq
    obtain ⟨f0, f1, f2, f3, f4, f5⟩ := hf it (by simp)
    have hl := rv.length
    exact wpAny_pyNext_list_end (I.ok.hd hc) st p.isList (by simp; omega) fun h' eb => ⟨rfl, I.turned (t' := s.toks) (fun b o hb e => eb b o hb e) f0 f1 f3 f4 f5⟩
  self := fun _ _ _ _ _ st h => wpAny_pyIter_listiter st h
theorem turn_tuple {P : Program} {w : World} {K : PySem.W.Frag} {tg : Expr} (a it : Addr) : Turn P w K tg (Itt K a) [it] it (fun i h => h.IsTupleIter it a i) where
  mem := by simp
  obj := fun i h st b hb => by
    have e : b = it := by simpa using hb
    subst e
    obtain ⟨o, e, c, d⟩ := st
    exact ⟨o, e, fun v z => by rw [d] at z; cases z⟩
  keep := fun i h h' st k => st.at fun o e => k it (by simp) o e
  item := by
    intro X hP hw hK hc i pins s σ H E I hf st hg
    subst hP hw hK
    obtain ⟨xs, x, hq, hx⟩ := hg
    obtain ⟨its, rv, p, hz⟩ := I.tuple hq
    obtain ⟨u, hu, ru⟩ := rv.get hx
    obtain ⟨f0, f1, f2, f3, f4, f5⟩ := hf it (by simp)
    refine wpAny_pyNext_tuple_item st (show s.heap.IsTuple a its.toArray from p) (x := u) (by simpa using hu) fun h' st' sb => ?_
    have I1 : Inv X pins σ H { s with heap := h' } := I.turned (t' := s.toks) (fun b o hb e => (sb.2 b hb).trans e) f0 f1 f3 f4 f5
    obtain ⟨o, e, c, d⟩ := id st'
    exact ⟨u, rfl, go_of (s := { s with heap := h' }) e c d (by decide) ⟨x, H, I1, ru, ⟨rfl, fun ys hy => by rw [I.tuple_inj hy hq]; exact hx⟩, st', fun b hb => (hf b hb).1⟩⟩
  done := by
    intro X hP hw hK hc i pins s σ H E I hf st hg
    subst hP hw hK
    obtain ⟨xs, hq, hx⟩ := hg
    obtain ⟨its, rv, p, hz⟩ := I.tuple hq
    obtain ⟨f0, f1, f2, f3, f4, f5⟩ := hf it (by simp)
    have hl := rv.length
    exact wpAny_pyNext_tuple_end (I.ok.hd hc) st (show s.heap.IsTuple a its.toArray from p) (by simp; omega) fun h' eb => ⟨rfl, I.turned (t' := s.toks) (fun b o hb e => eb b o hb e) f0 f1 f3 f4 f5⟩
  self := fun _ _ _ _ _ st h => wpAny_pyIter_tupleiter st h
theorem turn_range {P : Program} {w : World} {K : PySem.W.Frag} {tg : Expr} (it : Addr) (lo : Int) (n : Nat) : Turn P w K tg (Itr lo n) [it] it (fun i h => IsRangeIter h it (lo + (i : Nat) * 1) ((n : Int) - (i : Nat)) 1) where
  mem := by simp
  obj := fun i h st b hb => by
    have e : b = it := by simpa using hb
    subst e
    exact ⟨_, st, fun v z => by
      have z' : Data.fields _ = Data.cell v := z
      cases z'⟩
  keep := fun i h h' st k => k it (by simp) _ st
  item := by
    intro X hP hw hK hc i pins s σ H E I hf st hg
    subst hP hw hK
    obtain ⟨f0, f1, f2, f3, f4, f5⟩ := hf it (by simp)
    have W := Walks.range (prog := X.prog) (w := X.w) (I.ok.hd hc) it lo 1 n
    refine W.item i s _ _ hg st fun v h' tk hv st' kk => ?_
    obtain ⟨t, rfl⟩ := hv
    have I1 : Inv X pins σ H { s with heap := h', toks := tk } := I.turned (fun b o hb e => kk b o (by simpa using hb) e) f0 f1 f3 f4 f5
    refine ⟨_, rfl, go_of (s := { s with heap := h', toks := tk }) (n := "range_iterator") st' rfl rfl (by decide) ⟨.int (lo + i), H, I1, ⟨t, ?_⟩, ⟨rfl, rfl⟩, st', fun b hb => (hf b hb).1⟩⟩
    rw [Int.mul_one]
  done := by
    intro X hP hw hK hc i pins s σ H E I hf st hg
    subst hP hw hK
    obtain ⟨f0, f1, f2, f3, f4, f5⟩ := hf it (by simp)
    exact wpAny_pyNext_range_end (I.ok.hd hc) st (by have : n ≤ i := hg; omega) fun h' eb => ⟨rfl, I.turned (t' := s.toks) (fun b o hb e => eb b o hb e) f0 f1 f3 f4 f5⟩
  self := fun _ _ _ _ _ st h => wpAny_pyIter_rangeiter st h
end L2
namespace L2
open PySem PySem.Spec PyProof.Rows
section
variable {X : Cx} {tg : Expr}
def iList (K : PySem.W.Frag) (tl : TE) : TI := fun σ H R => tl σ H fun x H1 => ∃ a, x = .ref a ∧ (∃ xs, SqL K H1 a xs) ∧ R (Itl K a) H1
def iTup (K : PySem.W.Frag) (tl : TE) : TI := fun σ H R => tl σ H fun x H1 => ∃ a, x = .ref a ∧ (∃ xs, SqT K H1 a xs) ∧ R (Itt K a) H1
theorem pi_list {l : Expr} {tl : TE} (hl : PE X l tl) : PI X tg l (iList X.K tl) := by
  intro pins s σ H R I h
  refine thn (hl pins s σ H _ I h) fun v s1 ⟨x, H1, I1, r1, q1⟩ => ?_
  obtain ⟨a, e, ⟨xs, hq⟩, q⟩ := q1
  subst e
  cases r1
  obtain ⟨its, rv, p, hz⟩ := I1.list hq
  refine wpAny_pyIter_list p.isList ?_
  refine ⟨s1.heap.objs.size, [s1.heap.objs.size], _, _, H1, rfl, I1.kept (t' := s1.toks) fun b o e => Heap.get?_push_of_some _ e, turn_list a _, ⟨_, Heap.get?_push_size _ rfl, rfl, rfl⟩, fun b hb => ?_, q⟩
  have e : b = s1.heap.objs.size := by simpa using hb
  subst e
  exact I1.fpOk (Nat.le_refl _) (I1.hok.fresh (Nat.le_refl _))
theorem pi_tup {l : Expr} {tl : TE} (hl : PE X l tl) : PI X tg l (iTup X.K tl) := by
  intro pins s σ H R I h
  refine thn (hl pins s σ H _ I h) fun v s1 ⟨x, H1, I1, r1, q1⟩ => ?_
  obtain ⟨a, e, ⟨xs, hq⟩, q⟩ := q1
  subst e
  cases r1
  obtain ⟨its, rv, p, hz⟩ := I1.tuple hq
  refine wpAny_pyIter_tuple (show s1.heap.IsTuple a its.toArray from p) ?_
  refine ⟨s1.heap.objs.size, [s1.heap.objs.size], _, _, H1, rfl, I1.kept (t' := s1.toks) fun b o e => Heap.get?_push_of_some _ e, turn_tuple a _, ⟨_, Heap.get?_push_size _ rfl, rfl, rfl⟩, fun b hb => ?_, q⟩
  have e : b = s1.heap.objs.size := by simpa using hb
  subst e
  exact I1.fpOk (Nat.le_refl _) (I1.hok.fresh (Nat.le_refl _))
theorem range_it {pins : List (Addr × Obj)} {σ : St} {H : Hp} {s : Shared} {R : It → Hp → Prop} {E : Value → Shared → Prop} {lo hi : Int} {t u v : Tok} {tk : Nat} (I : Inv X pins σ H s) (h1 : -(2 ^ 62) ≤ lo) (h2 : lo < 2 ^ 62) (h3 : -(2 ^ 62) ≤ hi) (h4 : hi < 2 ^ 62)
    (q : R (Itr lo (hi - lo).toNat) H) : wpAny (model X.prog X.w) X.A (pyIter (.ref s.heap.objs.size)) (PIE X pins σ tg R) E { s with heap := s.heap.push { cls := .type "range", data := .fields #[.int lo t, .int hi u, .int 1 v] }, toks := tk } := by
  refine wpAny_pyIter_range (IsRange.new ..) (small_one h1 h2 h3 h4) ?_
  have I1 : Inv X pins σ H { s with heap := s.heap.push { cls := .type "range", data := .fields #[.int lo t, .int hi u, .int 1 v] }, toks := tk } := I.kept fun b o e => Heap.get?_push_of_some _ e
  refine ⟨(s.heap.push { cls := .type "range", data := .fields #[.int lo t, .int hi u, .int 1 v] }).objs.size, [(s.heap.push { cls := .type "range", data := .fields #[.int lo t, .int hi u, .int 1 v] }).objs.size], _, _, H, rfl,
    I1.kept (t' := tk) fun b o e => Heap.get?_push_of_some _ e, turn_range _ lo (hi - lo).toNat, ?_, fun b hb => ?_, q⟩
  · have e1 : lo + ((0 : Nat) : Int) * 1 = lo := by simp
    have e2 : (((hi - lo).toNat : Nat) : Int) - ((0 : Nat) : Int) = Builtin.Range.rangeSize lo hi 1 := by rw [rangeSize_one]; split <;> omega
    show IsRangeIter _ _ (lo + ((0 : Nat) : Int) * 1) ((((hi - lo).toNat : Nat) : Int) - ((0 : Nat) : Int)) 1
    rw [e1, e2]
    exact Heap.get?_push_size _ rfl
  · have e : b = (s.heap.push { cls := .type "range", data := .fields #[.int lo t, .int hi u, .int 1 v] }).objs.size := by simpa using hb
    subst e
    exact I1.fpOk (Nat.le_refl _) (I1.hok.fresh (Nat.le_refl _))
def iRng1 (ta : TA) : TI := fun σ H R => ta σ H fun vs H1 => ∃ j : Int, vs = [.int j] ∧ -(2 ^ 62) ≤ j ∧ j < 2 ^ 62 ∧ R (Itr 0 j.toNat) H1
theorem pi_range1 {a : Expr} {ta : TA} {p pos : Pos} (hg : Gl X "range") (hm : X.mg "range" = none) (ha : PA X [a] ta) (hs : starEach [a] X.env = [(false, eval a X.env)] := by rfl) : PI X tg (.Call (.Name "range" p) [a] [] pos) (iRng1 ta) := by
  intro pins s σ H R I h
  refine Call_ (ld_blt I hg hm boot_range (PyProof.Rows.callWith_type1 (thn (ha pos pins s σ H _ I h) fun us s1 ⟨vs, H1, I1, r1, q1⟩ => ?_) hs rfl))
  obtain ⟨j, e, q1, q2, q⟩ := q1
  subst e
  cases r1 with
  | cons r rr =>
    cases rr
    obtain ⟨t, rfl⟩ := r
    exact call_range_1 (range_it I1 (by omega) (by omega) q1 q2 (by simpa using q))
def tFor (wi : TI) (g : TG) (tb : TS) : TS := fun D σ H => wi σ H fun J H1 => ∃ W : Nat → Nat → St → Hp → Prop, (∃ m, W 0 m σ H1) ∧ ∀ i m σ H, W i m σ H →
  (J.stop i H ∧ D.nx σ H) ∨ (J.go i H ∧ ∃ N : St → Hp → Prop, (∀ σ' H', N σ' H' → ∃ m', m' < m ∧ W (i + 1) m' σ' H') ∧ ∀ x H', J.yld i H x H' → g x σ H' fun σ2 H2 => tb { D with nx := N, ct := N, bk := D.nx } σ2 H2)
def pinsAt (fp : List Addr) (h : Heap) : List (Addr × Obj) := fp.filterMap fun b => (h.get? b).map fun o => (b, o)
theorem mem_pinsAt {fp : List Addr} {h : Heap} {b : Addr} {o : Obj} (hb : b ∈ fp) (e : h.get? b = some o) : (b, o) ∈ pinsAt fp h := List.mem_filterMap.mpr ⟨b, hb, by rw [e]; rfl⟩
theorem of_pinsAt {fp : List Addr} {h : Heap} {p : Addr × Obj} (hp : p ∈ pinsAt fp h) : p.1 ∈ fp ∧ h.get? p.1 = some p.2 := by
  obtain ⟨b, hb, e⟩ := List.mem_filterMap.mp hp
  cases q : h.get? b with
  | none => rw [q] at e; cases e
  | some o =>
    rw [q] at e
    have e' : (b, o) = p := Option.some.inj e
    subst e'
    exact ⟨hb, q⟩
theorem Inv.pinned {pins : List (Addr × Obj)} {σ : St} {H : Hp} {s : Shared} {fp : List Addr} (I : Inv X pins σ H s) (hf : ∀ b ∈ fp, FpOk X pins H b) (ho : ∀ b ∈ fp, ∃ o, s.heap.get? b = some o ∧ ∀ v, o.data ≠ .cell v) : Inv X (pins ++ pinsAt fp s.heap) σ H s :=
  I.pins_of fun p hp => (List.mem_append.mp hp).elim (fun z => I.pin p (List.mem_append_right _ z)) fun z => by
    obtain ⟨hb, e⟩ := of_pinsAt z
    obtain ⟨f0, f1, f2, _⟩ := hf p.1 hb
    obtain ⟨o, e', d⟩ := ho p.1 hb
    rw [e] at e'; cases e'
    exact ⟨e, f0, f1, f2, d⟩
theorem Inv.unpinned {pins pl : List (Addr × Obj)} {σ : St} {H : Hp} {s : Shared} (I : Inv X (pins ++ pl) σ H s) : Inv X pins σ H s := I.pins_of fun p hp => I.pin p (List.mem_append_right _ (List.mem_append_left _ hp))
theorem ps_for {iter : Expr} {body : List Stmt} {wi : TI} {g : TG} {tb : TS} {pos : Pos} (hp : PassesOwn (model X.prog X.w) X.A X.env X.xe) (hc : X.calm = true) (hi : PI X tg iter wi) (hg : PG X tg g) (hb : PSs X body tb)
    (hs : ∀ x, foldedSetIterable iter X.env x = pure x := by intro _; rfl) : PS X (.For tg iter body [] pos) (tFor wi g tb) := by
  intro pins s σ H D I h
  refine wpAny_For (thn (hi pins s σ H _ I h) fun v s1 h1 => thn h1 fun itv s2 h2 => ?_) hs
  obtain ⟨it, fp, tn, J, H2, e, I2, T, st2, f2, W, ⟨m0, w0⟩, turn⟩ := h2
  subst e
  have stat : ∀ {H' : Hp}, (∀ b ∈ fp, H' b = none) → ∀ b ∈ fp, FpOk X pins H' b := fun hn b hb => ⟨hn b hb, (f2 b hb).2⟩
  refine codeAny_forLoop_any (fun n s' => ∃ i σ' H', Inv X pins σ' H' s' ∧ tn i s'.heap ∧ (∀ b ∈ fp, H' b = none) ∧ W i n σ' H') ?_ m0 ⟨0, σ, H2, I2, st2, fun b hb => (f2 b hb).1, w0⟩
  rintro n s3 ⟨i, σ3, H3, I3, st3, fr3, w3⟩
  rcases turn i n σ3 H3 w3 with ⟨stop, qn⟩ | ⟨go, N, hN, step⟩
  · refine wpAny_passesOwn hp (thn (T.done X rfl rfl rfl hc i pins s3 σ3 H3 X.xe I3 (stat fr3) st3 stop) fun r s4 ⟨hr, I4⟩ => ?_)
    subst hr
    exact wpAny_execs_nil ⟨σ3, H3, I4, qn⟩
  · refine wpAny_passesOwn hp (thn (T.item X rfl rfl rfl hc i pins s3 σ3 H3 X.xe I3 (stat fr3) st3 go) fun r s4 ⟨u, hr, h4⟩ => ?_)
    subst hr
    refine wpAny_passesOwn hp (thn h4 fun _ s5 ⟨x, H5, I5, r5, y5, st5, fr5⟩ => ?_)
    have I5' := I5.pinned (stat fr5) (T.obj _ _ st5)
    refine wpAny_passesOwn hp (thn (hg _ s5 σ3 H5 x u _ I5' r5 (step x H5 y5)) fun _ s6 ⟨σ6, H6, I6, q6⟩ => ?_)
    refine wpAny_passesOwn hp (thn (hb _ s6 σ6 H6 _ I6 q6) fun f s7 q7 => ?_)
    have again : ∀ {σ7 : St} {H7 : Hp}, Inv X (pins ++ pinsAt fp s5.heap) σ7 H7 s7 → N σ7 H7 → ∃ m, m < n ∧ ∃ i σ' H', Inv X pins σ' H' s7 ∧ tn i s7.heap ∧ (∀ b ∈ fp, H' b = none) ∧ W i m σ' H' := fun {σ7 H7} I7 n7 => by
      obtain ⟨m', hm, w7⟩ := hN σ7 H7 n7
      refine ⟨m', hm, i + 1, σ7, H7, I7.unpinned, T.keep _ _ _ st5 fun b hb o e => (I7.pin (b, o) (List.mem_append_right _ (List.mem_append_right _ (mem_pinsAt hb e)))).1, fun b hb => ?_, w7⟩
      obtain ⟨o, e, d⟩ := T.obj _ _ st5 b hb
      exact (I7.pin (b, o) (List.mem_append_right _ (List.mem_append_right _ (mem_pinsAt hb e)))).2.1
    cases f with
    | next => obtain ⟨σ7, H7, I7, n7⟩ := q7; exact again I7 n7
    | cont => obtain ⟨σ7, H7, I7, n7⟩ := q7; exact again I7 n7
    | brk => obtain ⟨σ7, H7, I7, q7⟩ := q7; exact ⟨σ7, H7, I7.unpinned, q7⟩
    | ret v => obtain ⟨x7, σ7, H7, I7, r7, q7⟩ := q7; exact ⟨x7, σ7, H7, I7.unpinned, r7, q7⟩
end
theorem for_list {K : PySem.W.Frag} {a : Addr} {xs : List V} {g : TG} {tb : TS} {D : Ends} {σ : St} {H : Hp} (Pv : Nat → St → Hp → Prop) (h0 : Pv 0 σ H) (hl : ∀ i σ H, i ≤ xs.length → Pv i σ H → SqL K H a xs)
    (hs : ∀ i x σ H, xs[i]? = some x → Pv i σ H → g x σ H fun σ2 H2 => tb { D with nx := Pv (i + 1), ct := Pv (i + 1), bk := D.nx } σ2 H2) (hd : ∀ σ H, Pv xs.length σ H → D.nx σ H) :
    ∃ W : Nat → Nat → St → Hp → Prop, (∃ m, W 0 m σ H) ∧ ∀ i m σ H, W i m σ H →
      ((Itl K a).stop i H ∧ D.nx σ H) ∨ ((Itl K a).go i H ∧ ∃ N : St → Hp → Prop, (∀ σ' H', N σ' H' → ∃ m', m' < m ∧ W (i + 1) m' σ' H') ∧ ∀ x H', (Itl K a).yld i H x H' → g x σ H' fun σ2 H2 => tb { D with nx := N, ct := N, bk := D.nx } σ2 H2) := by
  refine ⟨fun i m σ H => m = xs.length - i ∧ i ≤ xs.length ∧ Pv i σ H, ⟨xs.length, by simp, Nat.zero_le _, h0⟩, ?_⟩
  rintro i m σ H ⟨rfl, hi, p⟩
  have q := hl i σ H hi p
  by_cases hlt : i < xs.length
  · refine .inr ⟨⟨xs, xs[i], q, by simp [hlt]⟩, Pv (i + 1), fun σ' H' p' => ⟨xs.length - (i + 1), by omega, rfl, hlt, p'⟩, fun x H' y => ?_⟩
    obtain ⟨e, y⟩ := y
    subst e
    exact hs i x σ _ (y xs q) p
  · have e : i = xs.length := by omega
    subst e
    exact .inl ⟨⟨xs, q, Nat.le_refl _⟩, hd σ H p⟩
theorem for_tup {K : PySem.W.Frag} {a : Addr} {xs : List V} {g : TG} {tb : TS} {D : Ends} {σ : St} {H : Hp} (Pv : Nat → St → Hp → Prop) (h0 : Pv 0 σ H) (hl : ∀ i σ H, i ≤ xs.length → Pv i σ H → SqT K H a xs)
    (hs : ∀ i x σ H, xs[i]? = some x → Pv i σ H → g x σ H fun σ2 H2 => tb { D with nx := Pv (i + 1), ct := Pv (i + 1), bk := D.nx } σ2 H2) (hd : ∀ σ H, Pv xs.length σ H → D.nx σ H) :
    ∃ W : Nat → Nat → St → Hp → Prop, (∃ m, W 0 m σ H) ∧ ∀ i m σ H, W i m σ H →
      ((Itt K a).stop i H ∧ D.nx σ H) ∨ ((Itt K a).go i H ∧ ∃ N : St → Hp → Prop, (∀ σ' H', N σ' H' → ∃ m', m' < m ∧ W (i + 1) m' σ' H') ∧ ∀ x H', (Itt K a).yld i H x H' → g x σ H' fun σ2 H2 => tb { D with nx := N, ct := N, bk := D.nx } σ2 H2) := by
  refine ⟨fun i m σ H => m = xs.length - i ∧ i ≤ xs.length ∧ Pv i σ H, ⟨xs.length, by simp, Nat.zero_le _, h0⟩, ?_⟩
  rintro i m σ H ⟨rfl, hi, p⟩
  have q := hl i σ H hi p
  by_cases hlt : i < xs.length
  · refine .inr ⟨⟨xs, xs[i], q, by simp [hlt]⟩, Pv (i + 1), fun σ' H' p' => ⟨xs.length - (i + 1), by omega, rfl, hlt, p'⟩, fun x H' y => ?_⟩
    obtain ⟨e, y⟩ := y
    subst e
    exact hs i x σ _ (y xs q) p
  · have e : i = xs.length := by omega
    subst e
    exact .inl ⟨⟨xs, q, Nat.le_refl _⟩, hd σ H p⟩
theorem for_range {lo : Int} {n : Nat} {g : TG} {tb : TS} {D : Ends} {σ : St} {H : Hp} (Pv : Nat → St → Hp → Prop) (h0 : Pv 0 σ H)
    (hs : ∀ i σ H, i < n → Pv i σ H → g (.int (lo + i)) σ H fun σ2 H2 => tb { D with nx := Pv (i + 1), ct := Pv (i + 1), bk := D.nx } σ2 H2) (hd : ∀ σ H, Pv n σ H → D.nx σ H) :
    ∃ W : Nat → Nat → St → Hp → Prop, (∃ m, W 0 m σ H) ∧ ∀ i m σ H, W i m σ H →
      ((Itr lo n).stop i H ∧ D.nx σ H) ∨ ((Itr lo n).go i H ∧ ∃ N : St → Hp → Prop, (∀ σ' H', N σ' H' → ∃ m', m' < m ∧ W (i + 1) m' σ' H') ∧ ∀ x H', (Itr lo n).yld i H x H' → g x σ H' fun σ2 H2 => tb { D with nx := N, ct := N, bk := D.nx } σ2 H2) := by
  refine ⟨fun i m σ H => m = n - i ∧ i ≤ n ∧ Pv i σ H, ⟨n, by simp, Nat.zero_le _, h0⟩, ?_⟩
  rintro i m σ H ⟨rfl, hi, p⟩
  by_cases hlt : i < n
  · refine .inr ⟨hlt, Pv (i + 1), fun σ' H' p' => ⟨n - (i + 1), by omega, rfl, hlt, p'⟩, fun x H' y => ?_⟩
    obtain ⟨e, y⟩ := y
    subst e y
    exact hs i σ _ hlt p
  · have e : i = n := by omega
    subst e
    exact .inl ⟨Nat.le_refl _, hd σ H p⟩
end L2
namespace L2
open PySem PySem.Spec PyProof.Rows
abbrev R2 := V → V → Hp → VK → Prop
def OpR (X : Cx) (f : Value → Value → Sem Value) (r : R2) : Prop :=
  ∀ (pins : List (Addr × Obj)) (s : Shared) (σ : St) (H : Hp) (x y : V) (v u : Value) (Q : VK), Inv X pins σ H s → RelV x v → RelV y u → r x y H Q →
    wpAny (model X.prog X.w) X.A (f v u) (EP X pins σ Q) X.xe s
def CallR (X : Cx) (f : Value) (r : List V → Hp → VK → Prop) : Prop :=
  ∀ (pins : List (Addr × Obj)) (s : Shared) (σ : St) (H : Hp) (xs : List V) (us : List Value) (Q : VK), Inv X pins σ H s → Vals xs us → r xs H Q →
    wpAny (model X.prog X.w) X.A (call f us) (EP X pins σ Q) X.xe s
def tOp (r : R2) (ta tb : TE) : TE := fun σ H Q => ta σ H fun x H1 => tb σ H1 fun y H2 => r x y H2 Q
def rI (C : Int → Int → Prop) (g : Int → Int → V) : R2 := fun x y H Q => ∃ i j, x = .int i ∧ y = .int j ∧ C i j ∧ Q (g i j) H
def rI0 (g : Int → Int → V) : R2 := fun x y H Q => ∃ i j, x = .int i ∧ y = .int j ∧ Q (g i j) H
section
variable {X : Cx} {a b c : Expr} {ta tb tc : TE} {pos : Pos}
theorem binT (ha : PE X a ta) (hb : PE X b tb) {pins : List (Addr × Obj)} {s : Shared} {σ : St} {H : Hp} {R : V → V → Hp → Prop} (I : Inv X pins σ H s)
    (h : ta σ H fun x H1 => tb σ H1 fun y H2 => R x y H2) {Q : Value → Shared → Prop} {f : Value → Value → Sem Value}
    (hf : ∀ v u s2 x y H2, Inv X pins σ H2 s2 → RelV x v → RelV y u → R x y H2 → wpAny (model X.prog X.w) X.A (f v u) Q X.xe s2) :
    wpAny (model X.prog X.w) X.A (eval a X.env) (fun v s₁ => wpAny (model X.prog X.w) X.A (eval b X.env) (fun u s₂ => wpAny (model X.prog X.w) X.A (f v u) Q X.xe s₂) X.xe s₁) X.xe s := by
  refine thn (ha pins s σ H _ I h) fun v s1 ⟨x, H1, I1, r1, q1⟩ => ?_
  refine thn (hb pins s1 σ H1 _ I1 q1) fun u s2 ⟨y, H2, I2, r2, q2⟩ => ?_
  exact hf v u s2 x y H2 I2 r1 r2 q2
theorem pe_op {op : Operator} {r : R2} (ho : OpR X (binaryOp op) r) (ha : PE X a ta) (hb : PE X b tb) : PE X (.BinOp a op b pos) (tOp r ta tb) := by
  intro pins s σ H Q I h
  exact wpAny_BinOp (binT ha hb I h fun v u s2 x y H2 I2 rx ry q => ho pins s2 σ H2 x y v u Q I2 rx ry q)
theorem opI {f : Value → Value → Sem Value} {C : Int → Int → Prop} {g : Int → Int → Int}
    (rule : ∀ (i j : Int) (t u : Tok) (s : Shared) (Q : Value → Shared → Prop) (E : Value → Shared → Prop), C i j → Q (.int (g i j) s.toks) { s with toks := s.toks + 1 } → wpAny (model X.prog X.w) X.A (f (.int i t) (.int j u)) Q E s) :
    OpR X f (rI C fun i j => .int (g i j)) := by
  intro pins s σ H x y v u Q I rx ry h
  obtain ⟨i, j, rfl, rfl, hc, q⟩ := h
  obtain ⟨t, rfl⟩ := rx
  obtain ⟨t', rfl⟩ := ry
  exact rule i j t t' s _ _ hc ⟨.int (g i j), H, I.tok _, ⟨_, rfl⟩, q⟩
theorem opI0 {f : Value → Value → Sem Value} {g : Int → Int → Int}
    (rule : ∀ (i j : Int) (t u : Tok) (s : Shared) (Q : Value → Shared → Prop) (E : Value → Shared → Prop), Q (.int (g i j) s.toks) { s with toks := s.toks + 1 } → wpAny (model X.prog X.w) X.A (f (.int i t) (.int j u)) Q E s) :
    OpR X f (rI0 fun i j => .int (g i j)) := by
  intro pins s σ H x y v u Q I rx ry h
  obtain ⟨i, j, rfl, rfl, q⟩ := h
  obtain ⟨t, rfl⟩ := rx
  obtain ⟨t', rfl⟩ := ry
  exact rule i j t t' s _ _ ⟨.int (g i j), H, I.tok _, ⟨_, rfl⟩, q⟩
theorem opB0 {f : Value → Value → Sem Value} {g : Int → Int → Bool}
    (rule : ∀ (i j : Int) (t u : Tok) (s : Shared) (Q : Value → Shared → Prop) (E : Value → Shared → Prop), Q (.bool (g i j)) s → wpAny (model X.prog X.w) X.A (f (.int i t) (.int j u)) Q E s) :
    OpR X f (rI0 fun i j => .bl (g i j)) := by
  intro pins s σ H x y v u Q I rx ry h
  obtain ⟨i, j, rfl, rfl, q⟩ := h
  obtain ⟨t, rfl⟩ := rx
  obtain ⟨t', rfl⟩ := ry
  exact rule i j t t' s _ _ ⟨.bl (g i j), H, I, rfl, q⟩
def CDiv (i j : Int) : Prop := 0 < j ∧ j < 1073741824
def CPow (i j : Int) : Prop := 0 ≤ j ∧ j ≤ 1000000 ∧ i.natAbs < 2 ^ 64
theorem op_add : OpR X (binaryOp .Add) (rI0 fun i j => .int (i + j)) := opI0 fun _ _ _ _ _ _ _ q => add_int q
theorem op_sub : OpR X (binaryOp .Sub) (rI0 fun i j => .int (i - j)) := opI0 fun _ _ _ _ _ _ _ q => sub_int q
theorem op_fdiv : OpR X (binaryOp .FloorDiv) (rI CDiv fun i j => .int (i / j)) := opI fun i j _ _ _ _ _ hc q => by
  have h1 : (0 : Int) < j := hc.1
  have h2 : j < 1073741824 := hc.2
  exact floordiv_int (by omega) (by rw [Int.fdiv_eq_ediv_of_nonneg i (by omega)]; exact q) (.inl (PyProof.noPylong_small (by omega)))
theorem op_mod : OpR X (binaryOp .Mod) (rI (fun _ j => 0 < j) fun i j => .int (i % j)) := opI fun i j _ _ _ _ _ hc q => by
  have h1 : (0 : Int) < j := hc
  exact mod_int' (by omega) (by rw [Int.fmod_eq_emod_of_nonneg i (by omega)]; exact q)
theorem op_pow : OpR X (binaryOp .Pow) (rI CPow fun i j => .int (i ^ j.toNat)) := opI fun _ _ _ _ _ _ _ hc q => pow_int_small hc.1 hc.2.1 hc.2.2 q
end
def scal : V → V → Bool
  | .non, .non => true | .non, .int _ => true | .int _, .non => true | .non, .bl _ => true | .bl _, .non => true | .non, .str _ => true | .str _, .non => true
  | .int _, .int _ => true | .bl _, .bl _ => true | .str _, .str _ => true | .byt _, .byt _ => true
  | .int _, .str _ => true | .str _, .int _ => true | .bl _, .str _ => true | .str _, .bl _ => true
  | _, _ => false
def rEq : R2 := fun x y H Q => scal x y = true ∧ Q (.bl (decide (x = y))) H
def rNe : R2 := fun x y H Q => scal x y = true ∧ Q (.bl (!decide (x = y))) H
theorem dec_int {i j : Int} : decide (V.int i = V.int j) = (i == j) := by
  rw [Bool.eq_iff_iff]
  simp
theorem dec_bl {i j : Bool} : decide (V.bl i = V.bl j) = (i == j) := by
  rw [Bool.eq_iff_iff]
  simp
theorem dec_str {i j : Str} : decide (V.str i = V.str j) = (i == j) := by
  rw [Bool.eq_iff_iff]
  simp
theorem dec_byt {i j : Array UInt8} : decide (V.byt i = V.byt j) = (i.toList == j.toList) := by
  rw [Bool.eq_iff_iff]
  cases i
  cases j
  simp
section
variable {X : Cx} {a b c : Expr} {ta tb tc : TE} {pos : Pos}
theorem fin_bl {pins : List (Addr × Obj)} {σ : St} {H : Hp} {s : Shared} {Q : VK} {k k' : Bool} (I : Inv X pins σ H s) (q : Q (.bl k) H) (e : k = k') : EP X pins σ Q (.bool k') s := by
  subst e
  exact ⟨.bl k, H, I, rfl, q⟩
theorem op_eq : OpR X (compareOp .Eq) rEq := by
  intro pins s σ H x y v u Q I rx ry h
  obtain ⟨hs, q⟩ := h
  cases x with
  | non =>
    cases rx
    cases y with
    | non => cases ry; exact PySem.EqNone.eq_none_none (fin_bl I q (by simp))
    | bl j => cases ry; exact PySem.EqNone.eq_none_bool (fin_bl I q (by simp))
    | int j => obtain ⟨t', rfl⟩ := ry; exact PySem.EqNone.eq_none_int (fin_bl I q (by simp))
    | str j => obtain ⟨t', rfl⟩ := ry; exact PySem.EqNone.eq_none_str (fin_bl I q (by simp))
    | _ => exact absurd (show false = true from hs) Bool.false_ne_true
  | bl i =>
    cases rx
    cases y with
    | non => cases ry; exact PySem.EqNone.eq_bool_none (fin_bl I q (by simp))
    | bl j => cases ry; exact eq_bool (fin_bl I q dec_bl)
    | str j => obtain ⟨t', rfl⟩ := ry; exact PySem.EqMixed.eq_bool_str (fin_bl I q (by simp))
    | _ => exact absurd (show false = true from hs) Bool.false_ne_true
  | int i =>
    obtain ⟨t, rfl⟩ := rx
    cases y with
    | non => cases ry; exact PySem.EqNone.eq_int_none (fin_bl I q (by simp))
    | int j => obtain ⟨t', rfl⟩ := ry; exact eq_int (fin_bl I q dec_int)
    | str j => obtain ⟨t', rfl⟩ := ry; exact PySem.EqMixed.eq_int_str (fin_bl I q (by simp))
    | _ => exact absurd (show false = true from hs) Bool.false_ne_true
  | str i =>
    obtain ⟨t, rfl⟩ := rx
    cases y with
    | non => cases ry; exact PySem.EqNone.eq_str_none (fin_bl I q (by simp))
    | bl j => cases ry; exact PySem.EqMixed.eq_str_bool (fin_bl I q (by simp))
    | int j => obtain ⟨t', rfl⟩ := ry; exact PySem.EqMixed.eq_str_int (fin_bl I q (by simp))
    | str j => obtain ⟨t', rfl⟩ := ry; exact eq_str (fin_bl I q dec_str)
    | _ => exact absurd (show false = true from hs) Bool.false_ne_true
  | byt i =>
    obtain ⟨t, rfl⟩ := rx
    cases y with
    | byt j => obtain ⟨t', rfl⟩ := ry; exact PySem.W.eq_bytes (fin_bl I q dec_byt)
    | _ => exact absurd (show false = true from hs) Bool.false_ne_true
  | _ => cases y <;> exact absurd (show false = true from hs) Bool.false_ne_true
theorem op_ne : OpR X (compareOp .NotEq) rNe := by
  intro pins s σ H x y v u Q I rx ry h
  obtain ⟨hs, q⟩ := h
  cases x with
  | non =>
    cases rx
    cases y with
    | non => cases ry; exact PySem.EqNone.ne_none_none (fin_bl I q (by simp))
    | bl j => cases ry; exact PySem.EqNone.ne_none_bool (fin_bl I q (by simp))
    | int j => obtain ⟨t', rfl⟩ := ry; exact PySem.EqNone.ne_none_int (fin_bl I q (by simp))
    | str j => obtain ⟨t', rfl⟩ := ry; exact PySem.EqNone.ne_none_str (fin_bl I q (by simp))
    | _ => exact absurd (show false = true from hs) Bool.false_ne_true
  | bl i =>
    cases rx
    cases y with
    | non => cases ry; exact PySem.EqNone.ne_bool_none (fin_bl I q (by simp))
    | bl j => cases ry; exact ne_bool (fin_bl I q (congrArg not dec_bl))
    | str j => obtain ⟨t', rfl⟩ := ry; exact PySem.EqMixed.ne_bool_str (fin_bl I q (by simp))
    | _ => exact absurd (show false = true from hs) Bool.false_ne_true
  | int i =>
    obtain ⟨t, rfl⟩ := rx
    cases y with
    | non => cases ry; exact PySem.EqNone.ne_int_none (fin_bl I q (by simp))
    | int j => obtain ⟨t', rfl⟩ := ry; exact ne_int (fin_bl I q (congrArg not dec_int))
    | str j => obtain ⟨t', rfl⟩ := ry; exact PySem.EqMixed.ne_int_str (fin_bl I q (by simp))
    | _ => exact absurd (show false = true from hs) Bool.false_ne_true
  | str i =>
    obtain ⟨t, rfl⟩ := rx
    cases y with
    | non => cases ry; exact PySem.EqNone.ne_str_none (fin_bl I q (by simp))
    | bl j => cases ry; exact PySem.EqMixed.ne_str_bool (fin_bl I q (by simp))
    | int j => obtain ⟨t', rfl⟩ := ry; exact PySem.EqMixed.ne_str_int (fin_bl I q (by simp))
    | str j => obtain ⟨t', rfl⟩ := ry; exact ne_str (fin_bl I q (congrArg not dec_str))
    | _ => exact absurd (show false = true from hs) Bool.false_ne_true
  | byt i =>
    obtain ⟨t, rfl⟩ := rx
    cases y with
    | byt j => obtain ⟨t', rfl⟩ := ry; exact PySem.W.ne_bytes (fin_bl I q (congrArg not dec_byt))
    | _ => exact absurd (show false = true from hs) Bool.false_ne_true
  | _ => cases y <;> exact absurd (show false = true from hs) Bool.false_ne_true
theorem op_lt : OpR X (compareOp .Lt) (rI0 fun i j => .bl (decide (i < j))) := opB0 fun _ _ _ _ _ _ _ q => lt_int q
theorem op_le : OpR X (compareOp .LtE) (rI0 fun i j => .bl (decide (i ≤ j))) := opB0 fun _ _ _ _ _ _ _ q => le_int q
theorem op_gt : OpR X (compareOp .Gt) (rI0 fun i j => .bl (decide (j < i))) := opB0 fun _ _ _ _ _ _ _ q => gt_int q
theorem op_in_str : OpR X (compareOp .In) (fun x y H Q => ∃ i j, x = .str i ∧ y = .str j ∧ Q (.bl (!(Builtin.Str.occurrences j i 0 j.length 1).isEmpty)) H) := by
  intro pins s σ H x y v u Q I rx ry h
  obtain ⟨i, j, rfl, rfl, q⟩ := h
  obtain ⟨t, rfl⟩ := rx
  obtain ⟨t', rfl⟩ := ry
  exact in_str (fin_bl I q rfl)
theorem op_isN : OpR X (compareOp .Is) (fun x y H Q => y = .non ∧ Q (.bl (decide (x = .non))) H) := by
  intro pins s σ H x y v u Q I rx ry h
  obtain ⟨rfl, q⟩ := h
  cases ry
  refine is_none_gen (fin_bl I q ?_)
  cases x <;> first
    | (cases rx; rfl)
    | (obtain ⟨t, rfl⟩ := rx; rfl)
theorem nomark (b : Expr) {op : CmpOp} (h : op ≠ .In := by decide) (h2 : op ≠ .NotIn := by decide) : behindInMarks op b = false := by
  have e1 : (op == CmpOp.In) = false := by cases op <;> first | rfl | exact absurd rfl h
  have e2 : (op == CmpOp.NotIn) = false := by cases op <;> first | rfl | exact absurd rfl h2
  cases b <;> simp [behindInMarks, e1, e2]
theorem pe_cmpR {op : CmpOp} {r : R2} (ho : OpR X (compareOp op) r) (ha : PE X a ta) (hb : PE X b tb) (hm : behindInMarks op b = false) : PE X (.Compare a [op] [b] pos) (tOp r ta tb) := by
  intro pins s σ H Q I h
  exact wpAny_Compare1 (binT ha hb I h fun v u s2 x y H2 I2 rx ry q => ho pins s2 σ H2 x y v u Q I2 rx ry q) hm
def tTest (t : TE) : TT := fun σ H Q => t σ H fun x H' => ∃ k, x = .bl k ∧ Q k H'
theorem pt_cmpR {op : CmpOp} {r : R2} (ho : OpR X (compareOp op) r) (ha : PE X a ta) (hb : PE X b tb) (hm : behindInMarks op b = false) : PT X (.Compare a [op] [b] pos) (tTest (tOp r ta tb)) := by
  intro pins s σ H Q I h
  refine wpAny_isTrue_Compare1 (thn (ha pins s σ H _ I h) fun v s1 ⟨x, H1, I1, r1, q1⟩ => thn (hb pins s1 σ H1 _ I1 q1) fun u s2 ⟨y, H2, I2, r2, q2⟩ =>
    thn (ho pins s2 σ H2 x y v u _ I2 r1 r2 q2) fun c s3 ⟨z, H3, I3, r3, k, e, q3⟩ => ?_) hm
  subst e
  cases r3
  exact wpAny_truthy_bool ⟨H3, I3, q3⟩
def tChain (r r' : R2) (ta tb tc : TE) : TE := fun σ H Q => ta σ H fun x H1 => tb σ H1 fun y H2 => r x y H2 fun z H3 => ∃ k, z = .bl k ∧
  (if k = true then tc σ H3 fun w' H4 => r' y w' H4 Q else Q (.bl false) H3)
theorem pt_chain {op op' : CmpOp} {r r' : R2} (ho : OpR X (compareOp op) r) (ho' : OpR X (compareOp op') r') (ha : PE X a ta) (hb : PE X b tb) (hc : PE X c tc)
    (hm : lastMarks [op, op'] [b, c] = false := by with_unfolding_all rfl) : PT X (.Compare a [op, op'] [b, c] pos) (tTest (tChain r r' ta tb tc)) := by
  intro pins s σ H Q I h
  refine isTrue_chain (thn (ha pins s σ H _ I h) fun v s1 ⟨x, H1, I1, r1, q1⟩ => test_link (thn (hb pins s1 σ H1 _ I1 q1) fun u s2 ⟨y, H2, I2, r2, q2⟩ =>
    thn (ho pins s2 σ H2 x y v u _ I2 r1 r2 q2) fun d s3 ⟨z, H3, I3, r3, k, e, q3⟩ => ?_)) hm
  subst e
  cases r3
  refine wpAny_truthy_bool ?_
  cases k with
  | false =>
    obtain ⟨k', e', q'⟩ := q3
    cases e'
    exact ite_ff ⟨H3, I3, q'⟩
  | true =>
    refine ite_tt (test_last (thn (hc pins s3 σ H3 _ I3 q3) fun w' s4 ⟨z', H4, I4, r4, q4⟩ => thn (ho' pins s4 σ H4 y z' u w' _ I4 r2 r4 q4) fun d' s5 ⟨z2, H5, I5, r5, k2, e2, q5⟩ => ?_))
    subst e2
    cases r5
    exact wpAny_truthy_bool ⟨H5, I5, q5⟩
theorem line63 : (sizeLine : Nat) < 2 ^ 63 := by rw [sizeLine_eq]; decide
theorem op_add_str : OpR X (binaryOp .Add) (fun x y H Q => ∃ i j, x = .str i ∧ y = .str j ∧ i.length + j.length ≤ sizeLine ∧ Q (.str (i ++ j)) H) := by
  intro pins s σ H x y v u Q I rx ry h
  obtain ⟨i, j, rfl, rfl, hz, q⟩ := h
  obtain ⟨t, rfl⟩ := rx
  obtain ⟨t', rfl⟩ := ry
  exact add_str (fun t' tk => ⟨.str (i ++ j), H, I.tok _, ⟨_, rfl⟩, q⟩) hz
theorem vals1 {x : V} {us : List Value} (r : Vals [x] us) : ∃ u, us = [u] ∧ RelV x u := by
  cases r with
  | cons r1 r2 => cases r2; exact ⟨_, rfl, r1⟩
theorem vals2 {x y : V} {us : List Value} (r : Vals [x, y] us) : ∃ u w', us = [u, w'] ∧ RelV x u ∧ RelV y w' := by
  cases r with
  | cons r1 r2 =>
    cases r2 with
    | cons r3 r4 => cases r4; exact ⟨_, _, rfl, r1, r3⟩
theorem call_int1 : CallR X (.type "int") (fun xs H Q => (∃ i, xs = [.int i] ∧ Q (.int i) H) ∨ ∃ k, xs = [.bl k] ∧ Q (.int (if k then 1 else 0)) H) := by
  intro pins s σ H xs us Q I r h
  rcases h with ⟨i, rfl, q⟩ | ⟨k, rfl, q⟩
  · obtain ⟨u, rfl, t, rfl⟩ := vals1 r
    exact call_int_int ⟨.int i, H, I, ⟨_, rfl⟩, q⟩
  · obtain ⟨u, rfl, r1⟩ := vals1 r
    cases r1
    exact call_int_bool ⟨.int (if k then 1 else 0), H, I.tok _, ⟨_, rfl⟩, q⟩
theorem call_str_int : CallR X (.type "str") (fun xs H Q => ∃ i, xs = [.int i] ∧ i.natAbs.log2 < 1920 ∧ Q (.str (toString i)) H) := by
  intro pins s σ H xs us Q I r h
  obtain ⟨i, rfl, hz, q⟩ := h
  obtain ⟨u, rfl, t, rfl⟩ := vals1 r
  exact PySem.P.str_of_int hz ⟨.str _, H, I.tok _, ⟨_, rfl⟩, q⟩
end
end L2
namespace L2
open PySem PySem.Spec PyProof.Rows
structure ObjM (h : Heap) (x dx C : Addr) (mA : Str → Option Value) : Prop where
  obj : h.get? x = some (PySem.W.instObj C dx)
  ns : h.Ns1 dx mA
  ne : dx ≠ x
theorem lookIn_ns {h : Heap} {dx : Addr} {mA : Str → Option Value} (n : h.Ns1 dx mA) : ∃ od, h.get? dx = some od ∧ ∀ name, PySem.W.lookIn name od = some (mA name) := by
  obtain ⟨o, es, ep, ho, hd, hk, _, hm⟩ := n
  refine ⟨o, ho, fun name => ?_⟩
  have e := hm name
  unfold nsFind findBy at e
  rw [← Array.find?_toList] at e
  unfold PySem.W.lookIn
  rw [hd]
  dsimp only
  split
  · rename_i y q
    rw [q] at e
    exact congrArg some e
  · rename_i q
    rw [q] at e
    have a : es.toList.any (·.refKey) = false := by
      rw [List.any_eq_false]
      intro y hy
      obtain ⟨z, t, hkey⟩ := hk y (Array.mem_toList_iff.mp hy)
      simp [DictEntry.refKey, hkey]
    have a' : ¬ es.toList.any (·.refKey) = true := by rw [a]; exact Bool.false_ne_true
    rw [if_neg a']
    exact congrArg some e
theorem ObjM.look {h : Heap} {x dx C : Addr} {mA : Str → Option Value} (I : ObjM h x dx C mA) : ∃ od, PySem.W.InstAt h x (PySem.W.instObj C dx) C (some od) ∧ ∀ name, PySem.W.lookIn name od = some (mA name) :=
  let ⟨od, ho, hl⟩ := lookIn_ns I.ns
  ⟨od, ⟨I.obj, rfl, rfl, ho⟩, hl⟩
section
variable {prog : Program} {w : World} {A : Around} {E : Value → Shared → Prop} {s : Shared} {K : PySem.W.Frag} {x dx C f : Addr} {mA : Str → Option Value} {name : Str} {v : Value}
theorem get_map {expr : Bool} {Q : Value → Shared → Prop} (X : K.In s.heap) (I : ObjM s.heap x dx C mA) (hg : PySem.W.plainGet K C name = true) (hh : PySem.W.hasDictIn K C = true)
    (ha : PySem.W.findIn K (.ref C) name = some none) (hv : mA name = some v) (hv' : PySem.W.handedIn v = true) (h : Q v { s with toks := s.toks + 1 }) :
    wpAny (model prog w) A (getAttr (.ref x) name expr) Q E s := by
  obtain ⟨od, J, hl⟩ := I.look
  exact PySem.W.get_value X J (PySem.W.plainGet_of hg).1 (PySem.W.findObj_own hh ha rfl (by rw [hl, hv])) hv' h
theorem get_meth {pl : Sem Bool} {Q : Value × List Value → Shared → Prop} (X : K.In s.heap) (I : ObjM s.heap x dx C mA) (hg : PySem.W.plainGet K C name = true)
    (hf : PySem.W.findIn K (.ref C) name = some (some (.ref f))) (ht : PySem.W.isFn K (.ref f) = true) (hv : mA name = none) (h : Q (.ref f, [.ref x]) s) :
    wpAny (model prog w) A (getMethod (.ref x) name pl) Q E s := by
  obtain ⟨od, J, hl⟩ := I.look
  exact PySem.W.method_fn X J (PySem.W.plainGet_of hg).1 (PySem.W.plainGet_of hg).2 hf (beq_iff_eq.mp ht) (by show (PySem.W.lookIn name od).map (·.isSome) = some false; rw [hl, hv]; rfl) h
theorem set_map {ns : List Str} {Q : Unit → Shared → Prop} (X : K.In s.heap) (I : ObjM s.heap x dx C mA)
    (hs : PySem.W.findIn K (.ref C) "__setattr__" = some (some (.builtin "object.__setattr__"))) (hp : PySem.W.plainOver K C = true) (ht : PySem.W.takerIn K C name = some none) (hh : PySem.W.hasDictIn K C = true)
    (hw : PySem.Within mA ns) (hsz : ns.length ≤ sizeLine)
    (h : ∀ h', ObjM h' x dx C (fun y => if y = name then some v else mA y) → Heap.SameBut dx s.heap h' → Q () { s with heap := h', toks := s.toks + 2 }) :
    wpAny (model prog w) A (setAttr (.ref x) name v) Q E s := by
  obtain ⟨od, J, hl⟩ := I.look
  refine PySem.W.set_plain X J hs (PySem.W.osa_open (s := { s with toks := s.toks + 1 }) (r := none) X J hp ht fun b => ?_)
  obtain ⟨cd, hc, hd'⟩ := PySem.W.any_some hh
  have hx : s.heap.get? x = some ⟨.ref C, some dx, .plain, #[]⟩ := I.obj
  refine wpAny_bind (wpAny_pure (wpAny_bind (wpAny_bind (wpAny_loadPart hx (wpAny_bind (PySem.W.Looks.here (s := { s with toks := s.toks + 1 }) (PySem.W.looks_clsIn X hc) ?_))))))
  rw [hd']
  refine wpAny_pure (a := some dx) (wpAny_bind (wpAny_pure (wpAny_bind ?_)))
  refine wpAny_nsSet1 (s := { s with toks := s.toks + 1 }) I.ns fun h' hn2 hs2 => ?_
  obtain ⟨oD, esD, epD, hoD, hdD, hcD⟩ := hn2.count (PySem.Within.cons name v hw)
  refine wpAny_bind (wpAny_lookBehind hoD (by rw [hdD]; exact pastItsLine_dict (Nat.le_trans hcD (by rw [List.length_cons]; omega))) ?_)
  exact wpAny_pure (h _ ⟨(hs2.2 _ (Ne.symm I.ne)).trans I.obj, hn2, I.ne⟩ hs2)
theorem make_map {R : Result → Shared → Prop} {vs : List Value} {kw : List (Str × Value)} (X : K.In s.heap) (hm : PySem.W.makesIn K C = true)
    (hi : PySem.W.findIn K (.ref C) "__init__" = some (some (.ref f))) (hf : PySem.W.typeIn K (.ref f) = some (.type "function"))
    (h : codeAny (model prog w) (A.under (.builtin "type.__call__" ⟨.ref C :: vs, kw⟩)) (.call (.ref f) ⟨.ref (s.heap.objs.size + 1) :: vs, kw⟩) (PySem.W.InitBack (s.heap.objs.size + 1) R)
      { s with heap := (s.heap.push PySem.W.emptyDict).push (PySem.W.instObj C s.heap.objs.size) }) :
    codeAny (model prog w) A (.call (.ref C) ⟨vs, kw⟩) R s := by
  obtain ⟨hh, g, d, t, os⟩ := s
  exact PySem.W.make_core (PySem.W.makes_of X hm) (PySem.W.looks_findIn X hi) (fun self => PySem.W.bind_fn X self hf) (.inl rfl) h
end
def putF (f : Str) (v : V) : List (Str × V) → List (Str × V)
  | [] => [(f, v)]
  | (g, x) :: r => if g = f then (g, v) :: r else (g, x) :: putF f v r
theorem lookup_putF (f g : Str) (v : V) : ∀ fs : List (Str × V), (putF f v fs).lookup g = if g = f then some v else fs.lookup g
  | [] => by
    show List.lookup g [(f, v)] = _
    by_cases h : g = f
    · have hb : (g == f) = true := beq_iff_eq.mpr h
      simp only [List.lookup, hb, if_pos h]
    · have hb : (g == f) = false := beq_eq_false_iff_ne.mpr h
      simp only [List.lookup, hb, if_neg h]
  | (k, x) :: r => by
    have ih := lookup_putF f g v r
    rw [show putF f v ((k, x) :: r) = (if k = f then (k, v) :: r else (k, x) :: putF f v r) from rfl]
    by_cases hk : k = f
    · rw [if_pos hk]
      by_cases h : g = k
      · have hb : (g == k) = true := beq_iff_eq.mpr h
        simp only [List.lookup, hb, if_pos (h.trans hk)]
      · have hb : (g == k) = false := beq_eq_false_iff_ne.mpr h
        simp only [List.lookup, hb, if_neg (fun e : g = f => h (e.trans hk.symm))]
    · rw [if_neg hk]
      by_cases h : g = k
      · have hb : (g == k) = true := beq_iff_eq.mpr h
        simp only [List.lookup, hb, if_neg (fun e : g = f => hk (h.symm.trans e))]
      · have hb : (g == k) = false := beq_eq_false_iff_ne.mpr h
        simp only [List.lookup, hb]
        exact ih
theorem keys_putF (f : Str) (v : V) : ∀ fs : List (Str × V), f ∈ (putF f v fs).map (·.1) ∧ ∀ g, g ∈ fs.map (·.1) → g ∈ (putF f v fs).map (·.1)
  | [] => ⟨by simp [putF], fun g h => by simp at h⟩
  | (k, x) :: r => by
    obtain ⟨i1, i2⟩ := keys_putF f v r
    rw [show putF f v ((k, x) :: r) = (if k = f then (k, v) :: r else (k, x) :: putF f v r) from rfl]
    by_cases hk : k = f
    · rw [if_pos hk]
      subst hk
      exact ⟨by simp, fun g h => by simpa using h⟩
    · rw [if_neg hk]
      refine ⟨?_, fun g h => ?_⟩
      · rw [List.map_cons]
        exact List.mem_cons_of_mem _ i1
      · rw [List.map_cons] at h ⊢
        rcases List.mem_cons.mp h with e | e
        · exact List.mem_cons.mpr (.inl e)
        · exact List.mem_cons_of_mem _ (i2 g e)
theorem length_putF (f : Str) (v : V) : ∀ fs : List (Str × V), (putF f v fs).length ≤ fs.length + 1
  | [] => by simp [putF]
  | (k, x) :: r => by
    have ih := length_putF f v r
    rw [show putF f v ((k, x) :: r) = (if k = f then (k, v) :: r else (k, x) :: putF f v r) from rfl]
    by_cases hk : k = f
    · rw [if_pos hk, List.length_cons, List.length_cons]; omega
    · rw [if_neg hk, List.length_cons, List.length_cons]; omega
theorem RelO.some_of {v : V} {o : Option Value} (r : RelO (some v) o) : ∃ u, o = some u ∧ RelV v u := by
  cases o with
  | none => exact (show False from r).elim
  | some u => exact ⟨u, rfl, r⟩
theorem RelO.none_of {o : Option Value} (r : RelO none o) : o = none := by
  cases o with
  | none => rfl
  | some u => exact (show False from r).elim
theorem handed_of {v : V} {u : Value} (r : RelV v u) : PySem.W.handedIn u = true := by
  cases v with
  | non => cases (show u = Value.none from r); rfl
  | bl b => cases (show u = Value.bool b from r); rfl
  | int i => obtain ⟨t, e⟩ := (show ∃ t, u = Value.int i t from r); cases e; rfl
  | str x => obtain ⟨t, e⟩ := (show ∃ t, u = Value.str x t from r); cases e; rfl
  | byt b => obtain ⟨t, e⟩ := (show ∃ t, u = Value.bytes b t from r); cases e; rfl
  | flt b => obtain ⟨t, e⟩ := (show ∃ t, u = Value.float b t from r); cases e; rfl
  | ref a => cases (show u = Value.ref a from r); rfl
  | ty n => cases (show u = Value.type n from r); rfl
section
variable {P : Program} {w : World} {H H' : Hp} {h h' : Heap} {a C dx : Addr} {fs fs' : List (Str × V)}
theorem ins_get (hok : HOk P w H h) (e : H a = some (.ins C dx fs)) : ∃ mA, ObjM h a dx C mA ∧ (∀ f, RelO (fs.lookup f) (mA f)) ∧ PySem.Within mA (fs.map (·.1)) ∧ fs.length ≤ 1000 ∧ H dx = some (.own a) := by
  obtain ⟨d, z, ne, ob, mA, n, r, q⟩ := (show ObjOk P w H h a (.ins C dx fs) from hok a _ e)
  exact ⟨mA, ⟨ob, n, ne⟩, r, q, z, d⟩
end
structure Cls (K : PySem.W.Frag) (C : Addr) : Prop where
  pg : PySem.W.plainGet K C Str.empty = true
  hd : PySem.W.hasDictIn K C = true
  po : PySem.W.plainOver K C = true
  sa : PySem.W.findIn K (.ref C) "__setattr__" = some (some (.builtin "object.__setattr__"))
theorem Cls.get {K : PySem.W.Frag} {C : Addr} (c : Cls K C) (f : Str) : PySem.W.plainGet K C f = true := c.pg
def NoAttr (K : PySem.W.Frag) (C : Addr) (f : Str) : Prop := PySem.W.findIn K (.ref C) f = some none
theorem NoAttr.taker {K : PySem.W.Frag} {C : Addr} {f : Str} (n : NoAttr K C f) : PySem.W.takerIn K C f = some none := by
  unfold PySem.W.takerIn
  rw [show PySem.W.findIn K (.ref C) f = some none from n]
  rfl
structure Meth (K : PySem.W.Frag) (C : Addr) (m : Str) (f : Addr) : Prop where
  at_ : PySem.W.findIn K (.ref C) m = some (some (.ref f))
  fn : PySem.W.isFn K (.ref f) = true
  kp : PySem.W.keepIn K (.ref f) = true
section
variable {X : Cx} {pins : List (Addr × Obj)} {σ : St} {H : Hp} {s : Shared} {a C dx : Addr} {fs : List (Str × V)} {f : Str} {v : V} {A : Around} {E : Value → Shared → Prop}
theorem getattr_ok {b : Bool} {Q : Value → Shared → Prop} (I : Inv X pins σ H s) (e : H a = some (.ins C dx fs)) (c : Cls X.K C) (n : NoAttr X.K C f) (l : fs.lookup f = some v)
    (h : ∀ u s', Inv X pins σ H s' → RelV v u → Q u s') : wpAny (model X.prog X.w) A (getAttr (.ref a) f b) Q E s := by
  obtain ⟨mA, O, r, _, _, _⟩ := ins_get I.hok e
  obtain ⟨u, hu, ru⟩ := RelO.some_of (v := v) (o := mA f) (by rw [← l]; exact r f)
  exact get_map I.kIn O (c.get f) c.hd n hu (handed_of ru) (h u _ (I.tok _) ru)
theorem getmeth_ok {m : Str} {g : Addr} {pl : Sem Bool} {Q : Value × List Value → Shared → Prop} (I : Inv X pins σ H s) (e : H a = some (.ins C dx fs)) (c : Cls X.K C) (k : Meth X.K C m g) (l : fs.lookup m = none)
    (h : Q (.ref g, [.ref a]) s) : wpAny (model X.prog X.w) A (getMethod (.ref a) m pl) Q E s := by
  obtain ⟨mA, O, r, _, _, _⟩ := ins_get I.hok e
  have hn : mA m = none := RelO.none_of (by rw [← l]; exact r m)
  exact get_meth I.kIn O (c.get m) k.at_ k.fn hn h
theorem setattr_ok {y : V} {u : Value} {Q : Unit → Shared → Prop} (I : Inv X pins σ H s) (e : H a = some (.ins C dx fs)) (c : Cls X.K C) (n : NoAttr X.K C f) (hl : fs.length < 1000) (ry : RelV y u)
    (h : ∀ s', Inv X pins σ (upd H a (.ins C dx (putF f y fs))) s' → Q () s') : wpAny (model X.prog X.w) A (setAttr (.ref a) f u) Q E s := by
  obtain ⟨mA, O, r, wi, _, ho⟩ := ins_get I.hok e
  have hz : (fs.map (·.1)).length ≤ sizeLine := by rw [List.length_map, sizeLine_eq]; omega
  refine set_map I.kIn O c.sa c.po n.taker c.hd wi hz fun h' O' sb => h _ ?_
  have hd : ∃ o, h'.get? dx = some o := let ⟨o, _, _, e', _⟩ := O'.ns; ⟨o, e'⟩
  refine I.write (x := a) (e := dx) (by rw [e]; exact True.intro) (.inr ho) (fun b q hb z => (sb.2 b hb).trans z) hd ?_
  refine ⟨by rw [upd_ne O.ne]; exact ho, ?_, O.ne, O'.obj, _, O'.ns, fun g => ?_, fun g hg => ?_⟩
  · have := length_putF f y fs; omega
  · show RelO ((putF f y fs).lookup g) (if g = f then some u else mA g)
    rw [lookup_putF]
    by_cases q : g = f
    · rw [if_pos q, if_pos q]; exact ry
    · rw [if_neg q, if_neg q]; exact r g
  · by_cases q : g = f
    · rw [q]; exact (keys_putF f y fs).1
    · refine (keys_putF f y fs).2 g (wi g fun z => hg ?_)
      show (if g = f then some u else mA g) = none
      rw [if_neg q]; exact z
theorem Inv.made (I : Inv X pins σ H s) : Inv X pins σ (upd (upd H s.heap.objs.size (.own (s.heap.objs.size + 1))) (s.heap.objs.size + 1) (.ins C s.heap.objs.size []))
    { s with heap := (s.heap.push PySem.W.emptyDict).push (PySem.W.instObj C s.heap.objs.size) } := by
  have e1 : (s.heap.push PySem.W.emptyDict).get? s.heap.objs.size = some PySem.W.emptyDict := Heap.get?_push_size s.heap rfl
  have e2 : ((s.heap.push PySem.W.emptyDict).push (PySem.W.instObj C s.heap.objs.size)).get? (s.heap.objs.size + 1) = some (PySem.W.instObj C s.heap.objs.size) := by
    have := Heap.get?_push_size (s.heap.push PySem.W.emptyDict) (o := PySem.W.instObj C s.heap.objs.size) rfl
    rwa [Heap.size_push] at this
  have e3 : (s.heap.push PySem.W.emptyDict).Ns s.heap.objs.size (fun _ => none) := ⟨PySem.W.emptyDict, #[], _, e1, rfl, (fun e he => absurd he (by simp)), fun _ => rfl⟩
  have I1 := I.laid (a := s.heap.objs.size) (o := .own (s.heap.objs.size + 1)) (h' := s.heap.push PySem.W.emptyDict) (t' := s.toks) (fun b u q => Heap.get?_push_of_some _ q) (Nat.le_refl _) ⟨_, e1⟩
  refine I1.laid (a := s.heap.objs.size + 1) (o := .ins C s.heap.objs.size []) (t' := s.toks) (fun b u q => Heap.get?_push_of_some _ q) (Nat.le_of_eq (Heap.size_push _ _)) ?_
  have ne : s.heap.objs.size ≠ s.heap.objs.size + 1 := Nat.ne_of_lt (Nat.lt_succ_self _)
  refine ⟨by rw [upd_ne ne, upd_same], Nat.zero_le _, ne, e2, fun _ => none, (Heap.Ns1.of_empty e3).at fun o q => Heap.get?_push_of_some _ q, fun _ => True.intro, fun y hy => absurd rfl hy⟩
theorem attr_of {prog : Program} {w : World} {env : Env} {e : Expr} {f : Str} {pos : Pos} {s : Shared} {Q : Value → Shared → Prop} (hb : attributeBase e f env (eval e env) = eval e env)
    (h : wpAny (model prog w) A (eval e env) (fun o s₁ => wpAny (model prog w) A (getAttr o f true) Q E s₁) E s) : wpAny (model prog w) A (eval (.Attribute e f pos) env) Q E s :=
  Attribute_any_ h (by rw [arm_eval_Attribute, hb])
end
def tFld (K : PySem.W.Frag) (ta : TE) (f : Str) : TE := fun σ H Q => ta σ H fun x H1 => ∃ a C dx fs v, x = .ref a ∧ H1 a = some (.ins C dx fs) ∧ Cls K C ∧ NoAttr K C f ∧ fs.lookup f = some v ∧ Q v H1
def sFld (K : PySem.W.Frag) (ta tv : TE) (f : Str) : TS := fun D σ H => tv σ H fun y H1 => ta σ H1 fun x H2 => ∃ a C dx fs, x = .ref a ∧ H2 a = some (.ins C dx fs) ∧ Cls K C ∧ NoAttr K C f ∧ fs.length < 1000 ∧
  D.nx σ (upd H2 a (.ins C dx (putF f y fs)))
def InOp (X : Cx) (op : Operator) (rd : V → V → Hp → VK → Prop) : Prop :=
  ∀ (pins : List (Addr × Obj)) (s : Shared) (σ : St) (H : Hp) (x y : V) (u v : Value) (Q : VK), Inv X pins σ H s → RelV x u → RelV y v → rd x y H Q → wpAny (model X.prog X.w) X.A (inplaceOp op u v) (EP X pins σ Q) X.xe s
def sFldAug (K : PySem.W.Frag) (ta tv : TE) (rd : V → V → Hp → VK → Prop) (f : Str) : TS := fun D σ H => ta σ H fun x H1 => ∃ a C dx fs v, x = .ref a ∧ H1 a = some (.ins C dx fs) ∧ Cls K C ∧ NoAttr K C f ∧ fs.lookup f = some v ∧
  tv σ H1 fun y H2 => rd v y H2 fun z H3 => ∃ dx' fs', H3 a = some (.ins C dx' fs') ∧ fs'.length < 1000 ∧ D.nx σ (upd H3 a (.ins C dx' (putF f z fs')))
section
variable {X : Cx} {o e value : Expr} {f : Str} {pos pos' tpos : Pos} {ta tv : TE}
theorem pe_fld (he : PE X e ta) (hb : attributeBase e f X.env (eval e X.env) = eval e X.env) : PE X (.Attribute e f pos) (tFld X.K ta f) := by
  intro pins s σ H Q I h
  refine attr_of hb (thn (he pins s σ H _ I h) fun u s1 ⟨x, H1, I1, rx, a, C, dx, fs, v, ex, ea, c, n, l, q⟩ => ?_)
  subst ex
  obtain rfl : u = Value.ref a := rx
  exact getattr_ok I1 ea c n l fun u' s2 I2 ru => ⟨v, H1, I2, ru, q⟩
theorem ps_fld (ha : PE X o ta) (hv : PE X value tv) (hs : swapsWith value (some (.Attribute o f pos')) pos.line X.env = pure false) : PS X (.Assign [.Attribute o f pos'] value pos) (sFld X.K ta tv f) := by
  intro pins s σ H D I h
  refine plainObj_wpAny_Assign_Attribute (thn (hv pins s σ H _ I h) fun u s1 ⟨y, H1, I1, ry, q⟩ => thn (ha pins s1 σ H1 _ I1 q) fun ov s2 ⟨x, H2, I2, rx, a, C, dx, fs, ex, ea, c, n, l, q2⟩ => ?_) hs
  subst ex
  obtain rfl : ov = Value.ref a := rx
  exact setattr_ok I2 ea c n l ry fun s3 I3 => ⟨σ, _, I3, q2⟩
theorem ps_fldaug {op : Operator} {rd : V → V → Hp → VK → Prop} (ha : PE X o ta) (hv : PE X value tv) (hop : InOp X op rd) : PS X (.AugAssign (.Attribute o f tpos) op value pos) (sFldAug X.K ta tv rd f) := by
  intro pins s σ H D I h
  refine wpAny_AugAssign_AttributeAny (thn (ha pins s σ H _ I h) fun ov s1 ⟨x, H1, I1, rx, a, C, dx, fs, v, ex, ea, c, n, l, q⟩ => ?_)
  subst ex
  obtain rfl : ov = Value.ref a := rx
  refine getattr_ok I1 ea c n l fun u s2 I2 ru => thn (hv pins s2 σ H1 _ I2 q) fun w3 s3 ⟨y, H2, I3, ry, q3⟩ => thn (hop pins s3 σ H2 v y u w3 _ I3 ru ry q3) fun w4 s4 ⟨z, H3, I4, rz, dx', fs', ea', l', q4⟩ => ?_
  exact setattr_ok I4 ea' c n l' rz fun s5 I5 => ⟨σ, _, I5, q4⟩
def rAdd : V → V → Hp → VK → Prop := fun x y H Q => ∃ i j, x = .int i ∧ y = .int j ∧ Q (.int (i + j)) H
theorem in_add : InOp X .Add rAdd := by
  rintro pins s σ H x y u v Q I rx ry ⟨i, j, rfl, rfl, q⟩
  obtain ⟨t, rfl⟩ := (show ∃ t, u = Value.int i t from rx)
  obtain ⟨t', rfl⟩ := (show ∃ t', v = Value.int j t' from ry)
  exact PyProof.Rows.iadd_int ⟨.int (i + j), H, I.tok _, ⟨_, rfl⟩, q⟩
end
section
variable {X : Cx} {pins : List (Addr × Obj)} {σ : St} {H : Hp} {s : Shared} {A : Around} {E : Value → Shared → Prop} {Q : Value → Shared → Prop} {c : Value} {b : Bool}
inductive TyOf (K : PySem.W.Frag) (H : Hp) : V → Value → Prop where
  | non : TyOf K H .non (.type "NoneType")
  | bl (x : Bool) : TyOf K H (.bl x) (.type "bool")
  | int (i : Int) : TyOf K H (.int i) (.type "int")
  | str (x : Str) : TyOf K H (.str x) (.type "str")
  | flt (x : UInt64) : TyOf K H (.flt x) (.type "float")
  | lst {a : Addr} {xs : List V} (e : H a = some (.lst xs)) : TyOf K H (.ref a) (.type "list")
  | frz {a : Addr} {o : Obj} {xs : List V} (e : H a = some (.frz o (.lst xs))) : TyOf K H (.ref a) (.type "list")
  | tup {a : Addr} {xs : List V} (e : H a = some (.tup xs)) : TyOf K H (.ref a) (.type "tuple")
  | dK {a : Addr} {kvs : List (Key × V)} (e : H a = some (.dK kvs)) : TyOf K H (.ref a) (.type "dict")
  | dT {a : Addr} {kvs : List (List Key × V)} (e : H a = some (.dT kvs)) : TyOf K H (.ref a) (.type "dict")
  | ins {a C dx : Addr} {fs : List (Str × V)} (e : H a = some (.ins C dx fs)) (cl : Cls K C) (ha : PySem.W.findIn K (.ref C) "__class__" = some (some (.builtin "object.__class__")))
      (hn : PySem.W.specialIn K (.builtin "object.__class__") "__get__" = some (some (.builtin "getset_descriptor.__get__"))) (htk : PySem.W.takesIn K (.builtin "object.__class__") = some true)
      (hm : PySem.W.mroIn K C (.type "object") = some true) : TyOf K H (.ref a) (.ref C)
theorem isinst_ok {x : V} {u t : Value} (I : Inv X pins σ H s) (rx : RelV x u) (ty : TyOf X.K H x t) (e : PySem.W.kitOne X.K t c = some b) (h : ∀ tk, Q (.bool b) { s with toks := tk }) :
    wpAny (model X.prog X.w) A (call (.builtin "isinstance") [u, c]) Q E s := by
  cases ty with
  | non => cases (show u = Value.none from rx); exact PySem.W.kia_one PySem.W.kitx_none I.kIn True.intro e (fun z => nomatch z) h
  | bl y => cases (show u = Value.bool y from rx); exact PySem.W.kia_one PySem.W.kitx_bool I.kIn True.intro e (fun z => nomatch z) h
  | int i => obtain ⟨t, q⟩ := (show ∃ t, u = Value.int i t from rx); cases q; exact PySem.W.kia_one PySem.W.kitx_int I.kIn True.intro e (fun z => nomatch z) h
  | str y => obtain ⟨t, q⟩ := (show ∃ t, u = Value.str y t from rx); cases q; exact PySem.W.kia_one PySem.W.kitx_str I.kIn True.intro e (fun z => nomatch z) h
  | flt y => obtain ⟨t, q⟩ := (show ∃ t, u = Value.float y t from rx); cases q; exact PySem.W.kia_one PySem.W.kitx_float I.kIn True.intro e (fun z => nomatch z) h
  | @lst a xs ea =>
    cases (show u = Value.ref a from rx)
    obtain ⟨_, _, n, _, h1⟩ := (show ObjOk X.prog X.w H s.heap a (.lst xs) from I.hok a _ ea)
    exact PySem.W.kia_one PySem.W.kitx_list I.kIn ⟨_, h1, rfl⟩ e (fun z => nomatch z) h
  | @frz a ob xs ea =>
    cases (show u = Value.ref a from rx)
    obtain ⟨_, _, _, n, _, h1⟩ := (show ObjOk X.prog X.w H s.heap a (.frz ob (.lst xs)) from I.hok a _ ea)
    exact PySem.W.kia_one PySem.W.kitx_list I.kIn ⟨_, h1, rfl⟩ e (fun z => nomatch z) h
  | @tup a xs ea =>
    cases (show u = Value.ref a from rx)
    obtain ⟨_, _, _, p⟩ := (show ObjOk X.prog X.w H s.heap a (.tup xs) from I.hok a _ ea)
    obtain ⟨o, h1, h2, _⟩ := p
    exact PySem.W.kia_one PySem.W.kitx_tuple I.kIn ⟨o, h1, h2⟩ e (fun z => nomatch z) h
  | @dK a kvs ea =>
    cases (show u = Value.ref a from rx)
    obtain ⟨_, _, vs, _, p⟩ := (show ObjOk X.prog X.w H s.heap a (.dK kvs) from I.hok a _ ea)
    obtain ⟨o, es, ep, h1, h2, _⟩ := p
    exact PySem.W.kia_one PySem.W.kitx_dict I.kIn ⟨o, h1, h2.1⟩ e (fun z => nomatch z) h
  | @dT a kvs ea =>
    cases (show u = Value.ref a from rx)
    obtain ⟨_, _, xs, _, o, es, ep, h1, h2, _⟩ := (show ObjOk X.prog X.w H s.heap a (.dT kvs) from I.hok a _ ea)
    exact PySem.W.kia_one PySem.W.kitx_dict I.kIn ⟨o, h1, h2.1⟩ e (fun z => nomatch z) h
  | @ins a C dx fs ea cl ha hn htk hm =>
    cases (show u = Value.ref a from rx)
    obtain ⟨mA, O, _⟩ := ins_get I.hok ea
    obtain ⟨od, J, _⟩ := O.look
    exact PySem.W.kia_one (PySem.W.kitx_own (cl.get _) cl.hd ha hn htk hm) I.kIn J e (fun z => nomatch z) h
end
end L2
namespace L2
open PySem PySem.Spec PyProof.Rows
structure Room (k : Nat) (A : Around) : Prop where
  hd : A.handled = none
  dp : A.depth + 3 * k + 5 < recursionLimit
  un : A.units + 16 * k + 200 < cLine
theorem Room.mono {j k : Nat} {A : Around} (r : Room k A) (h : j ≤ k) : Room j A := ⟨r.hd, by have := r.dp; omega, by have := r.un; omega⟩
theorem Room.deeper {k : Nat} {A : Around} (r : Room (k + 1) A) (env : Env) : Room k (A.deeper env) :=
  ⟨r.hd, by have := r.dp; show A.depth + 1 + 3 * k + 5 < _; omega, by have := r.un; show A.units + 3 + 16 * k + 200 < _; omega⟩
theorem make_depth {A : Around} {C : Addr} {us : List Value} {kw : List (Str × Value)} : (A.under (.builtin "type.__call__" ⟨.ref C :: us, kw⟩)).depth = A.depth + 1 := by
  first | rfl | simp [Around.under, Code.weight, Code.isCreation, Code.isGuard, Code.isCaller, Code.frames, Code.isFrame, guardIds]
theorem make_units {A : Around} {C : Addr} {us : List Value} {kw : List (Str × Value)} : (A.under (.builtin "type.__call__" ⟨.ref C :: us, kw⟩)).units = A.units + 1 := by
  first | rfl | simp [Around.under, Code.cUnits, Code.frames, Code.isFrame]
theorem Room.make {k : Nat} {A : Around} (r : Room (k + 1) A) (C : Addr) (us : List Value) (kw : List (Str × Value)) : Room k (A.under (.builtin "type.__call__" ⟨.ref C :: us, kw⟩)) :=
  ⟨r.hd, by have := r.dp; rw [make_depth]; omega, by have := r.un; rw [make_units]; omega⟩
theorem Room.depth {k : Nat} {A : Around} (r : Room k A) : A.depth < recursionLimit := by have := r.dp; omega
theorem Room.units {k : Nat} {A : Around} (r : Room k A) : A.units + 64 < cLine := by have := r.un; omega
def tNil : TA := fun _ H Q => Q [] H
def tCons (ta : TE) (tr : TA) : TA := fun σ H Q => ta σ H fun x H1 => tr σ H1 fun xs H2 => Q (x :: xs) H2
section
variable {X : Cx} {e : Expr} {es : List Expr} {te : TE} {t : TA} {pos : Pos}
theorem pa_nil : PA X [] tNil := fun _ _ _ _ H Q I h => Calls.spliced_nil ⟨[], H, I, .nil, h⟩
theorem pa_cons (ha : PE X e te) (hr : PA X es t) (hs : starEach (e :: es) X.env = (false, eval e X.env) :: starEach es X.env := by rfl) : PA X (e :: es) (tCons te t) := by
  intro pos pins s σ H Q I h
  rw [hs]
  show wpAny _ _ (spliced ((false, eval e X.env) :: backTo pos (starEach es X.env))) _ _ s
  refine Calls.spliced_cons (thn (ha pins s σ H _ I h) fun u s1 ⟨x, H1, I1, r1, q1⟩ => ?_)
  exact thn (hr pos pins s1 σ H1 _ I1 q1) fun us s2 ⟨xs, H2, I2, r2, q2⟩ => ⟨x :: xs, H2, I2, .cons r1 r2, q2⟩
def tTup (t : TA) : TE := fun σ H Q => t σ H fun xs H1 => xs.length ≤ sizeLine ∧ ∀ p, H1 p = none → Q (.ref p) (upd H1 p (.tup xs))
def tLst (t : TA) : TE := fun σ H Q => t σ H fun xs H1 => xs.length ≤ sizeLine ∧ ∀ p, H1 p = none → Q (.ref p) (upd H1 p (.lst xs))
theorem pe_tup {x1} (h : PA X es t) : PE X (.Tuple es x1 pos) (tTup t) := by
  intro pins s σ H Q I hq
  refine wpAny_Tuple_spliced (thn (h pos pins s σ H _ I hq) fun us s1 ⟨xs, H1, I1, r, z, q⟩ => ⟨by rw [← r.length]; exact z, ?_⟩)
  have hf : H1 s1.heap.objs.size = none := I1.hok.fresh (Nat.le_refl _)
  refine ⟨.ref s1.heap.objs.size, upd H1 s1.heap.objs.size (.tup xs), I1.laid (t' := s1.toks) (fun b u e => Heap.get?_push_of_some _ e) (Nat.le_refl _) ?_, rfl, q _ hf⟩
  exact ⟨z, us, r, ⟨_, Heap.get?_push_size _ rfl, rfl, _, rfl⟩⟩
theorem pe_lst (h : PA X es t) : PE X (.List es pos) (tLst t) := by
  intro pins s σ H Q I hq
  refine wpAny_List_spliced (thn (h pos pins s σ H _ I hq) fun us s1 ⟨xs, H1, I1, r, z, q⟩ => ⟨by rw [← r.length]; exact z, ?_⟩)
  have hf : H1 s1.heap.objs.size = none := I1.hok.fresh (Nat.le_refl _)
  refine ⟨.ref s1.heap.objs.size, upd H1 s1.heap.objs.size (.lst xs), I1.laid (t' := s1.toks) (fun b u e => Heap.get?_push_of_some _ e) (Nat.le_refl _) ?_, rfl, q _ hf⟩
  exact ⟨z, us, 0, r, Heap.get?_push_size _ rfl⟩
end
abbrev Sp := List V → Hp → VK → XK → Prop
abbrev CXT := List Env → Hp → Shared → XK → Value → Shared → Prop
structure Env0 (P : Program) (w : World) (K : PySem.W.Frag) (mg : Str → Option Value) (base : Heap) (A : Around) (outer : List Env) (s : Shared) (H : Hp) : Prop where
  frames : A.frames = some outer
  mod : Mod K mg base
  bs : ∀ b o, base.get? b = some o → s.heap.get? b = some o ∧ H b = none
  bsz : base.objs.size ≤ s.heap.objs.size
  funs : s.heap.FunFrames base outer
  frf : ∀ b ∈ frs outer, H b = none
  hok : HOk P w H s.heap
  bare : AllBare s.gens
def CE (outer : List Env) (P : Program) (w : World) (H : Hp) (s : Shared) (Q : VK) (u : Value) (s' : Shared) : Prop :=
  ∃ v H', s'.os = s.os ∧ AllBare s'.gens ∧ Un (frs outer) [] H H' s.heap s'.heap ∧ HOk P w H' s'.heap ∧ RelV v u ∧ Q v H'
def CR (CX : CXT) (outer : List Env) (P : Program) (w : World) (H : Hp) (s : Shared) (Q : VK) (E : XK) (r : Result) (s' : Shared) : Prop :=
  match r with
  | .ok (.ret u) => CE outer P w H s Q u s'
  | .ok _ => False
  | .error e => CX outer H s E e s'
structure FnOk (P : Program) (w : World) (K : PySem.W.Frag) (mg : Str → Option Value) (base : Heap) (CX : CXT) (k : Nat) (f : Addr) (fd : FuncData) (ps : List Str) (sp : Sp) : Prop where
  len : ∀ vs H Q E, sp vs H Q E → vs.length = ps.length
  run : ∀ (A : Around) (outer : List Env) (s : Shared) (H : Hp) (args : Args) (us : List Value) (vs : List V) (Q : VK) (E : XK), Room k A → Env0 P w K mg base A outer s H → BindsTo s fd args (ps.zip us) → Vals vs us → sp vs H Q E →
    codeAny (model P w) A (.call (.ref f) args) (CR CX outer P w H s Q E) s
theorem Env0.make {P : Program} {w : World} {K : PySem.W.Frag} {mg : Str → Option Value} {base : Heap} {A : Around} {outer : List Env} {s : Shared} {H : Hp} (e : Env0 P w K mg base A outer s H) (C : Addr) (us : List Value) (kw : List (Str × Value)) :
    Env0 P w K mg base (A.under (.builtin "type.__call__" ⟨.ref C :: us, kw⟩)) outer s H := ⟨by first | exact e.frames | (simpa [Around.under, Code.envs, Code.isFrame, pushEnvs] using e.frames), e.mod, e.bs, e.bsz, e.funs, e.frf, e.hok, e.bare⟩
section
variable {X : Cx} {pins : List (Addr × Obj)} {σ : St} {H : Hp} {s s' : Shared}
theorem Inv.env0 (I : Inv X pins σ H s) : Env0 X.prog X.w X.K X.mg X.base X.A X.stack s H :=
  ⟨I.ok.frames, I.ok.mod, I.bs, Nat.le_trans I.ok.bsz I.sz, I.stack, I.stkFree, I.hok, I.bare⟩
theorem Inv.after {Q : VK} {u : Value} (I : Inv X pins σ H s) (h : CE X.stack X.prog X.w H s Q u s') : EP X pins σ Q u s' := by
  obtain ⟨v, H', os, bare, un, hok, r, q⟩ := h
  obtain ⟨hh, g, d, t, os'⟩ := s'
  obtain rfl : os' = s.os := os
  exact ⟨v, H', I.call (h' := hh) (g' := g) (d' := d) (t' := t) (ch := []) un hok bare (fun b z => absurd z (by simp)), r, q⟩
end
def tCall (sp : Sp) (dvs : List V) (E : XK) (t : TA) : TE := fun σ H Q => t σ H fun vs H1 => sp (vs ++ dvs) H1 Q E
def tMeth (C : Addr) (m : Str) (sp : Sp) (dvs : List V) (E : XK) (ta : TE) (t : TA) : TE := fun σ H Q => ta σ H fun x H1 => ∃ a dx fs, x = .ref a ∧ H1 a = some (.ins C dx fs) ∧ fs.lookup m = none ∧
  t σ H1 fun vs H2 => sp (x :: (vs ++ dvs)) H2 Q E
def tMake (C : Addr) (sp : Sp) (dvs : List V) (E : XK) (t : TA) : TE := fun σ H Q => t σ H fun vs H1 => ∀ x dx, H1 x = none → H1 dx = none → dx ≠ x →
  sp (.ref x :: (vs ++ dvs)) (upd (upd H1 dx (.own x)) x (.ins C dx [])) (fun v H2 => v = .non ∧ Q (.ref x) H2) E
def Binds (K : PySem.W.Frag) (fd : FuncData) (ps : List Str) (ds : List Value) : Prop :=
  ∀ (s : Shared) (us : List Value), K.In s.heap → (us ++ ds).length = ps.length → BindsTo s fd ⟨us, []⟩ (ps.zip (us ++ ds))
theorem Binds.all {K : PySem.W.Frag} {fd : FuncData} {ps : List Str} (h : ∀ us : List Value, us.length = ps.length → bindArgs fd ⟨us, []⟩ = pure (ps.zip us)) : Binds K fd ps [] := fun s us _ hl => by
  rw [List.append_nil] at hl ⊢
  exact .of_eq (h us hl)
def Passes (CX : CXT) (X : Cx) (E : XK) : Prop := ∀ (pins : List (Addr × Obj)) (σ : St) (H : Hp) (s : Shared) (e : Value) (s' : Shared), Inv X pins σ H s → CX X.stack H s E e s' → X.xe e s'
section
variable {X : Cx} {CX : CXT} {k : Nat} {f C : Addr} {fd : FuncData} {ps : List Str} {sp : Sp} {dvs : List V} {ds : List Value} {E : XK} {x m : Str} {p pos apos : Pos} {e o : Expr} {es : List Expr} {ta : TE} {t : TA}
theorem run_fn {pins : List (Addr × Obj)} {σ : St} {H : Hp} {s : Shared} {Q : VK} {us : List Value} {vs : List V} (F : FnOk X.prog X.w X.K X.mg X.base CX k f fd ps sp) (hr : Room k X.A) (hb : Binds X.K fd ps ds) (hd : Vals dvs ds) (hx : Passes CX X E)
    (I : Inv X pins σ H s) (r : Vals vs us) (h : sp (vs ++ dvs) H Q E) : wpAny (model X.prog X.w) X.A (call (.ref f) us) (EP X pins σ Q) X.xe s := by
  have r2 : Vals (vs ++ dvs) (us ++ ds) := r.append hd
  have hl : (us ++ ds).length = ps.length := by rw [← r2.length]; exact F.len _ _ _ _ h
  refine wpAny_call (codeAny_mono (F.run X.A X.stack s H ⟨us, []⟩ (us ++ ds) (vs ++ dvs) Q E hr I.env0 (hb s us I.kIn hl) r2 h) fun r s' hq => ?_)
  cases r with
  | error e => exact hx pins σ H s e s' I hq
  | ok fl =>
    cases fl with
    | ret u => exact I.after hq
    | next => exact False.elim hq
    | brk => exact False.elim hq
    | cont => exact False.elim hq
theorem pe_call (F : FnOk X.prog X.w X.K X.mg X.base CX k f fd ps sp) (hr : Room k X.A) (hg : Gl X x) (hm : X.mg x = some (.ref f)) (hk : PySem.W.keepIn X.K (.ref f) = true) (hb : Binds X.K fd ps ds) (hd : Vals dvs ds) (hx : Passes CX X E)
    (ha : PA X (e :: es) t) (hdb : (x == ("__debug__" : Str)) = false := by decide) (he : starEach (e :: es) X.env = (false, eval e X.env) :: starEach es X.env := by rfl) (hpl : (backTo pos (starEach es X.env)).any (·.1) = false := by rfl) :
    PE X (.Call (.Name x p) (e :: es) [] pos) (tCall sp dvs E t) := by
  intro pins s σ H Q I h
  refine wpAny_Call_Name_kw (ld_glob I hg hm ?_ hdb)
  refine PySem.W.callWith_K (h₀ := X.base) I.ok.mod.kin hk (thn (ha pos pins s σ H _ I h) fun us s1 ⟨vs, H1, I1, r, q⟩ => ⟨I1.kIn, ?_⟩) he hpl
  exact run_fn F hr hb hd hx I1 r q
theorem pe_meth {pl : Sem Bool} (he : PE X o ta) (c : Cls X.K C) (hm : Meth X.K C m f) (F : FnOk X.prog X.w X.K X.mg X.base CX k f fd ps sp) (hr : Room k X.A) (hb : Binds X.K fd ps ds) (hd : Vals dvs ds) (hx : Passes CX X E) (ha : PA X (e :: es) t)
    (hst : starEach (e :: es) X.env = (false, eval e X.env) :: starEach es X.env := by rfl) (hpl : (backTo pos (starEach es X.env)).any (·.1) = false := by rfl)
    (ht : eval (.Call (.Attribute o m apos) (e :: es) [] pos) X.env = (do
      let ov ← eval o X.env
      standAt apos.atName
      let (f, first) ← holding [ov] (getMethod ov m pl)
      callWith pos f first (backTo pos (starEach (e :: es) X.env)) (backToKw pos (keywordEach [] X.env))) := by rfl) :
    PE X (.Call (.Attribute o m apos) (e :: es) [] pos) (tMeth C m sp dvs E ta t) := by
  intro pins s σ H Q I h
  refine PySem.W.methodCall_KW (pl := pl) (thn (he pins s σ H _ I h) fun u s1 ⟨x, H1, I1, rx, a, dx, fs, ex, ea, l, q⟩ => ?_) ht
  subst ex
  obtain rfl : u = Value.ref a := rx
  refine getmeth_ok I1 ea c hm l ?_
  refine PySem.W.callWith_K (first := [.ref a]) (h₀ := X.base) I.ok.mod.kin hm.kp (thn (ha pos pins s1 σ H1 _ I1 q) fun us s2 ⟨vs, H2, I2, r, q2⟩ => ⟨I2.kIn, ?_⟩) hst hpl
  exact run_fn (us := .ref a :: us) (vs := .ref a :: vs) F hr hb hd hx I2 (.cons rfl r) q2
theorem pe_meth0 {pl : Sem Bool} (he : PE X o ta) (c : Cls X.K C) (hm : Meth X.K C m f) (F : FnOk X.prog X.w X.K X.mg X.base CX k f fd ps sp) (hr : Room k X.A) (hb : Binds X.K fd ps ds) (hd : Vals dvs ds) (hx : Passes CX X E)
    (ht : eval (.Call (.Attribute o m apos) [] [] pos) X.env = (do
      let ov ← eval o X.env
      standAt apos.atName
      let (f, first) ← holding [ov] (getMethod ov m pl)
      callWith pos f first (backTo pos (starEach [] X.env)) (backToKw pos (keywordEach [] X.env))) := by rfl) :
    PE X (.Call (.Attribute o m apos) [] [] pos) (tMeth C m sp dvs E ta tNil) := by
  intro pins s σ H Q I h
  refine PySem.W.methodCall_KW (pl := pl) (thn (he pins s σ H _ I h) fun u s1 ⟨x, H1, I1, rx, a, dx, fs, ex, ea, l, q⟩ => ?_) ht
  subst ex
  obtain rfl : u = Value.ref a := rx
  refine getmeth_ok I1 ea c hm l ?_
  exact PySem.W.callWith_K0 (first := [.ref a]) I1.kIn hm.kp (run_fn (us := [.ref a]) (vs := [.ref a]) F hr hb hd hx I1 (.cons rfl .nil) q)
structure Mk (K : PySem.W.Frag) (C f : Addr) : Prop where
  makes : PySem.W.makesIn K C = true
  init : PySem.W.findIn K (.ref C) "__init__" = some (some (.ref f))
  fn : PySem.W.isFn K (.ref f) = true
  kp : PySem.W.keepIn K (.ref C) = true
theorem run_make {pins : List (Addr × Obj)} {σ : St} {H : Hp} {s : Shared} {Q : VK} {us : List Value} {vs : List V} (M : Mk X.K C f) (F : FnOk X.prog X.w X.K X.mg X.base CX k f fd ps sp) (hr : Room (k + 1) X.A) (hb : Binds X.K fd ps ds) (hd : Vals dvs ds)
    (hx : Passes CX X E) (I : Inv X pins σ H s) (r : Vals vs us)
    (h : ∀ x dx, H x = none → H dx = none → dx ≠ x → sp (.ref x :: (vs ++ dvs)) (upd (upd H dx (.own x)) x (.ins C dx [])) (fun v H2 => v = .non ∧ Q (.ref x) H2) E) :
    wpAny (model X.prog X.w) X.A (call (.ref C) us) (EP X pins σ Q) X.xe s := by
  have hq := h (s.heap.objs.size + 1) s.heap.objs.size (I.hok.fresh (Nat.le_succ _)) (I.hok.fresh (Nat.le_refl _)) (Nat.ne_of_lt (Nat.lt_succ_self _))
  have I2 := Inv.made (C := C) I
  have r2 : Vals (V.ref (s.heap.objs.size + 1) :: (vs ++ dvs)) (Value.ref (s.heap.objs.size + 1) :: (us ++ ds)) := .cons rfl (r.append hd)
  have hl : (Value.ref (s.heap.objs.size + 1) :: us ++ ds).length = ps.length := by
    have e := r2.length
    rw [F.len _ _ _ _ hq] at e
    exact e.symm
  refine wpAny_call (make_map (f := f) I.kIn M.makes M.init (beq_iff_eq.mp M.fn) (codeAny_mono (F.run _ X.stack _ _ ⟨Value.ref (s.heap.objs.size + 1) :: us, []⟩ (Value.ref (s.heap.objs.size + 1) :: (us ++ ds)) _ _ E (hr.make C us [])
    (I2.env0.make C us []) (hb _ (Value.ref (s.heap.objs.size + 1) :: us) I2.kIn hl) r2 hq) fun r s' hq' => ?_))
  cases r with
  | error e => exact hx pins σ _ _ e s' I2 hq'
  | ok fl =>
    cases fl with
    | ret u =>
      obtain ⟨v, H', I3, rv, ev, q3⟩ := I2.after hq'
      subst ev
      exact ⟨rv, ⟨V.ref (s.heap.objs.size + 1), H', I3, rfl, q3⟩⟩
    | next => exact False.elim hq'
    | brk => exact False.elim hq'
    | cont => exact False.elim hq'
theorem pe_make (M : Mk X.K C f) (F : FnOk X.prog X.w X.K X.mg X.base CX k f fd ps sp) (hr : Room (k + 1) X.A) (hg : Gl X x) (hm : X.mg x = some (.ref C)) (hb : Binds X.K fd ps ds) (hd : Vals dvs ds) (hx : Passes CX X E)
    (ha : PA X (e :: es) t) (hdb : (x == ("__debug__" : Str)) = false := by decide) (he : starEach (e :: es) X.env = (false, eval e X.env) :: starEach es X.env := by rfl) (hpl : (backTo pos (starEach es X.env)).any (·.1) = false := by rfl) :
    PE X (.Call (.Name x p) (e :: es) [] pos) (tMake C sp dvs E t) := by
  intro pins s σ H Q I h
  refine wpAny_Call_Name_kw (ld_glob I hg hm ?_ hdb)
  refine PySem.W.callWith_K (h₀ := X.base) I.ok.mod.kin M.kp (thn (ha pos pins s σ H _ I h) fun us s1 ⟨vs, H1, I1, r, q⟩ => ⟨I1.kIn, ?_⟩) he hpl
  exact run_make M F hr hb hd hx I1 r q
end
section
variable {X : Cx} {CX : CXT} {k : Nat} {f C : Addr} {fd : FuncData} {ps ks : List Str} {sp : Sp} {E : XK} {x m : Str} {p pos apos kpos : Pos} {e o : Expr} {es : List Expr} {kws : List Keyword} {te ta : TE} {t tk : TA} {nm : Option Str}
variable {g : List Value → List Value → List Value} {gV : List V → List V → List V}
end
structure FnScope (N P : List Str) (sc : Scope) : Prop where
  kind : sc.kind = .function
  co : sc.isCoroutine = false
  gen : sc.isGenerator = false
  nd : N.Nodup
  pre : N.take P.length = P
  par : ∀ x ∈ P, sc.names.lookup x = some .local ∨ sc.names.lookup x = some .cell
  nofree : ∀ y ∈ sc.names, y.2 ≠ .free
theorem bindL_out {kindOf : Str → Option NameKind} {x : Str} : ∀ {binds : List (Str × Value)} {m : Str → Option Value}, (∀ v, (x, v) ∉ binds) → bindL kindOf binds m x = m x
  | [], _, _ => rfl
  | (n, v) :: r, m, h => by
    unfold bindL
    rw [bindL_out fun w hw => h w (List.mem_cons_of_mem _ hw)]
    split
    · have : x ≠ n := by rintro rfl; exact h v List.mem_cons_self
      simp [this]
    · rfl
theorem bindC_out {kindOf : Str → Option NameKind} {x : Str} : ∀ {binds : List (Str × Value)} {m : Str → Option Value}, (∀ v, (x, v) ∉ binds) → bindC kindOf binds m x = m x
  | [], _, _ => rfl
  | (n, v) :: r, m, h => by
    unfold bindC
    rw [bindC_out fun w hw => h w (List.mem_cons_of_mem _ hw)]
    split
    · rfl
    · have : x ≠ n := by rintro rfl; exact h v List.mem_cons_self
      simp [this]
theorem bindL_get {kindOf : Str → Option NameKind} {x : Str} {v : Value} : ∀ {P : List Str} {vs : List Value} {i : Nat} {m : Str → Option Value}, P.Nodup → P[i]? = some x → vs[i]? = some v → kindOf x = some .local →
    bindL kindOf (P.zip vs) m x = some v
  | [], _, _, _, _, h, _, _ => by simp at h
  | _ :: _, [], _, _, _, _, h, _ => by simp at h
  | p :: P, w :: vs, 0, m, nd, h1, h2, hk => by
    simp at h1 h2; subst h1; subst h2
    show bindL kindOf ((p, w) :: P.zip vs) m p = _
    unfold bindL
    rw [bindL_out fun v hv => (List.nodup_cons.mp nd).1 (List.of_mem_zip hv).1, if_pos hk]
    simp
  | p :: P, w :: vs, i + 1, m, nd, h1, h2, hk => by
    show bindL kindOf ((p, w) :: P.zip vs) m x = _
    unfold bindL
    exact bindL_get (i := i) (List.nodup_cons.mp nd).2 (by simpa using h1) (by simpa using h2) hk
theorem bindC_get {kindOf : Str → Option NameKind} {x : Str} {v : Value} : ∀ {P : List Str} {vs : List Value} {i : Nat} {m : Str → Option Value}, P.Nodup → P[i]? = some x → vs[i]? = some v → kindOf x ≠ some .local →
    bindC kindOf (P.zip vs) m x = some v
  | [], _, _, _, _, h, _, _ => by simp at h
  | _ :: _, [], _, _, _, _, h, _ => by simp at h
  | p :: P, w :: vs, 0, m, nd, h1, h2, hk => by
    simp at h1 h2; subst h1; subst h2
    show bindC kindOf ((p, w) :: P.zip vs) m p = _
    unfold bindC
    rw [bindC_out fun v hv => (List.nodup_cons.mp nd).1 (List.of_mem_zip hv).1, if_neg hk]
    simp
  | p :: P, w :: vs, i + 1, m, nd, h1, h2, hk => by
    show bindC kindOf ((p, w) :: P.zip vs) m x = _
    unfold bindC
    exact bindC_get (i := i) (List.nodup_cons.mp nd).2 (by simpa using h1) (by simpa using h2) hk
def start (N : List Str) (vs : List V) : St := vs.map some ++ List.replicate (N.length - vs.length) none
def cxOf (CX : CXT) (P : Program) (w : World) (K : PySem.W.Frag) (mg : Str → Option Value) (base : Heap) (N : List Str) (qual : Str) (scope : Scope) (f : Addr) (cd : Value) (A : Around) (outer : List Env) (s : Shared) (H : Hp) (E : XK) : Cx where
  prog := P
  w := w
  K := K
  mg := mg
  base := base
  A := A.deeper (envOfC qual scope s.heap.objs.size f cd)
  N := N
  s₀ := s
  H₀ := H
  env := envOfC qual scope s.heap.objs.size f cd
  outer := outer
  stack := envOfC qual scope s.heap.objs.size f cd :: outer
  ex := []
  calm := true
  fn := fun _ => true
  pn := []
  xe := fun e s' => wpAny (model P w) (A.deeper (envOfC qual scope s.heap.objs.size f cd)) (leaving (envOfC qual scope s.heap.objs.size f cd) e) (fun _ s'' => CX outer H s E e s'') (fun e' s'' => CX outer H s E e' s'') s'
theorem cell_has {sc : Scope} {n : Nat} {x : Str} (h : sc.names.lookup x = some .cell) : ∃ c, (cellsFrom n sc.names []).lookup x = some c := by
  have q := PySem.W.cellsFrom_some sc.names n [] (.inl h)
  exact Option.isSome_iff_exists.mp q
theorem inv_start {CX : CXT} {P : Program} {w : World} {K : PySem.W.Frag} {mg : Str → Option Value} {base : Heap} {N ps : List Str} {qual : Str} {scope : Scope} {f : Addr} {cd : Value} {A : Around} {outer : List Env} {s s1 : Shared} {H : Hp} {E : XK} {us : List Value} {vs : List V}
    (S : FnScope N ps scope) (hd : A.handled = none) (e0 : Env0 P w K mg base A outer s H) (hl : vs.length = ps.length) (r : Vals vs us)
    (x : InCallC s s.heap.objs.size (bindL (envOfC qual scope s.heap.objs.size f cd).kindOf (ps.zip us) fun _ => none) (cellsFrom (s.heap.objs.size + 1) scope.names []) (bindC (envOfC qual scope s.heap.objs.size f cd).kindOf (ps.zip us) fun _ => none) s1) :
    Inv (cxOf CX P w K mg base N qual scope f cd A outer s H E) [] (start N vs) H s1 := by
  have hpl : ps.length ≤ N.length := by have := congrArg List.length S.pre; rw [List.length_take] at this; omega
  obtain ⟨h1, tk, rfl, hk⟩ := x.done
  have noA : ∀ b : Addr, b ∉ (cxOf CX P w K mg base N qual scope f cd A outer s H E).ex := fun b z => absurd (show b ∈ ([] : List Addr) from z) (by simp)
  refine ⟨⟨e0.mod, S.kind, rfl, rfl, Nat.le_refl _, fun y z c h1 h2 => ?_, fun y hy => ?_, fun y c _ h => ?_, fun _ => hd, Around.frames_deeper e0.frames, .inr ⟨rfl, rfl⟩, fun b z => absurd z (noA b), e0.bs, e0.bsz, fun b _ _ => noA b, fun b z => absurd z (noA b), e0.funs, e0.frf⟩,
    rfl, e0.bare, Un.kept hk, ⟨_, x.toInCall.ns, fun i y v h1 h2 h3 => ?_⟩, fun y c h => ⟨_, x.cell y c h⟩, e0.hok.fresh (Nat.le_refl _), fun y c h => ?_, fun p hp => absurd (show p ∈ ([] : List (Addr × Obj)) from hp) (by simp), e0.hok.kept hk, ?_⟩
  · exact name_of_addr x.apart (PySem.mem_of_lookup h1) (PySem.mem_of_lookup h2)
  · have hy : scope.names.lookup y = some .cell ∨ scope.names.lookup y = some .free := hy
    rcases hy with hy | hy
    · exact cell_has hy
    · exact absurd rfl (S.nofree _ (PySem.mem_of_lookup hy))
  · exact Nat.le_of_lt (x.above y c (PySem.mem_of_lookup h))
  · have hi : i < vs.length := by
      unfold start at h2
      by_cases hi : i < vs.length
      · exact hi
      · rw [List.getElem?_append_right (by simpa using hi)] at h2
        rw [List.getElem?_replicate] at h2
        split at h2 <;> cases h2
    have ha : vs[i]? = some v := by
      unfold start at h2
      rw [List.getElem?_append_left (by simpa using hi), List.getElem?_map] at h2
      cases e : vs[i]? with
      | none => rw [e] at h2; cases h2
      | some a => rw [e] at h2; cases h2; rfl
    obtain ⟨u, hu, rv⟩ := r.get ha
    have hp : ps[i]? = some y := by
      rw [← S.pre, List.getElem?_take_of_lt (by omega)]; exact h1
    have ndP : ps.Nodup := by rw [← S.pre]; exact S.nd.sublist (List.take_sublist _ _)
    refine ⟨u, rv, ?_⟩
    rcases S.par y (List.mem_of_getElem? hp) with k | k
    · exact .inl ⟨k, bindL_get ndP hp hu k⟩
    · obtain ⟨c, e⟩ := cell_has (n := s.heap.objs.size + 1) k
      refine .inr ⟨.inl k, c, e, ?_⟩
      have q := x.cell y c e
      rw [bindC_get ndP hp hu (by show scope.names.lookup y ≠ _; rw [k]; decide)] at q
      exact q
  · exact e0.hok.fresh (Nat.le_of_lt (x.above y c (PySem.mem_of_lookup h)))
  · unfold start
    show _ = N.length
    rw [List.length_append, List.length_map, List.length_replicate]
    omega
theorem fn_of {CX : CXT} {P : Program} {w : World} {K : PySem.W.Frag} {mg : Str → Option Value} {base : Heap} {k : Nat} {f : Addr} {name qual : Str} {params : Arguments} {body : List Stmt} {scope : Scope} {dV kV doc pm cdv ct oc : Value} {an od : Option Addr}
    {osl : Array (Option Value)} {N ps : List Str} {sp : Sp} (lk : K.lookup f = some ⟨oc, od, .func (PySem.W.fnOf name qual params body scope dV kV doc pm an cdv ct), osl⟩) (hcd : PySem.W.codeIn K cdv qual = true) (S : FnScope N ps scope)
    (len : ∀ vs H Q E, sp vs H Q E → vs.length = ps.length)
    (hbody : ∀ (A : Around) (outer : List Env) (s : Shared) (H : Hp) (vs : List V) (Q : VK) (E : XK), Room k (A.deeper (envOfC qual scope s.heap.objs.size f cdv)) → sp vs H Q E →
      ∃ t, PSs (cxOf CX P w K mg base N qual scope f cdv A outer s H E) body t ∧ t { nx := fun _ H' => Q .non H', rt := Q } (start N vs) H) :
    FnOk P w K mg base CX (k + 1) f (PySem.W.fnOf name qual params body scope dV kV doc pm an cdv ct) ps sp := by
  refine ⟨len, fun A outer s H args us vs Q E hr e0 hb r hsp => ?_⟩
  have hl := len _ _ _ _ hsp
  have KX : K.In s.heap := e0.mod.kin.keeps fun b o e => (e0.bs b o e).1
  have lim : s.heap.NoLimit := e0.mod.nolimit.keeps fun b o e => (e0.bs b o e).1
  have hkind : ∀ y ∈ ps.zip us, scope.names.lookup y.1 = some .local ∨ (scope.names.lookup y.1 = some .cell ∧ ((cellsFrom (s.heap.objs.size + 1) scope.names []).lookup y.1).isSome = true) := fun ⟨n, v⟩ hy => by
    rcases S.par n (List.of_mem_zip hy).1 with q | q
    · exact .inl q
    · exact .inr ⟨q, PySem.W.cellsFrom_some _ _ _ (.inl q)⟩
  refine codeAny_call_function hr.depth (KX _ _ lk) rfl S.co S.gen rfl (PySem.W.codeRec_of KX hcd) (hb _ _ _ _ ?_)
  refine wpAny_newFunctionEnv_cells S.kind hkind fun env he s1 x => ?_
  subst he
  refine ⟨lim.keeps x.toInCall.keep, codeAny_func ?_⟩
  obtain ⟨t, ht, hq⟩ := hbody A outer s H vs Q E (hr.deeper _) hsp
  have I : Inv (cxOf CX P w K mg base N qual scope f cdv A outer s H E) [] (start N vs) H s1 := inv_start S hr.hd e0 hl r x
  refine wpAny_mono (ht [] s1 (start N vs) H _ I hq) (fun fl s' hs => ?_) fun e s' hs => hs
  have fin : ∀ {σ' : St} {H' : Hp} {v : V} {u : Value}, Inv (cxOf CX P w K mg base N qual scope f cdv A outer s H E) [] σ' H' s' → RelV v u → Q v H' → CE outer P w H s Q u s' :=
    fun {σ' H' v u} J rv q => ⟨v, H', J.os, J.bare, J.base, J.hok, rv, q⟩
  cases fl with
  | ret u =>
    obtain ⟨v, σ', H', J, rv, q⟩ := hs
    exact fin J rv q
  | next =>
    obtain ⟨σ', H', J, q⟩ := hs
    exact fin (v := V.non) (u := Value.none) J rfl q
  | brk =>
    obtain ⟨_, _, _, q⟩ := hs
    exact False.elim q
  | cont =>
    obtain ⟨_, _, _, q⟩ := hs
    exact False.elim q
end L2
namespace L2
open PySem PySem.Spec PyProof.Rows
section
variable {X : Cx} {x : Str} {p pos : Pos} {e : Expr} {es : List Expr} {t : TA} {id T : String} {r : List V → Hp → VK → Prop}
def tCB (r : List V → Hp → VK → Prop) (t : TA) : TE := fun σ H Q => t σ H fun vs H1 => r vs H1 Q
theorem pe_callB (hc : CallR X (.builtin id) r) (hg : Gl X x) (hm : X.mg x = none) (hv : bootBuiltins x = some (.builtin id)) (ha : PA X (e :: es) t) (hn : x ≠ "__name__" := by decide) (hdb : (x == ("__debug__" : Str)) = false := by decide)
    (he : starEach (e :: es) X.env = (false, eval e X.env) :: starEach es X.env := by rfl) (hpl : (backTo pos (starEach es X.env)).any (·.1) = false := by rfl) : PE X (.Call (.Name x p) (e :: es) [] pos) (tCB r t) := by
  intro pins s σ H Q I h
  refine wpAny_Call_Name_kw (ld_blt I hg hm hv ?_ hn hdb)
  exact PyProof.Rows.callWith_builtin1 (thn (ha pos pins s σ H _ I h) fun us s1 ⟨vs, H1, I1, r1, q1⟩ => hc pins s1 σ H1 vs us Q I1 r1 q1) he hpl
theorem pe_callTy (hc : CallR X (.type T) r) (hg : Gl X x) (hm : X.mg x = none) (hv : bootBuiltins x = some (.type T)) (ha : PA X (e :: es) t) (hn : x ≠ "__name__" := by decide) (hdb : (x == ("__debug__" : Str)) = false := by decide)
    (he : starEach (e :: es) X.env = (false, eval e X.env) :: starEach es X.env := by rfl) (hpl : (backTo pos (starEach es X.env)).any (·.1) = false := by rfl) : PE X (.Call (.Name x p) (e :: es) [] pos) (tCB r t) := by
  intro pins s σ H Q I h
  refine wpAny_Call_Name_kw (ld_blt I hg hm hv ?_ hn hdb)
  exact PyProof.Rows.callWith_type1 (thn (ha pos pins s σ H _ I h) fun us s1 ⟨vs, H1, I1, r1, q1⟩ => hc pins s1 σ H1 vs us Q I1 r1 q1) he hpl
end
end L2
namespace HT
open PySem PyProof.Rows
def lexLt : List Int → List Int → Bool
  | [], [] => false
  | [], _ :: _ => true
  | _ :: _, [] => false
  | x :: xs, y :: ys => if x = y then lexLt xs ys else decide (x < y)
section
open PySem.SeqAt
open PySem.AutoSeq1 (wpAny_loadPart')
open PySem.MeetsSeq PySem.MeetsSeq2 PySem.MeetsSeq3
end
section
variable {prog : Program} {w : World} {A : Around} {E : Value → Shared → Prop} {s : Shared}
def sIx (n d : Nat) : Option Int → Nat
  | none => d
  | some v => if v < 0 then (v + (n : Int)).toNat else min v.toNat n
theorem sIx_nat (n d k : Nat) : sIx n d (some (k : Int)) = min k n := by
  show (if (k : Int) < 0 then ((k : Int) + (n : Int)).toNat else min (k : Int).toNat n) = min k n
  rw [if_neg (by omega), Int.toNat_natCast]
theorem sIx_le (n d : Nat) (hd : d ≤ n) (o : Option Int) : sIx n d o ≤ n := by
  cases o with
  | none => exact hd
  | some v =>
    show (if v < 0 then (v + (n : Int)).toNat else min v.toNat n) ≤ n
    by_cases hv : v < 0
    · rw [if_pos hv]; omega
    · rw [if_neg hv]; exact Nat.min_le_right _ _
end
end HT
namespace L2
open PySem PySem.Spec PyProof.Rows
abbrev TO := St → Hp → (Option Int → Hp → Prop) → Prop
def PO (X : Cx) (e : Option Expr) (t : TO) : Prop :=
  ∀ (pins : List (Addr × Obj)) (s : Shared) (σ : St) (H : Hp) (Q : Option Int → Hp → Prop), Inv X pins σ H s → t σ H Q →
    wpAny (model X.prog X.w) X.A (evalPart e X.env) (fun u s' => ∃ o H', Inv X pins σ H' s' ∧ IsPart u o ∧ Q o H') X.xe s
def tPart (t : TE) : TO := fun σ H Q => t σ H fun x H1 => ∃ i, x = .int i ∧ Q (some i) H1
section
variable {X : Cx} {e : Expr} {te : TE} {lo hi : Option Expr} {tl th : TO} {pos p2 : Pos}
theorem po_some (h : PE X e te) : PO X (some e) (tPart te) := by
  intro pins s σ H Q I hw
  rw [evalPart_some]
  refine thn (h pins s σ H _ I hw) fun u s1 ⟨x, H1, I1, r1, q1⟩ => ?_
  obtain ⟨i, rfl, q⟩ := q1
  obtain ⟨t, rfl⟩ := r1
  exact ⟨some i, H1, I1, .int i t, q⟩
def SlR (X : Cx) (r : V → Option Int → Option Int → Hp → VK → Prop) : Prop :=
  ∀ (pins : List (Addr × Obj)) (s : Shared) (σ : St) (H : Hp) (x : V) (v vl vu : Value) (lo hi : Option Int) (sl : Addr) (Q : VK), Inv X pins σ H s → RelV x v → s.heap.IsSliceOf sl vl vu .none → IsPart vl lo → IsPart vu hi → r x lo hi H Q →
    ∃ T id, typeLookup (.type T) "__getitem__" = pure (some (.builtin id)) ∧ s.TypeIs v T ∧ wpAny (model X.prog X.w) X.A (getItem v (.ref sl)) (EP X pins σ Q) X.xe s
def tSl (r : V → Option Int → Option Int → Hp → VK → Prop) (te : TE) (tl th : TO) : TE := fun σ H Q => te σ H fun x H1 => tl σ H1 fun l H2 => th σ H2 fun u H3 => r x l u H3 Q
theorem pe_slice {r : V → Option Int → Option Int → Hp → VK → Prop} (hr : SlR X r) (he : PE X e te) (hl : PO X lo tl) (hu : PO X hi th) : PE X (.Subscript e (.Slice lo hi none p2) pos) (tSl r te tl th) := by
  intro pins s σ H Q I h
  refine Subscript_ (thn (he pins s σ H _ I h) fun v s1 ⟨x, H1, I1, r1, q1⟩ => ?_)
  refine wpAny_Slice (thn (hl pins s1 σ H1 _ I1 q1) fun vl s2 ⟨l, H2, I2, pl, q2⟩ => thn (hu pins s2 σ H2 _ I2 q2) fun vu s3 ⟨u, H3, I3, pu, q3⟩ => ?_)
  rw [evalPart_none]
  refine wpAny_pure ?_
  have I4 : Inv X pins σ H3 { s3 with heap := s3.heap.push { cls := .type "slice", data := .fields #[vl, vu, .none] } } := I3.kept (t' := s3.toks) fun b ob q => Heap.get?_push_of_some _ q
  obtain ⟨T, id, hT, ht, hg⟩ := hr pins { s3 with heap := s3.heap.push { cls := .type "slice", data := .fields #[vl, vu, .none] } } σ H3 x v vl vu l u s3.heap.objs.size Q I4 r1 (Heap.IsSliceOf.new ..) pl pu q3
  show wpAny (model X.prog X.w) X.A (subscriptTail e (.Slice lo hi none p2) v (.ref s3.heap.objs.size)) (EP X pins σ Q) X.xe { s3 with heap := s3.heap.push { cls := .type "slice", data := .fields #[vl, vu, .none] } }
  exact tail_any (ops := [.ref s3.heap.objs.size, v]) ht hT hg (by with_unfolding_all rfl)
end
end L2
namespace L2
open PySem PySem.Spec PyProof.Rows
def ixN (n : Nat) (i : Int) : Option Nat := if 0 ≤ i then (if i < n then some i.toNat else none) else if -(n : Int) ≤ i then some (i + n).toNat else none
def atI {α : Type} (xs : List α) (i : Int) : Option α := (ixN xs.length i).bind fun j => xs[j]?
theorem ixN_seq {n : Nat} {i : Int} {j : Nat} (h : ixN n i = some j) : seqIndex? i n = some j ∧ j < n ∧ -(n : Int) ≤ i ∧ i < n := by
  unfold ixN at h
  by_cases h0 : 0 ≤ i
  · rw [if_pos h0] at h
    by_cases h1 : i < n
    · rw [if_pos h1] at h
      have e : i.toNat = j := Option.some.inj h
      exact ⟨by rw [seqIndex_of h0 h1, e], by omega, by omega, h1⟩
    · rw [if_neg h1] at h; cases h
  · rw [if_neg h0] at h
    by_cases h1 : -(n : Int) ≤ i
    · rw [if_pos h1] at h
      have e : (i + n).toNat = j := Option.some.inj h
      exact ⟨by rw [seqIndex_neg (by omega) h1, e], by omega, h1, by omega⟩
    · rw [if_neg h1] at h; cases h
theorem atI_get {α : Type} {xs : List α} {i : Int} {v : α} (h : atI xs i = some v) : ∃ j, seqIndex? i xs.length = some j ∧ xs[j]? = some v ∧ j < xs.length ∧ -(xs.length : Int) ≤ i ∧ i < xs.length := by
  unfold atI at h
  cases e : ixN xs.length i with
  | none => rw [e] at h; cases h
  | some j =>
    rw [e] at h
    obtain ⟨h1, h2, h3, h4⟩ := ixN_seq e
    exact ⟨j, h1, h, h2, h3, h4⟩
theorem atI_nat {α : Type} {xs : List α} {j : Nat} {v : α} (h : xs[j]? = some v) : atI xs (j : Int) = some v := by
  have hj : j < xs.length := (List.getElem?_eq_some_iff.mp h).1
  have e : ixN xs.length (j : Int) = some j := by
    unfold ixN
    rw [if_pos (by omega), if_pos (by omega)]; simp
  unfold atI; rw [e]; exact h
def PlainIx (b : Expr) : Prop := ∀ o i, subscripted b false o i = operate [o, i] (getItem o i)
def IxR (X : Cx) (r : R2) : Prop :=
  ∀ (value slice : Expr) (pins : List (Addr × Obj)) (s : Shared) (σ : St) (H : Hp) (x y : V) (v u : Value) (Q : VK), Inv X pins σ H s → RelV x v → RelV y u → r x y H Q →
    subscripted slice false v u = operate [v, u] (getItem v u) → wpAny (model X.prog X.w) X.A (subscriptTail value slice v u) (EP X pins σ Q) X.xe s
def MtR (X : Cx) (id : String) (r : V → List V → Hp → VK → Prop) : Prop :=
  ∀ (pins : List (Addr × Obj)) (s : Shared) (σ : St) (H : Hp) (x : V) (xs : List V) (v : Value) (us : List Value) (Q : VK), Inv X pins σ H s → RelV x v → Vals xs us → r x xs H Q →
    wpAny (model X.prog X.w) X.A (call (.builtin id) (v :: us)) (EP X pins σ Q) X.xe s
section
variable {X : Cx} {a b : Expr} {ta tb : TE} {pos : Pos}
theorem pe_ix {r : R2} (hr : IxR X r) (ha : PE X a ta) (hb : PE X b tb) (hs : PlainIx b) : PE X (.Subscript a b pos) (tOp r ta tb) := by
  intro pins s σ H Q I h
  exact Subscript_ (binT ha hb I h fun v u s2 x y H2 I2 rx ry q => hr a b pins s2 σ H2 x y v u Q I2 rx ry q (hs _ _))
def rIxL (K : PySem.W.Frag) : R2 := fun x y H Q => ∃ p xs i v, x = .ref p ∧ y = .int i ∧ SqL K H p xs ∧ atI xs i = some v ∧ Q v H
def rIxT (K : PySem.W.Frag) : R2 := fun x y H Q => ∃ p xs i v, x = .ref p ∧ y = .int i ∧ SqT K H p xs ∧ atI xs i = some v ∧ Q v H
def rIxS : R2 := fun x y H Q => ∃ z i c, x = .str z ∧ y = .int i ∧ z.length ≤ sizeLine ∧ atI z.cps.toList i = some c ∧ Q (.str ⟨#[c]⟩) H
theorem ix_list : IxR X (rIxL X.K) := by
  intro value slice pins s σ H x y v u Q I rx ry h hs
  obtain ⟨p, xs, i, z, rfl, rfl, hq, he, q⟩ := h
  cases rx
  obtain ⟨t, rfl⟩ := ry
  obtain ⟨its, r, pl, hz⟩ := I.list hq
  obtain ⟨j, h1, h2, h3, h4, h5⟩ := atI_get he
  obtain ⟨w, ew, rw'⟩ := r.get h2
  have hl := r.length
  have hn := line63
  have fin : EP X pins σ Q w s := ⟨z, H, I, rw', q⟩
  by_cases h0 : 0 ≤ i
  · have hj : i.toNat = j := by
      rw [seqIndex_of h0 h5] at h1
      exact Option.some.inj h1
    exact item_listR pl.isList h0 (by omega) (by rw [hj]; simpa using ew) fin hs
  · have hj : (i + (its.toArray.size : Int)).toNat = j := by
      rw [seqIndex_neg (by omega) h4] at h1
      rw [List.size_toArray, ← hl]
      exact Option.some.inj h1
    exact subscriptTail_builtinR (x := w) pl.isList.typeIs slot_list_getitem.lookup
      (wpAny_getItem_list_neg (Q := fun r s' => r = w ∧ EP X pins σ Q r s') pl.isList (by omega) (by rw [List.size_toArray] <;> omega) (by omega) (by rw [hj]; simpa using ew) ⟨rfl, fin⟩) hs
theorem ix_tup : IxR X (rIxT X.K) := by
  intro value slice pins s σ H x y v u Q I rx ry h hs
  obtain ⟨p, xs, i, z, rfl, rfl, hq, he, q⟩ := h
  cases rx
  obtain ⟨t, rfl⟩ := ry
  obtain ⟨its, r, pl, hz⟩ := I.tuple hq
  obtain ⟨j, h1, h2, h3, h4, h5⟩ := atI_get he
  obtain ⟨w, ew, rw'⟩ := r.get h2
  have hl := r.length
  have hn := line63
  have fin : EP X pins σ Q w s := ⟨z, H, I, rw', q⟩
  exact subscriptTail_builtinR (x := w) pl.typeIs slot_tuple_getitem.lookup
    (getItem_tuple (j := j) (Q := fun r s' => r = w ∧ EP X pins σ Q r s') pl (by omega) (by omega) (by rw [List.size_toArray, ← hl]; exact h1) (by simpa using ew) ⟨rfl, fin⟩) hs
theorem ix_str : IxR X rIxS := by
  intro value slice pins s σ H x y v u Q I rx ry h hs
  obtain ⟨z, i, c, rfl, rfl, hz, he, q⟩ := h
  obtain ⟨t, rfl⟩ := rx
  obtain ⟨t', rfl⟩ := ry
  obtain ⟨j, h1, h2, h3, h4, h5⟩ := atI_get he
  have hl : z.cps.toList.length = z.length := by simp [Str.length]
  rw [hl] at h1 h4 h5
  have hn := line63
  exact tail_any (typeIs_str s z t) slot_str_getitem.lookup (getItem_str (c := c) (by
    have e1 : decide (i < -(2 ^ 63 : Int)) = false := decide_eq_false (by omega)
    have e2 : decide (i ≥ 2 ^ 63) = false := decide_eq_false (by omega)
    rw [e1, e2, Bool.or_false]) (by rw [h1]; simpa using h2) ⟨.str ⟨#[c]⟩, H, I.tok _, ⟨_, rfl⟩, q⟩) hs
theorem call_len_seq : CallR X (.builtin "len") (fun xs H Q => ∃ p ys, xs = [.ref p] ∧ (SqL X.K H p ys ∨ SqT X.K H p ys) ∧ Q (.int ys.length) H) := by
  intro pins s σ H xs us Q I r h
  obtain ⟨p, ys, rfl, hq, q⟩ := h
  obtain ⟨u, rfl, rx⟩ := vals1 r
  cases rx
  have hn := line63
  rcases hq with hq | hq
  · obtain ⟨its, r', pl, hz⟩ := I.list hq
    have hlen := r'.length
    exact Calls.call_len_list pl.isList (by simp only [List.size_toArray] <;> omega) ⟨.int ys.length, H, I.tok _, ⟨s.toks + 1, by rw [List.size_toArray, hlen]⟩, q⟩
  · obtain ⟨its, r', pl, hz⟩ := I.tuple hq
    have hlen := r'.length
    exact len_tuple pl (by simp only [List.size_toArray] <;> omega) ⟨.int ys.length, H, I.tok _, ⟨s.toks + 1, by rw [List.size_toArray, hlen]⟩, q⟩
theorem call_len_str : CallR X (.builtin "len") (fun xs H Q => ∃ z, xs = [.str z] ∧ z.length ≤ sizeLine ∧ Q (.int z.length) H) := by
  intro pins s σ H xs us Q I r h
  obtain ⟨z, rfl, hz, q⟩ := h
  obtain ⟨u, rfl, t, rfl⟩ := vals1 r
  have hn := line63
  exact len_str (by omega) ⟨.int z.length, H, I.tok _, ⟨_, rfl⟩, q⟩
theorem call_list_of : CallR X (.type "list") (fun xs H Q => ∃ p ys, xs = [.ref p] ∧ (SqL X.K H p ys ∨ SqT X.K H p ys) ∧ ∀ l, H l = none → Q (.ref l) (upd H l (.lst ys))) := by
  intro pins s σ H xs us Q I r h
  obtain ⟨p, ys, rfl, hq, q⟩ := h
  obtain ⟨u, rfl, rx⟩ := vals1 r
  cases rx
  have fin : ∀ (its : List Value), Vals ys its → ys.length ≤ sizeLine → ∀ (h' : Heap) (c' : Nat), (∀ b o', s.heap.get? b = some o' → h'.get? b = some o') →
      h'.get? s.heap.objs.size = some { cls := .type "list", dict := none, data := .seq its.toArray c', slots := #[] } → EP X pins σ Q (.ref s.heap.objs.size) { s with heap := h' } := fun its r' hz h' c' kp e =>
    ⟨.ref s.heap.objs.size, _, I.laid (t' := s.toks) kp (Nat.le_refl _) (show ObjOk X.prog X.w _ h' _ (.lst ys) from ⟨hz, its, c', r', e⟩), rfl, q _ (I.hok.fresh (Nat.le_refl _))⟩
  rcases hq with hq | hq
  · obtain ⟨its, r', pl, hz⟩ := I.list hq
    have hlen := r'.length
    obtain ⟨o, ho, hc, n, hd⟩ := pl.isList
    exact call_list_seq p (.inl rfl) ho hc hd (fun h' c' kp e => fin its r' hz h' c' kp e) (by simp only [List.size_toArray] <;> omega)
  · obtain ⟨its, r', pl, hz⟩ := I.tuple hq
    have hlen := r'.length
    obtain ⟨o, ho, hc, n, hd⟩ := pl
    exact call_list_seq p (.inr rfl) ho hc hd (fun h' c' kp e => fin its r' hz h' c' kp e) (by simp only [List.size_toArray] <;> omega)
theorem call_tuple_of : CallR X (.type "tuple") (fun xs H Q => ∃ p ys, xs = [.ref p] ∧ ((SqL X.K H p ys ∧ ∀ l, H l = none → Q (.ref l) (upd H l (.tup ys))) ∨ (SqT X.K H p ys ∧ Q (.ref p) H))) := by
  intro pins s σ H xs us Q I r h
  obtain ⟨p, ys, rfl, h⟩ := h
  obtain ⟨u, rfl, rx⟩ := vals1 r
  cases rx
  rcases h with ⟨hq, q⟩ | ⟨hq, q⟩
  · obtain ⟨its, r', pl, hz⟩ := I.list hq
    have hlen := r'.length
    refine call_tuple_list pl.isList (fun h' kp => ?_) (by simp only [List.size_toArray] <;> omega)
    have I1 : Inv X pins σ H { s with heap := h' } := I.kept (t' := s.toks) kp
    have I2 : Inv X pins σ (upd H h'.objs.size (.tup ys)) { s with heap := h'.push { cls := .type "tuple", data := .seq its.toArray } } :=
      I1.laid (t' := s.toks) (fun b o e => Heap.get?_push_of_some _ e) (Nat.le_refl _) (show ObjOk X.prog X.w _ _ _ (.tup ys) from ⟨hz, its, r', IsTup.new _ _⟩)
    exact ⟨.ref h'.objs.size, _, I2, rfl, q _ (I1.hok.fresh (Nat.le_refl _))⟩
  · obtain ⟨its, r', pl, hz⟩ := I.tuple hq
    exact call_tuple_same pl ⟨.ref p, H, I, rfl, q⟩
def tyV (K : PySem.W.Frag) (T : String) (x : V) (H : Hp) : Prop := match x with
  | .str _ => T = "str"
  | .int _ => T = "int"
  | .ref p => (T = "list" ∧ ∃ xs, SqL K H p xs) ∨ (T = "tuple" ∧ ∃ o, K.lookup p = some o ∧ o.cls = .type "tuple" ∧ o.dict = none) ∨
      (T = "dict" ∧ ((∃ kvs, H p = some (.dK kvs)) ∨ ∃ kvs, H p = some (.dT kvs))) ∨ (T = "set" ∧ ∃ S n, H p = some (.set S n))
  | _ => False
theorem tyV_is {pins : List (Addr × Obj)} {σ : St} {H : Hp} {s : Shared} {T : String} {x : V} {v : Value} (I : Inv X pins σ H s) (r : RelV x v) (ty : tyV X.K T x H) :
    s.TypeIs v T ∧ ∀ a, v = .ref a → ∃ ob, s.heap.get? a = some ob ∧ ob.dict = none := by
  cases x with
  | str z =>
    obtain ⟨t, rfl⟩ := r
    cases (show T = "str" from ty)
    exact ⟨typeIs_str s z t, fun _ e => nomatch e⟩
  | int i =>
    obtain ⟨t, rfl⟩ := r
    cases (show T = "int" from ty)
    exact ⟨typeIs_int s i t, fun _ e => nomatch e⟩
  | ref p =>
    cases r
    rcases ty with ⟨rfl, xs, hq⟩ | ⟨rfl, o, hk, hc, hd⟩ | ⟨rfl, hk⟩ | ⟨rfl, S, n, hk⟩
    · obtain ⟨its, _, pl, _⟩ := I.list hq
      refine ⟨pl.isList.typeIs, fun a e => ?_⟩
      cases e
      obtain ⟨o, n, e, c, hd, _⟩ := pl
      exact ⟨o, e, hd⟩
    · refine ⟨⟨o, I.kIn p o hk, hc⟩, fun a e => ?_⟩
      cases e
      exact ⟨o, I.kIn _ o hk, hd⟩
    · have z : ∃ o, s.heap.get? p = some o ∧ o.ExactDict := by
        rcases hk with ⟨kvs, hk⟩ | ⟨kvs, hk⟩
        · obtain ⟨_, _, _, _, o, _, _, e, ex, _⟩ := I.hok p _ hk
          exact ⟨o, e, ex⟩
        · obtain ⟨_, _, _, _, o, _, _, e, ex, _⟩ := I.hok p _ hk
          exact ⟨o, e, ex⟩
      obtain ⟨o, e, ex⟩ := z
      refine ⟨⟨o, e, ex.1⟩, fun a e2 => ?_⟩
      cases e2
      exact ⟨o, e, ex.2.1⟩
    · obtain ⟨o, _, _, _, e, ex, _⟩ := I.hok p _ hk
      refine ⟨⟨o, e, ex.1⟩, fun a e2 => ?_⟩
      cases e2
      exact ⟨o, e, ex.2.1⟩
  | _ => exact False.elim ty
def tBM0 (K : PySem.W.Frag) (T : String) (r : V → List V → Hp → VK → Prop) (to : TE) : TE := fun σ H Q => to σ H fun x H1 => tyV K T x H1 ∧ r x [] H1 Q
def tBM (K : PySem.W.Frag) (T : String) (r : V → List V → Hp → VK → Prop) (to : TE) (t : TA) : TE := fun σ H Q => to σ H fun x H1 => tyV K T x H1 ∧ t σ H1 fun xs H2 => r x xs H2 Q
variable {o e : Expr} {es : List Expr} {to : TE} {t : TA} {name : Str} {apos cpos : Pos} {T id : String} {r : V → List V → Hp → VK → Prop}
theorem pe_bm0 (pa : PlainAttrs T) (slot : Slot T name id) (hty : typeOf (.builtin id) = pure (.type "method_descriptor")) (hm : MtR X id r) (ho : PE X o to)
    (hbase : attributeBase o name X.env (eval o X.env) = eval o X.env := by rfl) (hline : (apos.endLine == cpos.line) = true := by rfl) : PE X (.Call (.Attribute o name apos) [] [] cpos) (tBM0 X.K T r to) := by
  intro pins s σ H Q I h
  refine wpAny_Call_method0_late hbase hline (thn (ho pins s σ H _ I h) fun v s1 ⟨x, H1, I1, r1, ty, q1⟩ => ?_)
  obtain ⟨h1, h2⟩ := tyV_is I1 r1 ty
  exact ⟨T, id, pa, slot, hty, h1, h2, Calls.callWith_builtin rfl (PySem.evalArgs_none (hm pins s1 σ H1 x [] v [] Q I1 r1 .nil q1))⟩
theorem pe_bm (pa : PlainAttrs T) (slot : Slot T name id) (hty : typeOf (.builtin id) = pure (.type "method_descriptor")) (hm : MtR X id r) (ho : PE X o to) (ha : PA X (e :: es) t)
    (hbase : attributeBase o name X.env (eval o X.env) = eval o X.env := by rfl)
    (hfew : ((backTo cpos (starEach (e :: es) X.env)).all (fun x => !x.1) && (backToKw cpos (keywordEach [] X.env)).all (fun x => x.1.isSome)
      && decide ((e :: es).length + ([] : List Keyword).length + (if ([] : List Keyword).isEmpty then 0 else 1) < 30)) = true := by rfl)
    (hline : (apos.endLine == cpos.line) = true := by rfl) (hs : starEach (e :: es) X.env = (false, eval e X.env) :: starEach es X.env := by rfl) (hplain : (backTo cpos (starEach es X.env)).any (·.1) = false := by rfl) :
    PE X (.Call (.Attribute o name apos) (e :: es) [] cpos) (tBM X.K T r to t) := by
  intro pins s σ H Q I h
  refine wpAny_Call_method_late hbase hfew hline rfl (thn (ho pins s σ H _ I h) fun v s1 ⟨x, H1, I1, r1, ty, q1⟩ => ?_)
  obtain ⟨h1, h2⟩ := tyV_is I1 r1 ty
  refine ⟨T, id, pa, slot, hty, h1, h2, ?_⟩
  have hA := ha cpos pins s1 σ H1 _ I1 q1
  rw [hs] at hA ⊢
  refine Calls.callWith_builtin (by show (false || (backTo cpos (starEach es X.env)).any (·.1)) = false; rw [hplain] <;> rfl) (Calls.evalArgs_plain ?_)
  exact thn hA fun us s2 ⟨vs, H2, I2, r2, q2⟩ => hm pins s2 σ H2 x vs v us Q I2 r1 r2 q2
/- xs.append(e), list.index on a module's tuple .. are MtR facts of 06m -/
end
end L2
namespace L2
open PySem PySem.Spec PyProof.Rows
def MtM (X : Cx) (id : String) (r : V → List V → Hp → VK → Prop) : Prop :=
  ∀ (pins : List (Addr × Obj)) (s : Shared) (σ : St) (H : Hp) (x : V) (xs : List V) (v : Value) (us : List Value) (Q : VK), Inv X pins σ H s → RelV x v → Vals xs us → r x xs H Q →
    wpAny (model X.prog X.w) X.A (call (.builtin id) (v :: us)) (EP X pins σ Q) X.xe s
theorem Vals.one : ∀ {x : V} {us : List Value}, Vals [x] us → ∃ u, us = [u] ∧ RelV x u
  | _, _, .cons r .nil => ⟨_, rfl, r⟩
theorem Vals.two : ∀ {x y : V} {us : List Value}, Vals [x, y] us → ∃ u v, us = [u, v] ∧ RelV x u ∧ RelV y v
  | _, _, _, .cons r (.cons q .nil) => ⟨_, _, rfl, r, q⟩
section
variable {X : Cx} {pins : List (Addr × Obj)} {σ : St} {H : Hp} {s : Shared} {l b : Addr} {xs ys zs : List V}
theorem Inv.lset {its its' : List Value} {n : Nat} {f : Array Value → Array Value} {t' : Nat} (I : Inv X pins σ H s) (hH : H l = some (.lst xs))
    (e : s.heap.get? l = some { cls := .type "list", data := .seq its.toArray n }) (hf : f its.toArray = its'.toArray) (hv : Vals ys its') (hz : ys.length ≤ sizeLine) :
    Inv X pins σ (upd H l (.lst ys)) { s with heap := s.heap.update l (Obj.mapSeq f), toks := t' } := by
  have q := PySem.IsL.update e f
  rw [hf] at q
  refine I.write (x := l) (e := l) (by rw [hH]; exact trivial) (.inl rfl) (fun b' u hb hu => (Heap.get?_update_other s.heap (Obj.mapSeq f) (Ne.symm hb)).trans hu) ⟨_, q⟩ ?_
  exact ⟨hz, its', _, hv, q⟩
theorem Inv.lnew {its : List Value} {t' : Nat} (I : Inv X pins σ H s) (hv : Vals ys its) (hz : ys.length ≤ sizeLine) :
    Inv X pins σ (upd H s.heap.objs.size (.lst ys)) { s with heap := s.heap.push { cls := .type "list", data := .seq its.toArray }, toks := t' } :=
  I.laid (fun _ _ q => Heap.get?_push_of_some _ q) (Nat.le_refl _) ⟨hz, its, 0, hv, Heap.get?_push_size _ rfl⟩
theorem Inv.fresh (I : Inv X pins σ H s) : H s.heap.objs.size = none := I.hok.fresh (Nat.le_refl _)
theorem Inv.lstM (I : Inv X pins σ H s) (hH : H l = some (.lst xs)) : xs.length ≤ sizeLine ∧ ∃ (its : List Value) (n : Nat), Vals xs its ∧ xs.length = its.length ∧ s.heap.get? l = some { cls := .type "list", data := .seq its.toArray n } := by
  obtain ⟨z, its, n, r, e⟩ := I.hok l _ hH
  exact ⟨z, its, n, r, r.length, e⟩
theorem notLongL {n : Nat} (h : n ≤ sizeLine) : Builtin.List.listTooLong n = false := by
  unfold Builtin.List.listTooLong
  exact decide_eq_false (by omega)
end
section
variable {X : Cx}
def rAppend : V → List V → Hp → VK → Prop := fun x vs H Q => ∃ l xs y, x = .ref l ∧ vs = [y] ∧ H l = some (.lst xs) ∧ xs.length < sizeLine ∧ Q .non (upd H l (.lst (xs ++ [y])))
theorem mt_append : MtM X "list.append" rAppend := by
  intro pins s σ H x vs v us Q I rx rv h
  obtain ⟨l, xs, y, rfl, rfl, hH, hz, q⟩ := h
  cases rx
  obtain ⟨u, rfl, ru⟩ := rv.one
  obtain ⟨z, its, n, r, hl, e⟩ := I.lstM hH
  refine call_meets F.slot_list_append ⟨_, e, rfl⟩ F.entry_list_append (F.args_list_append_2 _ _) (PySem.list_append l its.toArray n u (by rw [List.size_toArray]; omega)) ⟨e, ?_⟩
  refine ⟨.non, _, I.lset (its' := its ++ [u]) hH e (by simp) (r.append (.cons ru .nil)) ?_, rfl, q⟩
  rw [List.length_append, List.length_singleton]
  omega
def rExtend : V → List V → Hp → VK → Prop := fun x vs H Q => ∃ l b xs zs, x = .ref l ∧ vs = [.ref b] ∧ H l = some (.lst xs) ∧ H b = some (.lst zs) ∧ xs.length + zs.length ≤ sizeLine ∧ Q .non (upd H l (.lst (xs ++ zs)))
theorem mt_extend : MtM X "list.extend" rExtend := by
  intro pins s σ H x vs v us Q I rx rv h
  obtain ⟨l, b, xs, zs, rfl, rfl, hH, hB, hz, q⟩ := h
  cases rx
  obtain ⟨u, rfl, ru⟩ := rv.one
  cases ru
  obtain ⟨z, its, n, r, hl, e⟩ := I.lstM hH
  obtain ⟨z2, its2, n2, r2, hl2, e2⟩ := I.lstM hB
  have hsz : its.toArray.size + its2.toArray.size ≤ sizeLine := by rw [List.size_toArray, List.size_toArray]; omega
  have hlong : ¬ (!its.toArray.isEmpty && Builtin.List.listTooLong (its.toArray.size + its2.toArray.size)) = true := by
    rw [notLongL hsz, Bool.and_false]
    exact Bool.false_ne_true
  refine call_meets F.slot_list_extend ⟨_, e, rfl⟩ F.entry_list_extend (F.args_list_extend_2 _ _)
    (AutoSeq1.list_extend_list_list_0 l its.toArray n b its2.toArray n2 hlong (by rw [List.size_toArray]; omega) (by omega)) ⟨e, e2, ?_⟩
  refine ⟨.non, _, I.lset (its' := its ++ its2) hH e (by simp) (r.append r2) ?_, rfl, q⟩
  rw [List.length_append]
  omega
theorem len_rep {α : Type} (xs : List α) (k : Nat) : (List.replicate k xs).flatten.length = k * xs.length := by
  induction k with
  | zero => simp
  | succ k ih => rw [List.replicate_succ, List.flatten_cons, List.length_append, ih, Nat.succ_mul, Nat.add_comm]
end
section
variable {prog : Program} {w : World} {A : Around} {E : Value → Shared → Prop} {s : Shared}
set_option maxRecDepth 100000 in
end
section
variable {X : Cx}
end
end L2
namespace Att
open PySem PySem.W PySem.Calls PyProof.Rows
theorem ints_of_wellAll {P : Params} {h : Heap} : ∀ (ns : List Int) (vs : List Value), WellAll P h vs (ns.map WData.int) → IntsAre vs ns := by
  intro ns
  induction ns with
  | nil =>
    intro vs w
    rw [List.map_nil] at w
    cases w
    exact .nil
  | cons n ns ih =>
    intro vs w
    rw [List.map_cons] at w
    cases w with
    | cons a b =>
      cases a
      exact .cons _ _ (ih _ b)
theorem script_of {l : OpenLaw} {n : Nat} (hn : l.most = some n) {P : Params} {h : Heap} {args : List WData} {vals : List Value}
    (hpre : l.row.toRowW.claim.pre args = true) (hwl : WellAll P h vals args) :
    ∃ a vs ns, vals = [Value.ref a] ∧ args = [WData.list (ns.map WData.int)] ∧ h.get? a = some { cls := .type "list", data := .seq vs.toArray } ∧ IntsAre vs ns ∧ ns.length ≤ n := by
  have hsh : WShape.hasAll [] args [.list .int] = true := (pre_splitW hpre).1
  have hc : l.pre.holds [] { args := args } = true := (pre_splitW hpre).2
  obtain ⟨d, r, rfl, h1, h2⟩ := hasAllW_cons hsh
  obtain rfl := hasAllW_nil h2
  obtain ⟨xs, rfl, h3⟩ := hasW_list h1
  obtain ⟨ns, rfl⟩ := items_int h3
  have hlen : ns.length ≤ n := by
    unfold OpenLaw.pre at hc
    have h4 : (WTm.not (.lt (.lit (.int (n : Int))) (.len (.arg 0)))).holds [] { args := [.list (ns.map .int)] } = true := by
      have h4 := (holds_andW hc).1
      rw [hn] at h4
      exact h4
    have h5 := condW_of h4 (w_not (w_lt w_lit (w_len_list (w_arg rfl))))
    rw [List.length_map] at h5
    refine Nat.le_of_not_lt fun q => ?_
    have q' : (n : Int) < ((ns.length : Nat) : Int) := by omega
    first
      | (rw [decide_eq_true q'] at h5; exact absurd h5 (by decide))
      | (simp at h5; omega)
  cases hwl with
  | cons w1 w2 =>
    cases w2
    cases w1 with
    | list ho hall => exact ⟨_, _, ns, rfl, rfl, ho, ints_of_wellAll ns _ hall, hlen⟩
theorem post_true (l : OpenLaw) (args : List WData) : l.row.toRowW.claim.post args (.bool true) args = true :=
  postW_of (r := l.row.toRowW) (X := (true == true))
    (show WShape.has [] (.bool true) .bool = true by first | rfl | decide | simp [WShape.has, WShape.arms, WShape.armsAll])
    (show (WTm.eq .res (.lit (.bool true))).value [] { args := args, res := some (.bool true), after := args } = some (.bool (true == true)) from w_eq_bool (w_res rfl) w_lit) rfl
theorem attach_call {l : OpenLaw} {n : Nat} {q : Program} {loose : List Str} {XP : (Str → Option Value) → Heap → Prop} {YP : World → Heap → Prop} {d : DefRec}
    (hn : l.most = some n) (hdf : d.params.defaults = [])
    (call : ∀ (w : World) (s₀ s₁ : Shared) (mg mb : Str → Option Value) (fa : Addr) (o : Obj) (pm cd doc : Value) (a : Addr) (vs : List Value) (ns : List Int),
      Ground q loose [] XP w s₀ mg mb s₁.heap → YP w s₁.heap →
      s₁.heap.get? fa = some o → o.data = .func (docDef d.name d.params d.body d.scope pm cd doc) → s₁.heap.CodeRec cd d.name → mg d.name = some (.ref fa) →
      s₁.heap.get? a = some { cls := .type "list", data := .seq vs.toArray } → IntsAre vs ns → ns.length ≤ n → s₁.gens = #[] →
      codeAny (model l.prog w) callerA (.call (.ref fa) ⟨[.ref a], []⟩) (fun r s' => r = .ok (.ret (.bool true)) ∧ OldK s₁.heap s'.heap ∧ s'.os = s₁.os ∧ AllBare s'.gens) s₁) :
    WalkO q loose XP YP l.row.toRowW d [] (fun f vs => PySem.call f vs) := by
  intro w s₀ s₁ mg mb G Y fa o pm cd doc dV kV ho hd hcd hD hmg hg args vals as hpre hlay hrd hwl hlo
  obtain rfl : dV = .none := Dflts.none hD hdf
  obtain rfl : kV = .none := Dflts.noKw hD
  obtain ⟨a, vs, ns, rfl, rfl, hobj, hints, hlen⟩ := script_of hn hpre hwl
  refine enter_call (codeAny_mono (call w s₀ s₁ mg mb fa o pm cd doc a vs ns G Y ho (fd_plain hd) hcd hmg hobj hints hlen hg) fun r s' hq => ?_)
  obtain ⟨rfl, h2, h3, h4⟩ := hq
  exact ⟨.inl ⟨.bool true, .bool true, [], rfl, fun _ => rfl, .bool true, post_true l _, fun _ => ⟨List.Pairwise.nil, fun _ hm => (nomatch hm)⟩⟩, h2, h3, h4⟩
section
variable {prog : Program} {w : World} {A : Around} {E : Value → Shared → Prop} {s : Shared} {K : Frag}
def ledger (h : Heap) (L d : Addr) : List (Addr × Obj) := (List.range h.objs.size).filterMap fun a => if a = L ∨ a = d then none else (h.get? a).map fun o => (a, o)
end
end Att
namespace L2
open PySem PySem.Spec PyProof.Rows
theorem vals_ints : ∀ {vs : List Value} {ns : List Int}, IntsAre vs ns → Vals (ns.map V.int) vs
  | _, _, .nil => .nil
  | _, _, .cons n t h => .cons ⟨t, rfl⟩ (vals_ints h)
def Only (H : Hp) : Prop := ∀ b, H b = none ∨ ∃ o xs, H b = some (.frz o (.lst xs))
theorem law_call {P : Program} {w : World} {K : PySem.W.Frag} {mg mb : Str → Option Value} {CX : CXT} {k : Nat} {fa a : Addr} {fd : FuncData} {x : Str} {sp : Sp} {s₁ : Shared} {vs : List Value} {ns : List Int}
    (KX : K.In s₁.heap) (hns : s₁.heap.Ns mainGlobals mg) (hb : s₁.heap.Ns builtinsNs mb) (hbb : ∀ x : Str, x ≠ "__name__" → mb x = bootBuiltins x) (hlim : s₁.heap.NoLimit) (hg : s₁.gens = #[])
    (ha : s₁.heap.get? a = some { cls := .type "list", data := .seq vs.toArray }) (hi : IntsAre vs ns) (hl : ns.length ≤ sizeLine) (hr : Room k callerA)
    (F : ∀ base : Heap, K.In base → base.Ns mainGlobals mg → FnOk P w K mg base CX k fa fd [x] sp) (hbind : ∀ (s : Shared) (u : Value), BindsTo s fd ⟨[u], []⟩ [(x, u)])
    (hsp : ∀ H : Hp, Only H → SqL K H a (ns.map V.int) → sp [.ref a] H (fun v _ => v = .bl true) fun _ _ _ => False)
    (hCX : ∀ H e s', CX [] H s₁ (fun _ _ _ => False) e s' → False) :
    codeAny (model P w) callerA (.call (.ref fa) ⟨[.ref a], []⟩) (fun r s' => r = .ok (.ret (.bool true)) ∧ OldK s₁.heap s'.heap ∧ s'.os = s₁.os ∧ AllBare s'.gens) s₁ := by
  have rv := vals_ints hi
  have lenV := hi.length
  have core : ∀ H : Hp, Only H → SqL K H a (ns.map V.int) → HOk P w H s₁.heap → (∀ b, H b ≠ none → b = a) → (H a ≠ none → K.lookup a = none) →
      codeAny (model P w) callerA (.call (.ref fa) ⟨[.ref a], []⟩) (fun r s' => r = .ok (.ret (.bool true)) ∧ OldK s₁.heap s'.heap ∧ s'.os = s₁.os ∧ AllBare s'.gens) s₁ := by
    intro H hO hS hok hA hK
    have base_of : ∀ {b : Addr} {o : Obj}, s₁.heap.get? b = some o → H b = none → (hidT s₁.heap H).get? b = some o := fun e n => hidT_get e n
    have noA : ∀ {b : Addr} {o : Obj} {es : Array DictEntry} {ep : Nat}, s₁.heap.get? b = some o → o.data = .dict es ep → H b = none := fun {b o es ep} e d => by
      cases q : H b with
      | none => rfl
      | some u =>
        have e' : b = a := hA b (by rw [q]; simp)
        subst e'
        rw [ha] at e; cases e
        have d' : Data.seq vs.toArray _ = Data.dict es ep := d
        cases d'
    have nsK : ∀ {b : Addr} {m : Str → Option Value}, s₁.heap.Ns b m → (hidT s₁.heap H).Ns b m := fun {b m} ⟨o, es, ep, e, d, r⟩ => ⟨o, es, ep, base_of e (noA e d), d, r⟩
    have hKb : K.In (hidT s₁.heap H) := fun b o e => base_of (KX b o e) (by
      cases q : H b with
      | none => rfl
      | some u =>
        have e' : b = a := hA b (by rw [q]; simp)
        subst e'
        rw [hK (by rw [q]; simp)] at e; cases e)
    have hM : Mod K mg (hidT s₁.heap H) := ⟨hKb, nsK hns, ⟨mb, nsK hb, hbb⟩, let ⟨mc, h1, h2⟩ := hlim; ⟨mc, nsK h1, h2⟩⟩
    have e0 : Env0 P w K mg (hidT s₁.heap H) callerA [] s₁ H := ⟨rfl, hM, fun b o e => of_hidT e, Nat.le_of_eq (hidT_size _ _), trivial, fun b hb => absurd (show b ∈ ([] : List Addr) from hb) (by simp), hok, .of_eq hg⟩
    refine codeAny_mono ((F _ hKb (nsK hns)).run callerA [] s₁ H ⟨[.ref a], []⟩ [.ref a] [.ref a] _ _ hr e0 (hbind s₁ (.ref a)) (.cons rfl .nil) (hsp H hO hS)) fun r s' h => ?_
    cases r with
    | error e => exact (hCX H e s' h).elim
    | ok fl =>
      cases fl with
      | next => exact False.elim h
      | brk => exact False.elim h
      | cont => exact False.elim h
      | ret u =>
        obtain ⟨v, H', os, bare, un, hok', r', q⟩ := h
        have q' : v = .bl true := q
        subst q'
        obtain rfl : u = Value.bool true := r'
        refine ⟨rfl, OldK.of_keep fun b o e => ?_, os, bare⟩
        cases q : H b with
        | none => exact un.keep b o e q (by intro z; exact absurd (show b ∈ ([] : List Addr) from z) (by simp)) (by simp)
        | some u =>
          rcases hO b with z | ⟨ob, xs, z⟩
          · rw [q] at z; cases z
          · have z2 := un.frzs b ob _ z
            obtain ⟨e1, _⟩ := hok b _ z
            obtain ⟨e2, _⟩ := hok' b _ z2
            rw [e] at e1; cases e1
            exact e2
  cases hk : K.lookup a with
  | some o =>
    have e := KX a o hk
    rw [ha] at e
    cases e
    refine core (fun _ => none) (fun _ => .inl rfl) (.inr ⟨_, vs.toArray, _, hk, rfl, rfl, rfl, by rw [List.size_toArray, lenV]; exact hl, by simpa using rv⟩) (fun b u z => by have z' : (none : Option HO) = some u := z; cases z') (fun b z => absurd rfl z) fun z => absurd rfl z
  | none =>
    refine core (fun b => if b = a then some (.frz { cls := .type "list", data := .seq vs.toArray } (.lst (ns.map V.int))) else none) (fun b => ?_) (.inl (.inr ⟨{ cls := .type "list", data := .seq vs.toArray }, if_pos rfl⟩)) (fun b u z => ?_) (fun b z => ?_) fun _ => hk
    · by_cases hb : b = a
      · exact .inr ⟨_, _, if_pos hb⟩
      · exact .inl (if_neg hb)
    · by_cases hb : b = a
      · have z' := (if_pos hb).symm.trans z
        cases z'
        subst hb
        exact ⟨ha, by rw [List.length_map]; exact hl, vs, _, rv, ha⟩
      · have z' := (if_neg hb).symm.trans z
        cases z'
    · by_cases hb : b = a
      · exact hb
      · exact absurd (if_neg hb) z
end L2
namespace L2
open PySem PySem.Spec PyProof.Rows
abbrev KOf {K : PySem.W.Frag} {h : Heap} (_ : K.In h) : PySem.W.Frag := K
theorem walk_of {l : PySem.W.OpenLaw} {n k : Nat} {q : Program} {loose : List Str} {XP : (Str → Option Value) → Heap → Prop} {YP : World → Heap → Prop} {d : DefRec} {K : Params → PySem.W.Frag} {CX : World → CXT} {sp : World → Sp} {x : Str}
    (hn : l.most = some n) (hn2 : n ≤ sizeLine) (hdf : d.params.defaults = []) (hr : Room k callerA)
    (hY : ∀ (w : World) (h : Heap), YP w h → (K w.params).In h)
    (F : ∀ (w : World) (mg : Str → Option Value) (fa : Addr) (h : Heap), (K w.params).In h → h.Ns mainGlobals mg → mg d.name = some (.ref fa) →
      ∃ fd : FuncData, (∀ (s : Shared) (u : Value), BindsTo s fd ⟨[u], []⟩ [(x, u)]) ∧
        ∀ base : Heap, (K w.params).In base → base.Ns mainGlobals mg → FnOk l.prog w (K w.params) mg base (CX w) k fa fd [x] (sp w))
    (hsp : ∀ (w : World) (H : Hp) (a : Addr) (ns : List Int), ns.length ≤ n → Only H → SqL (K w.params) H a (ns.map V.int) → sp w [.ref a] H (fun v _ => v = .bl true) fun _ _ _ => False)
    (hCX : ∀ (w : World) (H : Hp) (s : Shared) (e : Value) (s' : Shared), CX w [] H s (fun _ _ _ => False) e s' → False) :
    PySem.W.WalkO q loose XP YP l.row.toRowW d [] (fun f vs => PySem.call f vs) := by
  refine Att.attach_call hn hdf fun w s₀ s₁ mg mb fa o pm cd doc a vs ns G Y ho hd hcd hmg hobj hints hlen hg => ?_
  have KX := hY w _ Y
  obtain ⟨fd, hb, hF⟩ := F w mg fa _ KX G.T.g hmg
  exact law_call KX G.T.g G.T.b G.T.builtins G.T.nolimit hg hobj hints (Nat.le_trans hlen hn2) hr hF hb (fun H hO hS => hsp w H a ns hlen hO hS) fun H e s' => hCX w H s₁ e s'
end L2
/- THE LAST THEOREM (shape; LID, My.* are yours):
   My.Adr: a structure of the addresses that your layer names (classes, functions); My.Txt K t: a structure (Prop) of the equations over K;
   My.txt_mk : {K} {implicit addresses ..} (e1 : nsIn K mainGlobals "law" = some (some (.ref f))) (e2 : K.lookup f = some ⟨oc, od, .func (fnOf "law" "law" params body scope dV kV doc pm an cdv ct), sl⟩) (e3 : codeIn K cdv "law" = true) .. : ∃ t, My.Txt K t
set_option maxRecDepth 100000 in
set_option maxHeartbeats 0 in
theorem PySem.Challenge.cw_LID_holds : PySem.Challenge.rw_LID.Holds := by
  w_on; o_law; k_head; (case hw => w_witness2)
  k_fill
  refine L2.walk_of (l := PySem.Challenge.rw_LID) (n := 63) (k := 40) (x := "script") (CX := fun w => ..) (sp := fun _ => My.sp_law) rfl (by decide) rfl ⟨rfl, by decide, by decide⟩ (fun w h Y => PySem.W.kIn_of Y) ?F ?S ?C
  case F =>
    intro w mg fa h KX G hmg
    have T : ∃ t, My.Txt (L2.KOf KX) t := by
      dsimp only [L2.KOf]                          -- K must stand as «<heap const> w.params» for k_is
      refine' My.txt_mk ?e1 ?e2 ?e3 ..
      (case e1 => PySem.W.k_is)                    -- in the order: a name -> its address -> its object -> its parts
      (case e2 => PySem.W.k_is)
      ..
    obtain ⟨t, T⟩ := T
    have e0 := hmg.symm.trans (PySem.W.mg_of KX G T.law)
    cases e0                                       -- fa is the law's own address
    exact ⟨_, fun s u => .of_eq rfl, fun base kb nb => My.law_fn T kb nb⟩     -- if «.of_eq rfl» comes too early: refine' ⟨_, ?b, fun base kb nb => My.law_fn T kb nb⟩; exact fun s u => .of_eq rfl
  case S => exact fun w H a ns hl hO hS => ..
  case C => exact ..
(the tactic k_is has no namespace: write k_is) -/
namespace L2
open PySem PySem.Spec PyProof.Rows
def inClass (s : Stmt) (j : Nat) : Stmt := match s with
  | .ClassDef _ _ _ body _ _ _ _ _ _ _ => body.getD j (.Pass ⟨0, 0, 0, 0⟩)
  | _ => .Pass ⟨0, 0, 0, 0⟩
def defArgs (s : Stmt) : Arguments := match s with
  | .FunctionDef _ a _ _ _ _ _ _ _ _ => a
  | _ => { posonlyargs := [], args := [], vararg := none, kwonlyargs := [], kw_defaults := [], kwarg := none, defaults := [] }
def defBody (s : Stmt) : List Stmt := match s with
  | .FunctionDef _ _ b _ _ _ _ _ _ _ => b
  | _ => []
def defScope (s : Stmt) : Scope := match s with
  | .FunctionDef _ _ _ _ _ _ sc _ _ _ => sc
  | _ => { kind := .function, names := [], isGenerator := false, isCoroutine := false }
abbrev CX0 : CXT := fun _ _ _ _ _ _ => False
abbrev E0 : XK := fun _ _ _ => False
theorem pass0 {X : Cx} : Passes CX0 X E0 := fun _ _ _ _ _ _ _ h => h.elim
structure Fun (K : PySem.W.Frag) (x qual : Str) (st : Stmt) (f : Addr) (fd : FuncData) : Prop where
  ex : ∃ (oc : Value) (od : Option Addr) (kV doc pm : Value) (an : Option Addr) (cdv ct : Value) (osl : Array (Option Value)),
    fd = PySem.W.fnOf x qual (defArgs st) (defBody st) (defScope st) .none kV doc pm an cdv ct ∧ K.lookup f = some ⟨oc, od, .func fd, osl⟩ ∧ PySem.W.codeIn K cdv qual = true
  kp : PySem.W.keepIn K (.ref f) = true
section
variable {P : Program} {w : World} {K : PySem.W.Frag} {mg : Str → Option Value} {base : Heap}
theorem Fun.ok {x qual : Str} {st : Stmt} {f : Addr} {fd : FuncData} {N ps : List Str} {k : Nat} {sp : Sp} (F : Fun K x qual st f fd) (S : FnScope N ps (defScope st)) (len : ∀ vs H Q E, sp vs H Q E → vs.length = ps.length)
    (hbody : ∀ (cdv : Value) (A : Around) (outer : List Env) (s : Shared) (H : Hp) (vs : List V) (Q : VK) (E : XK), Room k (A.deeper (envOfC qual (defScope st) s.heap.objs.size f cdv)) → sp vs H Q E →
      ∃ t, PSs (cxOf CX0 P w K mg base N qual (defScope st) f cdv A outer s H E).nox (defBody st) t ∧ t { nx := fun _ H' => Q .non H', rt := Q } (start N vs) H) : FnOk P w K mg base CX0 (k + 1) f fd ps sp := by
  obtain ⟨oc, od, kV, doc, pm, an, cdv, ct, osl, rfl, lk, hcd⟩ := F.ex
  refine fn_of lk hcd S len fun A outer s H vs Q E hr hsp => ?_
  obtain ⟨t, h, q⟩ := hbody cdv A outer s H vs Q E hr hsp
  exact ⟨t, h.nox, q⟩
theorem Fun.binds {x qual : Str} {st : Stmt} {f : Addr} {fd : FuncData} {ps : List Str} (F : Fun K x qual st f fd)
    (h : ∀ (kV doc pm : Value) (an : Option Addr) (cdv ct : Value) (us : List Value), us.length = ps.length → bindArgs (PySem.W.fnOf x qual (defArgs st) (defBody st) (defScope st) .none kV doc pm an cdv ct) ⟨us, []⟩ = pure (ps.zip us)) : Binds K fd ps [] := by
  obtain ⟨oc, od, kV, doc, pm, an, cdv, ct, osl, rfl, lk, hcd⟩ := F.ex
  exact .all (h kV doc pm an cdv ct)
theorem fun_mk {x qual : Str} {st : Stmt} {f : Addr} {oc : Value} {od an : Option Addr} {osl : Array (Option Value)} {kV doc pm cdv ct : Value} (l : K.lookup f = some ⟨oc, od, .func (PySem.W.fnOf x qual (defArgs st) (defBody st) (defScope st) .none kV doc pm an cdv ct), osl⟩)
    (c : PySem.W.codeIn K cdv qual = true) (k : PySem.W.keepIn K (.ref f) = true) : Fun K x qual st f (PySem.W.fnOf x qual (defArgs st) (defBody st) (defScope st) .none kV doc pm an cdv ct) := ⟨⟨oc, od, kV, doc, pm, an, cdv, ct, osl, rfl, l, c⟩, k⟩
end
section
variable {X : Cx}
theorem pv (i : Nat) {x : Str} {pos : Pos} (hN : X.N[i]? = some x := by rfl) (hv : Vis X.env.scope x := by first | exact Or.inl rfl | exact Or.inr (Or.inl rfl) | exact Or.inr (Or.inr rfl)) (hd : (x == ("__debug__" : Str)) = false := by decide)
    (hcd : (x == ("__classdict__" : Str)) = false := by decide) : PE X (.Name x pos) (tVar i) := pe_var hN hv hd hcd
end
theorem iteF {A B : Prop} (h : B) : if false = true then A else B := by
  rw [if_neg Bool.false_ne_true]
  exact h
theorem iteT {A B : Prop} (h : A) : if true = true then A else B := by
  rw [if_pos rfl]
  exact h
theorem ite2 {c A B : Prop} [Decidable c] (h1 : c → A) (h2 : ¬ c → B) : if c then A else B := by
  by_cases h : c
  · rw [if_pos h]
    exact h1 h
  · rw [if_neg h]
    exact h2 h
theorem iteNS {c A B : Prop} [Decidable c] (hc : c) (h : B) : if (!decide c) = true then A else B := by
  rw [decide_eq_true hc]
  exact iteF h
def Same (H H' : Hp) : Prop := ∀ b o, H b = some o → H' b = some o
theorem Same.refl (H : Hp) : Same H H := fun _ _ h => h
theorem Same.trans {H H1 H2 : Hp} (a : Same H H1) (b : Same H1 H2) : Same H H2 := fun c o h => b c o (a c o h)
theorem Same.free {H H' : Hp} (e : Same H H') {l : Addr} (h : H' l = Option.none) : H l = Option.none := by
  cases q : H l with
  | none => rfl
  | some o =>
    rw [e l o q] at h
    cases h
theorem Same.seq {K : PySem.W.Frag} {H H' : Hp} {a : Addr} {xs : List V} (e : Same H H') (h : SqL K H a xs) : SqL K H' a xs := by
  rcases h with (h | ⟨o, h⟩) | h
  · exact .inl (.inl (e _ _ h))
  · exact .inl (.inr ⟨o, e _ _ h⟩)
  · exact .inr h
end L2
set_option maxHeartbeats 4000000
namespace L2
open PySem PySem.Spec PyProof.Rows
section
variable {X : Cx}
theorem call_isinst : CallR X (.builtin "isinstance") (fun xs H Q => ∃ x T t b, xs = [x, .ty T] ∧ TyOf X.K H x t ∧ PySem.W.kitOne X.K t (.type T) = some b ∧ Q (.bl b) H) := by
  intro pins s σ H xs us Q I r h
  obtain ⟨x, T, t, b, rfl, ty, e, q⟩ := h
  obtain ⟨u, c, rfl, rx, rc⟩ := vals2 r
  cases (show c = Value.type T from rc)
  exact isinst_ok I rx ty e fun tk => ⟨.bl b, H, I.tok tk, rfl, q⟩
end
section
variable {X : Cx}
def cutS (z : Str) (lo hi : Option Int) : Str := ⟨((z.cps.toList.drop (HT.sIx z.length 0 lo)).take (HT.sIx z.length z.length hi - HT.sIx z.length 0 lo)).toArray⟩
theorem sIx_clip (n d : Nat) (v : Int) : max (0 : Int) (min (if v < 0 then v + (n : Int) else v) (n : Int)) = ((HT.sIx n d (some v) : Nat) : Int) := by
  show _ = (((if v < 0 then (v + (n : Int)).toNat else min v.toNat n) : Nat) : Int)
  by_cases hv : v < 0
  · simp only [if_pos hv]; omega
  · simp only [if_neg hv]; omega
theorem strIx_eq (lo hi : Option Int) (n : Nat) : Builtin.Str.strSliceIndices lo hi 1 n = (List.range (HT.sIx n n hi - HT.sIx n 0 lo)).map (fun k => HT.sIx n 0 lo + k) := by
  have h1 : (1 : Int) > 0 := by decide
  have hb : HT.sIx n n hi ≤ n := HT.sIx_le _ _ (Nat.le_refl _) hi
  have ha : HT.sIx n 0 lo ≤ n := HT.sIx_le _ _ (Nat.zero_le _) lo
  have key : ∀ a b : Nat, sliceRange (a : Int) (b : Int) 1 = (List.range (b - a)).map (fun k => a + k) := fun a b => sliceRange_one a b
  unfold Builtin.Str.strSliceIndices
  simp only [h1, if_true]
  cases lo with
  | none =>
    cases hi with
    | none => exact key 0 n
    | some v =>
      dsimp only
      rw [sIx_clip n n v]
      exact key 0 _
  | some u =>
    cases hi with
    | none =>
      dsimp only
      rw [sIx_clip n 0 u]
      exact key _ n
    | some v =>
      dsimp only
      rw [sIx_clip n n v, sIx_clip n 0 u]
      exact key _ _
theorem strPick_eq (z : Str) (lo hi : Option Int) : (Builtin.Str.strSliceIndices lo hi 1 z.length).filterMap (z.cps[·]?) = (z.cps.toList.drop (HT.sIx z.length 0 lo)).take (HT.sIx z.length z.length hi - HT.sIx z.length 0 lo) := by
  rw [strIx_eq]
  exact pick_run z.cps _ _
theorem strSlice_eq (z : Str) (lo hi : Option Int) : (if ((1 : Int) == 1 && (Builtin.Str.strSliceIndices lo hi 1 z.length).length == z.length) = true then z else ⟨((Builtin.Str.strSliceIndices lo hi 1 z.length).filterMap (z.cps[·]?)).toArray⟩) = cutS z lo hi := by
  rw [strPick_eq]
  split
  · rename_i h
    have hl : HT.sIx z.length z.length hi - HT.sIx z.length 0 lo = z.length := by
      rw [strIx_eq] at h
      simpa using h
    have hb : HT.sIx z.length z.length hi ≤ z.length := HT.sIx_le _ _ (Nat.le_refl _) hi
    have h0 : HT.sIx z.length 0 lo = 0 := by
      by_cases q : z.length = 0
      · have ha : HT.sIx z.length 0 lo ≤ z.length := HT.sIx_le _ _ (Nat.zero_le _) lo
        omega
      · omega
    unfold cutS
    rw [hl, h0, List.drop_zero, List.take_of_length_le (by simp [Str.length])]
  · rfl
def rSlS : V → Option Int → Option Int → Hp → VK → Prop := fun x lo hi H Q => ∃ z, x = .str z ∧ z.length ≤ sizeLine ∧ Q (.str (cutS z lo hi)) H
theorem cutS_len (z : Str) (lo hi : Option Int) : (cutS z lo hi).length ≤ z.length := by
  show (List.take _ (List.drop _ z.cps.toList)).toArray.size ≤ z.cps.size
  rw [List.size_toArray, List.length_take, List.length_drop, Array.length_toList]
  omega
theorem sl_str : SlR X rSlS := by
  intro pins s σ H x v vl vu lo hi sl Q I rx hs pl pu h
  obtain ⟨z, rfl, hz, q⟩ := h
  obtain ⟨t, rfl⟩ := rx
  refine ⟨"str", _, F.slot_str_getitem.lookup, typeIs_str _ _ _, ?_⟩
  have fin : ∀ (l u : Option (Int × Tok)), l.map (·.1) = lo → u.map (·.1) = hi → (sliceMade z t l u none).post (EP X pins σ Q) s := fun l u el eu => by
    subst el; subst eu
    refine post_val_or_str ?_
    have e := strSlice_eq z (l.map (·.1)) (u.map (·.1))
    have e' : (if (((none : Option (Int × Tok)).map (·.1)).getD 1 == 1 && (slicePicked z l u none).length == z.length) = true then z else ⟨((slicePicked z l u none).filterMap (z.cps[·]?)).toArray⟩) = cutS z (l.map (·.1)) (u.map (·.1)) := e
    rw [e']
    exact ⟨Nat.le_trans (cutS_len _ _ _) hz, fun t' k => ⟨.str _, H, I.tok k, ⟨t', rfl⟩, q⟩⟩
  cases pl with
  | none =>
    cases pu with
    | none => exact wpAny_getItem_str_slice (l := none) (u := none) (st := none) hs rfl (fin none none rfl rfl)
    | int j tj => exact wpAny_getItem_str_slice (l := none) (u := some (j, tj)) (st := none) hs rfl (fin none (some (j, tj)) rfl rfl)
  | int i ti =>
    cases pu with
    | none => exact wpAny_getItem_str_slice (l := some (i, ti)) (u := none) (st := none) hs rfl (fin (some (i, ti)) none rfl rfl)
    | int j tj => exact wpAny_getItem_str_slice (l := some (i, ti)) (u := some (j, tj)) (st := none) hs rfl (fin (some (i, ti)) (some (j, tj)) rfl rfl)
end
mutual
inductive RdV (K : PySem.W.Frag) (H : Hp) : V → PyData → Prop where
  | non : RdV K H .non .none
  | bl (b : Bool) : RdV K H (.bl b) (.bool b)
  | int (i : Int) : RdV K H (.int i) (.int i)
  | str (x : Str) : RdV K H (.str x) (.str x)
  | lst {a : Addr} {xs : List V} {ds : List PyData} : SqL K H a xs → RdAll K H xs ds → RdV K H (.ref a) (.list ds)
  | tup {a : Addr} {xs : List V} {ds : List PyData} : SqT K H a xs → RdAll K H xs ds → RdV K H (.ref a) (.tuple ds)
inductive RdAll (K : PySem.W.Frag) (H : Hp) : List V → List PyData → Prop where
  | nil : RdAll K H [] []
  | cons {v : V} {vs : List V} {d : PyData} {ds : List PyData} : RdV K H v d → RdAll K H vs ds → RdAll K H (v :: vs) (d :: ds)
end
section
variable {X : Cx} {pins : List (Addr × Obj)} {σ : St} {H : Hp} {s : Shared}
mutual
theorem RdV.reads (I : Inv X pins σ H s) : ∀ {v : V} {d : PyData} {u : Value}, RdV X.K H v d → RelV v u → ∃ as, Reads s.heap u d as
  | _, _, u, .non, r => by cases (show u = Value.none from r); exact ⟨_, .none⟩
  | _, _, u, .bl b, r => by cases (show u = Value.bool b from r); exact ⟨_, .bool b⟩
  | _, _, u, .int i, r => by obtain ⟨t, e⟩ := (show ∃ t, u = Value.int i t from r); cases e; exact ⟨_, .int i t⟩
  | _, _, u, .str x, r => by obtain ⟨t, e⟩ := (show ∃ t, u = Value.str x t from r); cases e; exact ⟨_, .str x t⟩
  | _, _, u, @RdV.lst _ _ a xs ds hq hr, r => by
    cases (show u = Value.ref a from r)
    obtain ⟨its, rv, ⟨o, n, e, c, _, dt⟩, _⟩ := I.list hq
    obtain ⟨as, q⟩ := RdAll.reads I hr rv
    exact ⟨_, .list e c dt (by simpa using q)⟩
  | _, _, u, @RdV.tup _ _ a xs ds hq hr, r => by
    cases (show u = Value.ref a from r)
    obtain ⟨its, rv, ⟨o, e, c, n, dt⟩, _⟩ := I.tuple hq
    obtain ⟨as, q⟩ := RdAll.reads I hr rv
    exact ⟨_, .tuple e c dt (by simpa using q)⟩
theorem RdAll.reads (I : Inv X pins σ H s) : ∀ {vs : List V} {ds : List PyData} {us : List Value}, RdAll X.K H vs ds → Vals vs us → ∃ as, ReadsAll s.heap us ds as
  | _, _, _, .nil, r => by cases r; exact ⟨_, .nil⟩
  | _, _, _, .cons h t, r => by
    cases r with
    | cons r1 r2 =>
      obtain ⟨as, q⟩ := RdV.reads I h r1
      obtain ⟨bs, q2⟩ := RdAll.reads I t r2
      exact ⟨_, .cons q q2⟩
end
end
section
variable {X : Cx}
def rEqD (K : PySem.W.Frag) (A : Around) (neg : Bool) : R2 := fun x y H Q => ∃ d e : PyData, RdV K H x d ∧ RdV K H y e ∧ d.canLay0 = true ∧ e.canLay0 = true ∧ A.units + min d.depth e.depth < cLine ∧ Q (.bl (if neg then !PyData.eqv d e else PyData.eqv d e)) H
theorem op_eqD : OpR X (compareOp .Eq) (rEqD X.K X.A false) := by
  intro pins s σ H x y v u Q I rx ry h
  obtain ⟨d, e, hd, he, cd, ce, hu, q⟩ := h
  obtain ⟨as, q1⟩ := hd.reads I rx
  obtain ⟨bs, q2⟩ := he.reads I ry
  exact SeqAt.compareEq_reads q1 q2 cd ce hu ⟨.bl _, H, I, rfl, q⟩
end
mutual
theorem eqv_self : ∀ d : PyData, d.canLay0 = true → PyData.eqv d d = true
  | .none, _ => by simp [PyData.eqv]
  | .bool _, _ => by simp [PyData.eqv]
  | .int _, _ => by simp [PyData.eqv]
  | .str _, _ => by simp [PyData.eqv]
  | .list xs, h => by
    simp only [PyData.eqv]
    exact eqvAll_self xs (by simpa [PyData.canLay0] using h)
  | .tuple xs, h => by
    simp only [PyData.eqv]
    exact eqvAll_self xs (by simpa [PyData.canLay0] using h)
  | .dict _, h => by simp [PyData.canLay0] at h
theorem eqvAll_self : ∀ ds : List PyData, PyData.canLayAll0 ds = true → PyData.eqvAll ds ds = true
  | [], _ => by simp [PyData.eqvAll]
  | d :: ds, h => by
    simp only [PyData.canLayAll0, Bool.and_eq_true] at h
    simp only [PyData.eqvAll, Bool.and_eq_true]
    exact ⟨eqv_self d h.1, eqvAll_self ds h.2⟩
end
theorem in_one (z : Str) (c : Nat) : (!(Builtin.Str.occurrences z ⟨#[c]⟩ 0 z.length 1).isEmpty) = decide (c ∈ z.cps.toList) := PySem.StrLaws.found_one z c
theorem op_in_one {X : Cx} : OpR X (compareOp .In) (fun x y H Q => ∃ c z, x = .str ⟨#[c]⟩ ∧ y = .str z ∧ Q (.bl (decide (c ∈ z.cps.toList))) H) := by
  intro pins s σ H x y v u Q I rx ry h
  obtain ⟨c, z, e1, e2, q⟩ := h
  exact op_in_str pins s σ H x y v u Q I rx ry ⟨_, _, e1, e2, by rw [in_one]; exact q⟩
end L2
namespace L2
open PySem PySem.Spec PyProof.Rows
structure Fn (P : Program) (w : World) (K : PySem.W.Frag) (mg : Str → Option Value) (base : Heap) (k : Nat) (x : Str) (ps : List Str) (sp : Sp) : Prop where
  ex : ∃ (f : Addr) (fd : FuncData), FnOk P w K mg base CX0 k f fd ps sp ∧ Binds K fd ps [] ∧ PySem.W.keepIn K (.ref f) = true ∧ mg x = some (.ref f)
theorem pe_fn {X : Cx} {k k' : Nat} {x : Str} {ps : List Str} {sp : Sp} {p pos : Pos} {e : Expr} {es : List Expr} {t : TA} (F : Fn X.prog X.w X.K X.mg X.base k x ps sp) (hr : Room k' X.A) (ha : PA X (e :: es) t) (hk : k ≤ k' := by decide) (hg : Gl X x := by rfl)
    (hdb : (x == ("__debug__" : Str)) = false := by decide) (he : starEach (e :: es) X.env = (false, eval e X.env) :: starEach es X.env := by rfl) (hpl : (backTo pos (starEach es X.env)).any (·.1) = false := by rfl) :
    PE X (.Call (.Name x p) (e :: es) [] pos) (tCall sp [] E0 t) := by
  obtain ⟨f, fd, h1, h2, h3, h4⟩ := F.ex
  exact pe_call h1 (hr.mono hk) hg h4 h3 h2 .nil pass0 ha hdb he hpl
theorem iteP {c A B : Prop} [Decidable c] (hc : c) (h : A) : if decide c = true then A else B := by
  rw [decide_eq_true hc]
  exact iteT h
theorem iteN {c A B : Prop} [Decidable c] (hc : ¬ c) (h : B) : if decide c = true then A else B := by
  rw [decide_eq_false hc]
  exact iteF h
theorem same_new {H : Hp} {p : Addr} (h : H p = Option.none) (o : HO) : Same H (upd H p o) := fun b u q => by rw [upd_ne (ne_of_none q h)]; exact q
def S (l : List Nat) : Str := ⟨l.toArray⟩
theorem S_list (l : List Nat) : (S l).cps.toList = l := by simp [S]
theorem S_len (l : List Nat) : (S l).length = l.length := by simp [S, Str.length]
theorem S_self (z : Str) : S z.cps.toList = z := by cases z; simp [S]
theorem S_inj {a b : List Nat} (h : S a = S b) : a = b := by
  have := congrArg (fun z : Str => z.cps.toList) h
  simpa [S_list] using this
theorem S_app (a b : List Nat) : S a ++ S b = S (a ++ b) := by
  show Str.append (S a) (S b) = S (a ++ b)
  simp [Str.append, S]
end L2
namespace L2
open PySem PySem.Spec PyProof.Rows
def tCut (t : TS) : TS := fun D σ H => ∃ R : St → Hp → Prop, t { D with nx := R } σ H ∧ ∀ σ' H', R σ' H' → D.nx σ' H'
theorem ps_cut {X : Cx} {st : Stmt} {t : TS} (h : PS X st t) : PS X st (tCut t) := by
  intro pins s σ H D I hw
  obtain ⟨R, h1, h2⟩ := hw
  refine thn (h pins s σ H { D with nx := R } I h1) fun f s1 q => ?_
  cases f with
  | next =>
    obtain ⟨σ', H', I', q⟩ := q
    exact ⟨σ', H', I', h2 _ _ q⟩
  | brk => exact q
  | cont => exact q
  | ret v => exact q
end L2
namespace L2
open PySem PySem.Spec PyProof.Rows
structure DefAt (K : PySem.W.Frag) (x : Str) (st : Stmt) : Prop where
  ex : ∃ (f : Addr) (oc : Value) (od : Option Addr) (kV doc pm : Value) (an : Option Addr) (cdv ct : Value) (osl : Array (Option Value)),
    PySem.W.nsIn K mainGlobals x = some (some (.ref f)) ∧ K.lookup f = some ⟨oc, od, .func (PySem.W.fnOf x x (defArgs st) (defBody st) (defScope st) .none kV doc pm an cdv ct), osl⟩ ∧ PySem.W.codeIn K cdv x = true ∧ PySem.W.keepIn K (.ref f) = true
theorem DefAt.mk' {K : PySem.W.Frag} {x : Str} {st : Stmt} {f : Addr} {oc : Value} {od : Option Addr} {kV doc pm : Value} {an : Option Addr} {cdv ct : Value} {osl : Array (Option Value)}
    (a : PySem.W.nsIn K mainGlobals x = some (some (.ref f))) (l : K.lookup f = some ⟨oc, od, .func (PySem.W.fnOf x x (defArgs st) (defBody st) (defScope st) .none kV doc pm an cdv ct), osl⟩) (c : PySem.W.codeIn K cdv x = true) (k : PySem.W.keepIn K (.ref f) = true) : DefAt K x st :=
  ⟨f, oc, od, kV, doc, pm, an, cdv, ct, osl, a, l, c, k⟩
theorem DefAt.fn {P : Program} {w : World} {K : PySem.W.Frag} {mg : Str → Option Value} {base h : Heap} {k : Nat} {x : Str} {st : Stmt} {ps : List Str} {sp : Sp} (D : DefAt K x st) (X : K.In h) (G : h.Ns mainGlobals mg)
    (ok : ∀ (f : Addr) (fd : FuncData), Fun K x x st f fd → FnOk P w K mg base CX0 k f fd ps sp)
    (hb : ∀ (kV doc pm : Value) (an : Option Addr) (cdv ct : Value) (us : List Value), us.length = ps.length → bindArgs (PySem.W.fnOf x x (defArgs st) (defBody st) (defScope st) .none kV doc pm an cdv ct) ⟨us, []⟩ = pure (ps.zip us)) : Fn P w K mg base k x ps sp := by
  obtain ⟨f, oc, od, kV, doc, pm, an, cdv, ct, osl, a, l, c, kp⟩ := D.ex
  have F := fun_mk (st := st) l c kp
  exact ⟨f, _, ok f _ F, F.binds hb, kp, PySem.W.mg_of X G a⟩
end L2
namespace K3
def letL : List Nat := [97, 98, 99, 100, 101, 102, 103, 104, 105, 106, 107, 108, 109, 110, 111, 112, 113, 114, 115, 116, 117, 118, 119, 120, 121, 122]
def figL : List Nat := [48, 49, 50, 51, 52, 53, 54, 55, 56, 57]
def sgnL : List Nat := [40, 41, 59, 58, 61, 124, 42]
theorem let_sgn : ∀ c ∈ letL, c ∉ sgnL := by decide
theorem let_fig : ∀ c ∈ letL, c ∉ figL := by decide
theorem fig_sgn : ∀ c ∈ figL, c ∉ sgnL := by decide
theorem fig_let : ∀ c ∈ figL, c ∉ letL := by decide
theorem sgn_32 : ∀ c ∈ sgnL, c ≠ 32 ∧ c ≠ 45 := by decide
theorem let_32 : ∀ c ∈ letL, c ≠ 32 ∧ c ≠ 45 := by decide
theorem fig_32 : ∀ c ∈ figL, c ≠ 32 ∧ c ≠ 45 := by decide
theorem n45 : 45 ∉ sgnL ∧ 45 ∉ letL ∧ (45 : Nat) ≠ 32 := by decide
theorem n32 : 32 ∉ letL ∧ 32 ∉ figL := by decide
structure Num (w : List Nat) : Prop where
  ne : w ≠ []
  len : w.length ≤ 60
  all : ∀ c ∈ w, c ∈ figL
  lead : w[0]? = some 48 → w.length = 1
inductive Word : List Nat → Prop where
  | sign {c : Nat} : c ∈ sgnL → Word [c]
  | name {w : List Nat} : w ≠ [] → w.length ≤ 8 → (∀ c ∈ w, c ∈ letL) → Word w
  | num {w : List Nat} : Num w → Word w
  | neg {w : List Nat} : Num w → w ≠ [48] → Word (45 :: w)
def Sep (w rest : List Nat) : Prop := ∀ a b, w.getLast? = some a → rest[0]? = some b → ¬ (a ∈ letL ∧ b ∈ letL) ∧ ¬ (a ∈ figL ∧ b ∈ figL)
theorem Word.ne {w : List Nat} (h : Word w) : w ≠ [] := by
  cases h with
  | sign _ => simp
  | name h _ _ => exact h
  | num h => exact h.ne
  | neg _ _ => simp
theorem Word.len {w : List Nat} (h : Word w) : w.length ≤ 61 := by
  cases h with
  | sign _ => simp
  | name _ h _ => omega
  | num h => have := h.len; omega
  | neg h _ => have := h.len; simp only [List.length_cons]; omega
theorem Word.head {w : List Nat} (h : Word w) : ∃ c r, w = c :: r ∧ c ≠ 32 := by
  cases h with
  | @sign c h => exact ⟨c, [], rfl, (sgn_32 c h).1⟩
  | name h _ a =>
    cases w with
    | nil => exact absurd rfl h
    | cons c r => exact ⟨c, r, rfl, (let_32 c (a c (by simp))).1⟩
  | num h =>
    cases w with
    | nil => exact absurd rfl h.ne
    | cons c r => exact ⟨c, r, rfl, (fig_32 c (h.all c (by simp))).1⟩
  | @neg w h _ => exact ⟨45, w, rfl, n45.2.2⟩
def run (L : List Nat) (t : List Nat) : List Nat := t.takeWhile fun c => decide (c ∈ L)
theorem run_eq {L w rest : List Nat} (h : ∀ c ∈ w, c ∈ L) (hr : ∀ b, rest[0]? = some b → b ∉ L) : run L (w ++ rest) = w := by
  unfold run
  induction w with
  | nil =>
    cases rest with
    | nil => rfl
    | cons b r =>
      have := hr b (by simp)
      simp [this]
  | cons c w ih =>
    have hc : c ∈ L := h c (by simp)
    rw [List.cons_append, List.takeWhile_cons, if_pos (by simpa using hc), ih (fun d hd => h d (by simp [hd]))]
theorem last_of {w : List Nat} (h : w ≠ []) : ∃ a, w.getLast? = some a ∧ a ∈ w := by
  refine ⟨w.getLast h, List.getLast?_eq_some_getLast h, List.getLast_mem h⟩
theorem Sep.let_of {w rest : List Nat} (s : Sep w rest) (h : w ≠ []) (a : ∀ c ∈ w, c ∈ letL) : ∀ b, rest[0]? = some b → b ∉ letL := fun b hb q => by
  obtain ⟨x, hx, hm⟩ := last_of h
  exact (s x b hx hb).1 ⟨a x hm, q⟩
theorem Sep.fig_of {w rest : List Nat} (s : Sep w rest) (h : w ≠ []) (a : ∀ c ∈ w, c ∈ figL) : ∀ b, rest[0]? = some b → b ∉ figL := fun b hb q => by
  obtain ⟨x, hx, hm⟩ := last_of h
  exact (s x b hx hb).2 ⟨a x hm, q⟩
theorem Sep.tail {c : Nat} {w rest : List Nat} (s : Sep (c :: w) rest) (h : w ≠ []) : Sep w rest := fun a b ha hb => s a b (by
  cases w with
  | nil => exact absurd rfl h
  | cons d w => rw [List.getLast?_cons_cons]; exact ha) hb
inductive Writ : List Nat → List (List Nat) → Prop where
  | nil : Writ [] []
  | blank {t ws} : Writ t ws → Writ (32 :: t) ws
  | word {w t ws} : Word w → Sep w t → Writ t ws → Writ (w ++ t) (w :: ws)
def D (n : Nat) : List Nat := (Nat.toDigits 10 n).map Char.toNat
theorem dig (d : Nat) (h : d < 10) : (Nat.digitChar d).toNat = 48 + d := by
  have : ∀ d : Nat, d < 10 → (Nat.digitChar d).toNat = 48 + d := by decide
  exact this d h
theorem fig_of (d : Nat) (h : d < 10) : 48 + d ∈ figL := by
  have : ∀ d : Nat, d < 10 → 48 + d ∈ figL := by decide
  exact this d h
theorem D_small {n : Nat} (h : n < 10) : D n = [48 + n] := by
  unfold D
  rw [Nat.toDigits_of_lt_base h]
  simp [dig n h]
theorem D_step {n : Nat} (h : ¬ n < 10) : D n = D (n / 10) ++ [48 + n % 10] := by
  have hm : n % 10 < 10 := Nat.mod_lt n (by decide)
  have t : Nat.toDigits 10 (n / 10) ++ Nat.toDigits 10 (n % 10) = Nat.toDigits 10 (10 * (n / 10) + n % 10) := Nat.toDigits_append_toDigits (by decide) (by omega) hm
  rw [Nat.div_add_mod] at t
  unfold D
  rw [← t, List.map_append, Nat.toDigits_of_lt_base hm]
  simp [dig _ hm]
theorem D_facts : ∀ (k n : Nat), n < 10 ^ (k + 1) → D n ≠ [] ∧ (D n).length ≤ k + 1 ∧ (∀ c ∈ D n, c ∈ figL) ∧ (n ≠ 0 → (D n)[0]? ≠ some 48)
  | 0, n, h => by
    have h' : n < 10 := by simpa using h
    rw [D_small h']
    refine ⟨by simp, by simp, fun c hc => ?_, fun hn => ?_⟩
    · have : c = 48 + n := by simpa using hc
      rw [this]; exact fig_of n h'
    · simp; exact hn
  | k + 1, n, h => by
    by_cases h10 : n < 10
    · rw [D_small h10]
      refine ⟨by simp, by simp, fun c hc => ?_, fun hn => ?_⟩
      · have : c = 48 + n := by simpa using hc
        rw [this]; exact fig_of n h10
      · simp; exact hn
    · have hd : n / 10 < 10 ^ (k + 1) := by
        have : n < 10 * 10 ^ (k + 1) := by rw [Nat.pow_succ] at h; omega
        omega
      obtain ⟨a, b, c, d⟩ := D_facts k (n / 10) hd
      rw [D_step h10]
      refine ⟨by simp, by simp; omega, fun x hx => ?_, fun _ => ?_⟩
      · rcases List.mem_append.mp hx with q | q
        · exact c x q
        · have : x = 48 + n % 10 := by simpa using q
          rw [this]; exact fig_of _ (Nat.mod_lt n (by decide))
      · have e : (D (n / 10) ++ [48 + n % 10])[0]? = (D (n / 10))[0]? := by
          cases q : D (n / 10) with
          | nil => exact absurd q a
          | cons x r => simp
        rw [e]
        exact d (by omega)
theorem D_num {n : Nat} (h : n < 10 ^ 60) : Num (D n) := by
  obtain ⟨a, b, c, d⟩ := D_facts 59 n h
  refine ⟨a, b, c, fun q => ?_⟩
  by_cases hn : n = 0
  · subst hn; rw [D_small (by decide)]; rfl
  · exact absurd q (d hn)
theorem D_ne {n : Nat} (h : n < 10 ^ 60) (hn : n ≠ 0) : D n ≠ [48] := fun q => by
  obtain ⟨a, b, c, d⟩ := D_facts 59 n h
  exact d hn (by rw [q]; rfl)
end K3
namespace K3
theorem seg_step {L : List Nat} {k e c : Nat} (hk : k ≤ e) (he : L[e]? = some c) : (L.drop k).take (e + 1 - k) = (L.drop k).take (e - k) ++ [c] := by
  have h1 : e + 1 - k = (e - k) + 1 := by omega
  rw [h1, List.take_add_one, List.getElem?_drop, show k + (e - k) = e by omega, he]
  rfl
theorem seg_stop {L sg : List Nat} {k e : Nat} (hk : k ≤ e) (hall : ∀ c ∈ (L.drop k).take (e - k), c ∈ sg) (hstop : ∀ c, L[e]? = some c → c ∉ sg) : run sg (L.drop k) = (L.drop k).take (e - k) := by
  have h := run_eq (L := sg) (w := (L.drop k).take (e - k)) (rest := (L.drop k).drop (e - k)) hall (fun b hb => by
    rw [List.drop_drop, show k + (e - k) = e by omega] at hb
    exact hstop b (by simpa [List.getElem?_drop] using hb))
  rw [List.take_append_drop] at h
  exact h
theorem Writ.len {t : List Nat} {ws : List (List Nat)} (h : Writ t ws) : ws.length ≤ t.length := by
  induction h with
  | nil => simp
  | blank _ ih => simp only [List.length_cons]; omega
  | word hw _ _ ih =>
    have : 0 < (_ : List Nat).length := List.length_pos_iff.mpr hw.ne
    simp only [List.length_cons, List.length_append]; omega
theorem Writ.words {t : List Nat} {ws : List (List Nat)} (h : Writ t ws) : ∀ w ∈ ws, Word w := by
  induction h with
  | nil => intro w hw; cases hw
  | blank _ ih => exact ih
  | word hw _ _ ih =>
    intro w h
    rcases List.mem_cons.mp h with q | q
    · rw [q]; exact hw
    · exact ih w q
theorem Writ.step {t : List Nat} {ws : List (List Nat)} (h : Writ t ws) (ht : t ≠ []) :
    (∃ r, t = 32 :: r ∧ Writ r ws) ∨ ∃ w r vs, t = w ++ r ∧ ws = w :: vs ∧ Word w ∧ Sep w r ∧ Writ r vs := by
  cases h with
  | nil => exact absurd rfl ht
  | blank h => exact .inl ⟨_, rfl, h⟩
  | word a b c => exact .inr ⟨_, _, _, rfl, rfl, a, b, c⟩
theorem log_small {n : Nat} (h : n < 10 ^ 61) : n.log2 < 1920 := by
  by_cases h0 : n = 0
  · subst h0; decide
  · have h1 : 10 ^ 61 ≤ 2 ^ 203 := by decide
    have h2 : 2 ^ 203 ≤ 2 ^ 1920 := Nat.pow_le_pow_right (by decide) (by decide)
    exact (Nat.log2_lt h0).mpr (Nat.lt_of_lt_of_le h (Nat.le_trans h1 h2))
end K3
namespace K14
open PySem L2 K3
def top (i : Nat) : Stmt := PySem.Challenge.pw_turnery_k14_many_modes_shown.main.body.getD i (.Pass ⟨0, 0, 0, 0⟩)
abbrev sWords : Stmt := top 11
abbrev sWordAt : Stmt := top 12
abbrev sNameAt : Stmt := top 13
abbrev sBelow : Stmt := top 14
abbrev sFigures : Stmt := top 15
abbrev sRun : Stmt := top 16
abbrev sReader : Stmt := top 18
abbrev sBegins : Stmt := top 19
abbrev sIsCall : Stmt := top 21
abbrev sSize : Stmt := top 22
abbrev sCalls : Stmt := top 23
abbrev sKeeps : Stmt := top 24
abbrev sWithM : Stmt := top 25
abbrev sWithP : Stmt := top 26
abbrev sShowM : Stmt := top 28
abbrev sShowB : Stmt := top 29
abbrev sTwice : Stmt := top 31
abbrev sOwnW : Stmt := top 32
abbrev sRowsOf : Stmt := top 33
abbrev sRowOf : Stmt := top 34
abbrev sSound : Stmt := top 36
abbrev sRulesF : Stmt := top 37
abbrev sCallsF : Stmt := top 38
abbrev sCallF : Stmt := top 39
abbrev sRead : Stmt := top 44
abbrev sRuleF : Stmt := top 45
abbrev sTermF : Stmt := top 46
abbrev sChkN : Stmt := top 47
abbrev sTurnO : Stmt := top 48
abbrev sModeO : Stmt := top 49
abbrev sChkM : Stmt := top 50
abbrev sNumd : Stmt := top 51
abbrev sShowT : Stmt := top 52
abbrev sShowR : Stmt := top 53
abbrev sShowTm : Stmt := top 54
abbrev sShowMo : Stmt := top 55
abbrev sCell : Stmt := top 57
abbrev sMode : Stmt := top 58
abbrev sMark : Stmt := top 59
abbrev sLaw : Stmt := top 60
abbrev LETS : Str := Str.ofString "abcdefghijklmnopqrstuvwxyz"
abbrev FIGS : Str := Str.ofString "0123456789"
abbrev SGNS : Str := Str.ofString "();:=|*"
theorem let_eq : LETS = S letL := by decide +kernel
theorem fig_eq : FIGS = S figL := by decide +kernel
theorem sgn_eq : SGNS = S sgnL := by decide +kernel
theorem let_cps : LETS.cps.toList = letL := by rw [let_eq, S_list]
theorem fig_cps : FIGS.cps.toList = figL := by rw [fig_eq, S_list]
theorem sgn_cps : SGNS.cps.toList = sgnL := by rw [sgn_eq, S_list]
theorem minus_eq : Str.ofString "-" = S [45] := by decide +kernel
theorem blank_eq : Str.ofString " " = S [32] := by decide +kernel
theorem zero_eq : Str.ofString "0" = S [48] := by decide +kernel
theorem none_eq : Str.ofString "" = S [] := by decide +kernel
theorem size_line : sizeLine = 16777216 := by decide
structure Gm (mg : Str → Option Value) : Prop where
  len : mg "len" = none
  isi : mg "isinstance" = none
  str : mg "str" = none
  lst : mg "list" = none
  rng : mg "range" = none
  tup : mg "tuple" = none
  int : mg "int" = none
  sum : mg "sum" = none
  lets : ∃ t, mg "LETTERS" = some (.str LETS t)
  figs : ∃ t, mg "FIGURES" = some (.str FIGS t)
  sgns : ∃ t, mg "SIGNS" = some (.str SGNS t)
  ml : ∃ t, mg "MOST_LETTERS" = some (.int 8 t)
  mf : ∃ t, mg "MOST_FIGURES" = some (.int 60 t)
def spRun : Sp := fun vs H Q _ => ∃ (z : List Nat) (k : Nat) (sg : List Nat), vs = [.str (S z), .int k, .str (S sg)] ∧ z.length ≤ 5000 ∧ k ≤ z.length ∧ Q (.str (S (run sg (z.drop k)))) H
def spFig : Sp := fun vs H Q _ => ∃ (z : List Nat) (k : Nat), vs = [.str (S z), .int k] ∧ z.length ≤ 5000 ∧ k ≤ z.length ∧ Num (run figL (z.drop k)) ∧ Q (.str (S (run figL (z.drop k)))) H
def spBelow : Sp := fun vs H Q _ => ∃ (z : List Nat) (k : Nat), vs = [.str (S z), .int k] ∧ z.length ≤ 5000 ∧ k ≤ z.length ∧ Num (run figL (z.drop k)) ∧ run figL (z.drop k) ≠ [48] ∧ Q (.str (S (run figL (z.drop k)))) H
def spNameAt : Sp := fun vs H Q _ => ∃ (z : List Nat) (k : Nat), vs = [.str (S z), .int k] ∧ z.length ≤ 5000 ∧ k ≤ z.length ∧ (run letL (z.drop k)).length ≤ 8 ∧ Q (.str (S (run letL (z.drop k)))) H
def spWordAt : Sp := fun vs H Q _ => ∃ (z : List Nat) (k : Nat) (w r : List Nat), vs = [.str (S z), .int k] ∧ z.length ≤ 5000 ∧ z.drop k = w ++ r ∧ Word w ∧ Sep w r ∧ Q (.str (S w)) H
def W (ws : List (List Nat)) : List V := ws.map fun w => V.str (S w)
def spWords : Sp := fun vs H Q _ => ∃ (z : List Nat) (ws : List (List Nat)), vs = [.str (S z)] ∧ z.length ≤ 5000 ∧ Writ z ws ∧ ∀ (l : Addr) (H' : Hp), Same H H' → H' l = some (.lst (W ws)) → H l = none → Q (.ref l) H'
theorem line_of {n : Nat} (h : n ≤ 5000) : n ≤ sizeLine := by rw [size_line]; omega
theorem atS {z : List Nat} {k : Nat} {c : Nat} (h : z[k]? = some c) : atI (S z).cps.toList (k : Int) = some c := by
  rw [S_list]; exact atI_nat h
theorem one_S (c : Nat) : (⟨#[c]⟩ : Str) = S [c] := rfl
theorem str_ne {a b : List Nat} (h : a ≠ b) : ¬ V.str (S a) = V.str (S b) := fun q => h (S_inj (by injection q))
section
variable {P : Program} {w : World} {K : PySem.W.Frag} {mg : Str → Option Value} {base : Heap} {f : Addr} {fd : FuncData}
theorem scRun : FnScope ["text", "start", "signs", "end"] ["text", "start", "signs"] (defScope sRun) := ⟨rfl, rfl, rfl, by decide +kernel, rfl, by decide +kernel, by decide +kernel⟩
theorem cut_seg (z : List Nat) {k e : Nat} (hk : k ≤ e) (he : e ≤ z.length) : cutS (S z) (some (k : Int)) (some (e : Int)) = S ((z.drop k).take (e - k)) := by
  unfold cutS
  rw [HT.sIx_nat, HT.sIx_nat, S_list, S_len, Nat.min_eq_left he, Nat.min_eq_left (Nat.le_trans hk he)]
  rfl
theorem ok_run (F : Fun K "run_at" "run_at" sRun f fd) (G : Gm mg) : FnOk P w K mg base CX0 1 f fd ["text", "start", "signs"] spRun := by
  refine F.ok scRun (fun vs H Q E h => ?_) (fun cdv A outer s H vs Q E hr h => ?_)
  · obtain ⟨z, k, sg, rfl, _⟩ := h
    rfl
  obtain ⟨z, k, sg, rfl, hz, hk, q⟩ := h
  have hzl : (S z).length ≤ sizeLine := by rw [S_len]; exact line_of hz
  refine ⟨_, pss_cons (ps_set (i := 3) scRun.nd rfl (Or.inl rfl) (pv 1))
    (pss_cons (ps_while PassesOwn.never (PW.pt (pw_and (pt_cmpR op_lt (pv 3) (pe_callB call_len_str rfl G.len PySem.boot_len (pa_cons (pv 0) pa_nil)) (nomark _))
        (pw_and1 (pt_cmpR op_in_one (pe_ix ix_str (pv 0) (pv 3) (fun _ _ => rfl)) (pv 2) (by with_unfolding_all rfl)))))
      (pss_one (ps_aug (i := 3) scRun.nd rfl (Or.inl rfl) pe_int ip_add)))
    (pss_one (ps_ret (pe_slice sl_str (pv 0) (po_some (pv 1)) (po_some (pv 3)))))), ?_⟩
  refine ⟨_, rfl, ?_⟩
  have fin : ∀ e : Nat, k ≤ e → e ≤ z.length → (∀ c ∈ (z.drop k).take (e - k), c ∈ sg) → (∀ c, z[e]? = some c → c ∉ sg) → Q (.str (cutS (S z) (some (k : Int)) (some (e : Int)))) H := fun e h1 h2 h3 h4 => by
    rw [cut_seg z h1 h2, ← seg_stop h1 h3 h4]
    exact q
  refine ⟨fun m σ H' => ∃ e : Nat, σ = [some (.str (S z)), some (.int (k : Int)), some (.str (S sg)), some (.int (e : Int))] ∧ H' = H ∧ k ≤ e ∧ e ≤ z.length ∧ (∀ c ∈ (z.drop k).take (e - k), c ∈ sg) ∧ m = z.length - e,
    ⟨_, k, rfl, rfl, Nat.le_refl _, hk, (by intro c hc; simp at hc), rfl⟩, ?_⟩
  rintro m σ H' ⟨e, rfl, rfl, h1, h2, h3, rfl⟩
  refine ⟨_, rfl, _, rfl, _, rfl, hzl, _, _, rfl, rfl, _, rfl, ?_⟩
  refine ite2 (fun c => ?_) (fun c => ?_)
  · have c' : (e : Int) < (((S z).length : Nat) : Int) := of_decide_eq_true c
    rw [S_len] at c'
    have he : e < z.length := by omega
    have hat : z[e]? = some z[e] := List.getElem?_eq_getElem he
    refine ⟨_, rfl, _, rfl, _, _, _, rfl, rfl, hzl, atS hat, _, rfl, _, _, rfl, rfl, _, rfl, ?_⟩
    refine ite2 (fun d => ?_) (fun d => ?_)
    · have d' : z[e] ∈ (S sg).cps.toList := of_decide_eq_true d
      rw [S_list] at d'
      refine ⟨_, fun σ' H'' q' => q', _, rfl, _, _, rfl, rfl, ?_⟩
      refine ⟨z.length - (e + 1), by omega, e + 1, rfl, rfl, by omega, by omega, ?_, rfl⟩
      rw [seg_step h1 hat]
      intro x hx
      rcases List.mem_append.mp hx with y | y
      · exact h3 x y
      · have : x = z[e] := by simpa using y
        rw [this]; exact d'
    · have d' : ¬ z[e] ∈ (S sg).cps.toList := of_decide_eq_false (Bool.eq_false_iff.mpr d)
      rw [S_list] at d'
      refine ⟨_, rfl, _, rfl, _, rfl, _, rfl, _, rfl, _, rfl, hzl, ?_⟩
      exact fin e h1 h2 h3 (fun x hx => by rw [hat] at hx; cases hx; exact d')
  · have c' : ¬ (e : Int) < (((S z).length : Nat) : Int) := of_decide_eq_false (Bool.eq_false_iff.mpr c)
    rw [S_len] at c'
    refine ⟨_, rfl, _, rfl, _, rfl, _, rfl, _, rfl, _, rfl, hzl, ?_⟩
    exact fin e h1 h2 h3 (fun x hx => by rw [List.getElem?_eq_none (by omega)] at hx; cases hx)
theorem scFig : FnScope ["text", "start", "figures"] ["text", "start"] (defScope sFigures) := ⟨rfl, rfl, rfl, by decide +kernel, rfl, by decide +kernel, by decide +kernel⟩
theorem ok_fig (F : Fun K "figures_at" "figures_at" sFigures f fd) (G : Gm mg) (R : Fn P w K mg base 1 "run_at" ["text", "start", "signs"] spRun) : FnOk P w K mg base CX0 2 f fd ["text", "start"] spFig := by
  obtain ⟨tf, hf⟩ := G.figs
  obtain ⟨tm, hm⟩ := G.mf
  refine F.ok scFig (fun vs H Q E h => ?_) (fun cdv A outer s H vs Q E hr h => ?_)
  · obtain ⟨z, k, rfl, _⟩ := h
    rfl
  obtain ⟨z, k, rfl, hz, hk, hn, q⟩ := h
  refine ⟨_, pss_cons (ps_set (i := 2) scFig.nd rfl (Or.inl rfl) (pe_fn R hr (pa_cons (pv 0) (pa_cons (pv 1) (pa_cons (pe_glob (v := .str FIGS) rfl hf ⟨_, rfl⟩) pa_nil)))))
    (pss_cons (ps_if (pt_cmpR op_eq (pv 2) pe_str (nomark _)) pss_never pss_nil)
    (pss_cons (ps_if (pt_cmpR op_gt (pe_callB call_len_str rfl G.len PySem.boot_len (pa_cons (pv 2) pa_nil)) (pe_glob (v := .int 60) rfl hm ⟨_, rfl⟩) (nomark _)) pss_never pss_nil)
    (pss_cons (ps_if (PW.pt (pw_and (pt_cmpR op_eq (pe_ix ix_str (pv 2) pe_int (fun _ _ => rfl)) pe_str (nomark _)) (pw_and1 (pt_cmpR op_gt (pe_callB call_len_str rfl G.len PySem.boot_len (pa_cons (pv 2) pa_nil)) pe_int (nomark _))))) pss_never pss_nil)
    (pss_one (ps_ret (pv 2)))))), ?_⟩
  refine ⟨_, rfl, _, rfl, z, k, figL, by rw [← fig_eq]; rfl, hz, hk, ?_⟩
  have hlen : (S (run figL (z.drop k))).length ≤ sizeLine := by rw [S_len]; exact line_of (Nat.le_trans hn.len (by omega))
  obtain ⟨c, r, hc⟩ : ∃ c r, run figL (z.drop k) = c :: r := by
    cases e : run figL (z.drop k) with
    | nil => exact absurd e hn.ne
    | cons c r => exact ⟨c, r, rfl⟩
  have h0 : (run figL (z.drop k))[0]? = some c := by rw [hc]; rfl
  refine ⟨_, rfl, rfl, _, rfl, iteN (by rw [none_eq]; exact str_ne hn.ne) ?_⟩
  refine ⟨_, rfl, _, rfl, hlen, _, _, rfl, rfl, _, rfl, iteN (by rw [S_len]; have := hn.len; omega) ?_⟩
  refine ⟨_, rfl, _, 0, c, rfl, rfl, hlen, atS h0, rfl, _, rfl, ?_⟩
  by_cases hc0 : c = 48
  · have hl : (run figL (z.drop k)).length = 1 := hn.lead (by rw [h0, hc0])
    refine iteP (by rw [hc0, one_S, zero_eq]) ⟨_, rfl, _, rfl, hlen, _, _, rfl, rfl, _, rfl, iteN (by rw [S_len, hl]; decide) ?_⟩
    exact ⟨_, rfl, q⟩
  · refine iteN (by rw [one_S, zero_eq]; exact str_ne (by simpa using hc0)) (iteF ?_)
    exact ⟨_, rfl, q⟩
theorem scBelow : FnScope ["text", "start", "figures"] ["text", "start"] (defScope sBelow) := ⟨rfl, rfl, rfl, by decide +kernel, rfl, by decide +kernel, by decide +kernel⟩
theorem ok_below (F : Fun K "below_zero_at" "below_zero_at" sBelow f fd) (R : Fn P w K mg base 2 "figures_at" ["text", "start"] spFig) : FnOk P w K mg base CX0 3 f fd ["text", "start"] spBelow := by
  refine F.ok scBelow (fun vs H Q E h => ?_) (fun cdv A outer s H vs Q E hr h => ?_)
  · obtain ⟨z, k, rfl, _⟩ := h
    rfl
  obtain ⟨z, k, rfl, hz, hk, hn, h48, q⟩ := h
  refine ⟨_, pss_cons (ps_set (i := 2) scBelow.nd rfl (Or.inl rfl) (pe_fn R hr (pa_cons (pv 0) (pa_cons (pv 1) pa_nil))))
    (pss_cons (ps_if (pt_cmpR op_eq (pv 2) pe_str (nomark _)) pss_never pss_nil)
    (pss_one (ps_ret (pv 2)))), ?_⟩
  refine ⟨_, rfl, _, rfl, z, k, rfl, hz, hk, hn, ?_⟩
  refine ⟨_, rfl, rfl, _, rfl, iteN (by rw [zero_eq]; exact str_ne h48) ?_⟩
  exact ⟨_, rfl, q⟩
theorem scNameAt : FnScope ["text", "start", "name"] ["text", "start"] (defScope sNameAt) := ⟨rfl, rfl, rfl, by decide +kernel, rfl, by decide +kernel, by decide +kernel⟩
theorem ok_nameAt (F : Fun K "name_at" "name_at" sNameAt f fd) (G : Gm mg) (R : Fn P w K mg base 1 "run_at" ["text", "start", "signs"] spRun) : FnOk P w K mg base CX0 2 f fd ["text", "start"] spNameAt := by
  obtain ⟨tf, hf⟩ := G.lets
  obtain ⟨tm, hm⟩ := G.ml
  refine F.ok scNameAt (fun vs H Q E h => ?_) (fun cdv A outer s H vs Q E hr h => ?_)
  · obtain ⟨z, k, rfl, _⟩ := h
    rfl
  obtain ⟨z, k, rfl, hz, hk, hn, q⟩ := h
  refine ⟨_, pss_cons (ps_set (i := 2) scNameAt.nd rfl (Or.inl rfl) (pe_fn R hr (pa_cons (pv 0) (pa_cons (pv 1) (pa_cons (pe_glob (v := .str LETS) rfl hf ⟨_, rfl⟩) pa_nil)))))
    (pss_cons (ps_if (pt_cmpR op_gt (pe_callB call_len_str rfl G.len PySem.boot_len (pa_cons (pv 2) pa_nil)) (pe_glob (v := .int 8) rfl hm ⟨_, rfl⟩) (nomark _)) pss_never pss_nil)
    (pss_one (ps_ret (pv 2)))), ?_⟩
  refine ⟨_, rfl, _, rfl, z, k, letL, by rw [← let_eq]; rfl, hz, hk, ?_⟩
  have hlen : (S (run letL (z.drop k))).length ≤ sizeLine := by rw [S_len]; exact line_of (by omega)
  refine ⟨_, rfl, _, rfl, hlen, _, _, rfl, rfl, _, rfl, iteN (by rw [S_len]; omega) ?_⟩
  exact ⟨_, rfl, q⟩
theorem scWordAt : FnScope ["text", "start", "first"] ["text", "start"] (defScope sWordAt) := ⟨rfl, rfl, rfl, by decide +kernel, rfl, by decide +kernel, by decide +kernel⟩
theorem drop_at {z : List Nat} {k c : Nat} {r : List Nat} (h : z.drop k = c :: r) : z[k]? = some c ∧ k < z.length ∧ z.drop (k + 1) = r := by
  have h1 : z[k]? = some c := by
    have : (z.drop k)[0]? = some c := by rw [h]; rfl
    simpa [List.getElem?_drop] using this
  refine ⟨h1, (List.getElem?_eq_some_iff.mp h1).1, ?_⟩
  rw [← List.tail_drop, h]; rfl
theorem ok_wordAt (F : Fun K "word_at" "word_at" sWordAt f fd) (G : Gm mg) (RN : Fn P w K mg base 2 "name_at" ["text", "start"] spNameAt) (RF : Fn P w K mg base 2 "figures_at" ["text", "start"] spFig)
    (RB : Fn P w K mg base 3 "below_zero_at" ["text", "start"] spBelow) : FnOk P w K mg base CX0 4 f fd ["text", "start"] spWordAt := by
  obtain ⟨ts, hs⟩ := G.sgns
  obtain ⟨tl, hl⟩ := G.lets
  obtain ⟨tf, hf⟩ := G.figs
  refine F.ok scWordAt (fun vs H Q E h => ?_) (fun cdv A outer s H vs Q E hr h => ?_)
  · obtain ⟨z, k, u, r, rfl, _⟩ := h
    rfl
  obtain ⟨z, k, u, r, rfl, hz, hd, hw, hsep, q⟩ := h
  have hzl : (S z).length ≤ sizeLine := by rw [S_len]; exact line_of hz
  refine ⟨_, pss_cons (ps_set (i := 2) scWordAt.nd rfl (Or.inl rfl) (pe_ix ix_str (pv 0) (pv 1) (fun _ _ => rfl)))
    (pss_cons (ps_if (pt_cmpR op_in_one (pv 2) (pe_glob (v := .str SGNS) rfl hs ⟨_, rfl⟩) (by with_unfolding_all rfl)) (pss_one (ps_ret (pv 2))) pss_nil)
    (pss_cons (ps_if (pt_cmpR op_in_one (pv 2) (pe_glob (v := .str LETS) rfl hl ⟨_, rfl⟩) (by with_unfolding_all rfl)) (pss_one (ps_ret (pe_fn RN hr (pa_cons (pv 0) (pa_cons (pv 1) pa_nil))))) pss_nil)
    (pss_cons (ps_if (pt_cmpR op_eq (pv 2) pe_str (nomark _)) (pss_one (ps_ret (pe_op op_add_str pe_str (pe_fn RB hr (pa_cons (pv 0) (pa_cons (pe_op op_add (pv 1) pe_int) pa_nil)))))) pss_nil)
    (pss_cons (ps_if (pt_cmpR op_in_one (pv 2) (pe_glob (v := .str FIGS) rfl hf ⟨_, rfl⟩) (by with_unfolding_all rfl)) (pss_one (ps_ret (pe_fn RF hr (pa_cons (pv 0) (pa_cons (pv 1) pa_nil))))) pss_nil)
    pss_never)))), ?_⟩
  obtain ⟨c, u', hu, _⟩ := hw.head
  have hd' : z.drop k = c :: (u' ++ r) := by rw [hd, hu]; rfl
  obtain ⟨hat, hkl, hd1⟩ := drop_at hd'
  refine ⟨_, rfl, _, rfl, _, _, _, rfl, rfl, hzl, atS hat, ?_⟩
  refine ⟨_, rfl, _, _, rfl, rfl, _, rfl, ?_⟩
  rw [sgn_cps]
  cases hw with
  | @sign d hs' =>
    have e : d = c := by injection hu
    subst e
    exact iteP hs' ⟨_, rfl, q⟩
  | name hne h8 hall =>
    have hc : c ∈ letL := hall c (by rw [hu]; simp)
    have hrun : run letL (z.drop k) = u := by rw [hd]; exact run_eq hall (hsep.let_of hne hall)
    refine iteN (let_sgn c hc) ⟨_, rfl, _, _, rfl, rfl, _, rfl, ?_⟩
    rw [let_cps]
    refine iteP hc ⟨_, rfl, _, rfl, z, k, rfl, hz, Nat.le_of_lt hkl, by rw [hrun]; exact h8, ?_⟩
    rw [hrun]; exact q
  | num hn =>
    have hc : c ∈ figL := hn.all c (by rw [hu]; simp)
    have hrun : run figL (z.drop k) = u := by rw [hd]; exact run_eq hn.all (hsep.fig_of hn.ne hn.all)
    refine iteN (fig_sgn c hc) ⟨_, rfl, _, _, rfl, rfl, _, rfl, ?_⟩
    rw [let_cps]
    refine iteN (fig_let c hc) ⟨_, rfl, rfl, _, rfl, iteN (by rw [one_S, minus_eq]; exact str_ne (by simpa using (fig_32 c hc).2)) ⟨_, rfl, _, _, rfl, rfl, _, rfl, ?_⟩⟩
    rw [fig_cps]
    refine iteP hc ⟨_, rfl, _, rfl, z, k, rfl, hz, Nat.le_of_lt hkl, by rw [hrun]; exact hn, ?_⟩
    rw [hrun]; exact q
  | @neg v hn h48 =>
    have e : 45 = c ∧ v = u' := by injection hu with h1 h2; exact ⟨h1, h2⟩
    obtain ⟨e1, e2⟩ := e
    subst e1; subst e2
    have hrun : run figL (z.drop (k + 1)) = v := by rw [hd1]; exact run_eq hn.all ((hsep.tail hn.ne).fig_of hn.ne hn.all)
    refine iteN n45.1 ⟨_, rfl, _, _, rfl, rfl, _, rfl, ?_⟩
    rw [let_cps]
    refine iteN n45.2.1 ⟨_, rfl, rfl, _, rfl, iteP (by rw [one_S, minus_eq]) ?_⟩
    refine ⟨_, rfl, _, rfl, _, _, rfl, rfl, z, k + 1, rfl, hz, hkl, by rw [hrun]; exact hn, by rw [hrun]; exact h48, ?_⟩
    rw [hrun]
    refine ⟨_, _, rfl, rfl, ?_, ?_⟩
    · rw [minus_eq, S_len, S_len]
      have := hn.len
      exact line_of (by simp; omega)
    · rw [minus_eq, S_app]; exact q
end
end K14
namespace K14
open PySem L2 K3
section
variable {P : Program} {w : World} {K : PySem.W.Frag} {mg : Str → Option Value} {base : Heap} {f : Addr} {fd : FuncData}
theorem scWords : FnScope ["text", "told", "start", "word"] ["text"] (defScope sWords) := ⟨rfl, rfl, rfl, by decide +kernel, rfl, by decide +kernel, by decide +kernel⟩
theorem W_app (a b : List (List Nat)) : W (a ++ b) = W a ++ W b := by simp [W]
theorem W_len (a : List (List Nat)) : (W a).length = a.length := by simp [W]
theorem ok_words (F : Fun K "words" "words" sWords f fd) (G : Gm mg) (R : Fn P w K mg base 4 "word_at" ["text", "start"] spWordAt) : FnOk P w K mg base CX0 5 f fd ["text"] spWords := by
  refine F.ok scWords (fun vs H Q E h => ?_) (fun cdv A outer s H vs Q E hr h => ?_)
  · obtain ⟨z, ws, rfl, _⟩ := h
    rfl
  obtain ⟨z, ws, rfl, hz, hW, q⟩ := h
  have hzl : (S z).length ≤ sizeLine := by rw [S_len]; exact line_of hz
  refine ⟨_, pss_cons (ps_if (pt_not (pt_val (pe_callB call_isinst rfl G.isi PyProof.Rows.boot_isinstance (pa_cons (pv 0) (pa_cons (pe_bltn (v := .ty "str") rfl G.str PyProof.Rows.boot_str rfl) pa_nil))))) pss_never pss_nil)
    (pss_cons (ps_set (i := 1) scWords.nd rfl (Or.inl rfl) (pe_lst pa_nil))
    (pss_cons (ps_set (i := 2) scWords.nd rfl (Or.inl rfl) pe_int)
    (pss_cons (ps_while PassesOwn.never (pt_cmpR op_lt (pv 2) (pe_callB call_len_str rfl G.len PySem.boot_len (pa_cons (pv 0) pa_nil)) (nomark _))
      (pss_one (ps_if (pt_cmpR op_eq (pe_ix ix_str (pv 0) (pv 2) (fun _ _ => rfl)) pe_str (nomark _))
        (pss_one (ps_aug (i := 2) scWords.nd rfl (Or.inl rfl) pe_int ip_add))
        (pss_cons (ps_set (i := 3) scWords.nd rfl (Or.inl rfl) (pe_fn R hr (pa_cons (pv 0) (pa_cons (pv 2) pa_nil))))
        (pss_cons (ps_expr (pe_bm PySem.F.plainAttrs_list PySem.F.slot_list_append PySem.F.type_list_append mt_append (pv 1) (pa_cons (pv 3) pa_nil)))
        (pss_one (ps_aug (i := 2) scWords.nd rfl (Or.inl rfl) (pe_callB call_len_str rfl G.len PySem.boot_len (pa_cons (pv 3) pa_nil)) ip_add)))))))
    (pss_one (ps_ret (pv 1)))))), ?_⟩
  refine ⟨_, rfl, _, "str", _, true, rfl, .str _, rfl, _, rfl, iteF ?_⟩
  refine ⟨(by show 0 ≤ sizeLine; decide), fun l hl => ?_⟩
  have hws := hW.len
  refine ⟨fun m σ H' => ∃ (k : Nat) (done rest : List (List Nat)) (wd : Option V), σ = [some (.str (S z)), some (.ref l), some (.int (k : Int)), wd] ∧ Same H H' ∧ H' l = some (.lst (W done)) ∧ done ++ rest = ws ∧ Writ (z.drop k) rest ∧ k ≤ z.length ∧ m = z.length - k,
    ⟨_, 0, [], ws, none, rfl, same_new hl _, upd_same, rfl, hW, Nat.zero_le _, rfl⟩, ?_⟩
  rintro m σ H' ⟨k, done, rest, wd, rfl, hsame, hl', hdr, hwr, hk, rfl⟩
  refine ⟨_, rfl, _, rfl, _, rfl, hzl, _, _, rfl, rfl, _, rfl, ?_⟩
  refine ite2 (fun c => ?_) (fun c => ?_)
  · have c' : (k : Int) < (((S z).length : Nat) : Int) := of_decide_eq_true c
    rw [S_len] at c'
    have hkl : k < z.length := by omega
    have hat : z[k]? = some z[k] := List.getElem?_eq_getElem hkl
    have hdk : z.drop k = z[k] :: z.drop (k + 1) := List.drop_eq_getElem_cons hkl
    refine ⟨_, fun σ' H'' q' => q', ?_⟩
    refine ⟨_, rfl, _, rfl, _, _, _, rfl, rfl, hzl, atS hat, rfl, _, rfl, ?_⟩
    rcases hwr.step (by rw [hdk]; exact List.cons_ne_nil _ _) with ⟨r, er, hr'⟩ | ⟨u, r, vs, er, ev, hu, hsep, hr'⟩
    · have e32 : z[k] = 32 ∧ z.drop (k + 1) = r := by rw [hdk] at er; injection er with h1 h2; exact ⟨h1, h2⟩
      refine iteP (by rw [e32.1, one_S, blank_eq]) ⟨_, rfl, _, _, rfl, rfl, ?_⟩
      exact ⟨z.length - (k + 1), by omega, k + 1, done, rest, wd, rfl, hsame, hl', hdr, by rw [e32.2]; exact hr', by omega, rfl⟩
    · obtain ⟨c0, u', hu0, h32⟩ := hu.head
      have ec : z[k] = c0 := by
        rw [hdk, hu0] at er
        injection er
      have hul : 0 < u.length := List.length_pos_iff.mpr hu.ne
      have hzk : z.length - k = u.length + r.length := by
        have := congrArg List.length er
        rw [List.length_drop, List.length_append] at this
        exact this
      refine iteN (by rw [ec, one_S, blank_eq]; exact str_ne (by simpa using h32)) ?_
      refine ⟨_, rfl, _, rfl, z, k, u, r, rfl, hz, er, hu, hsep, ?_⟩
      have hdl : done.length < 5000 := by
        have h1 : (done ++ rest).length = ws.length := by rw [hdr]
        rw [List.length_append, ev, List.length_cons] at h1
        omega
      refine ⟨_, rfl, .inl ⟨rfl, _, SqL.of hl'⟩, _, rfl, l, _, _, rfl, rfl, hl', by rw [W_len, size_line]; omega, ?_⟩
      have hul' : (S u).length ≤ sizeLine := by rw [S_len]; exact line_of (Nat.le_trans hu.len (by omega))
      refine ⟨_, rfl, _, rfl, _, rfl, hul', _, _, rfl, rfl, ?_⟩
      refine ⟨z.length - (k + u.length), by omega, k + u.length, done ++ [u], vs, some (.str (S u)), ?_, ?_, ?_, ?_, ?_, by omega, rfl⟩
      · rw [S_len]; rfl
      · intro b o hb
        have hne : b ≠ l := ne_of_none hb hl
        rw [upd_ne hne]; exact hsame b o hb
      · rw [upd_same, W_app]; rfl
      · rw [← hdr, ev, List.append_assoc]; rfl
      · rw [← List.drop_drop, er, List.drop_left]; exact hr'
  · have c' : ¬ (k : Int) < (((S z).length : Nat) : Int) := of_decide_eq_false (Bool.eq_false_iff.mpr c)
    rw [S_len] at c'
    have hnil : z.drop k = [] := List.drop_eq_nil_of_le (by omega)
    rw [hnil] at hwr
    have hre : rest = [] := by
      have := hwr.len
      exact List.length_eq_zero_iff.mp (by simpa using this)
    rw [hre, List.append_nil] at hdr
    refine ⟨_, rfl, q l H' hsame (by rw [← hdr]; exact hl') hl⟩
end
end K14
namespace L2
open PySem PySem.Spec PyProof.Rows
section
variable {κ : Type} [DecidableEq κ]
def valV (kvs : List (κ × V)) (k : κ) : Option V := (kvs.find? fun kv => decide (kv.1 = k)).map (·.2)
def putK (kvs : List (κ × V)) (k : κ) (v : V) : List (κ × V) :=
  if (kvs.any fun kv => decide (kv.1 = k)) = true then kvs.map (fun kv => if kv.1 = k then (kv.1, v) else kv) else kvs ++ [(k, v)]
theorem valV_pos {p : κ × V} {r : List (κ × V)} {k : κ} (e : p.1 = k) : valV (p :: r) k = some p.2 := by simp [valV, List.find?_cons, e]
theorem valV_neg {p : κ × V} {r : List (κ × V)} {k : κ} (e : ¬ p.1 = k) : valV (p :: r) k = valV r k := by simp [valV, List.find?_cons, e]
theorem RelO.isSome_eq {o : Option V} {u : Option Value} (r : RelO o u) : o.isSome = u.isSome := by
  cases o with
  | none => cases u with
    | none => rfl
    | some _ => exact (show False from r).elim
  | some _ => cases u with
    | none => exact (show False from r).elim
    | some _ => rfl
theorem RelO.getD {o : Option V} {u : Option Value} {d : V} {d' : Value} (r : RelO o u) (rd : RelV d d') : RelV (o.getD d) (u.getD d') := by
  cases o with
  | none => cases u with
    | none => exact rd
    | some _ => exact (show False from r).elim
  | some _ => cases u with
    | none => exact (show False from r).elim
    | some _ => exact r
theorem KV.val {kvs : List (κ × V)} {vs : List (κ × Value)} (r : KV kvs vs) (k : κ) : RelO (valV kvs k) (valueAt vs k) := by
  unfold KV at r
  induction r with
  | nil => exact True.intro
  | @cons p q ps qs h t ih =>
    obtain ⟨h1, h2⟩ := h
    by_cases e : p.1 = k
    · have e' : q.1 = k := h1.symm.trans e
      have b : valueAt (q :: qs) k = some q.2 := by simp [valueAt, List.find?_cons, e']
      rw [valV_pos e, b]; exact h2
    · have e' : ¬ q.1 = k := fun z => e (h1.trans z)
      have b : valueAt (q :: qs) k = valueAt qs k := by simp [valueAt, List.find?_cons, e']
      rw [valV_neg e, b]; exact ih
theorem KV.any {kvs : List (κ × V)} {vs : List (κ × Value)} (r : KV kvs vs) (k : κ) : (kvs.any fun kv => decide (kv.1 = k)) = vs.any fun kv => decide (kv.1 = k) := by
  unfold KV at r
  induction r with
  | nil => rfl
  | cons h t ih => rw [List.any_cons, List.any_cons, ih, h.1]
theorem KV.repl {kvs : List (κ × V)} {vs : List (κ × Value)} (r : KV kvs vs) (k : κ) {y : V} {u : Value} (ry : RelV y u) :
    KV (kvs.map fun kv => if kv.1 = k then (kv.1, y) else kv) (vs.map fun kv => if kv.1 = k then (kv.1, u) else kv) := by
  unfold KV at r ⊢
  induction r with
  | nil => exact .nil
  | @cons p q ps qs h t ih =>
    rw [List.map_cons, List.map_cons]
    refine .cons ?_ ih
    obtain ⟨h1, h2⟩ := h
    by_cases e : p.1 = k
    · rw [if_pos e, if_pos (h1.symm.trans e)]; exact ⟨h1, ry⟩
    · rw [if_neg e, if_neg (fun z => e (h1.trans z))]; exact ⟨h1, h2⟩
theorem KV.put {kvs : List (κ × V)} {vs : List (κ × Value)} (r : KV kvs vs) (k : κ) {y : V} {u : Value} (ry : RelV y u) : KV (putK kvs k y) (stored vs k u) := by
  unfold putK stored
  rw [r.any k]
  by_cases e : (vs.any fun kv => decide (kv.1 = k)) = true
  · rw [if_pos e, if_pos e]; exact r.repl k ry
  · rw [if_neg e, if_neg e]; exact Paired.snoc r ⟨rfl, ry⟩
theorem KV.keys {kvs : List (κ × V)} {vs : List (κ × Value)} (r : KV kvs vs) : kvs.map (·.1) = vs.map (·.1) := by
  unfold KV at r
  induction r with
  | nil => rfl
  | cons h t ih => rw [List.map_cons, List.map_cons, ih, h.1]
theorem KV.length {kvs : List (κ × V)} {vs : List (κ × Value)} (r : KV kvs vs) : kvs.length = vs.length := Paired.length r
end
theorem kV_is {P : Program} {w : World} {k : Key} {u : Value} (r : RelV (kV k) u) : (mixKind P w).is k u = true := by
  cases k with
  | inl i => obtain ⟨t, e⟩ := (show ∃ t, u = Value.int i t from r); subst e; exact mixKind_int P w i t
  | inr x => obtain ⟨t, e⟩ := (show ∃ t, u = Value.str x t from r); subst e; exact mixKind_str P w x t
theorem items_are {P : Program} {w : World} : ∀ {ks : List Key} {us : List Value}, Vals (ks.map kV) us → ItemsAre (mixKind P w) ks us
  | [], _, r => by rw [List.map_nil] at r; cases r; exact .nil
  | k :: ks, _, r => by
    rw [List.map_cons] at r
    cases r with
    | cons h t => exact .cons (kV_is h) (items_are t)
abbrev KT (H : Hp) : List (List Key × V) → List (List Key × Addr × Value) → Prop := Paired fun p q => p.1 = q.1 ∧ H q.2.1 = some (.tup (p.1.map kV)) ∧ RelV p.2 q.2.2
theorem KT.val {H : Hp} {kvs : List (List Key × V)} {xs : List (List Key × Addr × Value)} (r : KT H kvs xs) (k : List Key) : RelO (valV kvs k) ((atKey xs k).map (·.2)) := by
  induction r with
  | nil => exact True.intro
  | @cons p q ps qs h t ih =>
    obtain ⟨h1, _, h2⟩ := h
    by_cases e : p.1 = k
    · have e' : q.1 = k := h1.symm.trans e
      have b : atKey (q :: qs) k = some q.2 := by simp [atKey, List.find?_cons, e']
      rw [valV_pos e, b]; exact h2
    · have e' : ¬ q.1 = k := fun z => e (h1.trans z)
      have b : atKey (q :: qs) k = atKey qs k := by simp [atKey, List.find?_cons, e']
      rw [valV_neg e, b]; exact ih
section
variable {P : Program} {w : World} {H : Hp} {h : Heap} {a : Addr}
theorem rd_of {u : HO} (ok : HOk P w H h) (e : Rd H a u) : ObjOk P w H h a u := e.ok ok
theorem dk_rd {kvs : List (Key × V)} (ok : HOk P w H h) (e : Rd H a (.dK kvs)) : kvs.length ≤ sizeLine ∧ (a == sysModules) = false ∧ ∃ vs, KV kvs vs ∧ h.DictOf (mixKind P w) a vs :=
  show ObjOk P w H h a (.dK kvs) from rd_of ok e
theorem dk_of {kvs : List (Key × V)} (ok : HOk P w H h) (e : H a = some (.dK kvs)) : kvs.length ≤ sizeLine ∧ (a == sysModules) = false ∧ ∃ vs, KV kvs vs ∧ h.DictOf (mixKind P w) a vs := dk_rd ok (.inl e)
theorem key_of {ks : List Key} (ok : HOk P w H h) (e : H a = some (.tup (ks.map kV))) : (tupleKind (mixKind P w)).is h ks a := by
  obtain ⟨_, its, r, o, h1, h2, n, h3⟩ := (show ObjOk P w H h a (.tup (ks.map kV)) from ok a _ e)
  exact ⟨o, its.toArray, n, h1, h2, h3, by simpa using items_are r⟩
theorem dt_rd {kvs : List (List Key × V)} (ok : HOk P w H h) (e : Rd H a (.dT kvs)) : kvs.length ≤ sizeLine ∧ (a == sysModules) = false ∧
    ∃ xs, KT H kvs xs ∧ h.DictOfH (tupleKind (mixKind P w)) a xs := by
  obtain ⟨z, y, xs, r, o, es, ep, h1, h2, h3, h4, h5⟩ := (show ObjOk P w H h a (.dT kvs) from rd_of ok e)
  refine ⟨z, y, xs, r, o, es, ep, h1, h2, h3, h4, fun x hx => ?_, h5⟩
  have all : ∀ {l : List (List Key × V)} {m : List (List Key × Addr × Value)}, KT H l m → ∀ x ∈ m, (tupleKind (mixKind P w)).is h x.1 x.2.1 := by
    intro l m q
    induction q with
    | nil => intro x hx; exact nomatch hx
    | @cons p q ps qs hq t ih =>
      intro x hx
      rcases List.mem_cons.mp hx with e | hx
      · subst e
        exact key_of ok (by rw [← hq.1]; exact hq.2.1)
      · exact ih x hx
  exact all r x hx
end
def DGet (H : Hp) (a : Addr) (y : V) (r : Option V) : Prop :=
  (∃ kvs k, Rd H a (.dK kvs) ∧ y = kV k ∧ r = valV kvs k) ∨ ∃ kvs k b, Rd H a (.dT kvs) ∧ y = .ref b ∧ H b = some (.tup (k.map kV)) ∧ r = valV kvs k
theorem DGet.k {H : Hp} {a : Addr} {kvs : List (Key × V)} {k : Key} (e : H a = some (.dK kvs)) : DGet H a (kV k) (valV kvs k) := .inl ⟨kvs, k, .inl e, rfl, rfl⟩
section
variable {X : Cx} {pins : List (Addr × Obj)} {σ : St} {H : Hp} {s : Shared} {a : Addr} {y v : V} {u r : Value} {o : Option V} {A : Around} {E : Value → Shared → Prop}
theorem Inv.big (I : Inv X pins σ H s) : sysModules < s.heap.objs.size := by
  have h : mainGlobals < s.heap.objs.size := (I.mod.glob.keeps I.bk).lt
  exact Nat.lt_trans (by decide) h
theorem d_getItem {Q : Value → Shared → Prop} (hu : A.units + 1 < cLine) (I : Inv X pins σ H s) (g : DGet H a y (some v)) (ry : RelV y u) (h : ∀ w' s', Inv X pins σ H s' → RelV v w' → Q w' s') :
    wpAny (model X.prog X.w) A (getItem (.ref a) u) Q E s := by
  rcases g with ⟨kvs, k, e, ey, l⟩ | ⟨kvs, k, b, e, ey, eb, l⟩
  · subst ey
    obtain ⟨z, hd, vs, rel, dd⟩ := dk_rd I.hok e
    obtain ⟨w', hw, rw'⟩ := RelO.some_of (v := v) (o := valueAt vs k) (by rw [l]; exact rel.val k)
    exact wpAny_getItem_of (kV_is ry) dd.mapOf hw (h w' _ (I.tok _) rw')
  · subst ey
    cases (show u = Value.ref b from ry)
    obtain ⟨z, hd, xs, rel, dd⟩ := dt_rd I.hok e
    obtain ⟨w', hw, rw'⟩ := RelO.some_of (v := v) (o := (atKey xs k).map (·.2)) (by rw [l]; exact rel.val k)
    obtain ⟨p, hp, hp2⟩ := Option.map_eq_some_iff.mp hw
    refine wpAny_getItem_heap (tupleKind_room_in1 hu) (key_of I.hok eb) dd hp ?_
    rw [hp2]
    exact h w' _ (I.tok _) rw'
theorem d_notIn {Q : Value → Shared → Prop} (hu : A.units + 1 < cLine) (I : Inv X pins σ H s) (g : DGet H a y o) (ry : RelV y u) (h : ∀ s', Inv X pins σ H s' → Q (.bool (!o.isSome)) s') :
    wpAny (model X.prog X.w) A (compareOp .NotIn u (.ref a)) Q E s := by
  rcases g with ⟨kvs, k, e, ey, l⟩ | ⟨kvs, k, b, e, ey, eb, l⟩
  · subst ey
    obtain ⟨z, hd, vs, rel, dd⟩ := dk_rd I.hok e
    refine wpAny_notIn_of (kV_is ry) hd dd.mapOf ?_
    rw [← (rel.val k).isSome_eq, ← l]
    exact h _ (I.tok _)
  · subst ey
    cases (show u = Value.ref b from ry)
    obtain ⟨z, hd, xs, rel, dd⟩ := dt_rd I.hok e
    refine wpAny_notIn_heap (tupleKind_room_in1 hu) (key_of I.hok eb) hd dd ?_
    have q := (rel.val k).isSome_eq
    rw [Option.isSome_map] at q
    rw [← q, ← l]
    exact h _ (I.tok _)
theorem d_write {h' : Heap} {t' : Nat} {ob : HO} (I : Inv X pins σ H s) (mu : Mut (H a)) (hs : Heap.SameBut a s.heap h') (he : ∃ q, h'.get? a = some q) (new : ObjOk X.prog X.w (upd H a ob) h' a ob) :
    Inv X pins σ (upd H a ob) { s with heap := h', toks := t' } :=
  I.write (x := a) (e := a) mu (.inl rfl) (fun b q hb z => (hs.2 b hb).trans z) he new
theorem dk_new {P : Program} {w : World} {H' : Hp} {h' : Heap} {kvs : List (Key × V)} {vs : List (Key × Value)} (z : kvs.length ≤ sizeLine) (hd : (a == sysModules) = false) (rel : KV kvs vs) (dd : h'.DictOf (mixKind P w) a vs) :
    ObjOk P w H' h' a (.dK kvs) := ⟨z, hd, vs, rel, dd⟩
end
section
variable {X : Cx} {pins : List (Addr × Obj)} {σ : St} {H : Hp} {s : Shared} {a : Addr} {kvs : List (Key × V)} {k : Key} {u : Value} {A : Around} {E : Value → Shared → Prop}
end
def NoSl (i : Expr) : Prop := ∀ ov iv, subscripted i false ov iv = operate [ov, iv] (getItem ov iv)
theorem subD_of {prog : Program} {w : World} {A : Around} {E : Value → Shared → Prop} {s : Shared} {env : Env} {value slice : Expr} {pos : Pos} {T id : String} {Q : Value → Shared → Prop}
    (hl : typeLookup (.type T) "__getitem__" = pure (some (.builtin id))) (hs : NoSl slice)
    (h : wpAny (model prog w) A (eval value env) (fun o s₁ => wpAny (model prog w) A (eval slice env) (fun i s₂ => s₂.TypeIs o T ∧ wpAny (model prog w) A (getItem o i) Q E s₂) E s₁) E s) :
    wpAny (model prog w) A (eval (.Subscript value slice pos) env) Q E s := by
  refine Subscript_ (wpAny_mono h (fun o s₁ h₁ => wpAny_mono h₁ (fun i s₂ h₂ => ?_) fun _ _ x => x) fun _ _ x => x)
  obtain ⟨hT, h₂⟩ := h₂
  unfold subscriptTail
  refine wpAny_bind ?_
  rw [getitemInPython_of_ne hT.not_modules]
  refine wpAny_bind (wpAny_specialOf hT hl ?_)
  have fin : wpAny (model prog w) A (subscripted slice false o i) (fun r s₃ => wpAny (model prog w) A (letTemporaryGo value o r >>= fun _ => pure r) Q E s₃) E s₂ := by
    rw [hs o i]
    exact wpAny_operating (wpAny_mono h₂ (fun r s₃ h₃ => wpAny_bind (wpAny_letTemporaryGo (wpAny_pure h₃))) fun _ _ x => x)
  first
    | exact wpAny_pure (wpAny_bind fin)
    | exact wpAny_bind (wpAny_pure (wpAny_bind fin))
    | exact wpAny_bind fin
theorem dict_typeIs {X : Cx} {pins : List (Addr × Obj)} {σ : St} {H : Hp} {s : Shared} {a : Addr} {y : V} {o : Option V} (I : Inv X pins σ H s) (g : DGet H a y o) : s.TypeIs (.ref a) "dict" := by
  rcases g with ⟨kvs, k, e, _, _⟩ | ⟨kvs, k, b, e, _, _, _⟩
  · obtain ⟨_, _, vs, _, dd⟩ := dk_rd I.hok e
    exact dd.typeIs
  · obtain ⟨_, _, xs, _, dd⟩ := dt_rd I.hok e
    exact dd.typeIs
def tDGet (td ty : TE) : TE := fun σ H Q => td σ H fun x H1 => ty σ H1 fun y H2 => ∃ a v, x = .ref a ∧ DGet H2 a y (some v) ∧ Q v H2
def tDNotIn (ty td : TE) : TE := fun σ H Q => ty σ H fun y H1 => td σ H1 fun x H2 => ∃ a o, x = .ref a ∧ DGet H2 a y o ∧ Q (.bl (!o.isSome)) H2
section
variable {X : Cx} {o i e value : Expr} {pos pos' tpos : Pos} {td ty tv : TE}
theorem pe_dget (hu : X.A.units + 1 < cLine) (ho : PE X o td) (hi : PE X i ty) (hs : NoSl i) : PE X (.Subscript o i pos) (tDGet td ty) := by
  intro pins s σ H Q I h
  refine subD_of PySem.F.slot_dict_getitem.lookup hs (thn (ho pins s σ H _ I h) fun u s1 ⟨x, H1, I1, rx, q1⟩ => thn (hi pins s1 σ H1 _ I1 q1) fun iv s2 ⟨y, H2, I2, ry, a, v, ex, g, q2⟩ => ?_)
  subst ex
  obtain rfl : u = Value.ref a := rx
  exact ⟨dict_typeIs I2 g, d_getItem hu I2 g ry fun w' s3 I3 rw' => ⟨v, H2, I3, rw', q2⟩⟩
theorem pc_dnotin (hu : X.A.units + 1 < cLine) (hi : PE X i ty) (ho : PE X o td) : PC X .NotIn i o (tDNotIn ty td) := by
  intro pins s σ H Q I h
  refine thn (hi pins s σ H _ I h) fun iv s1 ⟨y, H1, I1, ry, q1⟩ => thn (ho pins s1 σ H1 _ I1 q1) fun u s2 ⟨x, H2, I2, rx, a, ov, ex, g, q2⟩ => ?_
  subst ex
  obtain rfl : u = Value.ref a := rx
  exact d_notIn hu I2 g ry fun s3 I3 => ⟨.bl (!ov.isSome), H2, I3, rfl, q2⟩
end
theorem dk_empty {P : Program} {w : World} {H : Hp} (h : Heap) (hb : sysModules < h.objs.size) : ObjOk P w H (h.push { cls := .type "dict", data := .dict #[] }) h.objs.size (.dK []) :=
  ⟨Nat.zero_le _, beq_eq_false_iff_ne.mpr (Ne.symm (Nat.ne_of_lt hb)), [], .nil, Heap.DictOf.new h⟩
def tDNewK : TE := fun _ H Q => ∀ p, H p = none → Q (.ref p) (upd H p (.dK []))
section
variable {X : Cx} {pos : Pos}
theorem pe_dnewK : PE X (.Dict [] [] pos) tDNewK := fun pins s σ H Q I h =>
  wpAny_Dict_empty ⟨.ref s.heap.objs.size, _, I.laid (a := s.heap.objs.size) (o := .dK []) (t' := s.toks) (fun _ _ q => Heap.get?_push_of_some _ q) (Nat.le_refl _) (dk_empty s.heap I.big), rfl, h _ (I.hok.fresh (Nat.le_refl _))⟩
end
structure M1 (X : Cx) (o : Expr) (m : Str) (apos : Pos) (e : Expr) (cpos : Pos) : Prop where
  base : attributeBase o m X.env (eval o X.env) = eval o X.env
  few : ((backTo cpos (starEach [e] X.env)).all (fun x => !x.1) && (backToKw cpos (keywordEach [] X.env)).all (fun x => x.1.isSome)
    && decide (([e] : List Expr).length + ([] : List Keyword).length + (if ([] : List Keyword).isEmpty then 0 else 1) < 30)) = true
  line : (apos.endLine == cpos.line) = true
  trees : backTo cpos (starEach [e] X.env) = [(false, eval e X.env)]
structure M2 (X : Cx) (o : Expr) (m : Str) (apos : Pos) (e f : Expr) (cpos : Pos) : Prop where
  base : attributeBase o m X.env (eval o X.env) = eval o X.env
  few : ((backTo cpos (starEach [e, f] X.env)).all (fun x => !x.1) && (backToKw cpos (keywordEach [] X.env)).all (fun x => x.1.isSome)
    && decide (([e, f] : List Expr).length + ([] : List Keyword).length + (if ([] : List Keyword).isEmpty then 0 else 1) < 30)) = true
  line : (apos.endLine == cpos.line) = true
  trees : backTo cpos (starEach [e, f] X.env) = [(false, eval e X.env), (false, eval f X.env)]
def IsD (H : Hp) (a : Addr) : Prop := (∃ kvs, Rd H a (.dK kvs)) ∨ ∃ kvs, Rd H a (.dT kvs)
theorem isD_at {X : Cx} {pins : List (Addr × Obj)} {σ : St} {H : Hp} {s : Shared} {a : Addr} (I : Inv X pins σ H s) (d : IsD H a) :
    s.TypeIs (.ref a) "dict" ∧ (∀ b, Value.ref a = .ref b → ∃ ob, s.heap.get? b = some ob ∧ ob.dict = none) ∧ (a == sysModules) = false := by
  rcases d with ⟨kvs, e⟩ | ⟨kvs, e⟩
  · obtain ⟨_, hd, vs, _, dd⟩ := dk_rd I.hok e
    refine ⟨dd.typeIs, fun b q => ?_, hd⟩
    cases q
    obtain ⟨ob, _, _, h1, h2, _⟩ := dd
    exact ⟨ob, h1, h2.2.1⟩
  · obtain ⟨_, hd, xs, _, dd⟩ := dt_rd I.hok e
    refine ⟨dd.typeIs, fun b q => ?_, hd⟩
    cases q
    obtain ⟨ob, _, _, h1, h2, _⟩ := dd
    exact ⟨ob, h1, h2.2.1⟩
section
variable {X : Cx} {pins : List (Addr × Obj)} {σ : St} {H : Hp} {s : Shared} {a : Addr} {y d : V} {u r : Value} {o : Option V} {A : Around} {E : Value → Shared → Prop}
theorem d_get1 {Q : Value → Shared → Prop} (hu : A.units + 1 < cLine) (I : Inv X pins σ H s) (g : DGet H a y o) (ry : RelV y u) (h : ∀ w' s', Inv X pins σ H s' → RelV (o.getD .non) w' → Q w' s') :
    wpAny (model X.prog X.w) A (call (.builtin "dict.get") [.ref a, u]) Q E s := by
  rcases g with ⟨kvs, k, e, ey, l⟩ | ⟨kvs, k, b, e, ey, eb, l⟩
  · subst ey
    obtain ⟨z, hd, vs, rel, dd⟩ := dk_rd I.hok e
    refine call_meetsIn PySem.F.slot_dict_get dd.typeIs PySem.F.entry_dict_get (PySem.F.args_dict_get_2 _ _) (meets_dict_get (mixKind X.prog X.w) a (kV_is ry) hd) ⟨_, dd.mapOf, h _ _ (I.tok _) ?_⟩
    rw [l]
    exact (rel.val k).getD rfl
  · subst ey
    cases (show u = Value.ref b from ry)
    obtain ⟨z, hd, xs, rel, dd⟩ := dt_rd I.hok e
    refine call_meetsIn PySem.F.slot_dict_get dd.typeIs PySem.F.entry_dict_get (PySem.F.args_dict_get_2 _ _) (meetsH_dict_get (tupleKind (mixKind X.prog X.w)) a b hd) ⟨tupleKind_room_in1 hu, k, xs, key_of I.hok eb, dd, h _ _ (I.tok _) ?_⟩
    rw [l]
    exact (rel.val k).getD rfl
theorem d_get2 {Q : Value → Shared → Prop} (hu : A.units + 1 < cLine) (I : Inv X pins σ H s) (g : DGet H a y o) (ry : RelV y u) (rd : RelV d r) (h : ∀ w' s', Inv X pins σ H s' → RelV (o.getD d) w' → Q w' s') :
    wpAny (model X.prog X.w) A (call (.builtin "dict.get") [.ref a, u, r]) Q E s := by
  rcases g with ⟨kvs, k, e, ey, l⟩ | ⟨kvs, k, b, e, ey, eb, l⟩
  · subst ey
    obtain ⟨z, hd, vs, rel, dd⟩ := dk_rd I.hok e
    refine call_meetsIn PySem.F.slot_dict_get dd.typeIs PySem.F.entry_dict_get (PySem.F.args_dict_get_3 _ _ _) (meets_dict_get_default (mixKind X.prog X.w) a (kV_is ry) hd r) ⟨_, dd.mapOf, h _ _ (I.tok _) ?_⟩
    rw [l]
    exact (rel.val k).getD rd
  · subst ey
    cases (show u = Value.ref b from ry)
    obtain ⟨z, hd, xs, rel, dd⟩ := dt_rd I.hok e
    refine call_meetsIn PySem.F.slot_dict_get dd.typeIs PySem.F.entry_dict_get (PySem.F.args_dict_get_3 _ _ _) (meetsH_dict_get_default (tupleKind (mixKind X.prog X.w)) a b hd r) ⟨tupleKind_room_in1 hu, k, xs, key_of I.hok eb, dd, h _ _ (I.tok _) ?_⟩
    rw [l]
    exact (rel.val k).getD rd
end
def tDGet1 (td ty : TE) : TE := fun σ H Q => td σ H fun x H1 => ∃ a, x = .ref a ∧ IsD H1 a ∧ ty σ H1 fun y H2 => ∃ o, DGet H2 a y o ∧ Q (o.getD .non) H2
def tDGet2 (td ty tx : TE) : TE := fun σ H Q => td σ H fun x H1 => ∃ a, x = .ref a ∧ IsD H1 a ∧ ty σ H1 fun y H2 => tx σ H2 fun z H3 => ∃ o, DGet H3 a y o ∧ Q (o.getD z) H3
section
variable {X : Cx} {o e f : Expr} {apos cpos : Pos} {td ty tx : TE}
theorem pe_dget1 (hu : X.A.units + 1 < cLine) (ho : PE X o td) (he : PE X e ty) (m : M1 X o "get" apos e cpos) : PE X (.Call (.Attribute o "get" apos) [e] [] cpos) (tDGet1 td ty) := by
  intro pins s σ H Q I h
  refine wpAny_Call_method m.base m.few m.line PySem.F.plainAttrs_dict PySem.F.slot_dict_get PySem.F.type_dict_get (thn (ho pins s σ H _ I h) fun u s1 ⟨x, H1, I1, rx, a, ex, d, q1⟩ => ?_)
  subst ex
  obtain rfl : u = Value.ref a := rx
  obtain ⟨t1, t2, _⟩ := isD_at I1 d
  refine ⟨t1, t2, ?_⟩
  rw [m.trees]
  refine Calls.callWith_builtin rfl (Calls.evalArgs_plain (Calls.spliced_cons (thn (he pins s1 σ H1 _ I1 q1) fun iv s2 ⟨y, H2, I2, ry, ov, g, q2⟩ => Calls.spliced_nil ?_)))
  exact d_get1 hu I2 g ry fun w' s3 I3 rw' => ⟨_, H2, I3, rw', q2⟩
theorem pe_dget2 (hu : X.A.units + 1 < cLine) (ho : PE X o td) (he : PE X e ty) (hf : PE X f tx) (m : M2 X o "get" apos e f cpos) : PE X (.Call (.Attribute o "get" apos) [e, f] [] cpos) (tDGet2 td ty tx) := by
  intro pins s σ H Q I h
  refine wpAny_Call_method m.base m.few m.line PySem.F.plainAttrs_dict PySem.F.slot_dict_get PySem.F.type_dict_get (thn (ho pins s σ H _ I h) fun u s1 ⟨x, H1, I1, rx, a, ex, d, q1⟩ => ?_)
  subst ex
  obtain rfl : u = Value.ref a := rx
  obtain ⟨t1, t2, _⟩ := isD_at I1 d
  refine ⟨t1, t2, ?_⟩
  rw [m.trees]
  refine Calls.callWith_builtin rfl (Calls.evalArgs_plain (Calls.spliced_cons (thn (he pins s1 σ H1 _ I1 q1) fun iv s2 ⟨y, H2, I2, ry, q2⟩ =>
    Calls.spliced_cons (thn (hf pins s2 σ H2 _ I2 q2) fun fv s3 ⟨z, H3, I3, rz, ov, g, q3⟩ => Calls.spliced_nil ?_))))
  exact d_get2 hu I3 g ry rz fun w' s4 I4 rw' => ⟨_, H3, I4, rw', q3⟩
end
section
variable {X : Cx} {pins : List (Addr × Obj)} {σ : St} {H : Hp} {s : Shared} {a : Addr} {kvs : List (Key × V)} {A : Around} {E : Value → Shared → Prop}
end
section
variable {X : Cx} {pins : List (Addr × Obj)} {σ : St} {H : Hp} {s : Shared} {a : Addr} {y : V} {u : Value} {A : Around} {E : Value → Shared → Prop}
end
end L2
namespace L2
open PySem PySem.Spec PyProof.Rows
section
variable {X : Cx}
theorem Same.seqT {K : PySem.W.Frag} {H H' : Hp} {a : Addr} {xs : List V} (e : Same H H') (h : SqT K H a xs) : SqT K H' a xs := by
  rcases h with (h | ⟨o, h⟩) | h
  · exact .inl (.inl (e _ _ h))
  · exact .inl (.inr ⟨o, e _ _ h⟩)
  · exact .inr h
end
section
variable {X : Cx} {tg : Expr}
end
end L2
namespace TM
inductive Tree (α : Type) where
  | node (name : α) (mark : Int) (bs : List (Tree α))
variable {α : Type}
def Tree.bs : Tree α → List (Tree α)
  | .node _ _ bs => bs
def atT : Tree α → List Int → Option (Tree α)
  | t, [] => some t
  | t, i :: r => if 0 ≤ i then (match t.bs[i.toNat]? with
    | some b => atT b r
    | none => none) else none
structure Rows (α : Type) where
  n : Nat
  nm : Nat → α
  mr : Nat → Int
  up : Nat → Nat
variable {R : Rows α}
section
variable {K : Nat → List Int} {B : Nat → Tree α} {o0 : Tree α}
def it (R : Rows α) : Nat → Nat → Nat
  | 0, s => s
  | j + 1, s => R.up (it R j s)
variable {B' : Nat → Tree α} {o : Tree α} {s : Nat}
end
end TM
namespace L2
open PySem PySem.Spec PyProof.Rows TM
theorem SqT.put {K : PySem.W.Frag} {H : Hp} {a d : Addr} {xs ys : List V} {o : HO} (h : SqT K H a xs) (hd : H d = some (.lst ys)) : SqT K (upd H d o) a xs := by
  rcases h with (h | ⟨ob, h⟩) | h
  · exact .inl (.inl (by rw [upd_ne (ne_of h hd (by intro z; cases z))]; exact h))
  · exact .inl (.inr ⟨ob, by rw [upd_ne (ne_of h hd (by intro z; cases z))]; exact h⟩)
  · exact .inr h
end L2
namespace L2
open PySem
def SameX (x : Addr) (H H' : Hp) : Prop := ∀ b u, b ≠ x → H b = some u → H' b = some u
theorem SameX.trans {x : Addr} {H H1 H2 : Hp} (a : SameX x H H1) (b : SameX x H1 H2) : SameX x H H2 := fun c u n e => b c u n (a c u n e)
theorem SameX.of {x : Addr} {H H' : Hp} (h : Same H H') : SameX x H H' := fun b u _ e => h b u e
theorem SameX.upd {x : Addr} {H : Hp} {o : HO} : SameX x H (upd H x o) := fun b u n e => by rw [upd_ne n]; exact e
theorem put_no {f g : Str} {v y : V} {r : List (Str × V)} (h : ¬ g = f) : putF f v ((g, y) :: r) = (g, y) :: putF f v r := by
  show (if g = f then _ else _) = _
  rw [if_neg h]
theorem put_yes {f : Str} {v y : V} {r : List (Str × V)} : putF f v ((f, y) :: r) = (f, v) :: r := by
  show (if f = f then _ else _) = _
  rw [if_pos rfl]
end L2
namespace L2
open PySem PySem.Spec PyProof.Rows
def lamArgs (e : Expr) : Arguments := match e with
  | .Lambda a _ _ _ => a
  | _ => { posonlyargs := [], args := [], vararg := none, kwonlyargs := [], kw_defaults := [], kwarg := none, defaults := [] }
def lamBody (e : Expr) : Expr := match e with
  | .Lambda _ b _ _ => b
  | _ => e
def lamScope (e : Expr) : Scope := match e with
  | .Lambda _ _ s _ => s
  | _ => { kind := .function, names := [], isGenerator := false, isCoroutine := false }
def lamPos (e : Expr) : Pos := match e with
  | .Lambda _ _ _ p => p
  | _ => ⟨0, 0, 0, 0⟩
def retOf (s : Stmt) : Expr := match (defBody s).getLast? with
  | some (.Return (some e) _) => e
  | _ => .Name "" ⟨0, 0, 0, 0⟩
def argOf (e : Expr) (i : Nat) : Expr := match e with
  | .Call _ as _ _ => as.getD i e
  | _ => e
def LamO (f : Addr) (fd : FuncData) : HO := .ext fun h => h.get? f = some { cls := .type "function", data := .func fd }
def CodO (c : Addr) (qual : Str) : HO := .ext fun h => h.CodeRec (.ref c) qual
def TbS (H : Hp) (T : Addr) (pos : Pos) (qual : Str) : Prop := H T = some (.tbl #[]) ∨ ∃ c, H T = some (.tbl #[rawInt pos.line, rawInt pos.col, .ref c]) ∧ H c = some (CodO c qual)
theorem TbS.at {H : Hp} {T : Addr} {pos : Pos} {qual : Str} (h : TbS H T pos qual) : ∃ ps, H T = some (.tbl ps) := by
  rcases h with h | ⟨c, h, _⟩
  · exact ⟨_, h⟩
  · exact ⟨_, h⟩
theorem TbS.same {H H' : Hp} {T : Addr} {pos : Pos} {qual : Str} (g : Same H H') (h : TbS H T pos qual) : TbS H' T pos qual := by
  rcases h with h | ⟨c, h, h2⟩
  · exact .inl (g _ _ h)
  · exact .inr ⟨c, g _ _ h, g _ _ h2⟩
def BtAt (mg : Str → Option Value) (base : Heap) : Prop := ∃ bm o, mg "__builtins__" = some (.ref bm) ∧ bm ≠ builtinsNs ∧ bm ≠ mainGlobals ∧ base.get? bm = some o ∧ o.cls = .type "module" ∧ o.dict = some builtinsNs ∧ o.data = .plain
section
variable {X : Cx}
theorem ext_lam {P : Program} {w : World} {H : Hp} {h : Heap} {f : Addr} {fd : FuncData} (e : h.get? f = some { cls := .type "function", data := .func fd }) : ObjOk P w H h f (LamO f fd) := ⟨e, ⟨_, e⟩, fun _ _ e1 k => k _ e1⟩
theorem ext_cod {P : Program} {w : World} {H : Hp} {h : Heap} {c : Addr} {qual : Str} (e : h.CodeRec (.ref c) qual) : ObjOk P w H h c (CodO c qual) := by
  refine ⟨e, ?_, fun h1 h2 e1 k => ?_⟩
  · obtain ⟨c', oc, vs, tq, z, hoc, _⟩ := e
    cases z
    exact ⟨_, hoc⟩
  · obtain ⟨c', oc, vs, tq, z, hoc, r⟩ := e1
    cases z
    exact ⟨c, oc, vs, tq, rfl, k _ hoc, r⟩
end
end L2
namespace L2
open PySem PySem.Spec PyProof.Rows
section
variable {X : Cx}
end
section
variable {P : Program} {w : World} {K : PySem.W.Frag} {mg : Str → Option Value} {base : Heap}
theorem code_of {x : Str} {f c T : Addr} {oc : Value} {od : Option Addr} {fd : FuncData} {sl : Array (Option Value)} (hn : PySem.W.nsIn K mainGlobals x = some (some (.ref f))) (lk : K.lookup f = some ⟨oc, od, .func fd, sl⟩) (h : PySem.W.tabIn K x = some (c, T)) : fd.code = .ref c := by
  unfold PySem.W.tabIn at h
  rw [hn] at h
  simp only [lk] at h
  split at h
  · rename_i c2 hc
    split at h
    · split at h
      · cases h; exact hc
      · cases h
    · cases h
  · cases h
theorem Fun.okC {x qual : Str} {st : Stmt} {f c T : Addr} {fd : FuncData} {N ps : List Str} {k : Nat} {sp : Sp} (F : Fun K x qual st f fd) (hn : PySem.W.nsIn K mainGlobals x = some (some (.ref f))) (hT : PySem.W.tabIn K x = some (c, T)) (S : FnScope N ps (defScope st)) (len : ∀ vs H Q E, sp vs H Q E → vs.length = ps.length)
    (hbody : ∀ (A : Around) (outer : List Env) (s : Shared) (H : Hp) (vs : List V) (Q : VK) (E : XK), Room k (A.deeper (envOfC qual (defScope st) s.heap.objs.size f (.ref c))) → sp vs H Q E →
      ∃ t, PSs (cxOf CX0 P w K mg base N qual (defScope st) f (.ref c) A outer s H E).nox (defBody st) t ∧ t { nx := fun _ H' => Q .non H', rt := Q } (start N vs) H) : FnOk P w K mg base CX0 (k + 1) f fd ps sp := by
  obtain ⟨oc, od, kV, doc, pm, an, cdv, ct, osl, rfl, lk, hcd⟩ := F.ex
  have e : cdv = .ref c := code_of hn lk hT
  subst e
  refine fn_of lk hcd S len fun A outer s H vs Q E hr hsp => ?_
  obtain ⟨t, h, q⟩ := hbody A outer s H vs Q E hr hsp
  exact ⟨t, h.nox, q⟩
end
end L2
namespace L2
open PySem PySem.Spec PyProof.Rows
def hidF (h : Heap) (H : Hp) (l : List Addr) : Heap := PySem.W.hideAll h (trk h H ++ l)
theorem hidF_size (h : Heap) (H : Hp) (l : List Addr) : (hidF h H l).objs.size = h.objs.size := PySem.W.hideAll_size _ _
theorem hidF_get {h : Heap} {H : Hp} {l : List Addr} {b : Addr} {o : Obj} (e : h.get? b = some o) (n : H b = none) (m : b ∉ l) : (hidF h H l).get? b = some o :=
  PySem.W.hideAll_get _ e fun hm => by
    rcases List.mem_append.mp hm with hm | hm
    · have q : (H b).isSome = true := (List.mem_filter.mp hm).2
      rw [n] at q; simp at q
    · exact m hm
theorem of_hidF {h : Heap} {H : Hp} {l : List Addr} {b : Addr} {o : Obj} (e : (hidF h H l).get? b = some o) : h.get? b = some o ∧ H b = none ∧ b ∉ l := by
  have e' : h.get? b = some o := PySem.W.of_hideAll (trk h H ++ l) e
  have no : ∀ m : b ∈ trk h H ++ l, False := fun m => by
    have z : (hidF h H l).get? b = none := PySem.W.hideAll_none (trk h H ++ l) m
    rw [z] at e; cases e
  refine ⟨e', ?_, fun m => no (List.mem_append_right _ m)⟩
  cases q : H b with
  | none => rfl
  | some x => exact (no (List.mem_append_left _ (List.mem_filter.mpr ⟨List.mem_range.mpr (Heap.lt_size e'), by simp [q]⟩))).elim
def Sub (g h : Heap) : Prop := ∀ b o, g.get? b = some o → h.get? b = some o
theorem Mod.sub {K : PySem.W.Frag} {mg : Str → Option Value} {g h : Heap} (s : Sub g h) (m : Mod K mg g) : Mod K mg h :=
  ⟨m.kin.keeps s, m.glob.keeps s, let ⟨mb, hb, q⟩ := m.blt; ⟨mb, hb.keeps s, q⟩, m.nolimit.keeps s⟩
theorem BtAt.sub {mg : Str → Option Value} {g h : Heap} (s : Sub g h) (b : BtAt mg g) : BtAt mg h := by
  obtain ⟨bm, ob, b1, b2, b3, b4, r⟩ := b
  exact ⟨bm, ob, b1, b2, b3, s _ _ b4, r⟩
theorem funs_to {h g base : Heap} : ∀ {l : List Env}, h.FunFrames base l → (∀ b ∈ frs l, g.get? b = none) → h.FunFrames g l
  | [], _, _ => trivial
  | env :: rest, hf, hn => by
    obtain ⟨h1, ⟨L, o, e1, e2, e3, e4⟩, r⟩ := hf
    refine ⟨h1, ⟨L, o, e1, hn L ?_, e3, e4⟩, funs_to r fun b hb => hn b ?_⟩
    · exact List.mem_filterMap.mpr ⟨env, List.mem_cons_self, e1⟩
    · obtain ⟨e, he, q⟩ := List.mem_filterMap.mp hb
      exact List.mem_filterMap.mpr ⟨e, List.mem_cons_of_mem _ he, q⟩
theorem Env0.sub {P : Program} {w : World} {K : PySem.W.Frag} {mg : Str → Option Value} {base : Heap} {A : Around} {outer : List Env} {s : Shared} {H : Hp} (e : Env0 P w K mg base A outer s H) : Sub base (hidF s.heap H (frs outer)) := fun b o h =>
  hidF_get (e.bs b o h).1 (e.bs b o h).2 fun m => by
    have := (e.funs.mem m).1
    rw [h] at this; cases this
theorem Env0.big {P : Program} {w : World} {K : PySem.W.Frag} {mg : Str → Option Value} {base : Heap} {A : Around} {outer : List Env} {s : Shared} {H : Hp} (e : Env0 P w K mg base A outer s H) : Env0 P w K mg (hidF s.heap H (frs outer)) A outer s H :=
  ⟨e.frames, e.mod.sub e.sub, fun b o h => ⟨(of_hidF h).1, (of_hidF h).2.1⟩, Nat.le_of_eq (hidF_size _ _ _), funs_to e.funs fun b hb => by
    cases q : (hidF s.heap H (frs outer)).get? b with
    | none => rfl
    | some o => exact absurd hb (of_hidF q).2.2, e.frf, e.hok, e.bare⟩
def Cells (X : Cx) (σ : St) (g : Heap) : Prop := ∀ (i : Nat) (x : Str) (v : V), X.N[i]? = some x → σ[i]? = some (some v) → X.env.scope.names.lookup x = some .cell → ∃ c u, X.env.cells.lookup x = some c ∧ g.IsCell c (some u) ∧ RelV v u
section
variable {X : Cx} {pins : List (Addr × Obj)} {σ : St} {H : Hp} {s : Shared}
theorem Inv.cells (I : Inv X pins σ H s) (hfn : ∀ x, X.fn x = true) : Cells X σ (hidF s.heap H (frs X.stack)) := by
  intro i x v h1 h2 h3
  obtain ⟨m, hns, hl⟩ := I.loc
  obtain ⟨u, rv, lk⟩ := hl i x v h1 h2 (.inr (.inl h3))
  rcases lk with ⟨k, _⟩ | ⟨_, c, hc, ic⟩
  · have k' : X.env.scope.names.lookup x = some .local := k
    rw [h3] at k'; cases k'
  refine ⟨c, u, hc, ?_, rv⟩
  obtain ⟨o, ho, r⟩ := ic
  refine ⟨o, hidF_get ho (I.freeC x c hc) (fun m => ?_), r⟩
  have hge := I.ok.cab x c (hfn x) hc
  have lt : ∀ b ∈ frs X.outer, b < X.s₀.heap.objs.size := fun b hb => by
    obtain ⟨_, o', ho', _⟩ := I.ok.funs.mem hb
    exact Heap.lt_size ho'
  rcases I.ok.stk with e | ⟨e, e2⟩
  · rw [e] at m
    exact absurd (lt c m) (Nat.not_lt.mpr hge)
  · rw [e] at m
    rcases List.mem_filterMap.mp m with ⟨env, he, hf⟩
    rcases List.mem_cons.mp he with rfl | he
    · rw [e2] at hf
      obtain rfl := Option.some.inj hf
      obtain ⟨o2, es, ep, h5, h6, _⟩ := hns
      rw [h5] at ho
      obtain rfl := Option.some.inj ho
      rw [h6] at r
      cases r
    · exact absurd (lt c (List.mem_filterMap.mpr ⟨env, he, hf⟩)) (Nat.not_lt.mpr hge)
end
abbrev lamFnC (qual : Str) (e : Expr) (cl : List (Str × Addr)) (pm : Value) (c : Addr) (ctv : Value) : FuncData := PySem.W.kla_fn "<lambda>" qual (lamArgs e) (lamBody e) (lamScope e) cl pm (.ref c) ctv
structure LamAtC (H : Hp) (f : Addr) (e : Expr) (cl : List (Str × Addr)) : Prop where
  ex : ∃ qual pm c ctv, H f = some (LamO f (lamFnC qual e cl pm c ctv)) ∧ H c = some (CodO c qual)
theorem LamAtC.same {H H' : Hp} {f : Addr} {e : Expr} {cl : List (Str × Addr)} (g : Same H H') (h : LamAtC H f e cl) : LamAtC H' f e cl := by
  obtain ⟨q, pm, c, ctv, h1, h2⟩ := h.ex
  exact ⟨q, pm, c, ctv, g _ _ h1, g _ _ h2⟩
def tLamC (T : Addr) (qual : Str) (e : Expr) (cl : List (Str × Addr)) : TE := fun σ H Q => TbS H T (lamPos e) qual ∧ ∀ f H', SameX T H H' → H f = none → LamAtC H' f e cl → TbS H' T (lamPos e) qual → Q (.ref f) H'
section
variable {X : Cx}
theorem pe_lamC {cl : List (Str × Addr)} {a : Arguments} {b : Expr} {sc : Scope} {pos : Pos} {c T : Addr} (hcode : X.env.code = .ref c) (hC : PySem.W.codeHdIn X.K c T = true) (hB : BtAt X.mg X.base) (hcl : closureFor sc X.env = pure cl := by rfl) (hdef : defaultsOf a X.env = ([], []) := by rfl) :
    PE X (.Lambda a b sc pos) (tLamC T (X.env.qual ++ "<lambda>") (.Lambda a b sc pos) cl) := by
  intro pins s σ H Q I h
  obtain ⟨ht, q⟩ := h
  obtain ⟨ps0, hT⟩ := ht.at
  obtain ⟨bm, ob, b1, b2, b3, b4, b5, b6, b7⟩ := hB
  have hbT : bm ≠ T := fun z => by have := (I.bs _ _ b4).2; rw [z, hT] at this; cases this
  have hg : s.heap.Ns mainGlobals X.mg := I.mod.glob.keeps I.bk
  have hgT : mainGlobals ≠ T := fun z => by
    obtain ⟨o, es, ep, e, _⟩ := I.mod.glob
    have := (I.bs _ _ e).2
    rw [z, hT] at this; cases this
  have hb : s.heap.BuiltinsAt X.mg T := ⟨bm, ob, b1, b2, b3, hbT, I.bk _ _ b4, b5, b6, b7⟩
  have hCd : PySem.W.CodeHd s.heap c T := PySem.W.codeHd_of_K I.kIn hC
  have hLT : X.env.locals ≠ T := fun z => by have := I.free; rw [z, hT] at this; cases this
  refine PySem.W.kla_eval hdef ?_
  rcases ht with h0 | ⟨c', h0, hc'⟩
  · have hP : s.heap.get? T = some (PySem.W.tabObj #[]) := I.hok T _ h0
    refine PySem.W.kla_makeFunction (mg := X.mg) hcl I.ok.glob hg hcode hCd hP trivial rfl hgT hb fun c' ctv h' tk hx hge hlt hrec htb => ?_
    obtain ⟨qual, hqual⟩ : ∃ qual, qual = X.env.qual ++ "<lambda>" := ⟨_, rfl⟩
    rw [← hqual] at hrec ⊢
    have hHc : H c' = none := I.hok.fresh hge
    have hHf : H h'.objs.size = none := I.hok.fresh (Nat.le_of_lt (Nat.lt_of_le_of_lt hge hlt))
    have nTc : T ≠ c' := ne_of_none h0 hHc
    have nTf : T ≠ h'.objs.size := ne_of_none h0 hHf
    have ncf : c' ≠ h'.objs.size := Nat.ne_of_lt hlt
    obtain ⟨fd, hfd⟩ : ∃ fd : FuncData, fd = lamFnC qual (.Lambda a b sc pos) cl ((X.mg "__name__").getD .none) c' ctv := ⟨_, rfl⟩
    have hob : PySem.W.kla_obj "<lambda>" qual a b sc cl ((X.mg "__name__").getD .none) c' ctv = { cls := .type "function", data := .func fd } := by rw [hfd]; rfl
    rw [hob]
    obtain ⟨ps, hps⟩ : ∃ ps : Array Value, ps = #[rawInt pos.line, rawInt pos.col, .ref c'] := ⟨_, rfl⟩
    have htb' : h'.get? T = some { cls := .none, data := .fields ps } := by rw [hps]; exact htb
    obtain ⟨H', hH'⟩ : ∃ H' : Hp, H' = upd (upd (upd H T (.tbl ps)) c' (CodO c' qual)) h'.objs.size (LamO h'.objs.size fd) := ⟨_, rfl⟩
    have eF : H' h'.objs.size = some (LamO h'.objs.size fd) := by rw [hH']; exact upd_same
    have eC : H' c' = some (CodO c' qual) := by rw [hH', upd_ne ncf]; exact upd_same
    have eT : H' T = some (.tbl ps) := by rw [hH', upd_ne nTf, upd_ne nTc]; exact upd_same
    have eO : ∀ x, x ≠ T → x ≠ c' → x ≠ h'.objs.size → H' x = H x := fun x n1 n2 n3 => by rw [hH', upd_ne n3, upd_ne n2, upd_ne n1]
    have eK : ∀ x u, H x = some u → x ≠ T → H' x = some u := fun x u e n1 => by rw [eO x n1 (ne_of_none e hHc) (ne_of_none e hHf)]; exact e
    have hpush : ∀ x o, h'.get? x = some o → (h'.push { cls := .type "function", data := .func fd }).get? x = some o := fun x o e => Heap.get?_push_of_some _ e
    have J : Inv X pins σ H' { s with heap := h'.push { cls := .type "function", data := .func fd }, toks := tk } := by
      refine I.step (g' := s.gens) (d' := s.drawn) (ch := []) (fun _ z => nomatch z) (fun x o _ _ _ e n => ?_) (fun x o _ _ _ e n => ?_) (fun x o _ e n => ?_) (fun x o _ e => ?_) (fun x xs e => ?_) (fun x o u e => ?_) (fun x qs e => ?_) (fun m hn => ?_) (fun x o e => ?_) I.bare
      · exact hpush _ _ (hx _ _ (fun z => by rw [z, hT] at n; cases n) e)
      · exact ⟨o.slots, hpush _ _ (hx _ _ (fun z => by rw [z, hT] at n; cases n) e)⟩
      · have lx := Heap.lt_size e
        rw [eO x (fun z => by rw [z, hT] at n; cases n) (Nat.ne_of_lt (Nat.lt_of_lt_of_le lx hge)) (Nat.ne_of_lt (Nat.lt_trans (Nat.lt_of_lt_of_le lx hge) hlt))]
        exact n
      · by_cases z : x = T
        · exact ⟨_, hpush _ _ (z ▸ htb')⟩
        · exact ⟨o, hpush _ _ (hx _ _ z e)⟩
      · exact eK x _ e (ne_of e h0 (by intro z; cases z))
      · exact eK x _ e (ne_of e h0 (by intro z; cases z))
      · by_cases z : x = T
        · subst z
          rw [h0] at e
          cases e
          exact ⟨ps, by rw [eT]; simp⟩
        · exact ⟨#[], by rw [eK x _ e z]; simp⟩
      · exact (hn.extBut hx hLT).push _
      · by_cases z1 : x = h'.objs.size
        · subst z1
          rw [eF] at e
          cases e
          exact ext_lam (Heap.get?_push_size _ rfl)
        by_cases z2 : x = c'
        · subst z2
          rw [eC] at e
          cases e
          refine ext_cod ?_
          obtain ⟨c2, oc, vs, tq, z, hoc, r⟩ := hrec
          exact ⟨c2, oc, vs, tq, z, hpush _ _ hoc, r⟩
        by_cases z3 : x = T
        · subst z3
          rw [eT] at e
          cases e
          exact hpush _ _ htb'
        rw [eO x z3 z2 z1] at e
        refine (I.hok x o e).stay (fun y u hy r => ?_) (fun y r => ?_) fun y xs r => ?_
        · refine hpush _ _ (hx _ _ (fun z => ?_) r)
          rcases hy with hy | hy
          · exact z3 (hy.symm.trans z)
          · rw [z, hT] at hy; cases hy
        · exact eK y _ r (ne_of r h0 (by intro z; cases z))
        · exact eK y _ r (ne_of r h0 (by intro z; cases z))
    refine ⟨.ref h'.objs.size, H', J, rfl, q h'.objs.size H' (fun x u n e => eK x u e n) hHf ⟨qual, _, c', ctv, by rw [eF, hfd], eC⟩ ?_⟩
    refine .inr ⟨c', ?_, by rw [← hqual]; exact eC⟩
    rw [eT, hps]; rfl
  · have hP : s.heap.get? T = some (PySem.W.tabObj #[rawInt pos.line, rawInt pos.col, .ref c']) := I.hok T _ h0
    have hf : codeAmong pos (#[rawInt pos.line, rawInt pos.col, Value.ref c'] : Array Value).toList = some (.ref c') := by
      show (if ((pos.line : Int) == (pos.line : Int) && (pos.col : Int) == (pos.col : Int)) = true then some (Value.ref c') else _) = _
      simp
    refine PySem.W.kla_makeFunctionHit (mg := X.mg) hcl I.ok.glob hg hcode hCd hP trivial hf hb fun ctv h' tk hk hsz => ?_
    obtain ⟨qual, hqual⟩ : ∃ qual, qual = X.env.qual ++ "<lambda>" := ⟨_, rfl⟩
    rw [← hqual]
    have hHf : H h'.objs.size = none := I.hok.fresh hsz
    refine ⟨.ref h'.objs.size, upd H h'.objs.size (LamO h'.objs.size (lamFnC qual (.Lambda a b sc pos) cl ((X.mg "__name__").getD .none) c' ctv)), I.laid (t' := tk) (fun x o e => Heap.get?_push_of_some _ (hk _ _ e)) hsz (ext_lam (Heap.get?_push_size _ rfl)), rfl, ?_⟩
    have g := same_new hHf (LamO h'.objs.size (lamFnC qual (.Lambda a b sc pos) cl ((X.mg "__name__").getD .none) c' ctv))
    refine q h'.objs.size _ (SameX.of g) hHf ⟨qual, _, c', ctv, upd_same, g _ _ (by rw [hqual]; exact hc')⟩ (.inr ⟨c', g _ _ h0, g _ _ hc'⟩)
end
end L2
namespace L2
open PySem PySem.Spec PyProof.Rows
abbrev envL (qual : Str) (scope : Scope) (cl : List (Str × Addr)) (L f : Addr) (cd : Value) : Env := newEnv scope L mainGlobals cl (qual ++ Str.ofString ".<locals>.") (some f) cd none builtinsNs
def cxL (CX : CXT) (P : Program) (w : World) (K : PySem.W.Frag) (mg : Str → Option Value) (base : Heap) (N : List Str) (qual : Str) (scope : Scope) (cl : List (Str × Addr)) (f : Addr) (cd : Value) (A : Around) (outer : List Env) (s : Shared) (H : Hp) (E : XK) : Cx :=
  { prog := P, w := w, K := K, mg := mg, base := base, A := A.deeper (envL qual scope cl s.heap.objs.size f cd), N := N, s₀ := s, H₀ := H, env := envL qual scope cl s.heap.objs.size f cd, outer := outer, stack := envL qual scope cl s.heap.objs.size f cd :: outer, ex := [], fn := fun _ => false, calm := true, pn := [],
    xe := fun e s' => wpAny (model P w) (A.deeper (envL qual scope cl s.heap.objs.size f cd)) (leaving (envL qual scope cl s.heap.objs.size f cd) e) (fun _ s'' => CX outer H s E e s'') (fun e' s'' => CX outer H s E e' s'') s' }
structure ClAt (base : Heap) (N : List Str) (cl : List (Str × Addr)) (vs : List V) : Prop where
  len : vs.length = N.length
  val : ∀ (i : Nat) (x : Str) (v : V), N[i]? = some x → vs[i]? = some v → ∃ c u, cl.lookup x = some c ∧ base.IsCell c (some u) ∧ RelV v u
  cel : ∀ x c, cl.lookup x = some c → ∃ u, base.IsCell c u
  inj : ∀ x y c, cl.lookup x = some c → cl.lookup y = some c → x = y
def CalC (P : Program) (w : World) (K : PySem.W.Frag) (mg : Str → Option Value) (base : Heap) (k : Nat) (e : Expr) (cl : List (Str × Addr)) (sp : Sp) : Prop :=
  ∀ (f : Addr) (A : Around) (outer : List Env) (s : Shared) (H : Hp) (Q : VK) (E : XK), Room k A → Env0 P w K mg base A outer s H → LamAtC H f e cl → sp [] H Q E →
    codeAny (model P w) A (.call (.ref f) ⟨[], []⟩) (CR CX0 outer P w H s Q E) s
theorem ClAt.two {base : Heap} {x1 x2 : Str} {c1 c2 : Addr} {v1 v2 : V} {u1 u2 : Value} (hx : x1 ≠ x2) (hc : c1 ≠ c2) (h1 : base.IsCell c1 (some u1)) (h2 : base.IsCell c2 (some u2)) (r1 : RelV v1 u1) (r2 : RelV v2 u2) : ClAt base [x1, x2] [(x2, c2), (x1, c1)] [v1, v2] := by
  have l1 : List.lookup x1 [(x2, c2), (x1, c1)] = some c1 := by
    rw [List.lookup_cons]
    have : (x1 == x2) = false := by simpa using hx
    rw [this]; simp [List.lookup]
  have l2 : List.lookup x2 [(x2, c2), (x1, c1)] = some c2 := by simp [List.lookup]
  have any : ∀ x c, List.lookup x [(x2, c2), (x1, c1)] = some c → (x = x2 ∧ c = c2) ∨ (x = x1 ∧ c = c1) := fun x c h => by
    by_cases e2 : x = x2
    · subst e2; rw [l2] at h; exact .inl ⟨rfl, (Option.some.inj h).symm⟩
    by_cases e1 : x = x1
    · subst e1; rw [l1] at h; exact .inr ⟨rfl, (Option.some.inj h).symm⟩
    · have a : (x == x2) = false := by simpa using e2
      have b : (x == x1) = false := by simpa using e1
      simp [List.lookup, a, b] at h
  refine ⟨rfl, fun i x v e1 e2 => ?_, fun x c h => ?_, fun x y c a b => ?_⟩
  · match i, e1, e2 with
    | 0, e1, e2 => cases e1; cases e2; exact ⟨c1, u1, l1, h1, r1⟩
    | 1, e1, e2 => cases e1; cases e2; exact ⟨c2, u2, l2, h2, r2⟩
    | i + 2, e1, e2 => cases e1
  · rcases any x c h with ⟨_, rfl⟩ | ⟨_, rfl⟩
    · exact ⟨_, h2⟩
    · exact ⟨_, h1⟩
  · rcases any x c a with ⟨rfl, rfl⟩ | ⟨rfl, rfl⟩ <;> rcases any y c b with ⟨rfl, e⟩ | ⟨rfl, e⟩
    · rfl
    · exact absurd e.symm hc
    · exact absurd e hc
    · rfl
theorem lam_runC {P : Program} {w : World} {K : PySem.W.Frag} {mg : Str → Option Value} {base : Heap} {k : Nat} {e : Expr} {cl : List (Str × Addr)} {N : List Str} {vs : List V} {sp : Sp} (hk : (lamScope e).kind = ScopeKind.function) (hco : (lamScope e).isCoroutine = false) (hge : (lamScope e).isGenerator = false) (hfree : ∀ y ∈ (lamScope e).names, y.2 ≠ NameKind.cell ∧ y.2 ≠ NameKind.local)
    (hN : ∀ x, (lamScope e).names.lookup x = some .free → ∃ c, cl.lookup x = some c) (hC : ClAt base N cl vs)
    (hbind : ∀ (qual : Str) (pm : Value) (c : Addr) (ctv : Value), bindArgs (lamFnC qual e cl pm c ctv) ⟨[], []⟩ = pure [])
    (hbody : ∀ (qual : Str) (f c : Addr) (A : Around) (outer : List Env) (s : Shared) (H : Hp) (Q : VK) (E : XK), Room k (A.deeper (envL qual (lamScope e) cl s.heap.objs.size f (.ref c))) → sp [] H Q E →
      ∃ t, PE (cxL CX0 P w K mg base N qual (lamScope e) cl f (.ref c) A outer s H E).nox (lamBody e) t ∧ t (vs.map some) H Q) : CalC P w K mg base (k + 1) e cl sp := by
  intro f A outer s H Q E hr e0 hL hsp
  obtain ⟨qual, pm, c, ctv, hf, hc⟩ := hL.ex
  have hfo : s.heap.get? f = some { cls := .type "function", data := .func (lamFnC qual e cl pm c ctv) } := (e0.hok f _ hf).1
  have hrec : s.heap.CodeRec (.ref c) qual := (e0.hok c _ hc).1
  have lim : s.heap.NoLimit := e0.mod.nolimit.keeps fun b o e => (e0.bs b o e).1
  refine PySem.W.kla_callFunE hr.depth hfo rfl hco hge rfl hrec ?_
  rw [hbind qual pm c ctv]
  refine wpAny_pure ?_
  refine wpAny_newFunctionEnv (fun y hy => (hfree y hy).1) (by intro y hy; simp at hy) (fun h1 hns hsb => ?_) hk
  have keep : ∀ b o, s.heap.get? b = some o → h1.get? b = some o := fun b o e => (hsb.2 b (Nat.ne_of_lt (Heap.lt_size e))).trans (Heap.get?_push_of_some _ e)
  refine ⟨lim.keeps keep, PySem.W.kla_codeExpr ?_⟩
  obtain ⟨t, ht, hq⟩ := hbody qual f c A outer s H Q E (hr.deeper _) hsp
  have inb : ∀ {x : Str} {cc : Addr} {u : Option Value}, base.IsCell cc u → h1.IsCell cc u ∧ H cc = none ∧ cc < s.heap.objs.size := fun {x cc u} ⟨o, ho, r⟩ => ⟨⟨o, keep _ _ (e0.bs _ _ ho).1, r⟩, (e0.bs _ _ ho).2, Heap.lt_size (e0.bs _ _ ho).1⟩
  have noA : ∀ b : Addr, b ∉ (cxL CX0 P w K mg base N qual (lamScope e) cl f (.ref c) A outer s H E).ex := fun b z => absurd (show b ∈ ([] : List Addr) from z) (by simp)
  have I : Inv (cxL CX0 P w K mg base N qual (lamScope e) cl f (.ref c) A outer s H E) [] (vs.map some) H { s with heap := h1, toks := s.toks + 0 } := by
    refine ⟨⟨e0.mod, hk, rfl, rfl, Nat.le_refl _, fun y z cc h1 h2 => hC.inj y z cc h1 h2, fun y hy => ?_, fun y cc h _ => ?_, fun _ => hr.hd, Around.frames_deeper e0.frames, .inr ⟨rfl, rfl⟩, fun b z => absurd z (noA b), e0.bs, e0.bsz, fun b _ _ => noA b, fun b z => absurd z (noA b), e0.funs, e0.frf⟩,
      rfl, e0.bare, Un.kept keep, ⟨_, hns, fun i y v h1 h2 h3 => ?_⟩, fun y cc h => ?_, e0.hok.fresh (Nat.le_refl _), fun y cc h => ?_, fun p hp => absurd (show p ∈ ([] : List (Addr × Obj)) from hp) (by simp), e0.hok.kept keep, ?_⟩
    · have hy : (lamScope e).names.lookup y = some .cell ∨ (lamScope e).names.lookup y = some .free := hy
      rcases hy with hy | hy
      · exact absurd rfl (hfree _ (PySem.mem_of_lookup hy)).1
      · exact hN y hy
    · cases h
    · have hv : vs[i]? = some v := by
        rw [List.getElem?_map] at h2
        cases q : vs[i]? with
        | none => rw [q] at h2; cases h2
        | some a => rw [q] at h2; cases h2; rfl
      obtain ⟨cc, u, e1, e2, e3⟩ := hC.val i y v h1 hv
      have h3 : (lamScope e).names.lookup y = some .local ∨ (lamScope e).names.lookup y = some .cell ∨ (lamScope e).names.lookup y = some .free := h3
      rcases h3 with k | k | k
      · exact absurd rfl (hfree _ (PySem.mem_of_lookup k)).2
      · exact absurd rfl (hfree _ (PySem.mem_of_lookup k)).1
      · exact ⟨u, e3, .inr ⟨.inr k, cc, e1, (inb (x := y) e2).1⟩⟩
    · obtain ⟨u, hu⟩ := hC.cel y cc h
      exact ⟨u, (inb (x := y) hu).1⟩
    · obtain ⟨u, hu⟩ := hC.cel y cc h
      exact (inb (x := y) hu).2.1
    · rw [List.length_map]; exact hC.len
  refine wpAny_mono (ht.nox [] _ (vs.map some) H _ I hq) (fun u s' hs => ?_) fun e s' hs => hs
  obtain ⟨v, H', J, rv, q⟩ := hs
  exact ⟨v, H', J.os, J.bare, J.base, J.hok, rv, q⟩
def tCallV0 (i : Nat) (e : Expr) (cl : List (Str × Addr)) (sp : Sp) : TE := fun σ H Q => ∃ f, σ[i]? = some (some (.ref f)) ∧ LamAtC H f e cl ∧ sp [] H Q E0
section
variable {X : Cx}
theorem pe_callV0 {i : Nat} {x : Str} {e : Expr} {cl : List (Str × Addr)} {sp : Sp} {k : Nat} {p pos : Pos} (C : CalC X.prog X.w X.K X.mg X.base k e cl sp) (hr : Room k X.A) (hN : X.N[i]? = some x := by rfl) (hv : Vis X.env.scope x := by first | exact Or.inl rfl | exact Or.inr (Or.inl rfl) | exact Or.inr (Or.inr rfl))
    (hd : (x == ("__debug__" : Str)) = false := by decide) (hcd : (x == ("__classdict__" : Str)) = false := by decide) :
    PE X (.Call (.Name x p) [] [] pos) (tCallV0 i e cl sp) := by
  intro pins s σ H Q I h
  obtain ⟨f, hs, hL, q2⟩ := h
  refine wpAny_Call_Name_kw (thn (pe_var (pos := p) hN hv hd hcd pins s σ H (fun v H1 => v = .ref f ∧ H1 = H) I ⟨.ref f, hs, rfl, rfl⟩) fun u s1 ⟨v, H1, I1, r1, ev, eH⟩ => ?_)
  subst ev eH
  obtain rfl : u = Value.ref f := r1
  refine PySem.W.callWith_of (P := fun h => ∃ fd, h.get? f = some { cls := .type "function", data := .func fd }) rfl
    (fun h ⟨fd, hf⟩ => ⟨.frame, .inl rfl, (PySem.W.Looks.ld (part := none) hf).andThen .now⟩) (PySem.evalArgs_none ⟨?_, ?_⟩)
  · obtain ⟨qual, pm, c, ctv, hf, hc⟩ := hL.ex
    exact ⟨_, (I1.hok f _ hf).1⟩
  · refine wpAny_call (codeAny_mono (C f X.A X.stack s1 H1 Q E0 hr I1.env0 hL q2) fun r s' hq => ?_)
    cases r with
    | error e => exact hq.elim
    | ok fl =>
      cases fl with
      | ret u => exact I1.after hq
      | next => exact False.elim hq
      | brk => exact False.elim hq
      | cont => exact False.elim hq
def tMethB (X : Cx) (C : Addr) (m : Str) (sp : Heap → Sp) (dvs : List V) (ta : TE) (t : TA) : TE := fun σ H Q => ta σ H fun x H1 => ∃ a dx fs, x = .ref a ∧ H1 a = some (.ins C dx fs) ∧ fs.lookup m = none ∧
  t σ H1 fun vs H2 => ∀ g : Heap, Sub X.base g → Cells X σ g → sp g (.ref a :: vs ++ dvs) H2 Q E0
theorem run_fnB {f : Addr} {fd : FuncData} {k : Nat} {ps : List Str} {ds : List Value} {dvs : List V} {sp : Heap → Sp} {pins : List (Addr × Obj)} {σ : St} {H : Hp} {s : Shared} {Q : VK} {us : List Value} {vs : List V} (F : ∀ g : Heap, Sub X.base g → FnOk X.prog X.w X.K X.mg g CX0 k f fd ps (sp g)) (hr : Room k X.A) (hb : Binds X.K fd ps ds) (hd : Vals dvs ds) (hfn : ∀ x, X.fn x = true)
    (I : Inv X pins σ H s) (r : Vals vs us) (h : ∀ g : Heap, Sub X.base g → Cells X σ g → sp g (vs ++ dvs) H Q E0) : wpAny (model X.prog X.w) X.A (call (.ref f) us) (EP X pins σ Q) X.xe s := by
  have r2 : Vals (vs ++ dvs) (us ++ ds) := r.append hd
  have h' := h _ I.env0.sub (I.cells hfn)
  have hl : (us ++ ds).length = ps.length := by rw [← r2.length]; exact (F _ I.env0.sub).len _ _ _ _ h'
  refine wpAny_call (codeAny_mono ((F _ I.env0.sub).run X.A X.stack s H ⟨us, []⟩ (us ++ ds) (vs ++ dvs) Q E0 hr I.env0.big (hb s us I.kIn hl) r2 h') fun r s' hq => ?_)
  cases r with
  | error e => exact hq.elim
  | ok fl =>
    cases fl with
    | ret u => exact I.after hq
    | next => exact False.elim hq
    | brk => exact False.elim hq
    | cont => exact False.elim hq
theorem pe_methB {o e : Expr} {es : List Expr} {m : Str} {apos pos : Pos} {C f : Addr} {fd : FuncData} {k : Nat} {ps : List Str} {ds : List Value} {dvs : List V} {sp : Heap → Sp} {ta : TE} {t : TA} {pl : Sem Bool} (he : PE X o ta) (c : Cls X.K C) (hm : Meth X.K C m f) (F : ∀ g : Heap, Sub X.base g → FnOk X.prog X.w X.K X.mg g CX0 k f fd ps (sp g)) (hr : Room k X.A) (hb : Binds X.K fd ps ds) (hd : Vals dvs ds) (hfn : ∀ x, X.fn x = true) (ha : PA X (e :: es) t)
    (hst : starEach (e :: es) X.env = (false, eval e X.env) :: starEach es X.env := by rfl) (hpl : (backTo pos (starEach es X.env)).any (·.1) = false := by rfl)
    (ht : eval (.Call (.Attribute o m apos) (e :: es) [] pos) X.env = (do
      let ov ← eval o X.env
      standAt apos.atName
      let (f, first) ← holding [ov] (getMethod ov m pl)
      callWith pos f first (backTo pos (starEach (e :: es) X.env)) (backToKw pos (keywordEach [] X.env))) := by rfl) :
    PE X (.Call (.Attribute o m apos) (e :: es) [] pos) (tMethB X C m sp dvs ta t) := by
  intro pins s σ H Q I h
  refine PySem.W.methodCall_KW (pl := pl) (thn (he pins s σ H _ I h) fun u s1 ⟨x, H1, I1, rx, a, dx, fs, ex, ea, l, q⟩ => ?_) ht
  subst ex
  obtain rfl : u = Value.ref a := rx
  refine getmeth_ok I1 ea c hm l ?_
  refine PySem.W.callWith_K (first := [.ref a]) (h₀ := X.base) I.ok.mod.kin hm.kp (thn (ha pos pins s1 σ H1 _ I1 q) fun us s2 ⟨vs, H2, I2, r, q2⟩ => ⟨I2.kIn, ?_⟩) hst hpl
  exact run_fnB (us := .ref a :: us) (vs := .ref a :: vs) F hr hb hd hfn I2 (.cons rfl r) q2
end
end L2
namespace L2
open PySem PySem.Spec PyProof.Rows
structure Mt (P : Program) (w : World) (K : PySem.W.Frag) (mg : Str → Option Value) (base : Heap) (C : Addr) (k : Nat) (m : Str) (ps : List Str) (sp : Sp) : Prop where
  ex : ∃ f fd, Meth K C m f ∧ FnOk P w K mg base CX0 k f fd ps sp ∧ Binds K fd ps []
section
variable {X : Cx} {C : Addr} {k k' : Nat} {m : Str} {ps : List Str} {sp : Sp} {o e : Expr} {es : List Expr} {ta : TE} {t : TA} {apos pos : Pos}
theorem pe_mt0 {pl : Sem Bool} (M : Mt X.prog X.w X.K X.mg X.base C k m ps sp) (c : Cls X.K C) (hr : Room k' X.A) (he : PE X o ta) (hk : k ≤ k' := by decide)
    (ht : eval (.Call (.Attribute o m apos) [] [] pos) X.env = (do
      let ov ← eval o X.env
      standAt apos.atName
      let (f, first) ← holding [ov] (getMethod ov m pl)
      callWith pos f first (backTo pos (starEach [] X.env)) (backToKw pos (keywordEach [] X.env))) := by rfl) :
    PE X (.Call (.Attribute o m apos) [] [] pos) (tMeth C m sp [] E0 ta tNil) := by
  obtain ⟨f, fd, h1, h2, h3⟩ := M.ex
  exact pe_meth0 (pl := pl) he c h1 h2 (hr.mono hk) h3 .nil pass0 ht
theorem pe_mt {pl : Sem Bool} (M : Mt X.prog X.w X.K X.mg X.base C k m ps sp) (c : Cls X.K C) (hr : Room k' X.A) (he : PE X o ta) (ha : PA X (e :: es) t) (hk : k ≤ k' := by decide)
    (hst : starEach (e :: es) X.env = (false, eval e X.env) :: starEach es X.env := by rfl) (hpl : (backTo pos (starEach es X.env)).any (·.1) = false := by rfl)
    (ht : eval (.Call (.Attribute o m apos) (e :: es) [] pos) X.env = (do
      let ov ← eval o X.env
      standAt apos.atName
      let (f, first) ← holding [ov] (getMethod ov m pl)
      callWith pos f first (backTo pos (starEach (e :: es) X.env)) (backToKw pos (keywordEach [] X.env))) := by rfl) :
    PE X (.Call (.Attribute o m apos) (e :: es) [] pos) (tMeth C m sp [] E0 ta t) := by
  obtain ⟨f, fd, h1, h2, h3⟩ := M.ex
  exact pe_meth (pl := pl) he c h1 h2 (hr.mono hk) h3 .nil pass0 ha hst hpl ht
theorem call_intS : CallR X (.type "int") (fun xs H Q => ∃ (x : Str) (n : Int), xs = [.str x] ∧ intText? x = some n ∧ x.length ≤ 640 ∧ Q (.int n) H) := by
  intro pins s σ H xs us Q I r h
  obtain ⟨x, n, rfl, h1, h2, q⟩ := h
  obtain ⟨u, rfl, t, rfl⟩ := vals1 r
  exact PySem.W.KIN.call_text h1 h2 ⟨.int n, H, I.tok _, ⟨_, rfl⟩, q⟩
end
end L2
namespace K3
open PySem L2
def sh (m : Int) : List Nat := if m < 0 then 45 :: D m.natAbs else D m.natAbs
theorem D_all (n : Nat) : NumText.AllDigits (D n) := fun c hc => by
  have h : c ∈ figL := by
    obtain ⟨k, hk⟩ : ∃ k, n < 10 ^ (k + 1) := ⟨n, Nat.lt_of_lt_of_le (Nat.lt_pow_self (by decide : 1 < 10)) (Nat.pow_le_pow_right (by decide) (Nat.le_succ n))⟩
    exact (D_facts k n hk).2.2.1 c hc
  have : ∀ c ∈ figL, 48 ≤ c ∧ c ≤ 57 := by decide
  exact this c h
theorem D_nil (n : Nat) : D n ≠ [] := by
  obtain ⟨k, hk⟩ : ∃ k, n < 10 ^ (k + 1) := ⟨n, Nat.lt_of_lt_of_le (Nat.lt_pow_self (by decide : 1 < 10)) (Nat.pow_le_pow_right (by decide) (Nat.le_succ n))⟩
  exact (D_facts k n hk).1
theorem D_len {n : Nat} (h : n < 10 ^ 60) : (D n).length ≤ 60 := (D_facts 59 n h).2.1
theorem D_val (n : Nat) : NumText.digitsVal (D n) = n := PySem.W.KIN.val_back n
theorem read_sh {m : Int} (h : m.natAbs < 10 ^ 60) : intText? (S (sh m)) = some m := by
  have hl := D_len h
  unfold sh
  by_cases c : m < 0
  · rw [if_pos c]
    have := intText_neg (x := S (45 :: D m.natAbs)) (cs := D m.natAbs) (S_list _) (D_all _) (D_nil _) (by rw [S_len]; simp only [List.length_cons]; omega)
    rw [this, D_val]
    congr 1; omega
  · rw [if_neg c]
    have := intText_digits (x := S (D m.natAbs)) (by rw [S_list]; exact D_all _) (by rw [S_list]; exact D_nil _) (by rw [S_len]; omega)
    rw [this, S_list, D_val]
    congr 1; omega
theorem sh_word {m : Int} (h : m.natAbs < 10 ^ 60) : Word (sh m) := by
  unfold sh
  by_cases c : m < 0
  · rw [if_pos c]; exact .neg (D_num h) (D_ne h (by omega))
  · rw [if_neg c]; exact .num (D_num h)
theorem sh_head (m : Int) : ∃ c r, sh m = c :: r ∧ (c ∈ figL ∨ c = 45) := by
  unfold sh
  by_cases c : m < 0
  · rw [if_pos c]; exact ⟨45, _, rfl, .inr rfl⟩
  · rw [if_neg c]
    cases q : D m.natAbs with
    | nil => exact absurd q (D_nil _)
    | cons x r =>
      obtain ⟨k, hk⟩ : ∃ k, m.natAbs < 10 ^ (k + 1) := ⟨m.natAbs, Nat.lt_of_lt_of_le (Nat.lt_pow_self (by decide : 1 < 10)) (Nat.pow_le_pow_right (by decide) (Nat.le_succ _))⟩
      exact ⟨x, r, rfl, .inl ((D_facts k _ hk).2.2.1 x (by rw [q]; exact List.mem_cons_self))⟩
theorem sh_last (m : Int) : ∃ a, (sh m).getLast? = some a ∧ a ∈ figL := by
  obtain ⟨k, hk⟩ : ∃ k, m.natAbs < 10 ^ (k + 1) := ⟨m.natAbs, Nat.lt_of_lt_of_le (Nat.lt_pow_self (by decide : 1 < 10)) (Nat.pow_le_pow_right (by decide) (Nat.le_succ _))⟩
  have hf := D_facts k _ hk
  have e : (sh m).getLast? = (D m.natAbs).getLast? := by
    unfold sh
    split
    · cases q : D m.natAbs with
      | nil => exact absurd q hf.1
      | cons x r => rw [List.getLast?_cons_cons]
    · rfl
  rw [e]
  exact ⟨_, List.getLast?_eq_some_getLast hf.1, hf.2.2.1 _ (List.getLast_mem hf.1)⟩
end K3
namespace K14
open PySem L2 K3
abbrev sInit : Stmt := inClass sReader 0
abbrev sAhead : Stmt := inClass sReader 1
abbrev sAtName : Stmt := inClass sReader 2
abbrev sAtNum : Stmt := inClass sReader 3
abbrev sPassed : Stmt := inClass sReader 4
abbrev sNeed : Stmt := inClass sReader 5
abbrev sNeedEnd : Stmt := inClass sReader 6
abbrev sTakeName : Stmt := inClass sReader 7
abbrev sTakeNum : Stmt := inClass sReader 8
abbrev sTakeWord : Stmt := inClass sReader 9
abbrev sInB : Stmt := inClass sReader 10
def rdV (l : Addr) (v : V) : List (Str × V) := [("found", .ref l), ("spot", v)]
def rd (l : Addr) (n : Nat) : List (Str × V) := rdV l (.int (n : Int))
theorem put_spot (l : Addr) (n : Nat) (v : V) : putF "spot" v (rd l n) = rdV l v := by
  unfold rd rdV
  rw [put_no (by decide +kernel), put_yes]
structure RdAt (C : Addr) (H : Hp) (r l : Addr) (ws : List (List Nat)) (n : Nat) : Prop where
  ins : ∃ dx, H r = some (.ins C dx (rd l n))
  fl : H l = some (.lst (W ws))
theorem RdAt.same {C : Addr} {H H' : Hp} {r l : Addr} {ws : List (List Nat)} {n : Nat} (g : Same H H') (h : RdAt C H r l ws n) : RdAt C H' r l ws n := by
  obtain ⟨⟨dx, h1⟩, h2⟩ := h
  exact ⟨⟨dx, g _ _ h1⟩, g _ _ h2⟩
structure RdT (K : PySem.W.Frag) (mg : Str → Option Value) (C : Addr) : Prop where
  cl : Cls K C
  nf : NoAttr K C "found"
  ns : NoAttr K C "spot"
  mgC : mg "Reader" = some (.ref C)
def ah (ws : List (List Nat)) (n : Nat) : List Nat := (ws[n]?).getD []
def beg (w sg : List Nat) : Bool := match w with
  | [] => false
  | c :: _ => decide (c ∈ sg)
def numL : List Nat := figL ++ [45]
def spBeg : Sp := fun vs H Q _ => ∃ (w sg : List Nat), vs = [.str (S w), .str (S sg)] ∧ w.length ≤ 100 ∧ Q (.bl (beg w sg)) H
def spAhead (C : Addr) : Sp := fun vs H Q _ => ∃ (r l : Addr) (ws : List (List Nat)) (n : Nat), vs = [.ref r] ∧ RdAt C H r l ws n ∧ n ≤ ws.length ∧ Q (.str (S (ah ws n))) H
def spAt (C : Addr) (sg : List Nat) : Sp := fun vs H Q _ => ∃ (r l : Addr) (ws : List (List Nat)) (n : Nat), vs = [.ref r] ∧ RdAt C H r l ws n ∧ n ≤ ws.length ∧ (ah ws n).length ≤ 100 ∧ Q (.bl (beg (ah ws n) sg)) H
def spPassed (C : Addr) : Sp := fun vs H Q _ => ∃ (r l : Addr) (ws : List (List Nat)) (n : Nat) (c : List Nat), vs = [.ref r, .str (S c)] ∧ RdAt C H r l ws n ∧ n ≤ ws.length ∧ (ah ws n ≠ c → Q (.bl false) H) ∧ (ah ws n = c → ∀ H', SameX r H H' → RdAt C H' r l ws (n + 1) → Q (.bl true) H')
def spNeed (C : Addr) : Sp := fun vs H Q _ => ∃ (r l : Addr) (ws : List (List Nat)) (n : Nat) (c : List Nat), vs = [.ref r, .str (S c)] ∧ RdAt C H r l ws n ∧ n ≤ ws.length ∧ ah ws n = c ∧ ∀ H', SameX r H H' → RdAt C H' r l ws (n + 1) → Q .non H'
def spEnd (C : Addr) : Sp := fun vs H Q _ => ∃ (r l : Addr) (ws : List (List Nat)) (n : Nat), vs = [.ref r] ∧ RdAt C H r l ws n ∧ n = ws.length ∧ Q .non H
def spTakeW (C : Addr) : Sp := fun vs H Q _ => ∃ (r l : Addr) (ws : List (List Nat)) (n : Nat), vs = [.ref r] ∧ RdAt C H r l ws n ∧ n ≤ ws.length ∧ ∀ H', SameX r H H' → RdAt C H' r l ws (n + 1) → Q (.str (S (ah ws n))) H'
def spTakeN (C : Addr) : Sp := fun vs H Q _ => ∃ (r l : Addr) (ws : List (List Nat)) (n : Nat), vs = [.ref r] ∧ RdAt C H r l ws n ∧ n ≤ ws.length ∧ (ah ws n).length ≤ 100 ∧ beg (ah ws n) letL = true ∧ ∀ H', SameX r H H' → RdAt C H' r l ws (n + 1) → Q (.str (S (ah ws n))) H'
def spTakeI (C : Addr) : Sp := fun vs H Q _ => ∃ (r l : Addr) (ws : List (List Nat)) (n : Nat) (i : Int), vs = [.ref r] ∧ RdAt C H r l ws n ∧ n ≤ ws.length ∧ (ah ws n).length ≤ 100 ∧ beg (ah ws n) numL = true ∧ intText? (S (ah ws n)) = some i ∧ ∀ H', SameX r H H' → RdAt C H' r l ws (n + 1) → Q (.int i) H'
def spInit (C : Addr) : Sp := fun vs H Q _ => ∃ (r dx : Addr) (z : List Nat) (ws : List (List Nat)), vs = [.ref r, .str (S z)] ∧ H r = some (.ins C dx []) ∧ z.length ≤ 5000 ∧ Writ z ws ∧ ∀ (l : Addr) (H' : Hp), SameX r H H' → RdAt C H' r l ws 0 → Q .non H'
theorem RdAt.step {C : Addr} {H : Hp} {r l dx : Addr} {ws : List (List Nat)} {n : Nat} (h : RdAt C H r l ws n) (hx : H r = some (.ins C dx (rd l n))) : RdAt C (upd H r (.ins C dx (putF "spot" (.int ((n : Int) + 1)) (rd l n)))) r l ws (n + 1) := by
  refine ⟨⟨dx, ?_⟩, ?_⟩
  · rw [upd_same, put_spot]; rfl
  · rw [upd_ne (ne_of h.fl hx (by intro z; cases z))]; exact h.fl
theorem ah_at {ws : List (List Nat)} {n : Nat} (h : n < ws.length) : (W ws)[n]? = some (.str (S (ah ws n))) := by
  unfold W ah
  rw [List.getElem?_map, List.getElem?_eq_getElem h]; rfl
section
variable {P : Program} {w : World} {K : PySem.W.Frag} {mg : Str → Option Value} {base : Heap} {f : Addr} {fd : FuncData} {C : Addr}
theorem scBegins : FnScope ["word", "signs"] ["word", "signs"] (defScope sBegins) := ⟨rfl, rfl, rfl, by decide +kernel, rfl, by decide +kernel, by decide +kernel⟩
theorem ok_begins (F : Fun K "begins_in" "begins_in" sBegins f fd) : FnOk P w K mg base CX0 1 f fd ["word", "signs"] spBeg := by
  refine F.ok scBegins (fun vs H Q E h => ?_) (fun cdv A outer s H vs Q E hr h => ?_)
  · obtain ⟨u, sg, rfl, _⟩ := h
    rfl
  obtain ⟨u, sg, rfl, hu, q⟩ := h
  refine ⟨_, (pss_one (ps_ret (pe_and (pe_cmpR op_ne (pv 0) pe_str (nomark _)) (pe_one (pe_cmpR op_in_one (pe_ix ix_str (pv 0) pe_int (fun _ _ => rfl)) (pv 1) (by with_unfolding_all rfl)))))), ?_⟩
  cases u with
  | nil =>
    refine ⟨_, rfl, rfl, _, rfl, ?_⟩
    have e : decide (V.str (S []) = V.str (Str.ofString "")) = true := decide_eq_true (by rw [none_eq])
    rw [e]
    exact iteF q
  | cons c u =>
    refine ⟨_, rfl, rfl, _, rfl, ?_⟩
    have e : decide (V.str (S (c :: u)) = V.str (Str.ofString "")) = false := decide_eq_false (by rw [none_eq]; exact str_ne (by simp))
    rw [e]
    refine iteT ⟨_, rfl, _, _, c, rfl, rfl, (by rw [S_len]; exact line_of (by omega)), atS (k := 0) rfl, _, rfl, _, _, rfl, rfl, ?_⟩
    rw [S_list]
    exact q
theorem scAhead : FnScope ["self"] ["self"] (defScope sAhead) := ⟨rfl, rfl, rfl, by decide +kernel, rfl, by decide +kernel, by decide +kernel⟩
theorem ok_ahead (F : Fun K "ahead" "Reader.ahead" sAhead f fd) (G : Gm mg) (T : RdT K mg C) : FnOk P w K mg base CX0 1 f fd ["self"] (spAhead C) := by
  refine F.ok scAhead (fun vs H Q E h => ?_) (fun cdv A outer s H vs Q E hr h => ?_)
  · obtain ⟨r, l, ws, n, rfl, _⟩ := h
    rfl
  obtain ⟨r, l, ws, n, rfl, hR, hn, q⟩ := h
  refine ⟨_, (pss_cons (ps_if (pt_cmpR op_eq (pe_fld (pv 0) rfl) (pe_callB call_len_seq rfl G.len PySem.boot_len (pa_cons (pe_fld (pv 0) rfl) pa_nil)) (nomark _)) (pss_one (ps_ret pe_str)) pss_nil)
    (pss_one (ps_ret (pe_ix ix_list (pe_fld (pv 0) rfl) (pe_fld (pv 0) rfl) (fun _ _ => rfl))))), ?_⟩
  obtain ⟨dx, hx⟩ := hR.ins
  refine ⟨_, rfl, r, C, dx, _, _, rfl, hx, T.cl, T.ns, rfl, _, rfl, r, C, dx, _, _, rfl, hx, T.cl, T.nf, rfl, l, _, rfl, .inl (SqL.of hR.fl), rfl, _, rfl, ?_⟩
  rw [W_len]
  by_cases h : n = ws.length
  · refine iteP (by rw [h]) ?_
    have e : ah ws n = [] := by unfold ah; rw [List.getElem?_eq_none (by omega)]; rfl
    rw [e] at q
    show Q (.str (Str.ofString "")) H
    rw [none_eq]; exact q
  · refine iteN (fun z => h (by injection z with z; omega)) ⟨_, rfl, r, C, dx, _, _, rfl, hx, T.cl, T.nf, rfl, _, rfl, r, C, dx, _, _, rfl, hx, T.cl, T.ns, rfl, l, _, _, _, rfl, rfl, SqL.of hR.fl, atI_nat (ah_at (by omega)), q⟩
theorem scAtName : FnScope ["self"] ["self"] (defScope sAtName) := ⟨rfl, rfl, rfl, by decide +kernel, rfl, by decide +kernel, by decide +kernel⟩
theorem ok_atName (F : Fun K "at_name" "Reader.at_name" sAtName f fd) (G : Gm mg) (T : RdT K mg C) (RB : Fn P w K mg base 1 "begins_in" ["word", "signs"] spBeg) (MA : Mt P w K mg base C 1 "ahead" ["self"] (spAhead C)) : FnOk P w K mg base CX0 2 f fd ["self"] (spAt C letL) := by
  obtain ⟨tl, hl⟩ := G.lets
  refine F.ok scAtName (fun vs H Q E h => ?_) (fun cdv A outer s H vs Q E hr h => ?_)
  · obtain ⟨r, l, ws, n, rfl, _⟩ := h
    rfl
  obtain ⟨r, l, ws, n, rfl, hR, hn, hw, q⟩ := h
  refine ⟨_, (pss_one (ps_ret (pe_fn RB hr (pa_cons (pe_mt0 MA T.cl hr (pv 0)) (pa_cons (pe_glob (v := .str LETS) rfl hl ⟨_, rfl⟩) pa_nil))))), ?_⟩
  obtain ⟨dx, hx⟩ := hR.ins
  refine ⟨_, rfl, r, dx, _, rfl, hx, rfl, r, l, ws, n, rfl, hR, hn, ah ws n, letL, ?_, hw, q⟩
  rw [← let_eq]; rfl
theorem scAtNum : FnScope ["self"] ["self"] (defScope sAtNum) := ⟨rfl, rfl, rfl, by decide +kernel, rfl, by decide +kernel, by decide +kernel⟩
theorem ok_atNum (F : Fun K "at_number" "Reader.at_number" sAtNum f fd) (G : Gm mg) (T : RdT K mg C) (RB : Fn P w K mg base 1 "begins_in" ["word", "signs"] spBeg) (MA : Mt P w K mg base C 1 "ahead" ["self"] (spAhead C)) : FnOk P w K mg base CX0 2 f fd ["self"] (spAt C numL) := by
  obtain ⟨tl, hl⟩ := G.figs
  refine F.ok scAtNum (fun vs H Q E h => ?_) (fun cdv A outer s H vs Q E hr h => ?_)
  · obtain ⟨r, l, ws, n, rfl, _⟩ := h
    rfl
  obtain ⟨r, l, ws, n, rfl, hR, hn, hw, q⟩ := h
  refine ⟨_, (pss_one (ps_ret (pe_fn RB hr (pa_cons (pe_mt0 MA T.cl hr (pv 0)) (pa_cons (pe_op op_add_str (pe_glob (v := .str FIGS) rfl hl ⟨_, rfl⟩) pe_str) pa_nil))))), ?_⟩
  obtain ⟨dx, hx⟩ := hR.ins
  refine ⟨_, rfl, r, dx, _, rfl, hx, rfl, r, l, ws, n, rfl, hR, hn, _, _, rfl, rfl, (by decide +kernel), ah ws n, numL, ?_, hw, q⟩
  rw [fig_eq, minus_eq, S_app]; rfl
theorem scPassed : FnScope ["self", "sign"] ["self", "sign"] (defScope sPassed) := ⟨rfl, rfl, rfl, by decide +kernel, rfl, by decide +kernel, by decide +kernel⟩
theorem ok_passed (F : Fun K "passed" "Reader.passed" sPassed f fd) (T : RdT K mg C) (MA : Mt P w K mg base C 1 "ahead" ["self"] (spAhead C)) : FnOk P w K mg base CX0 2 f fd ["self", "sign"] (spPassed C) := by
  refine F.ok scPassed (fun vs H Q E h => ?_) (fun cdv A outer s H vs Q E hr h => ?_)
  · obtain ⟨r, l, ws, n, c, rfl, _⟩ := h
    rfl
  obtain ⟨r, l, ws, n, c, rfl, hR, hn, q1, q2⟩ := h
  refine ⟨_, (pss_cons (ps_if (pt_cmpR op_ne (pe_mt0 MA T.cl hr (pv 0)) (pv 1) (nomark _)) (pss_one (ps_ret pe_bl)) pss_nil)
    (pss_cons (ps_fldaug (pv 0) pe_int in_add)
    (pss_one (ps_ret pe_bl)))), ?_⟩
  obtain ⟨dx, hx⟩ := hR.ins
  refine ⟨_, rfl, r, dx, _, rfl, hx, rfl, r, l, ws, n, rfl, hR, hn, _, rfl, rfl, _, rfl, ?_⟩
  by_cases h : ah ws n = c
  · refine iteNS (by rw [h]) ⟨_, rfl, r, C, dx, _, _, rfl, hx, T.cl, T.ns, rfl, _, _, rfl, rfl, dx, _, hx, (by show 2 < 1000; decide), ?_⟩
    exact q2 h _ SameX.upd (hR.step hx)
  · have e : decide (V.str (S (ah ws n)) = V.str (S c)) = false := decide_eq_false (str_ne h)
    rw [e]
    exact iteT (q1 h)
theorem scTakeWord : FnScope ["self", "word"] ["self"] (defScope sTakeWord) := ⟨rfl, rfl, rfl, by decide +kernel, rfl, by decide +kernel, by decide +kernel⟩
theorem ok_takeWord (F : Fun K "take_word" "Reader.take_word" sTakeWord f fd) (T : RdT K mg C) (MA : Mt P w K mg base C 1 "ahead" ["self"] (spAhead C)) : FnOk P w K mg base CX0 2 f fd ["self"] (spTakeW C) := by
  refine F.ok scTakeWord (fun vs H Q E h => ?_) (fun cdv A outer s H vs Q E hr h => ?_)
  · obtain ⟨r, l, ws, n, rfl, _⟩ := h
    rfl
  obtain ⟨r, l, ws, n, rfl, hR, hn, q⟩ := h
  refine ⟨_, (pss_cons (ps_set (i := 1) scTakeWord.nd rfl (Or.inl rfl) (pe_mt0 MA T.cl hr (pv 0)))
    (pss_cons (ps_fldaug (pv 0) pe_int in_add)
    (pss_one (ps_ret (pv 1))))), ?_⟩
  obtain ⟨dx, hx⟩ := hR.ins
  refine ⟨_, rfl, r, dx, _, rfl, hx, rfl, r, l, ws, n, rfl, hR, hn, ?_⟩
  refine ⟨_, rfl, r, C, dx, _, _, rfl, hx, T.cl, T.ns, rfl, _, _, rfl, rfl, dx, _, hx, (by show 2 < 1000; decide), _, rfl, ?_⟩
  exact q _ SameX.upd (hR.step hx)
theorem scTakeName : FnScope ["self"] ["self"] (defScope sTakeName) := ⟨rfl, rfl, rfl, by decide +kernel, rfl, by decide +kernel, by decide +kernel⟩
theorem ok_takeName (F : Fun K "take_name" "Reader.take_name" sTakeName f fd) (T : RdT K mg C) (MN : Mt P w K mg base C 2 "at_name" ["self"] (spAt C letL)) (MW : Mt P w K mg base C 2 "take_word" ["self"] (spTakeW C)) : FnOk P w K mg base CX0 3 f fd ["self"] (spTakeN C) := by
  refine F.ok scTakeName (fun vs H Q E h => ?_) (fun cdv A outer s H vs Q E hr h => ?_)
  · obtain ⟨r, l, ws, n, rfl, _⟩ := h
    rfl
  obtain ⟨r, l, ws, n, rfl, hR, hn, hw, hb, q⟩ := h
  refine ⟨_, (pss_cons (ps_if (pt_not (pt_val (pe_mt0 MN T.cl hr (pv 0)))) pss_never pss_nil)
    (pss_one (ps_ret (pe_mt0 MW T.cl hr (pv 0))))), ?_⟩
  obtain ⟨dx, hx⟩ := hR.ins
  refine ⟨_, rfl, r, dx, _, rfl, hx, rfl, r, l, ws, n, rfl, hR, hn, hw, _, rfl, ?_⟩
  rw [hb]
  exact iteF ⟨_, rfl, r, dx, _, rfl, hx, rfl, r, l, ws, n, rfl, hR, hn, q⟩
theorem scTakeNum : FnScope ["self"] ["self"] (defScope sTakeNum) := ⟨rfl, rfl, rfl, by decide +kernel, rfl, by decide +kernel, by decide +kernel⟩
theorem ok_takeNum (F : Fun K "take_number" "Reader.take_number" sTakeNum f fd) (G : Gm mg) (T : RdT K mg C) (MN : Mt P w K mg base C 2 "at_number" ["self"] (spAt C numL)) (MW : Mt P w K mg base C 2 "take_word" ["self"] (spTakeW C)) : FnOk P w K mg base CX0 3 f fd ["self"] (spTakeI C) := by
  refine F.ok scTakeNum (fun vs H Q E h => ?_) (fun cdv A outer s H vs Q E hr h => ?_)
  · obtain ⟨r, l, ws, n, i, rfl, _⟩ := h
    rfl
  obtain ⟨r, l, ws, n, i, rfl, hR, hn, hw, hb, hi, q⟩ := h
  refine ⟨_, (pss_cons (ps_if (pt_not (pt_val (pe_mt0 MN T.cl hr (pv 0)))) pss_never pss_nil)
    (pss_one (ps_ret (pe_callTy call_intS rfl G.int PyProof.Rows.boot_int (pa_cons (pe_mt0 MW T.cl hr (pv 0)) pa_nil))))), ?_⟩
  obtain ⟨dx, hx⟩ := hR.ins
  refine ⟨_, rfl, r, dx, _, rfl, hx, rfl, r, l, ws, n, rfl, hR, hn, hw, _, rfl, ?_⟩
  rw [hb]
  exact iteF ⟨_, rfl, r, dx, _, rfl, hx, rfl, r, l, ws, n, rfl, hR, hn, fun H' g' hR' => ⟨_, i, rfl, hi, (by rw [S_len]; omega), q H' g' hR'⟩⟩
theorem scNeed : FnScope ["self", "sign"] ["self", "sign"] (defScope sNeed) := ⟨rfl, rfl, rfl, by decide +kernel, rfl, by decide +kernel, by decide +kernel⟩
theorem ok_need (F : Fun K "need" "Reader.need" sNeed f fd) (T : RdT K mg C) (MP : Mt P w K mg base C 2 "passed" ["self", "sign"] (spPassed C)) : FnOk P w K mg base CX0 3 f fd ["self", "sign"] (spNeed C) := by
  refine F.ok scNeed (fun vs H Q E h => ?_) (fun cdv A outer s H vs Q E hr h => ?_)
  · obtain ⟨r, l, ws, n, c, rfl, _⟩ := h
    rfl
  obtain ⟨r, l, ws, n, c, rfl, hR, hn, ha, q⟩ := h
  refine ⟨_, (pss_one (ps_if (pt_not (pt_val (pe_mt MP T.cl hr (pv 0) (pa_cons (pv 1) pa_nil)))) pss_never pss_nil)), ?_⟩
  obtain ⟨dx, hx⟩ := hR.ins
  exact ⟨_, rfl, r, dx, _, rfl, hx, rfl, _, rfl, r, l, ws, n, c, rfl, hR, hn, fun z => absurd ha z, fun _ H' g' hR' => ⟨_, rfl, iteF (q H' g' hR')⟩⟩
theorem scNeedEnd : FnScope ["self", "word"] ["self"] (defScope sNeedEnd) := ⟨rfl, rfl, rfl, by decide +kernel, rfl, by decide +kernel, by decide +kernel⟩
theorem ok_needEnd (F : Fun K "need_end" "Reader.need_end" sNeedEnd f fd) (T : RdT K mg C) (MA : Mt P w K mg base C 1 "ahead" ["self"] (spAhead C)) : FnOk P w K mg base CX0 2 f fd ["self"] (spEnd C) := by
  refine F.ok scNeedEnd (fun vs H Q E h => ?_) (fun cdv A outer s H vs Q E hr h => ?_)
  · obtain ⟨r, l, ws, n, rfl, _⟩ := h
    rfl
  obtain ⟨r, l, ws, n, rfl, hR, hn, q⟩ := h
  refine ⟨_, (pss_cons (ps_set (i := 1) scNeedEnd.nd rfl (Or.inl rfl) (pe_mt0 MA T.cl hr (pv 0)))
    (pss_one (ps_if (pt_cmpR op_ne (pv 1) pe_str (nomark _)) pss_never pss_nil))), ?_⟩
  obtain ⟨dx, hx⟩ := hR.ins
  have e : ah ws n = [] := by unfold ah; rw [List.getElem?_eq_none (by omega)]; rfl
  refine ⟨_, rfl, r, dx, _, rfl, hx, rfl, r, l, ws, n, rfl, hR, by omega, _, rfl, rfl, _, rfl, iteNS ?_ q⟩
  rw [e, none_eq]
theorem scInit : FnScope ["self", "text"] ["self", "text"] (defScope sInit) := ⟨rfl, rfl, rfl, by decide +kernel, rfl, by decide +kernel, by decide +kernel⟩
theorem ok_init (F : Fun K "__init__" "Reader.__init__" sInit f fd) (T : RdT K mg C) (RW : Fn P w K mg base 5 "words" ["text"] spWords) : FnOk P w K mg base CX0 6 f fd ["self", "text"] (spInit C) := by
  refine F.ok scInit (fun vs H Q E h => ?_) (fun cdv A outer s H vs Q E hr h => ?_)
  · obtain ⟨r, dx, z, ws, rfl, _⟩ := h
    rfl
  obtain ⟨r, dx, z, ws, rfl, hx, hz, hw, q⟩ := h
  refine ⟨_, (pss_cons (ps_fld (pv 0) (pe_fn RW hr (pa_cons (pv 1) pa_nil)) rfl)
    (pss_one (ps_fld (pv 0) pe_int rfl))), ?_⟩
  refine ⟨_, rfl, z, ws, rfl, hz, hw, fun l H' g' hl hl0 => ?_⟩
  have hx' := g' _ _ hx
  have ne : l ≠ r := fun e => by rw [e, hx] at hl0; cases hl0
  refine ⟨_, rfl, r, C, dx, _, rfl, hx', T.cl, T.nf, (by show 0 < 1000; decide), ?_⟩
  refine ⟨_, rfl, r, C, dx, _, rfl, upd_same, T.cl, T.ns, (by show 1 < 1000; decide), ?_⟩
  refine q l _ (((SameX.of g').trans SameX.upd).trans SameX.upd) ⟨⟨dx, ?_⟩, ?_⟩
  · rw [upd_same]
    show some (HO.ins C dx (putF "spot" _ (putF "found" _ []))) = _
    rw [show putF "found" (V.ref l) [] = ([("found", V.ref l)] : List (Str × V)) from rfl, put_no (by decide +kernel)]; rfl
  · rw [upd_ne ne, upd_ne ne]; exact hl
end
end K14
namespace TM
variable {α : Type}
mutual
def sz : Tree α → Nat
  | .node _ _ bs => 1 + szs bs
def szs : List (Tree α) → Nat
  | [] => 0
  | t :: r => sz t + szs r
end
mutual
def lv : Tree α → Nat
  | .node _ _ bs => 1 + lvs bs
def lvs : List (Tree α) → Nat
  | [] => 0
  | t :: r => max (lv t) (lvs r)
end
mutual
def pl : Tree α → List (List Int)
  | .node _ _ bs => [] :: pls 0 bs
def pls : Nat → List (Tree α) → List (List Int)
  | _, [] => []
  | i, t :: r => (pl t).map (List.cons (i : Int)) ++ pls (i + 1) r
end
theorem sz_bs (t : Tree α) : sz t = 1 + szs t.bs := by cases t; simp [sz, Tree.bs]
theorem lv_bs (t : Tree α) : lv t = 1 + lvs t.bs := by cases t; simp [lv, Tree.bs]
theorem szs_map : ∀ ts : List (Tree α), ((ts.map fun t => (sz t : Int)).sum) = (szs ts : Int)
  | [] => by simp [szs]
  | t :: r => by rw [List.map_cons, List.sum_cons, szs_map r]; simp [szs]
theorem sz_le {ts : List (Tree α)} {t : Tree α} (h : t ∈ ts) : sz t ≤ szs ts := by
  induction ts with
  | nil => cases h
  | cons u r ih =>
    simp only [szs]
    rcases List.mem_cons.mp h with rfl | h
    · omega
    · have := ih h; omega
theorem lv_le {ts : List (Tree α)} {t : Tree α} (h : t ∈ ts) : lv t ≤ lvs ts := by
  induction ts with
  | nil => cases h
  | cons u r ih =>
    simp only [lvs]
    rcases List.mem_cons.mp h with rfl | h
    · omega
    · have := ih h; omega
open HT (lexLt)
variable {R : Rows α} {K : Nat → List Int} {B : Nat → Tree α} {o0 : Tree α}
end TM
namespace L2
open PySem PySem.Spec PyProof.Rows
def compX (X : Cx) (N' : List Str) (scope : Scope) (cl : List (Str × Addr)) (C : Addr) (fp : List Addr) (s₀ : Shared) (H₀ : Hp) : Cx :=
  { X with N := N', s₀ := s₀, H₀ := H₀, env := compEnvC scope cl C X.env, outer := X.stack, ex := fp, fn := fun _ => false, pn := [], xe := fun _ _ => False }
def PF (X : Cx) (ifs : List Expr) (t : TT) : Prop :=
  ∀ (pins : List (Addr × Obj)) (s : Shared) (σ : St) (H : Hp) (Q : Bool → Hp → Prop), Inv X pins σ H s → t σ H Q →
    wpAny (model X.prog X.w) X.A (forIn ifs true fun c r => if r = true then do let ok ← isTrue c X.env (eval c X.env); pure (ForInStep.yield ok) else pure (ForInStep.yield r)) (TP X pins σ Q) X.xe s
theorem pf_nil {X : Cx} : PF X [] (fun _ H Q => Q true H) := by
  intro pins s σ H Q I h
  rw [List.forIn_nil]
  exact wpAny_pure ⟨H, I, h⟩
def tComp (wi : TI) (cap : List Nat) (tt : TT) (te : TE) : TE := fun σ H Q => wi σ H fun J H1 => ∀ acc, H1 acc = none → ∃ W : Nat → Nat → Hp → Prop, (∃ m, W 0 m (upd H1 acc (.lst []))) ∧ ∀ i m H2, W i m H2 →
  (J.stop i H2 ∧ Q (.ref acc) H2) ∨ (J.go i H2 ∧ ∀ x H3, J.yld i H2 x H3 → tt (some x :: cap.map fun j => (σ[j]?).getD none) H3 fun ok H4 => if ok = true then
    te (some x :: cap.map fun j => (σ[j]?).getD none) H4 (fun y H5 => ∃ ys, H5 acc = some (.lst ys) ∧ ys.length < sizeLine ∧ ∃ m', m' < m ∧ W (i + 1) m' (upd H5 acc (.lst (ys ++ [y]))))
    else ∃ m', m' < m ∧ W (i + 1) m' H4)
structure CompOk (X : Cx) (x : Str) (caps : List Str) (cap : List Nat) (scope : Scope) (cl : List (Str × Addr)) : Prop where
  clos : closureFor scope X.env = pure cl
  cell : ∀ y ∈ scope.names, y.2 ≠ .cell
  kind : scope.kind = .function
  names : ∀ y ∈ scope.names, y.2 = .local → scope.names.lookup y.1 = some .local
  lx : scope.names.lookup x = some .local
  nd : (x :: caps).Nodup
  from_ : ∀ y c, cl.lookup y = some c → X.env.cells.lookup y = some c
  has : ∀ y, ((relabel scope X.env).names.lookup y = some .cell ∨ (relabel scope X.env).names.lookup y = some .free) → ∃ c, cl.lookup y = some c
  len : cap.length = caps.length
  cps : ∀ (i : Nat) (y : Str), caps[i]? = some y → ∃ j, cap[i]? = some j ∧ X.N[j]? = some y ∧ X.env.scope.names.lookup y = some .cell ∧ (relabel scope X.env).names.lookup y = some .cell
structure OwnAt (X : Cx) (pins : List (Addr × Obj)) (H : Hp) (s : Shared) (C : Addr) : Prop where
  ns : ∃ m, s.heap.Ns C m
  free : H C = none
  loc : C ≠ X.env.locals
  above : X.s₀.heap.objs.size ≤ C
  cells : ∀ x c, X.env.cells.lookup x = some c → c ≠ C
  pins : ∀ p ∈ X.pn ++ pins, p.1 ≠ C
theorem comp_core {X : Cx} {elt iter : Expr} {x : Str} {px : Pos} {ifs : List Expr} {scope : Scope} {pos pos' : Pos} {wi : TI} {tt : TT} {te : TE} {cl : List (Str × Addr)} {caps : List Str} {cap : List Nat}
    (O : CompOk X x caps cap scope cl) (hc : X.calm = true) (hi : PI X (.Name x px) iter wi)
    (ht : ∀ C fp s₀ H₀, PF (compX X (x :: caps) scope cl C fp s₀ H₀) ifs tt) (he : ∀ C fp s₀ H₀, PE (compX X (x :: caps) scope cl C fp s₀ H₀) elt te)
    (hs : ∀ x, foldedSetIterable iter X.env x = pure x) {pins : List (Addr × Obj)} {s : Shared} {σ : St} {H : Hp} {Q : VK} {use : Option (Value → Sem Unit)} {QQ : Value → Shared → Prop} (I : Inv X pins σ H s)
    (h : tComp wi cap tt te σ H Q)
    (hfin : ∀ D C H' s', Inv X pins σ H' s' → OwnAt X pins H' s' C → Q (.ref D) H' → compPost (model X.prog X.w) X.A X.xe use QQ (.ref D) C (.ok .next) s') :
    wpAny (model X.prog X.w) X.A (comprehension (.ListComp elt [⟨.Name x px, iter, ifs, 0⟩] scope pos) scope X.env pos' (newList []) false (eval iter X.env) use) QQ X.xe s := by
  refine wpAny_comprehension_free rfl hs O.clos O.kind O.names (thn (hi pins s σ H _ I h) fun v s1 h1 => thn h1 fun itv s2 h2 => ?_)
  obtain ⟨it, fp, tn, J, H1, e, I2, T, t0, f2, hR⟩ := h2
  subst e
  refine wpAny_newObj_type (wpAny_newFunctionEnv O.cell (by intro y hy; simp at hy) (fun h₁ hns hsb => ?_) O.kind)
  have hacc : H1 s2.heap.objs.size = none := I2.fresh
  obtain ⟨W, ⟨m0, w0⟩, turn⟩ := hR s2.heap.objs.size hacc
  have I3 : Inv X pins σ (upd H1 s2.heap.objs.size (.lst [])) { s2 with heap := s2.heap.push { cls := .type "list", data := .seq ([] : List Value).toArray } } := I2.lnew (t' := s2.toks) (ys := []) (its := []) .nil (Nat.zero_le _)
  generalize hs3 : ({ s2 with heap := s2.heap.push { cls := .type "list", data := .seq ([] : List Value).toArray } } : Shared) = s3 at hns hsb I3 ⊢
  generalize hD : s2.heap.objs.size = D at I3 w0 turn hacc ⊢
  generalize hH3 : upd H1 D (.lst []) = H3 at I3 w0
  have keep3 : ∀ b o, s3.heap.get? b = some o → h₁.get? b = some o := fun b o e => (hsb.2 b (Nat.ne_of_lt (Heap.lt_size e))).trans (Heap.get?_push_of_some _ e)
  have hfp3 : ∀ b ∈ fp, H3 b = none := fun b hb => by
    rw [← hH3, upd_ne]
    · exact (f2 b hb).1
    · intro z
      obtain ⟨o, e, _⟩ := T.obj _ _ t0 b hb
      exact absurd (Heap.lt_size e) (by rw [z, hD]; exact Nat.lt_irrefl _)
  have hCfresh : H3 s3.heap.objs.size = none := I3.fresh
  have hCfp : ∀ b ∈ fp, b ≠ s3.heap.objs.size := fun b hb z => by
    obtain ⟨o, e, _⟩ := T.obj _ _ t0 b hb
    have h2 : s3.heap.objs.size = s2.heap.objs.size + 1 := by rw [← hs3]; exact Heap.size_push ..
    exact absurd (Heap.lt_size e) (by rw [z, h2]; exact Nat.not_lt.mpr (Nat.le_succ _))
  have t3 : tn 0 h₁ := T.keep _ _ _ t0 fun b hb o e => keep3 b o (by rw [← hs3]; exact Heap.get?_push_of_some _ e)
  have ok' : (compX X (x :: caps) scope cl s3.heap.objs.size fp s3 H3).Ok := by
    refine ⟨I3.ok.mod, O.kind, I3.ok.glob, I3.ok.blt, Nat.le_refl _, fun y z c e1 e2 => I3.ok.inj y z c (O.from_ y c e1) (O.from_ z c e2), fun y hy => O.has y hy, fun y c z _ => (nomatch z), I3.ok.hd, I3.ok.frames, .inl rfl, fun b hb => ⟨hCfp b hb, fun y c e => ?_⟩, I3.bs, Nat.le_trans I3.ok.bsz I3.sz, fun b o e hb => ?_, fun b hb z => ?_, I3.stack, I3.stkFree⟩
    · exact (f2 b hb).2.2.2.2.1 y c (O.from_ y c e)
    · rcases (f2 b hb).2.2.2.1 with q | q
      · exact I3.ok.noex b o e q
      · exact absurd (Nat.lt_of_lt_of_le (Heap.lt_size e) (Nat.le_trans I3.ok.bsz q)) (Nat.lt_irrefl _)
    · rcases List.mem_cons.mp (I3.stkSub b z) with q | q
      · exact (f2 b hb).2.1 q
      · exact (f2 b hb).2.2.1 q
  have I4 : Inv (compX X (x :: caps) scope cl s3.heap.objs.size fp s3 H3) [] (none :: cap.map fun j => (σ[j]?).getD none) H3 { s3 with heap := h₁, toks := s3.toks + ([] : List (Str × Value)).length } := by
    obtain ⟨m, hn, hl⟩ := id I3.loc
    refine ⟨ok', rfl, I3.bare, Un.kept keep3, ⟨_, hns, fun i y v e1 e2 e3 => ?_⟩, fun y c e => ?_, hCfresh, fun y c e => I3.freeC y c (O.from_ y c e), fun p hp => (nomatch hp), I3.hok.kept keep3, ?_⟩
    · cases i with
      | zero => simp at e2
      | succ i =>
        have e1' : caps[i]? = some y := by
          have e1'' : (x :: caps)[i + 1]? = some y := e1
          simpa using e1''
        obtain ⟨j, hj, hN, hk, hk'⟩ := O.cps i y e1'
        have e2' : (σ[j]?).getD none = some v := by simpa [hj] using e2
        have e2'' : σ[j]? = some (some v) := by
          cases q : σ[j]? with
          | none => rw [q] at e2'; cases e2'
          | some a => rw [q] at e2'; exact congrArg some e2'
        obtain ⟨u, r, l⟩ := hl j y v hN e2'' (.inr (.inl hk))
        refine ⟨u, r, ?_⟩
        rcases l with ⟨k, _⟩ | ⟨k, c, e, z⟩
        · have k' : X.env.scope.names.lookup y = some .local := k
          rw [hk] at k'; cases k'
        · obtain ⟨c', hc'⟩ := O.has y (.inl hk')
          have : c' = c := Option.some.inj ((O.from_ y c' hc').symm.trans e)
          subst this
          refine .inr ⟨.inl hk', c', hc', ?_⟩
          obtain ⟨o, ho, hd⟩ := z
          exact ⟨o, keep3 _ _ ho, hd⟩
    · obtain ⟨v, o, ho, hd⟩ := I3.cell y c (O.from_ y c e)
      exact ⟨v, o, keep3 _ _ ho, hd⟩
    · show (none :: cap.map _).length = (x :: caps).length
      simp [O.len]
  have fin : ∀ (H' : Hp) (σ' : St) (s' : Shared), Inv (compX X (x :: caps) scope cl s3.heap.objs.size fp s3 H3) [] σ' H' s' → Q (.ref D) H' →
      compPost (model X.prog X.w) X.A X.xe use QQ (.ref D) s3.heap.objs.size (.ok .next) s' := fun H' σ' s' I' q => by
    obtain ⟨m, hn, _⟩ := id I'.loc
    have hU : Un (frs X.stack) fp H3 H' s3.heap s'.heap := I'.base
    have hok2 : HOk X.prog X.w H' s'.heap := I'.hok
    have os' : s'.os = s3.os := I'.os
    have I6 : Inv X pins σ H' s' := I3.call' (ch := fp) os' hU hok2 I'.bare (fun b hb => ⟨(f2 b hb).2.2.2.1, (f2 b hb).2.1, (f2 b hb).2.2.2.2⟩)
    refine hfin D _ H' s' I6 ⟨⟨m, hn⟩, I'.free, Nat.ne_of_gt I3.lt, I3.sz, fun y c e z => ?_, fun p hp z => ?_⟩ q
    · obtain ⟨v, hv⟩ := I3.cell y c e
      exact absurd hv.lt (by rw [z]; exact Nat.lt_irrefl _)
    · exact absurd (Heap.lt_size (I3.pin p hp).1) (by rw [z]; exact Nat.lt_irrefl _)
  have stat : ∀ {H' : Hp}, (∀ b ∈ fp, H' b = none) → ∀ b ∈ fp, FpOk (compX X (x :: caps) scope cl s3.heap.objs.size fp s3 H3) [] H' b := fun hn b hb =>
    ⟨hn b hb, hCfp b hb, ok'.exfs b hb, .inl hb, fun y c e => (f2 b hb).2.2.2.2.1 y c (O.from_ y c e), fun p hp => (nomatch hp)⟩
  have loop : codeAny (model X.prog X.w) X.A (.compLoop (.ListComp elt [⟨.Name x px, iter, ifs, 0⟩] scope pos) 0 (.ref it) (.ref D) (compEnvC scope cl s3.heap.objs.size X.env))
      (compPost (model X.prog X.w) X.A X.xe use QQ (.ref D) s3.heap.objs.size) { s3 with heap := h₁, toks := s3.toks + ([] : List (Str × Value)).length } := by
    refine codeAny_loop rfl (fun n s' => ∃ i a H', Inv (compX X (x :: caps) scope cl s3.heap.objs.size fp s3 H3) [] (a :: cap.map fun j => (σ[j]?).getD none) H' s' ∧ tn i s'.heap ∧ (∀ b ∈ fp, H' b = none) ∧ W i n H') ?_ m0 ⟨0, none, H3, I4, t3, hfp3, w0⟩
    rintro n s5 ⟨i, a, H5, I5, st5, fr5, w5⟩
    show wpAny _ _ ((compTurn (.ListComp elt [⟨.Name x px, iter, ifs, 0⟩] scope pos) 0 (.ref it) (.ref D) (compEnvC scope cl s3.heap.objs.size X.env)).onRaise (fun x => do noteFrame x (compEnvC scope cl s3.heap.objs.size X.env); theTreesLotGoes x)) _ _ s5
    refine wpAny_noted ?_
    rw [compTurn_list]
    refine wpAny_bind (wpAny_standAt (wpAny_bind ?_))
    have bad : ∀ {M : Model} {A : Around} {α : Type} {t : Sem α} {P : α → Shared → Prop} {E' : Value → Shared → Prop} {s' : Shared}, wpAny M A t P (fun _ _ => False) s' → wpAny M A t P E' s' := fun h => wpAny_mono h (fun _ _ q => q) fun _ _ z => z.elim
    rcases turn i n H5 w5 with ⟨stop, qn⟩ | ⟨go, step⟩
    · refine bad (thn (T.done (compX X (x :: caps) scope cl s3.heap.objs.size fp s3 H3) rfl rfl rfl hc i [] s5 _ H5 (fun _ _ => False) I5 (stat fr5) st5 stop) fun r s6 ⟨hr, I6⟩ => ?_)
      subst hr
      exact wpAny_pure (fin H5 _ s6 I6 qn)
    · refine bad (thn (T.item (compX X (x :: caps) scope cl s3.heap.objs.size fp s3 H3) rfl rfl rfl hc i [] s5 _ H5 (fun _ _ => False) I5 (stat fr5) st5 go) fun r s6 ⟨u, hr, h6⟩ => ?_)
      subst hr
      refine wpAny_bind (bad (thn h6 fun _ s7 ⟨y, H7, I7, r7, y7, st7, fr7⟩ => ?_))
      have I7' := I7.pinned (stat fr7) (T.obj _ _ st7)
      have goal := step y H7 y7
      have hxl : Loc (compX X (x :: caps) scope cl s3.heap.objs.size fp s3 H3).env.scope x := .inl (lookup_relabel_local O.lx)
      refine wpAny_bind (wpAny_assign_Name (store_ok (i := 0) I7' O.nd rfl hxl r7 (fun s8 I8 => ?_) (.inr (lookup_relabel_local O.lx))))
      have I8' : Inv (compX X (x :: caps) scope cl s3.heap.objs.size fp s3 H3) ([] ++ pinsAt fp s7.heap) (some y :: cap.map fun j => (σ[j]?).getD none) H7 s8 := I8
      refine wpAny_bind (bad (thn (ht s3.heap.objs.size fp s3 H3 _ s8 _ H7 _ I8' goal) fun okb s9 ⟨H9, I9, q9⟩ => ?_))
      have again : ∀ {H10 : Hp} {s10 : Shared} {m' : Nat}, Inv (compX X (x :: caps) scope cl s3.heap.objs.size fp s3 H3) ([] ++ pinsAt fp s7.heap) (some y :: cap.map fun j => (σ[j]?).getD none) H10 s10 → m' < n → W (i + 1) m' H10 →
          ∃ m, m < n ∧ ∃ i a H', Inv (compX X (x :: caps) scope cl s3.heap.objs.size fp s3 H3) [] (a :: cap.map fun j => (σ[j]?).getD none) H' s10 ∧ tn i s10.heap ∧ (∀ b ∈ fp, H' b = none) ∧ W i m H' := fun {H10 s10 m'} I10 hm w10 => by
        refine ⟨m', hm, i + 1, some y, H10, I10.unpinned, T.keep _ _ _ st7 fun b hb o e => (I10.pin (b, o) (List.mem_append_right _ (List.mem_append_right _ (mem_pinsAt hb e)))).1, fun b hb => ?_, w10⟩
        obtain ⟨o, e, d⟩ := T.obj _ _ st7 b hb
        exact (I10.pin (b, o) (List.mem_append_right _ (List.mem_append_right _ (mem_pinsAt hb e)))).2.1
      cases okb with
      | false =>
        rw [if_neg Bool.false_ne_true] at q9
        obtain ⟨m', hm, w9⟩ := q9
        exact wpAny_pure ⟨rfl, again I9 hm w9⟩
      | true =>
        rw [if_pos rfl] at q9
        refine wpAny_bind (wpAny_bind (bad (thn (he s3.heap.objs.size fp s3 H3 _ s9 _ H9 _ I9 q9) fun yv s10 ⟨yy, H10, I10, r10, ys, hys, hlen, m', hm, w10⟩ => ?_)))
        refine wpAny_bind (bad (thn (mt_append (X := compX X (x :: caps) scope cl s3.heap.objs.size fp s3 H3) _ s10 _ H10 (.ref D) [yy] (.ref D) [yv] (fun _ H11 => W (i + 1) m' H11) I10 rfl (.cons r10 .nil) ⟨D, ys, yy, rfl, rfl, hys, hlen, w10⟩) fun _ s11 ⟨_, H11, I11, _, q11⟩ => ?_))
        exact wpAny_pure (wpAny_pure ⟨rfl, again I11 hm q11⟩)
  refine codeAny_compStart_list loop (T.self _ 0 _ _ _ t3 loop)
theorem OwnAt.go {X : Cx} {pins : List (Addr × Obj)} {σ : St} {H : Hp} {s : Shared} {C : Addr} {h' : Heap} (I : Inv X pins σ H s) (o : OwnAt X pins H s C) (hb : Heap.SameBut C s.heap h') : Inv X pins σ H { s with heap := h' } :=
  I.turned (t' := s.toks) (fun b u hb' e => (hb.2 b hb').trans e) o.free o.loc (.inr o.above) o.cells o.pins
theorem pe_lcomp {X : Cx} {elt iter : Expr} {x : Str} {px : Pos} {ifs : List Expr} {scope : Scope} {pos : Pos} {wi : TI} {tt : TT} {te : TE} {cl : List (Str × Addr)} {caps : List Str} {cap : List Nat}
    (O : CompOk X x caps cap scope cl) (hc : X.calm = true) (hi : PI X (.Name x px) iter wi)
    (ht : ∀ C fp s₀ H₀, PF (compX X (x :: caps) scope cl C fp s₀ H₀) ifs tt) (he : ∀ C fp s₀ H₀, PE (compX X (x :: caps) scope cl C fp s₀ H₀) elt te)
    (hs : ∀ x, foldedSetIterable iter X.env x = pure x := by intro _; rfl) :
    PE X (.ListComp elt [⟨.Name x px, iter, ifs, 0⟩] scope pos) (tComp wi cap tt te) := by
  intro pins s σ H Q I h
  rw [eval_ListComp]
  exact comp_core (use := none) O hc hi ht he hs I h fun D C H' s' I' o q => by
    obtain ⟨m, hn⟩ := o.ns
    exact ⟨m, hn, fun h' hb => ⟨.ref D, H', o.go I' hb, rfl, q⟩⟩
def compW (n : Nat) (Pv : Nat → List V → Hp → Prop) : Nat → Nat → Hp → Prop := fun i m H => m = n - i ∧ i ≤ n ∧ ∃ ys, Pv i ys H
def compN (n : Nat) (Pv : Nat → List V → Hp → Prop) (acc : Addr) (i m : Nat) : VK := fun y H5 => ∃ ys, H5 acc = some (.lst ys) ∧ ys.length < sizeLine ∧ ∃ m', m' < m ∧ compW n Pv (i + 1) m' (upd H5 acc (.lst (ys ++ [y])))
theorem comp_next {n : Nat} {Pv : Nat → List V → Hp → Prop} {acc : Addr} {i : Nat} {y : V} {H5 : Hp} {ys : List V} (hi : i < n) (hacc : H5 acc = some (.lst ys)) (hl : ys.length < 5000) (hP : Pv (i + 1) (ys ++ [y]) (upd H5 acc (.lst (ys ++ [y])))) : compN n Pv acc i (n - i) y H5 :=
  ⟨ys, hacc, Nat.lt_trans hl (by decide), n - (i + 1), by omega, rfl, hi, _, hP⟩
end L2
namespace L2
open PySem PySem.Spec PyProof.Rows
theorem lookup_mem {k : NameKind} {y : Str} : ∀ {l : List (Str × NameKind)}, l.lookup y = some k → ∃ z ∈ l, z.2 = k
  | [], h => by simp at h
  | (n, j) :: r, h => by
    cases hx : y == n with
    | true =>
      simp only [List.lookup_cons, hx] at h
      exact ⟨(n, j), List.mem_cons_self, by cases h; rfl⟩
    | false =>
      simp only [List.lookup_cons, hx] at h
      obtain ⟨z, h1, h2⟩ := lookup_mem h
      exact ⟨z, List.mem_cons_of_mem _ h1, h2⟩
theorem CompOk.plain {X : Cx} {x : Str} {scope : Scope} (hk : scope.kind = .function) (hn : ∀ z ∈ scope.names, z.2 ≠ .cell ∧ z.2 ≠ .free) (hl : ∀ y ∈ scope.names, y.2 = .local → scope.names.lookup y.1 = some .local) (hx : scope.names.lookup x = some .local) :
    CompOk X x [] [] scope [] := by
  have e : (relabel scope X.env).names = scope.names := map_eq_self fun z hz => by
    obtain ⟨n, k⟩ := z
    have : (k == NameKind.free) = false := by simpa using (hn _ hz).2
    simp [this]
  refine ⟨closureFor_none fun z hz => (hn z hz).2, fun z hz => (hn z hz).1, hk, hl, hx, by simp, fun y c h => (nomatch h), fun y hy => ?_, rfl, fun i y h => by simp at h⟩
  rw [e] at hy
  rcases hy with h | h
  · obtain ⟨z, h1, h2⟩ := lookup_mem h
    exact absurd h2 (hn z h1).1
  · obtain ⟨z, h1, h2⟩ := lookup_mem h
    exact absurd h2 (hn z h1).2
end L2
namespace L2
open PySem PySem.Spec PyProof.Rows
section
variable {X : Cx}
end
end L2
namespace L2
open PySem PySem.Spec PyProof.Rows
theorem vals_items : ∀ {ns : List Int} {us : List Value}, Vals (ns.map V.int) us → ∃ xs : List (Int × Tok), us = xs.map (fun p => Value.int p.1 p.2) ∧ xs.map (·.1) = ns
  | [], _, .nil => ⟨[], rfl, rfl⟩
  | n :: ns, _, .cons r rr => by
    obtain ⟨t, e⟩ := r
    obtain ⟨xs, e1, e2⟩ := vals_items rr
    exact ⟨(n, t) :: xs, by rw [e, e1]; rfl, by rw [List.map_cons, e2]⟩
theorem items_arr (xs : List (Int × Tok)) : intItems xs.toArray = (xs.map (fun p => Value.int p.1 p.2)).toArray := by
  simp [intItems]
theorem num_at (xs : List (Int × Tok)) (j : Nat) : numAt xs.toArray j = (xs.map (·.1)).getD j 0 := by rw [numAt_eq]
theorem pre_sum (xs : List (Int × Tok)) (j : Nat) : preSum (numAt xs.toArray) j = ((xs.map (·.1)).take j).sum := by rw [preSum_eq]
def Fits (ns : List Int) : Prop := (∀ n ∈ ns, 0 ≤ n) ∧ ns.sum ≤ 1000000000
theorem sum_nonneg : ∀ {ns : List Int}, (∀ n ∈ ns, 0 ≤ n) → 0 ≤ ns.sum
  | [], _ => by simp
  | n :: ns, h => by
    have h1 := h n List.mem_cons_self
    have h2 := sum_nonneg (ns := ns) fun m hm => h m (List.mem_cons_of_mem _ hm)
    rw [List.sum_cons]; omega
theorem Fits.le {ns : List Int} (h : Fits ns) (j : Nat) : 0 ≤ (ns.take j).sum ∧ (ns.take j).sum ≤ ns.sum := by
  have h1 := sum_nonneg (ns := ns.take j) fun m hm => h.1 m (List.mem_of_mem_take hm)
  have h2 := sum_nonneg (ns := ns.drop j) fun m hm => h.1 m (List.mem_of_mem_drop hm)
  have h3 : ns.sum = (ns.take j).sum + (ns.drop j).sum := by rw [← List.sum_append, List.take_append_drop]
  omega
section
variable {X : Cx}
theorem call_sum (hc : X.calm = true) : CallR X (.builtin "sum") (fun xs H Q => ∃ l ns, xs = [.ref l] ∧ SqL X.K H l (ns.map V.int) ∧ Fits ns ∧ Q (.int ns.sum) H) := by
  intro pins s σ H xs us Q I r h
  obtain ⟨l, ns, rfl, hl, hf, q⟩ := h
  cases r with
  | cons r rr =>
    cases rr
    obtain rfl : _ = Value.ref l := r
    obtain ⟨its, rv, p, _⟩ := I.list hl
    obtain ⟨ys, rfl, e2⟩ := vals_items rv
    have hL : s.heap.IsList l (intItems ys.toArray) := by rw [items_arr]; exact p.isList
    refine sum_intList (I.ok.hd hc) hL (fun j hj => ?_) fun h' tk t' hk => ⟨.int ns.sum, H, I.kept (t' := tk) hk, ⟨t', ?_⟩, q⟩
    · have hjl : j < ns.length := by rw [← e2]; simpa using hj
      have a := hf.le (j + 1)
      have b := hf.1 _ (List.getElem_mem hjl)
      have c := hf.le j
      have d : (ns.take (j + 1)).sum = (ns.take j).sum + ns[j] := by rw [List.take_add_one, List.getElem?_eq_getElem hjl, List.sum_append]; simp
      have e := hf.2
      rw [num_at, pre_sum, e2]
      have f : ns.getD j 0 = ns[j] := by simp [List.getD, List.getElem?_eq_getElem hjl]
      rw [f]
      exact ⟨⟨by omega, by omega⟩, ⟨by omega, by omega⟩⟩
    · rw [pre_sum, e2, List.take_of_length_le]
      rw [← e2]; simp
end
section
variable {prog : Program} {w : World} {A : Around} {R : Result → Shared → Prop} {I : Addr} {fp wr : List Addr} {n : Nat} {P : Nat → Value → Prop} {St : Nat → Heap → Prop}
end
section
variable {prog : Program} {w : World} {A : Around} {E : Value → Shared → Prop} {s : Shared}
end
end L2
namespace Srt
open PySem PySem.W PyProof.Rows
variable {α β : Type} {O : KeyOrd} {key : Nat → O.α} {n : Nat}
def Ok (O : KeyOrd) (key : Nat → O.α) (n : Nat) (Q : α → Prop) : KasT α → Prop
  | .ret a => Q a
  | .ask i j k => i < n ∧ j < n ∧ Ok O key n Q (k (O.blt (key i) (key j)))
variable (key) in
def kk (p : Array Nat) (i : Nat) : O.α := key (p.getD i 0)
end Srt
namespace L2
open PySem PySem.Spec PyProof.Rows PySem.W
section
variable {prog : Program} {w : World} {A : Around} {E : Value → Shared → Prop} {s : Shared}
end
section
variable {X : Cx}
end
end L2
namespace L2
open PySem PySem.Spec PyProof.Rows PySem.W
section
variable {prog : Program} {w : World} {A : Around} {E : Value → Shared → Prop} {s : Shared}
end
section
variable {prog : Program} {w : World} {A : Around} {E : Value → Shared → Prop} {s : Shared}
end
section
variable {X : Cx}
theorem vals_mapF {α : Type} {f : α → Addr} : ∀ {ts : List α} {us : List Value}, Vals (ts.map fun t => V.ref (f t)) us → us = ts.map fun t => Value.ref (f t)
  | [], _, .nil => rfl
  | t :: ts, _, .cons r rr => by
    have e : _ = Value.ref (f t) := r
    rw [List.map_cons, ← vals_mapF rr, ← e]
end
end L2
namespace L2
open PySem PySem.Spec PyProof.Rows
theorem plain_upd_loop : plainId "dict.update.loop" = true := by decide +kernel
theorem entry_upd_loop : entryFor table "dict.update.loop" = some Builtin.«dict.update.loop» := entryFor_of_tree (by kernel_rfl)
theorem list_keys_none : typeLookup (.type "list") "keys" = pure none := by rw [typeLookup_type, builtinLookup_eq_fast]; kernel_rfl
section
variable {prog : Program} {w : World} {A : Around} {E : Value → Shared → Prop} {s : Shared}
theorem keys_none {a : Addr} {xs : Array Value} {k : Nat} {sl : Array (Option Value)} {Q : Option Value → Shared → Prop} (hx : s.heap.get? a = some { cls := .type "list", dict := none, data := .seq xs k, slots := sl }) (hA : A.handled = none)
    (h : ∀ h' tk, (∀ b o, s.heap.get? b = some o → h'.get? b = some o) → Q none { s with heap := h', toks := tk }) : wpAny (model prog w) A (getAttr? (.ref a) "keys") Q E s := by
  obtain ⟨hp, g, d, tk, os⟩ := s
  have hT : ∀ tk', (⟨hp, g, d, tk', os⟩ : Shared).TypeIs (.ref a) "list" := fun _ => ⟨_, hx, rfl⟩
  have f1 := sub_AttributeError
  have f3 := F.slot_list_getattribute.lookup
  have f4 := F.slot_list_getattribute.bind (.ref a)
  have f5 := am_list_getattr_none
  unfold getAttr? getAttrBy? getAttrBy
  repeat (any_goals (first | assumption | exact hT _ | ((with_reducible show wpAny _ _ (call (Value.builtin "list.__getattribute__") _ _) _ _ _); refine call_meets F.slot_list_getattribute (hT _) am_entry_list_getattribute (F.args_list_getattribute_2 _ _) (meets_getattribute_miss_list a xs k sl "keys" _ list_keys_none (by decide +kernel)) ⟨hx, hA, fun h' tk' e hx' => ?_⟩) | wp_step))
  obtain ⟨t', u', he⟩ := hx'.there
  show wpAny _ _ (getattributeRaised _ _ _ _ _ _ _) _ _ _
  unfold getattributeRaised
  repeat (any_goals (first | assumption | wp_step))
  exact h _ _ hx'.keeps
theorem ne_cls {h : Heap} {a b : Addr} {o u : Obj} (ha : h.get? a = some o) (hb : h.get? b = some u) (hc : o.cls ≠ u.cls) : a ≠ b := fun e => by
  subst e
  rw [ha] at hb
  exact hc (congrArg Obj.cls (Option.some.inj hb))
def storeAll (kvs : List (Key × Value)) : List (Key × Value) → List (Key × Value)
  | [] => kvs
  | p :: r => storeAll (stored kvs p.1 p.2) r
theorem upd_loop {R : Result → Shared → Prop} {l d it : Addr} {items : Array Value} (hA : A.handled = none) (hli : l ≠ it) (hd0 : (d == sysModules) = false) : ∀ (ps : List (Key × Value)) (i : Nat) (s : Shared) (kvs : List (Key × Value)), i + ps.length = items.size → s.heap.IsListIter it l i → s.heap.IsList l items → s.heap.DictOf (mixKind prog w) d kvs → kvs.length + ps.length ≤ sizeLine →
    (∀ (j : Nat) (q : Key × Value), ps[j]? = some q → ∃ p u, items[i + j]? = some (.ref p) ∧ (mixKind prog w).is q.1 u = true ∧ s.heap.IsTuple p #[u, q.2]) →
    (∀ h' tk, h'.DictOf (mixKind prog w) d (storeAll kvs ps) → (∀ b o, b ≠ it → b ≠ d → s.heap.get? b = some o → h'.get? b = some o) → R (.ok (.ret .none)) { s with heap := h', toks := tk }) →
    codeAny (model prog w) A (.builtin "dict.update.loop" ⟨[.ref d, .ref it, rawInt (i : Int), .none], []⟩) R s
  | [], i, s, kvs, hk, hit, hL, hD, hz, hp, hR => by
    have W := Walks.list (prog := prog) (w := w) (A := A.in1) hA it l hli items
    have hin : i = items.size := by simpa using hk
    subst hin
    refine codeAny_builtin entry_upd_loop ?_
    rw [Around.under_plainId plain_upd_loop _]
    show wpAny _ A.in1 (pyNext (.ref it) >>= _) _ _ s
    refine wpAny_bind (W.done s _ _ ⟨hit, hL⟩ fun h' tk hk' => ?_)
    show wpAny _ A.in1 (Builtin.Dict.addKeywords d [] >>= _) _ _ _
    refine wpAny_bind (wpAny_pure (wpAny_pure ?_))
    have hdi : d ≠ it := by
      obtain ⟨o, es, ep, ho, hc, _⟩ := hD
      obtain ⟨o2, ho2, hc2, _⟩ := hit
      exact ne_cls ho ho2 (by rw [hc.1, hc2]; intro z; injection z with z; exact absurd z (by decide))
    exact hR h' tk (hD.extBut (b := it) (fun a o hne e => hk' a o (by simpa using hne) e) hdi) (fun b o h1 _ e => hk' b o (by simpa using h1) e)
  | q :: ps, i, s, kvs, hk, hit, hL, hD, hz, hp, hR => by
    have W := Walks.list (prog := prog) (w := w) (A := A.in1) hA it l hli items
    obtain ⟨p, u, hip, hku, hpt⟩ := hp 0 q rfl
    rw [Nat.add_zero] at hip
    have hlt : i < items.size := by rw [List.length_cons] at hk; omega
    have hdi : d ≠ it := by
      obtain ⟨o, es, ep, ho, hc, _⟩ := hD
      obtain ⟨o2, ho2, hc2, _⟩ := hit
      exact ne_cls ho ho2 (by rw [hc.1, hc2]; intro z; injection z with z; exact absurd z (by decide))
    have hdl : d ≠ l := by
      obtain ⟨o, es, ep, ho, hc, _⟩ := hD
      obtain ⟨o2, ho2, hc2, _⟩ := hL
      exact ne_cls ho ho2 (by rw [hc.1, hc2]; intro z; injection z with z; exact absurd z (by decide))
    have hpi : ∀ {p : Addr} {xs : Array Value}, s.heap.IsTuple p xs → p ≠ it ∧ p ≠ d := fun {p xs} ht => by
      obtain ⟨o, ho, hc, _⟩ := ht
      obtain ⟨o2, ho2, hc2, _⟩ := id hit
      obtain ⟨o3, es, ep, ho3, hc3, _⟩ := id hD
      exact ⟨ne_cls ho ho2 (by rw [hc, hc2]; intro z; injection z with z; exact absurd z (by decide)), ne_cls ho ho3 (by rw [hc, hc3.1]; intro z; injection z with z; exact absurd z (by decide))⟩
    refine codeAny_builtin entry_upd_loop ?_
    rw [Around.under_plainId plain_upd_loop _]
    show wpAny _ A.in1 (pyNext (.ref it) >>= _) _ _ s
    refine wpAny_bind (W.item i s _ _ hlt ⟨hit, hL⟩ fun v h' tk hP hst' hk' => ?_)
    obtain rfl : v = .ref p := Option.some.inj ((show items[i]? = some v from hP).symm.trans hip)
    have hk2 : ∀ b o, b ≠ it → s.heap.get? b = some o → h'.get? b = some o := fun b o hb e => hk' b o (by simpa using hb) e
    have hpt' : h'.IsTuple p #[u, q.2] := by
      obtain ⟨o, ho, r⟩ := id hpt
      exact ⟨o, hk2 _ _ (hpi hpt).1 ho, r⟩
    obtain ⟨o, ho, hc, n, hdat⟩ := id hpt'
    refine wpAny_bind (wpAny_holding ?_)
    refine wpAny_bind (wpAny_tryCatch ?_)
    unfold Builtin.Dict.pairItems
    refine wpAny_bind (wpAny_typeOf (T := "tuple") (s := { s with heap := h', toks := tk }) ⟨o, ho, hc⟩ ?_)
    rw [if_pos (by decide +kernel)]
    refine wpAny_bind ?_
    show wpAny _ A.in1 (load p >>= _) _ _ _
    refine wpAny_bind (wpAny_load ho ?_)
    rw [hdat]
    refine wpAny_pure (wpAny_pure ?_)
    have hD' : h'.DictOf (mixKind prog w) d kvs := hD.extBut (b := it) (fun a o hne e => hk2 a o hne e) hdi
    refine wpAny_holding (wpAny_dictSet_pairs (s := { s with heap := h', toks := tk }) hku hD' (fun h'' hD'' hs => ?_) (by rw [List.length_cons] at hz; omega))
    have hit2 : h''.IsListIter it l (i + 1) := by
      obtain ⟨o, ho, r⟩ := hst'.1
      exact ⟨o, (hs.2 it (Ne.symm hdi)).trans ho, r⟩
    have hL2 : h''.IsList l items := by
      obtain ⟨o, ho, r⟩ := hst'.2
      exact ⟨o, (hs.2 l (Ne.symm hdl)).trans ho, r⟩
    have keep2 : ∀ b o, b ≠ it → b ≠ d → s.heap.get? b = some o → h''.get? b = some o := fun b o h1 h2 e => (hs.2 b h2).trans (hk2 b o h1 e)
    have hlen : (stored kvs q.1 q.2).length ≤ kvs.length + 1 := by
      unfold stored
      split
      · rw [List.length_map]; omega
      · rw [List.length_append]; simp
    refine wpAny_pure ⟨plainId_quiet plain_upd_loop _, ?_⟩
    refine upd_loop hA hli hd0 ps (i + 1) _ (stored kvs q.1 q.2) (by rw [List.length_cons] at hk; omega) hit2 hL2 hD'' (by rw [List.length_cons] at hz; omega) (fun j r hj => ?_) fun h3 tk3 hD3 hk3 => ?_
    · obtain ⟨p', u', e1, e2, e3⟩ := hp (j + 1) r (by simpa using hj)
      refine ⟨p', u', by rw [← e1]; congr 1; omega, e2, ?_⟩
      obtain ⟨o, ho, rr⟩ := id e3
      exact ⟨o, keep2 _ _ (hpi e3).1 (hpi e3).2 ho, rr⟩
    · exact hR h3 tk3 hD3 fun b o h1 h2 e => hk3 b o h1 h2 (keep2 b o h1 h2 e)
theorem dict_pairs {l : Addr} {items : Array Value} {ps : List (Key × Value)} {Q : Value → Shared → Prop} (hA : A.handled = none) (hb : sysModules < s.heap.objs.size) {ol : Obj} {nl : Nat} (hl : s.heap.get? l = some ol) (hlc : ol.cls = .type "list") (hld : ol.dict = none) (hlt : ol.data = .seq items nl) (hz : ps.length ≤ sizeLine) (hn : ps.length = items.size)
    (hp : ∀ (j : Nat) (q : Key × Value), ps[j]? = some q → ∃ p u, items[j]? = some (.ref p) ∧ (mixKind prog w).is q.1 u = true ∧ s.heap.IsTuple p #[u, q.2])
    (h : ∀ h' tk, h'.DictOf (mixKind prog w) s.heap.objs.size (storeAll [] ps) → (∀ b o, s.heap.get? b = some o → h'.get? b = some o) → Q (.ref s.heap.objs.size) { s with heap := h', toks := tk }) :
    wpAny (model prog w) A (call (.type "dict") [.ref l]) Q E s := by
  refine callType_codes (Q₁ := fun obj s₁ => obj = .ref s.heap.objs.size ∧ s₁ = { s with heap := s.heap.push { cls := .type "dict", data := .dict #[] } }) F.kt_called_dict (F.kt_typeCall_dict_1 _) F.entry_dict_init (kt_code_dict_new _ ⟨rfl, rfl⟩) ?_
  rintro obj s₁ ⟨rfl, rfl⟩
  have hnew : (s.heap.push { cls := .type "dict", data := .dict #[] }).DictOf (mixKind prog w) s.heap.objs.size [] := Heap.DictOf.new s.heap
  have hl1 : (s.heap.push { cls := .type "dict", data := .dict #[] }).get? l = some ol := Heap.get?_push_of_some _ hl
  have hT : ({ s with heap := s.heap.push { cls := .type "dict", data := .dict #[] } } : Shared).TypeIs (.ref l) "list" := ⟨_, hl1, hlc⟩
  obtain ⟨c1, d1, t1, s1⟩ := ol
  simp only at hlc hld hlt
  subst hlc hld hlt
  refine ⟨hnew.typeIs, F.args_dict_init_2 _ _, ?_⟩
  unfold Builtin.«dict.__init__»
  refine wpAny_bind ?_
  unfold Builtin.Dict.selfAndRest
  refine wpAny_bind (wpAny_notOrdered_dict hnew.typeIs ?_)
  show wpAny _ _ (pure (s.heap.objs.size, [Value.ref l])) _ _ _
  refine wpAny_pure ?_
  show wpAny _ _ (Builtin.Dict.updateFrom "dict.__init__" s.heap.objs.size (.ref l) [] .none) _ _ _
  unfold Builtin.Dict.updateFrom
  refine wpAny_bind (wpAny_typeOf hT ?_)
  rw [if_pos (by decide)]
  refine wpAny_bind (keys_none hl1 hA fun h2 tk2 hk2 => ?_)
  simp only [Option.isNone_none, if_true]
  refine wpAny_bind (wpAny_rule ?_)
  have hL2 : h2.IsList l items := ⟨_, hk2 _ _ hl1, rfl, nl, rfl⟩
  refine wpAny_bind (wpAny_pyIter_list (s := { s with heap := h2, toks := tk2 }) hL2 ?_)
  have hlt2 : l < h2.objs.size := Heap.lt_size (hk2 _ _ hl1)
  have hsz2 : s.heap.objs.size < h2.objs.size := by
    obtain ⟨o, es, ep, ho, _⟩ := id hnew
    exact Heap.lt_size (hk2 _ _ ho)
  have hD2 : h2.DictOf (mixKind prog w) s.heap.objs.size [] := by
    obtain ⟨o, es, ep, ho, r⟩ := id hnew
    exact ⟨o, es, ep, hk2 _ _ ho, r⟩
  have old : ∀ b o, s.heap.get? b = some o → h2.get? b = some o := fun b o e => hk2 b o (Heap.get?_push_of_some _ e)
  refine wpAny_pure ⟨plainId_quiet plain_upd_loop _, upd_loop (A := A.in1) (it := h2.objs.size) (l := l) (items := items) hA (Nat.ne_of_lt hlt2) (beq_eq_false_iff_ne.mpr (Ne.symm (Nat.ne_of_lt hb))) ps 0 _ [] (by simpa using hn) ⟨_, Heap.get?_push_size _ rfl, rfl, rfl⟩ (hL2.push _) (hD2.push _) (by simpa using hz) (fun j q hq => ?_) fun h' tk hD hk => ⟨rfl, ?_⟩⟩
  · obtain ⟨p, u, e1, e2, o, ho, r⟩ := hp j q hq
    exact ⟨p, u, by rw [Nat.zero_add]; exact e1, e2, o, Heap.get?_push_of_some _ (old _ _ ho), r⟩
  · refine h h' tk hD fun b o e => hk b o ?_ ?_ (Heap.get?_push_of_some _ (old b o e))
    · exact Nat.ne_of_lt (Heap.lt_size (old b o e))
    · exact Nat.ne_of_lt (Heap.lt_size e)
end
theorem stored_new {kvs : List (Key × Value)} {k : Key} {v : Value} (h : k ∉ kvs.map (·.1)) : stored kvs k v = kvs ++ [(k, v)] := by
  unfold stored
  rw [if_neg]
  intro z
  obtain ⟨kv, h1, h2⟩ := List.any_eq_true.mp z
  exact h (List.mem_map.mpr ⟨kv, h1, of_decide_eq_true h2⟩)
theorem storeAll_new : ∀ (ps kvs : List (Key × Value)), ((kvs ++ ps).map (·.1)).Nodup → storeAll kvs ps = kvs ++ ps
  | [], kvs, _ => by simp [storeAll]
  | p :: r, kvs, h => by
    have hn : p.1 ∉ kvs.map (·.1) := fun hm => by
      rw [List.map_append, List.nodup_append] at h
      exact h.2.2 _ hm _ (by simp) rfl
    show storeAll (stored kvs p.1 p.2) r = _
    rw [stored_new hn]
    have e : kvs ++ [(p.1, p.2)] ++ r = kvs ++ p :: r := by simp
    rw [storeAll_new r _ (by rw [e]; exact h), e]
theorem pairs_of {X : Cx} {pins : List (Addr × Obj)} {σ : St} {H : Hp} {s : Shared} (I : Inv X pins σ H s) : ∀ ts : List (Addr × Str × V), (∀ t ∈ ts, SqT X.K H t.1 [.str t.2.1, t.2.2]) →
    ∃ ps : List (Key × Value), KV (ts.map fun t => ((Sum.inr t.2.1 : Key), t.2.2)) ps ∧ ∀ (j : Nat) (q : Key × Value), ps[j]? = some q → ∃ p u, (ts.map fun t => Value.ref t.1)[j]? = some (.ref p) ∧ (mixKind X.prog X.w).is q.1 u = true ∧ s.heap.IsTuple p #[u, q.2]
  | [], _ => ⟨[], .nil, fun j q h => by simp at h⟩
  | t :: r, h => by
    obtain ⟨ps, h1, h2⟩ := pairs_of I r fun u hu => h u (List.mem_cons_of_mem _ hu)
    obtain ⟨its, rv, p, _⟩ := I.tuple (h t List.mem_cons_self)
    obtain ⟨u, v, rfl, ru, rv'⟩ := rv.two
    refine ⟨(Sum.inr t.2.1, v) :: ps, .cons ⟨rfl, rv'⟩ h1, fun j q hj => ?_⟩
    cases j with
    | zero =>
      have : q = (Sum.inr t.2.1, v) := by simpa using hj.symm
      subst this
      exact ⟨t.1, u, rfl, kV_is (k := Sum.inr t.2.1) ru, p⟩
    | succ j =>
      obtain ⟨p', u', e1, e2, e3⟩ := h2 j q (by simpa using hj)
      exact ⟨p', u', by simpa using e1, e2, e3⟩
theorem KV.keys' {kvs : List (Key × V)} {ps : List (Key × Value)} (r : KV kvs ps) : ps.map (·.1) = kvs.map (·.1) := by
  induction r with
  | nil => rfl
  | cons h _ ih => rw [List.map_cons, List.map_cons, ih, h.1]
section
variable {X : Cx}
theorem call_dictP (hc : X.calm = true) : CallR X (.type "dict") (fun xs H Q => ∃ (l : Addr) (ts : List (Addr × Str × V)), xs = [.ref l] ∧ SqL X.K H l (ts.map fun t => V.ref t.1) ∧ (∀ t ∈ ts, SqT X.K H t.1 [.str t.2.1, t.2.2]) ∧ (ts.map fun t => t.2.1).Nodup ∧ ts.length ≤ 1000 ∧
    ∀ d, H d = none → Q (.ref d) (upd H d (.dK (ts.map fun t => ((Sum.inr t.2.1 : Key), t.2.2))))) := by
  intro pins s σ H xs us Q I r h
  obtain ⟨l, ts, rfl, hl, ht, hnd, hz, q⟩ := h
  cases r with
  | cons r rr =>
    cases rr
    obtain rfl : _ = Value.ref l := r
    obtain ⟨its, rv, ⟨o, n, e, c, dn, dt⟩, _⟩ := I.list hl
    obtain rfl := vals_mapF rv
    obtain ⟨ps, hkv, hps⟩ := pairs_of I ts ht
    have hlen : ps.length = ts.length := by have := hkv.length; rw [List.length_map] at this; exact this.symm
    have hz1 : ps.length ≤ sizeLine := by rw [hlen, sizeLine_eq]; omega
    refine dict_pairs (I.ok.hd hc) I.big e c dn dt hz1 (by rw [List.size_toArray, List.length_map]; exact hlen) (fun j q hq => by simpa using hps j q hq) fun h' tk hD hk => ?_
    have hk1 : ((([] : List (Key × Value)) ++ ps).map (·.1)).Nodup := by
      rw [List.nil_append, KV.keys' hkv, List.map_map]
      have e2 : (ts.map ((fun x : Key × V => x.1) ∘ fun t => ((Sum.inr t.2.1 : Key), t.2.2))) = (ts.map fun t => t.2.1).map (Sum.inr : Str → Key) := by rw [List.map_map]; rfl
      rw [e2]
      exact List.Pairwise.map _ (fun a b hne z => hne (by injection z)) hnd
    rw [storeAll_new ps [] hk1, List.nil_append] at hD
    have hfr := I.hok.fresh (Nat.le_refl s.heap.objs.size)
    refine ⟨.ref s.heap.objs.size, _, I.laid (a := s.heap.objs.size) (o := .dK (ts.map fun t => ((Sum.inr t.2.1 : Key), t.2.2))) (t' := tk) hk (Nat.le_refl _) (dk_new (by rw [List.length_map, sizeLine_eq]; omega) (beq_eq_false_iff_ne.mpr (Ne.symm (Nat.ne_of_lt I.big))) hkv hD), rfl, q _ hfr⟩
theorem vals_bools : ∀ {bs : List Bool} {us : List Value}, Vals (bs.map V.bl) us → us = bs.map Value.bool
  | [], _, .nil => rfl
  | b :: bs, _, .cons r rr => by
    have e : _ = Value.bool b := r
    rw [List.map_cons, ← vals_bools rr, ← e]
theorem call_allB (hc : X.calm = true) : CallR X (.builtin "all") (fun xs H Q => ∃ (l : Addr) (bs : List Bool), xs = [.ref l] ∧ SqL X.K H l (bs.map V.bl) ∧ Q (.bl (bs.all id)) H) := by
  intro pins s σ H xs us Q I r h
  obtain ⟨l, bs, rfl, hl, q⟩ := h
  cases r with
  | cons r rr =>
    cases rr
    obtain rfl : _ = Value.ref l := r
    obtain ⟨its, rv, p, _⟩ := I.list hl
    obtain rfl := vals_bools rv
    have hL := p.isList
    have hlt : l < s.heap.objs.size := by obtain ⟨_, e, _⟩ := hL; exact Heap.lt_size e
    refine call_all_walk (wpAny_pyIter_list hL ?_)
    refine ⟨s.heap.objs.size, [s.heap.objs.size, l], [s.heap.objs.size], (bs.map Value.bool).toArray.size, _, _, fun i => (bs[i]?).getD true, rfl, Walks.list (A := X.A.in1) (I.ok.hd hc) _ l (Nat.ne_of_lt hlt) (bs.map Value.bool).toArray,
      ⟨⟨_, Heap.get?_push_size _ rfl, rfl, rfl⟩, hL.push _⟩, fun i v s' Q' E' hP hQ => ?_, fun h' tk hk => ?_⟩
    · have hP' : (bs.map Value.bool)[i]? = some v := by simpa using hP
      rw [List.getElem?_map] at hP'
      cases eb : bs[i]? with
      | none => rw [eb] at hP'; simp at hP'
      | some b =>
        rw [eb] at hP'
        obtain rfl : Value.bool b = v := by simpa using hP'
        have hQ2 : Q' ((bs[i]?).getD true) s' := hQ
        rw [eb] at hQ2
        exact wpAny_truthy_bool hQ2
    · have e : ((List.range (bs.map Value.bool).toArray.size).all fun i => (bs[i]?).getD true) = bs.all id := by
        rw [List.size_toArray, List.length_map, Bool.eq_iff_iff, List.all_eq_true, List.all_eq_true]
        constructor
        · intro h x hx
          obtain ⟨i, hi, rfl⟩ := List.getElem_of_mem hx
          have := h i (List.mem_range.mpr hi)
          rw [List.getElem?_eq_getElem hi] at this
          exact this
        · intro h i hi
          have hi' := List.mem_range.mp hi
          rw [List.getElem?_eq_getElem hi']
          exact h _ (List.getElem_mem hi')
      rw [e]
      exact ⟨.bl _, H, I.kept (t' := tk) (fun b o eb => hk b o (fun hm => by rw [List.mem_singleton.mp hm] at eb; exact Nat.lt_irrefl _ (Heap.lt_size eb)) (Heap.get?_push_of_some _ eb)), rfl, q⟩
end
end L2
namespace L2
open PySem PySem.Spec PyProof.Rows PySem.W
section
variable {X : Cx}
end
@[reducible] def strOrd : KeyOrd := ⟨List Nat, fun a b => decide (a < b), fun a => strKind.irrefl a, fun a b c => strKind.trans a b c, fun a b c => strKind.negTrans a b c, fun a b => strKind.total a b⟩
abbrev PNx := Addr × Str × Addr × List Str
section
variable {prog : Program} {w : World} {A : Around} {E : Value → Shared → Prop} {s : Shared}
end
section
variable {X : Cx}
end
end L2
namespace L2
open PySem PySem.Spec PyProof.Rows
section
variable {X : Cx} {pins : List (Addr × Obj)} {σ : St} {H : Hp} {s : Shared} {h' : Heap}
theorem Inv.turnedL {ch : List Addr} {t' : Nat} (I : Inv X pins σ H s) (k : ∀ b o, b ∉ ch → s.heap.get? b = some o → h'.get? b = some o) (hf : ∀ b ∈ ch, FpOk X pins H b) : Inv X pins σ H { s with heap := h', toks := t' } := by
  have nch : ∀ b u, H b = some u → b ∉ ch := fun b u e z => by rw [(hf b z).1] at e; cases e
  refine I.step (g' := s.gens) (d' := s.drawn) (ch := ch) (fun b hb => ?_) (fun b o _ _ hc e _ => k b o hc e) (fun b o _ _ hc e _ => ⟨o.slots, k b o hc e⟩) (fun _ _ _ _ n => n)
    (fun b o hc e => ⟨o, k b o hc e⟩) (fun _ _ e => e) (fun _ _ _ e => e) (fun b ps e => ⟨#[], by rw [e]; simp⟩) (fun m hm => ?_) (fun b u e => ?_) I.bare
  · obtain ⟨f0, f1, f2, f3, f4, f5⟩ := hf b hb
    exact ⟨f3, f1, f4, f5⟩
  · obtain ⟨o, es, ep, ho, r⟩ := hm
    exact ⟨o, es, ep, k _ o (fun z => (hf _ z).2.1 rfl) ho, r⟩
  · refine (I.hok b u e).stay (fun c v hc q => k c v ?_ q) (fun _ q => q) fun _ _ q => q
    rcases hc with z | z
    · rw [z]; exact nch b u e
    · exact nch c _ z
theorem Inv.turnedNew {ch : List Addr} {t' : Nat} {a : Addr} {o : HO} (I : Inv X pins σ H s) (k : ∀ b o, b ∉ ch → s.heap.get? b = some o → h'.get? b = some o) (hf : ∀ b ∈ ch, FpOk X pins H b)
    (hp : s.heap.objs.size ≤ a) (new : ObjOk X.prog X.w (upd H a o) h' a o) : Inv X pins σ (upd H a o) { s with heap := h', toks := t' } := by
  have hn : H a = none := I.hok.fresh hp
  have nch : ∀ b u, H b = some u → b ∉ ch := fun b u e z => by rw [(hf b z).1] at e; cases e
  have lt : ∀ b u, s.heap.get? b = some u → b ≠ a := fun b u e => Nat.ne_of_lt (Nat.lt_of_lt_of_le (Heap.lt_size e) hp)
  refine I.step (g' := s.gens) (d' := s.drawn) (ch := ch) (fun b hb => ?_) (fun b o _ _ hc e _ => k b o hc e) (fun b o _ _ hc e _ => ⟨o.slots, k b o hc e⟩) (fun b u _ e n => by rw [upd_ne (lt b u e)]; exact n)
    (fun b o hc e => ⟨o, k b o hc e⟩) (fun b xs e => by rw [upd_ne (ne_of_none e hn)]; exact e) (fun b u xs e => by rw [upd_ne (ne_of_none e hn)]; exact e) (fun b ps e => ⟨#[], by rw [upd_ne (ne_of_none e hn), e]; simp⟩) (fun m hm => ?_) (fun b u e => ?_) I.bare
  · obtain ⟨f0, f1, f2, f3, f4, f5⟩ := hf b hb
    exact ⟨f3, f1, f4, f5⟩
  · obtain ⟨o, es, ep, ho, r⟩ := hm
    exact ⟨o, es, ep, k _ o (fun z => (hf _ z).2.1 rfl) ho, r⟩
  · by_cases hb : b = a
    · subst hb
      rw [upd_same] at e; cases e
      exact new
    · rw [upd_ne hb] at e
      refine (I.hok b u e).stay (fun c v hc q => k c v ?_ q) (fun c q => by rw [upd_ne (ne_of_none q hn)]; exact q) fun c xs q => by rw [upd_ne (ne_of_none q hn)]; exact q
      rcases hc with z | z
      · rw [z]; exact nch b u e
      · exact nch c _ z
end
def Itz (K : PySem.W.Frag) (a b : Addr) (xs ys : List V) : It :=
  ⟨fun i H => SqL K H a xs ∧ SqL K H b ys ∧ i < xs.length ∧ i < ys.length,
   fun i H x H' => ∃ p u v, H p = none ∧ x = .ref p ∧ H' = upd H p (.tup [u, v]) ∧ xs[i]? = some u ∧ ys[i]? = some v,
   fun i H => SqL K H a xs ∧ SqL K H b ys ∧ (xs.length ≤ i ∨ ys.length ≤ i)⟩
theorem turn_zip {P : Program} {w : World} {K : PySem.W.Frag} {elts : List Expr} {k1 : Nat} {pos : Pos} (a b z : Addr) (xs ys : List V) (TI TO i1 i2 : Addr) (Ap : ZipApart z TI TO i1 i2 a b) :
    Turn P w K (.Tuple elts k1 pos) (Itz K a b xs ys) [z, TI, TO, i1, i2] z (fun i h => IsZip h z TI TO .none ∧ IsPair h TI (.ref i1) (.ref i2) ∧ (∃ u v, IsPair h TO u v) ∧ h.IsListIter i1 a i ∧ h.IsListIter i2 b i) where
  mem := by simp
  obj := fun i h st c hc => by
    obtain ⟨hz, hTI, ⟨u, v, hTO⟩, h1, h2⟩ := st
    simp only [List.mem_cons, List.mem_nil_iff, or_false] at hc
    rcases hc with rfl | rfl | rfl | rfl | rfl
    · exact ⟨_, hz, fun v z => by have z' : Data.fields _ = Data.cell v := z; cases z'⟩
    · exact ⟨_, hTI, fun v z => by have z' : Data.seq _ _ = Data.cell v := z; cases z'⟩
    · exact ⟨_, hTO, fun v z => by have z' : Data.seq _ _ = Data.cell v := z; cases z'⟩
    · obtain ⟨o, e, c, d⟩ := h1; exact ⟨o, e, fun v z => by rw [d] at z; cases z⟩
    · obtain ⟨o, e, c, d⟩ := h2; exact ⟨o, e, fun v z => by rw [d] at z; cases z⟩
  keep := fun i h h' st k => by
    obtain ⟨hz, hTI, ⟨u, v, hTO⟩, h1, h2⟩ := st
    exact ⟨k z (by simp) _ hz, k TI (by simp) _ hTI, ⟨u, v, k TO (by simp) _ hTO⟩, h1.at fun o e => k i1 (by simp) o e, h2.at fun o e => k i2 (by simp) o e⟩
  item := by
    intro X hP hw hK hc i pins s σ H E I hf st hg
    subst hP hw hK
    obtain ⟨hz, hTI, ⟨u0, v0, hTO⟩, h1, h2⟩ := st
    obtain ⟨qa, qb, lx, ly⟩ := hg
    obtain ⟨its, rv, p, _⟩ := I.list qa
    obtain ⟨its2, rv2, p2, _⟩ := I.list qb
    have ex : xs[i]? = some xs[i] := List.getElem?_eq_getElem lx
    have ey : ys[i]? = some ys[i] := List.getElem?_eq_getElem ly
    obtain ⟨u, hu, ru⟩ := rv.get ex
    obtain ⟨v, hv, rv'⟩ := rv2.get ey
    refine wpAny_pyNext_zip_item Ap hz hTI hTO h1 h2 p.isList p2.isList (x := u) (y := v) (by simpa using hu) (by simpa using hv) fun h' a1 a2 a3 a4 a5 a6 hk => ?_
    refine ⟨.ref s.heap.objs.size, rfl, wpAny_letOwnedTupleGo_zip (s := { s with heap := h' }) a1 fun h'' hz' hs' => ?_⟩
    have lt : ∀ {c o}, s.heap.get? c = some o → c ≠ s.heap.objs.size := fun e => Nat.ne_of_lt (Heap.lt_size e)
    have e5 : IsPair h'' s.heap.objs.size u v := (hs'.2 _ (Ne.symm (lt hz))).trans a5
    have hch : ∀ c ∈ [z, TO, i1, i2], FpOk X pins H c := fun c hc => hf c (by
      simp only [List.mem_cons, List.mem_nil_iff, or_false] at hc ⊢
      rcases hc with rfl | rfl | rfl | rfl <;> simp)
    have I2 : Inv X pins σ (upd H s.heap.objs.size (.tup [xs[i], ys[i]])) { s with heap := h'', toks := s.toks } := by
      refine I.turnedNew (ch := [z, TO, i1, i2]) (fun c o hc e => ?_) hch (Nat.le_refl _) ⟨by show 2 ≤ sizeLine; decide, [u, v], .cons ru (.cons rv' .nil), ⟨_, e5, rfl, _, rfl⟩⟩
      simp only [List.mem_cons, List.mem_nil_iff, or_false, not_or] at hc
      exact (hs'.2 c hc.1).trans (hk c o hc.1 hc.2.1 hc.2.2.1 hc.2.2.2 e)
    have hfr : ∀ c ∈ [z, TI, TO, i1, i2], upd H s.heap.objs.size (.tup [xs[i], ys[i]]) c = none := fun c hc => by
      have hc2 := hf c hc
      have : c ≠ s.heap.objs.size := by
        simp only [List.mem_cons, List.mem_nil_iff, or_false] at hc
        rcases hc with rfl | rfl | rfl | rfl | rfl
        · exact lt hz
        · exact lt hTI
        · exact lt hTO
        · obtain ⟨o, e, _⟩ := h1; exact lt e
        · obtain ⟨o, e, _⟩ := h2; exact lt e
      rw [upd_ne this]; exact hc2.1
    exact ⟨.ref s.heap.objs.size, _, I2, rfl, ⟨s.heap.objs.size, _, _, I.fresh, rfl, rfl, ex, ey⟩, ⟨hz', hs'.extBut _ _ Ap.TIz (hk _ _ Ap.TIz Ap.TITO Ap.TIi1 Ap.TIi2 hTI), ⟨_, _, hs'.extBut _ _ Ap.TOz a2⟩, a3.extBut hs'.extBut Ap.i1z, a4.extBut hs'.extBut Ap.i2z⟩, hfr⟩
  done := by
    intro X hP hw hK hc i pins s σ H E I hf st hg
    subst hP hw hK
    obtain ⟨hz, hTI, ⟨u0, v0, hTO⟩, h1, h2⟩ := st
    obtain ⟨qa, qb, hl⟩ := hg
    obtain ⟨its, rv, p, _⟩ := I.list qa
    obtain ⟨its2, rv2, p2, _⟩ := I.list qb
    have l1 := rv.length
    have l2 := rv2.length
    have hch : ∀ c ∈ [z, TO, i1, i2], FpOk X pins H c := fun c hc => hf c (by
      simp only [List.mem_cons, List.mem_nil_iff, or_false] at hc ⊢
      rcases hc with rfl | rfl | rfl | rfl <;> simp)
    refine wpAny_pyNext_zip_end (I.ok.hd hc) Ap hz hTI hTO h1 h2 p.isList p2.isList ?_ fun h' hk => ⟨rfl, I.turnedL (t' := s.toks) (ch := [z, TO, i1, i2]) (fun c o hc e => ?_) hch⟩
    · rcases hl with q | q
      · exact .inl (by simp; omega)
      · exact .inr (by simp; omega)
    · simp only [List.mem_cons, List.mem_nil_iff, or_false, not_or] at hc
      exact hk c o hc.1 hc.2.1 hc.2.2.1 hc.2.2.2 e
  self := fun _ _ _ _ _ st h => wpAny_pyIter_zip st.1 h
theorem nne {x y : Nat} (h : x < y ∨ y < x) : x ≠ y := by omega
section
variable {X : Cx} {elts : List Expr} {k1 : Nat} {tpos : Pos}
def iZip (K : PySem.W.Frag) (ta : TA) : TI := fun σ H R => ta σ H fun vs H1 => ∃ a b xs ys, vs = [.ref a, .ref b] ∧ SqL K H1 a xs ∧ SqL K H1 b ys ∧ R (Itz K a b xs ys) H1
theorem pi_zip {e1 e2 : Expr} {ta : TA} {p pos : Pos} (hg : Gl X "zip") (hm : X.mg "zip" = none) (ha : PA X [e1, e2] ta) (hs : starEach [e1, e2] X.env = [(false, eval e1 X.env), (false, eval e2 X.env)] := by rfl) (hs2 : starEach [e2] X.env = [(false, eval e2 X.env)] := by rfl) :
    PI X (.Tuple elts k1 tpos) (.Call (.Name "zip" p) [e1, e2] [] pos) (iZip X.K ta) := by
  intro pins s σ H R I h
  refine Call_ (ld_blt I hg hm PyProof.Rows.boot_zip (PyProof.Rows.callWith_type1 (thn (ha pos pins s σ H _ I h) fun us s1 ⟨vs, H1, I1, r1, q1⟩ => ?_) (by rw [hs, hs2]) (by rw [hs2]; rfl)))
  obtain ⟨a, b, xs, ys, e, qa, qb, q⟩ := q1
  subst e
  obtain ⟨u1, u2, e3, r3, r4⟩ := r1.two
  subst e3
  cases (show u1 = Value.ref a from r3)
  cases (show u2 = Value.ref b from r4)
  obtain ⟨its, rv, pl, _⟩ := I1.list qa
  obtain ⟨its2, rv2, pl2, _⟩ := I1.list qb
  have la : @LT.lt Nat _ a s1.heap.objs.size := by obtain ⟨o, n, e, _⟩ := pl; exact Heap.lt_size e
  have lb : @LT.lt Nat _ b s1.heap.objs.size := by obtain ⟨o, n, e, _⟩ := pl2; exact Heap.lt_size e
  refine call_zip_2 pl.isList pl2.isList fun h' hz hTI hTO h1 h2 hsz hk => ?_
  refine wpAny_pyIter_zip hz ?_
  have I2 : Inv X pins σ H1 { s1 with heap := h' } := I1.kept (t' := s1.toks) hk
  refine ⟨s1.heap.objs.size + 4, [s1.heap.objs.size + 4, s1.heap.objs.size + 2, s1.heap.objs.size + 3, s1.heap.objs.size, s1.heap.objs.size + 1], _, _, H1, rfl, I2,
    turn_zip a b (s1.heap.objs.size + 4) xs ys (s1.heap.objs.size + 2) (s1.heap.objs.size + 3) s1.heap.objs.size (s1.heap.objs.size + 1) ?_, ⟨hz, hTI, ⟨_, _, hTO⟩, h1, h2⟩, fun c hc => ?_, q⟩
  · constructor <;> (refine nne ?_; omega)
  · have hle : @LE.le Nat _ s1.heap.objs.size c := by
      simp only [List.mem_cons, List.mem_nil_iff, or_false] at hc
      rcases hc with rfl | rfl | rfl | rfl | rfl <;> omega
    exact I1.fpOk hle (I1.hok.fresh hle)
end
end L2
namespace L2
open PySem PySem.Spec PyProof.Rows
section
variable {prog : Program} {w : World} {A : Around} {E : Value → Shared → Prop} {s : Shared} {it t : Addr} {i : Nat} {its : Array Value} {x : Value} {Q : Value → Shared → Prop}
end
section
variable {X : Cx} {elts : List Expr} {k1 : Nat} {tpos : Pos}
end
end L2
namespace L2
open PySem PySem.Spec PyProof.Rows
section
variable {X : Cx} {x : Str} {p pos : Pos} {e : Expr} {es : List Expr} {kws : List Keyword} {t tk : TA} {id : String} {ks : List Str} {r : List V → List V → Hp → VK → Prop}
theorem comp_tup {K : PySem.W.Frag} {a acc : Addr} {xs : List V} {tt : TT} {te : TE} {cs : List (Option V)} {H1 : Hp} {Q : Hp → Prop} (Pv : Nat → List V → Hp → Prop) (h0 : Pv 0 [] (upd H1 acc (.lst [])))
    (hl : ∀ i ys H, i ≤ xs.length → Pv i ys H → SqT K H a xs)
    (hs : ∀ i x ys H, i < xs.length → xs[i]? = some x → Pv i ys H → tt (some x :: cs) H fun ok H4 => if ok = true then te (some x :: cs) H4 (compN xs.length Pv acc i (xs.length - i)) else ∃ m', m' < xs.length - i ∧ compW xs.length Pv (i + 1) m' H4)
    (hd : ∀ ys H, Pv xs.length ys H → Q H) :
    ∃ W : Nat → Nat → Hp → Prop, (∃ m, W 0 m (upd H1 acc (.lst []))) ∧ ∀ i m H2, W i m H2 →
      ((Itt K a).stop i H2 ∧ Q H2) ∨ ((Itt K a).go i H2 ∧ ∀ x H3, (Itt K a).yld i H2 x H3 → tt (some x :: cs) H3 fun ok H4 => if ok = true then
        te (some x :: cs) H4 (fun y H5 => ∃ ys, H5 acc = some (.lst ys) ∧ ys.length < sizeLine ∧ ∃ m', m' < m ∧ W (i + 1) m' (upd H5 acc (.lst (ys ++ [y]))))
        else ∃ m', m' < m ∧ W (i + 1) m' H4) := by
  refine ⟨compW xs.length Pv, ⟨xs.length - 0, rfl, Nat.zero_le _, [], h0⟩, ?_⟩
  rintro i m H2 ⟨rfl, hi, ys, p⟩
  have hq := hl i ys H2 hi p
  by_cases h : i < xs.length
  · refine .inr ⟨⟨xs, xs[i], hq, List.getElem?_eq_getElem h⟩, ?_⟩
    rintro x H3 ⟨rfl, hx⟩
    exact hs i x ys _ h (hx xs hq) p
  · have e : i = xs.length := by omega
    subst e
    exact .inl ⟨⟨xs, hq, Nat.le_refl _⟩, hd ys H2 p⟩
end
end L2
namespace L2
open PySem PySem.Spec PyProof.Rows
structure CompG (X : Cx) (xs caps : List Str) (cap : List Nat) (scope : Scope) (cl : List (Str × Addr)) : Prop where
  clos : closureFor scope X.env = pure cl
  cell : ∀ y ∈ scope.names, y.2 ≠ .cell
  kind : scope.kind = .function
  names : ∀ y ∈ scope.names, y.2 = .local → scope.names.lookup y.1 = some .local
  lx : ∀ x ∈ xs, scope.names.lookup x = some .local
  nd : (xs ++ caps).Nodup
  from_ : ∀ y c, cl.lookup y = some c → X.env.cells.lookup y = some c
  has : ∀ y, ((relabel scope X.env).names.lookup y = some .cell ∨ (relabel scope X.env).names.lookup y = some .free) → ∃ c, cl.lookup y = some c
  len : cap.length = caps.length
  cps : ∀ (i : Nat) (y : Str), caps[i]? = some y → ∃ j, cap[i]? = some j ∧ X.N[j]? = some y ∧ X.env.scope.names.lookup y = some .cell ∧ (relabel scope X.env).names.lookup y = some .cell
def capV (cap : List Nat) (σ : St) : St := cap.map fun j => (σ[j]?).getD none
def tCompG (n : Nat) (wi : TI) (cap : List Nat) (g : TG) (tt : TT) (te : TE) : TE := fun σ H Q => wi σ H fun J H1 => ∀ acc, H1 acc = none → ∃ W : Nat → Nat → Hp → Prop, (∃ m, W 0 m (upd H1 acc (.lst []))) ∧ ∀ i m H2, W i m H2 →
  (J.stop i H2 ∧ Q (.ref acc) H2) ∨ (J.go i H2 ∧ ∀ x H3, J.yld i H2 x H3 → ∀ as : St, as.length = n → g x (as ++ capV cap σ) H3 fun σ4 H4 => (∃ bs : St, bs.length = n ∧ σ4 = bs ++ capV cap σ) ∧ tt σ4 H4 fun ok H5 => if ok = true then
    te σ4 H5 (fun y H6 => ∃ ys, H6 acc = some (.lst ys) ∧ ys.length < sizeLine ∧ ∃ m', m' < m ∧ W (i + 1) m' (upd H6 acc (.lst (ys ++ [y]))))
    else ∃ m', m' < m ∧ W (i + 1) m' H5)
theorem compG_core {X : Cx} {elt iter tg : Expr} {xs : List Str} {ifs : List Expr} {scope : Scope} {pos pos' : Pos} {wi : TI} {g : TG} {tt : TT} {te : TE} {cl : List (Str × Addr)} {caps : List Str} {cap : List Nat}
    (O : CompG X xs caps cap scope cl) (hc : X.calm = true) (hi : PI X tg iter wi) (hg : ∀ C fp s₀ H₀, PG (compX X (xs ++ caps) scope cl C fp s₀ H₀) tg g)
    (ht : ∀ C fp s₀ H₀, PF (compX X (xs ++ caps) scope cl C fp s₀ H₀) ifs tt) (he : ∀ C fp s₀ H₀, PE (compX X (xs ++ caps) scope cl C fp s₀ H₀) elt te)
    (hs : ∀ x, foldedSetIterable iter X.env x = pure x) {pins : List (Addr × Obj)} {s : Shared} {σ : St} {H : Hp} {Q : VK} {use : Option (Value → Sem Unit)} {QQ : Value → Shared → Prop} (I : Inv X pins σ H s)
    (h : tCompG xs.length wi cap g tt te σ H Q)
    (hfin : ∀ D C H' s', Inv X pins σ H' s' → OwnAt X pins H' s' C → Q (.ref D) H' → compPost (model X.prog X.w) X.A X.xe use QQ (.ref D) C (.ok .next) s') :
    wpAny (model X.prog X.w) X.A (comprehension (.ListComp elt [⟨tg, iter, ifs, 0⟩] scope pos) scope X.env pos' (newList []) false (eval iter X.env) use) QQ X.xe s := by
  refine wpAny_comprehension_free rfl hs O.clos O.kind O.names (thn (hi pins s σ H _ I h) fun v s1 h1 => thn h1 fun itv s2 h2 => ?_)
  obtain ⟨it, fp, tn, J, H1, e, I2, T, t0, f2, hR⟩ := h2
  subst e
  refine wpAny_newObj_type (wpAny_newFunctionEnv O.cell (by intro y hy; simp at hy) (fun h₁ hns hsb => ?_) O.kind)
  have hacc : H1 s2.heap.objs.size = none := I2.fresh
  obtain ⟨W, ⟨m0, w0⟩, turn⟩ := hR s2.heap.objs.size hacc
  have I3 : Inv X pins σ (upd H1 s2.heap.objs.size (.lst [])) { s2 with heap := s2.heap.push { cls := .type "list", data := .seq ([] : List Value).toArray } } := I2.lnew (t' := s2.toks) (ys := []) (its := []) .nil (Nat.zero_le _)
  generalize hs3 : ({ s2 with heap := s2.heap.push { cls := .type "list", data := .seq ([] : List Value).toArray } } : Shared) = s3 at hns hsb I3 ⊢
  generalize hD : s2.heap.objs.size = D at I3 w0 turn hacc ⊢
  generalize hH3 : upd H1 D (.lst []) = H3 at I3 w0
  have keep3 : ∀ b o, s3.heap.get? b = some o → h₁.get? b = some o := fun b o e => (hsb.2 b (Nat.ne_of_lt (Heap.lt_size e))).trans (Heap.get?_push_of_some _ e)
  have hfp3 : ∀ b ∈ fp, H3 b = none := fun b hb => by
    rw [← hH3, upd_ne]
    · exact (f2 b hb).1
    · intro z
      obtain ⟨o, e, _⟩ := T.obj _ _ t0 b hb
      exact absurd (Heap.lt_size e) (by rw [z, hD]; exact Nat.lt_irrefl _)
  have hCfresh : H3 s3.heap.objs.size = none := I3.fresh
  have hCfp : ∀ b ∈ fp, b ≠ s3.heap.objs.size := fun b hb z => by
    obtain ⟨o, e, _⟩ := T.obj _ _ t0 b hb
    have h2 : s3.heap.objs.size = s2.heap.objs.size + 1 := by rw [← hs3]; exact Heap.size_push ..
    exact absurd (Heap.lt_size e) (by rw [z, h2]; exact Nat.not_lt.mpr (Nat.le_succ _))
  have t3 : tn 0 h₁ := T.keep _ _ _ t0 fun b hb o e => keep3 b o (by rw [← hs3]; exact Heap.get?_push_of_some _ e)
  have ok' : (compX X (xs ++ caps) scope cl s3.heap.objs.size fp s3 H3).Ok := by
    refine ⟨I3.ok.mod, O.kind, I3.ok.glob, I3.ok.blt, Nat.le_refl _, fun y z c e1 e2 => I3.ok.inj y z c (O.from_ y c e1) (O.from_ z c e2), fun y hy => O.has y hy, fun y c z _ => (nomatch z), I3.ok.hd, I3.ok.frames, .inl rfl, fun b hb => ⟨hCfp b hb, fun y c e => ?_⟩, I3.bs, Nat.le_trans I3.ok.bsz I3.sz, fun b o e hb => ?_, fun b hb z => ?_, I3.stack, I3.stkFree⟩
    · exact (f2 b hb).2.2.2.2.1 y c (O.from_ y c e)
    · rcases (f2 b hb).2.2.2.1 with q | q
      · exact I3.ok.noex b o e q
      · exact absurd (Nat.lt_of_lt_of_le (Heap.lt_size e) (Nat.le_trans I3.ok.bsz q)) (Nat.lt_irrefl _)
    · rcases List.mem_cons.mp (I3.stkSub b z) with q | q
      · exact (f2 b hb).2.1 q
      · exact (f2 b hb).2.2.1 q
  have I4 : Inv (compX X (xs ++ caps) scope cl s3.heap.objs.size fp s3 H3) [] (List.replicate xs.length none ++ capV cap σ) H3 { s3 with heap := h₁, toks := s3.toks + ([] : List (Str × Value)).length } := by
    obtain ⟨m, hn, hl⟩ := id I3.loc
    refine ⟨ok', rfl, I3.bare, Un.kept keep3, ⟨_, hns, fun i y v e1 e2 e3 => ?_⟩, fun y c e => ?_, hCfresh, fun y c e => I3.freeC y c (O.from_ y c e), fun p hp => (nomatch hp), I3.hok.kept keep3, ?_⟩
    · by_cases hix : i < xs.length
      · rw [List.getElem?_append_left (by rw [List.length_replicate]; exact hix), List.getElem?_replicate, if_pos hix] at e2
        cases e2
      · have e1' : caps[i - xs.length]? = some y := by
          have e1'' : (xs ++ caps)[i]? = some y := e1
          rwa [List.getElem?_append_right (by omega)] at e1''
        obtain ⟨j, hj, hN, hk, hk'⟩ := O.cps _ y e1'
        have e2' : (σ[j]?).getD none = some v := by
          rw [List.getElem?_append_right (by rw [List.length_replicate]; omega), List.length_replicate] at e2
          unfold capV at e2
          simpa [hj] using e2
        have e2'' : σ[j]? = some (some v) := by
          cases q : σ[j]? with
          | none => rw [q] at e2'; cases e2'
          | some a => rw [q] at e2'; exact congrArg some e2'
        obtain ⟨u, r, l⟩ := hl j y v hN e2'' (.inr (.inl hk))
        refine ⟨u, r, ?_⟩
        rcases l with ⟨k, _⟩ | ⟨k, c, e, z⟩
        · have k' : X.env.scope.names.lookup y = some .local := k
          rw [hk] at k'; cases k'
        · obtain ⟨c', hc'⟩ := O.has y (.inl hk')
          have : c' = c := Option.some.inj ((O.from_ y c' hc').symm.trans e)
          subst this
          refine .inr ⟨.inl hk', c', hc', ?_⟩
          obtain ⟨o, ho, hd⟩ := z
          exact ⟨o, keep3 _ _ ho, hd⟩
    · obtain ⟨v, o, ho, hd⟩ := I3.cell y c (O.from_ y c e)
      exact ⟨v, o, keep3 _ _ ho, hd⟩
    · show (List.replicate xs.length none ++ capV cap σ).length = (xs ++ caps).length
      simp [capV, O.len]
  have fin : ∀ (H' : Hp) (σ' : St) (s' : Shared), Inv (compX X (xs ++ caps) scope cl s3.heap.objs.size fp s3 H3) [] σ' H' s' → Q (.ref D) H' →
      compPost (model X.prog X.w) X.A X.xe use QQ (.ref D) s3.heap.objs.size (.ok .next) s' := fun H' σ' s' I' q => by
    obtain ⟨m, hn, _⟩ := id I'.loc
    have hU : Un (frs X.stack) fp H3 H' s3.heap s'.heap := I'.base
    have hok2 : HOk X.prog X.w H' s'.heap := I'.hok
    have os' : s'.os = s3.os := I'.os
    have I6 : Inv X pins σ H' s' := I3.call' (ch := fp) os' hU hok2 I'.bare (fun b hb => ⟨(f2 b hb).2.2.2.1, (f2 b hb).2.1, (f2 b hb).2.2.2.2⟩)
    refine hfin D _ H' s' I6 ⟨⟨m, hn⟩, I'.free, Nat.ne_of_gt I3.lt, I3.sz, fun y c e z => ?_, fun p hp z => ?_⟩ q
    · obtain ⟨v, hv⟩ := I3.cell y c e
      exact absurd hv.lt (by rw [z]; exact Nat.lt_irrefl _)
    · exact absurd (Heap.lt_size (I3.pin p hp).1) (by rw [z]; exact Nat.lt_irrefl _)
  have stat : ∀ {H' : Hp}, (∀ b ∈ fp, H' b = none) → ∀ b ∈ fp, FpOk (compX X (xs ++ caps) scope cl s3.heap.objs.size fp s3 H3) [] H' b := fun hn b hb =>
    ⟨hn b hb, hCfp b hb, ok'.exfs b hb, .inl hb, fun y c e => (f2 b hb).2.2.2.2.1 y c (O.from_ y c e), fun p hp => (nomatch hp)⟩
  have loop : codeAny (model X.prog X.w) X.A (.compLoop (.ListComp elt [⟨tg, iter, ifs, 0⟩] scope pos) 0 (.ref it) (.ref D) (compEnvC scope cl s3.heap.objs.size X.env))
      (compPost (model X.prog X.w) X.A X.xe use QQ (.ref D) s3.heap.objs.size) { s3 with heap := h₁, toks := s3.toks + ([] : List (Str × Value)).length } := by
    refine codeAny_loop rfl (fun n s' => ∃ i as H', as.length = xs.length ∧ Inv (compX X (xs ++ caps) scope cl s3.heap.objs.size fp s3 H3) [] (as ++ capV cap σ) H' s' ∧ tn i s'.heap ∧ (∀ b ∈ fp, H' b = none) ∧ W i n H') ?_ m0 ⟨0, _, H3, List.length_replicate, I4, t3, hfp3, w0⟩
    rintro n s5 ⟨i, as, H5, has, I5, st5, fr5, w5⟩
    show wpAny _ _ ((compTurn (.ListComp elt [⟨tg, iter, ifs, 0⟩] scope pos) 0 (.ref it) (.ref D) (compEnvC scope cl s3.heap.objs.size X.env)).onRaise (fun x => do noteFrame x (compEnvC scope cl s3.heap.objs.size X.env); theTreesLotGoes x)) _ _ s5
    refine wpAny_noted ?_
    rw [compTurn_list]
    refine wpAny_bind (wpAny_standAt (wpAny_bind ?_))
    have bad : ∀ {M : Model} {A : Around} {α : Type} {t : Sem α} {P : α → Shared → Prop} {E' : Value → Shared → Prop} {s' : Shared}, wpAny M A t P (fun _ _ => False) s' → wpAny M A t P E' s' := fun h => wpAny_mono h (fun _ _ q => q) fun _ _ z => z.elim
    rcases turn i n H5 w5 with ⟨stop, qn⟩ | ⟨go, step⟩
    · refine bad (thn (T.done (compX X (xs ++ caps) scope cl s3.heap.objs.size fp s3 H3) rfl rfl rfl hc i [] s5 _ H5 (fun _ _ => False) I5 (stat fr5) st5 stop) fun r s6 ⟨hr, I6⟩ => ?_)
      subst hr
      exact wpAny_pure (fin H5 _ s6 I6 qn)
    · refine bad (thn (T.item (compX X (xs ++ caps) scope cl s3.heap.objs.size fp s3 H3) rfl rfl rfl hc i [] s5 _ H5 (fun _ _ => False) I5 (stat fr5) st5 go) fun r s6 ⟨u, hr, h6⟩ => ?_)
      subst hr
      refine wpAny_bind (bad (thn h6 fun _ s7 ⟨y, H7, I7, r7, y7, st7, fr7⟩ => ?_))
      have I7' := I7.pinned (stat fr7) (T.obj _ _ st7)
      have goal := step y H7 y7 as has
      refine wpAny_bind (bad (thn (hg s3.heap.objs.size fp s3 H3 _ s7 _ H7 y _ _ I7' r7 goal) fun _ s8 ⟨σ8, H8, I8, ⟨bs, hbs, eσ⟩, goal8⟩ => ?_))
      subst eσ
      refine wpAny_bind (bad (thn (ht s3.heap.objs.size fp s3 H3 _ s8 _ H8 _ I8 goal8) fun okb s9 ⟨H9, I9, q9⟩ => ?_))
      have again : ∀ {H10 : Hp} {s10 : Shared} {m' : Nat}, Inv (compX X (xs ++ caps) scope cl s3.heap.objs.size fp s3 H3) ([] ++ pinsAt fp s7.heap) (bs ++ capV cap σ) H10 s10 → m' < n → W (i + 1) m' H10 →
          ∃ m, m < n ∧ ∃ i as H', as.length = xs.length ∧ Inv (compX X (xs ++ caps) scope cl s3.heap.objs.size fp s3 H3) [] (as ++ capV cap σ) H' s10 ∧ tn i s10.heap ∧ (∀ b ∈ fp, H' b = none) ∧ W i m H' := fun {H10 s10 m'} I10 hm w10 => by
        refine ⟨m', hm, i + 1, bs, H10, hbs, I10.unpinned, T.keep _ _ _ st7 fun b hb o e => (I10.pin (b, o) (List.mem_append_right _ (List.mem_append_right _ (mem_pinsAt hb e)))).1, fun b hb => ?_, w10⟩
        obtain ⟨o, e, d⟩ := T.obj _ _ st7 b hb
        exact (I10.pin (b, o) (List.mem_append_right _ (List.mem_append_right _ (mem_pinsAt hb e)))).2.1
      cases okb with
      | false =>
        rw [if_neg Bool.false_ne_true] at q9
        obtain ⟨m', hm, w9⟩ := q9
        exact wpAny_pure ⟨rfl, again I9 hm w9⟩
      | true =>
        rw [if_pos rfl] at q9
        refine wpAny_bind (wpAny_bind (bad (thn (he s3.heap.objs.size fp s3 H3 _ s9 _ H9 _ I9 q9) fun yv s10 ⟨yy, H10, I10, r10, ys, hys, hlen, m', hm, w10⟩ => ?_)))
        refine wpAny_bind (bad (thn (mt_append (X := compX X (xs ++ caps) scope cl s3.heap.objs.size fp s3 H3) _ s10 _ H10 (.ref D) [yy] (.ref D) [yv] (fun _ H11 => W (i + 1) m' H11) I10 rfl (.cons r10 .nil) ⟨D, ys, yy, rfl, rfl, hys, hlen, w10⟩) fun _ s11 ⟨_, H11, I11, _, q11⟩ => ?_))
        exact wpAny_pure (wpAny_pure ⟨rfl, again I11 hm q11⟩)
  refine codeAny_compStart_list loop (T.self _ 0 _ _ _ t3 loop)
theorem pe_lcompG {X : Cx} {elt iter tg : Expr} {xs : List Str} {ifs : List Expr} {scope : Scope} {pos : Pos} {wi : TI} {g : TG} {tt : TT} {te : TE} {cl : List (Str × Addr)} {caps : List Str} {cap : List Nat}
    (O : CompG X xs caps cap scope cl) (hc : X.calm = true) (hi : PI X tg iter wi) (hg : ∀ C fp s₀ H₀, PG (compX X (xs ++ caps) scope cl C fp s₀ H₀) tg g)
    (ht : ∀ C fp s₀ H₀, PF (compX X (xs ++ caps) scope cl C fp s₀ H₀) ifs tt) (he : ∀ C fp s₀ H₀, PE (compX X (xs ++ caps) scope cl C fp s₀ H₀) elt te)
    (hs : ∀ x, foldedSetIterable iter X.env x = pure x := by intro _; rfl) :
    PE X (.ListComp elt [⟨tg, iter, ifs, 0⟩] scope pos) (tCompG xs.length wi cap g tt te) := by
  intro pins s σ H Q I h
  rw [eval_ListComp]
  exact compG_core (use := none) O hc hi hg ht he hs I h fun D C H' s' I' o q => by
    obtain ⟨m, hn⟩ := o.ns
    exact ⟨m, hn, fun h' hb => ⟨.ref D, H', o.go I' hb, rfl, q⟩⟩
theorem ps_setG {X : Cx} {elt iter tg : Expr} {xs : List Str} {y : Str} {py : Pos} {ifs : List Expr} {scope : Scope} {pos spos : Pos} {wi : TI} {g : TG} {tt : TT} {te : TE} {cl : List (Str × Addr)} {caps : List Str} {cap : List Nat} {i : Nat}
    (O : CompG X xs caps cap scope cl) (hc : X.calm = true) (hi : PI X tg iter wi) (hg : ∀ C fp s₀ H₀, PG (compX X (xs ++ caps) scope cl C fp s₀ H₀) tg g)
    (ht : ∀ C fp s₀ H₀, PF (compX X (xs ++ caps) scope cl C fp s₀ H₀) ifs tt) (he : ∀ C fp s₀ H₀, PE (compX X (xs ++ caps) scope cl C fp s₀ H₀) elt te)
    (hN : X.N.Nodup) (hy : X.N[i]? = some y) (hl : X.env.scope.names.lookup y = some .local)
    (hsw : swapsWith (.ListComp elt [⟨tg, iter, ifs, 0⟩] scope pos) (some (.Name y py)) spos.line X.env = pure true := by rfl)
    (hs : ∀ x, foldedSetIterable iter X.env x = pure x := by intro _; rfl) :
    PS X (.Assign [.Name y py] (.ListComp elt [⟨tg, iter, ifs, 0⟩] scope pos) spos) (tAsg (tCompG xs.length wi cap g tt te) (gName i)) := by
  intro pins s σ H D I h
  rw [exec_Assign_Name_used _ _ _ _ hsw]
  refine wpAny_bind (wpAny_standAt (wpAny_bind ?_))
  show wpAny _ X.A (do let _ ← comprehension (.ListComp elt [⟨tg, iter, ifs, 0⟩] scope pos) scope X.env _ (newList []) false (eval iter X.env) (some (assign (.Name y py) X.env))) _ _ s
  refine wpAny_bind (thn (compG_core (use := some (assign (.Name y py) X.env)) (QQ := fun _ s' => SP X pins D .next s') O hc hi hg ht he hs I h fun Dd C H' s' I' o q => ?_) fun _ s' hq => wpAny_pure (wpAny_pure hq))
  obtain ⟨m, hn⟩ := o.ns
  show wpAny _ X.A (assign (.Name y py) X.env (.ref Dd)) _ _ s'
  refine wpAny_assign_Name (store_ok2 (v := .ref Dd) I' hN hy (.inl hl) rfl (fun s2 I2 sb => ?_) (.inr hl))
  obtain ⟨a, sb, ha⟩ := sb
  have hCa : C ≠ a := by
    rcases ha with z | z
    · rw [z]; exact o.loc
    · exact Ne.symm (o.cells y a z)
  have o2 : OwnAt X pins H' s2 C := ⟨⟨m, hn.sameBut sb hCa⟩, o.free, o.loc, o.above, o.cells, o.pins⟩
  refine ⟨m, hn.sameBut sb hCa, fun h' hb => ?_⟩
  exact ⟨_, H', o2.go I2 hb, q⟩
section
variable {X : Cx} {xs caps : List Str} {cap : List Nat} {scope : Scope} {cl : List (Str × Addr)}
theorem pg_c1 {x : Str} {px : Pos} (O : CompG X [x] caps cap scope cl) : ∀ C fp s₀ H₀, PG (compX X ([x] ++ caps) scope cl C fp s₀ H₀) (.Name x px) (gName 0) := fun C fp s₀ H₀ =>
  pg_name (X := compX X ([x] ++ caps) scope cl C fp s₀ H₀) (i := 0) O.nd rfl (.inl (lookup_relabel_local (O.lx x (by simp)))) (.inr (lookup_relabel_local (O.lx x (by simp))))
theorem pg_c2 {x y : Str} {px py pos : Pos} {k : Nat} (O : CompG X [x, y] caps cap scope cl) (hc : X.calm = true) : ∀ C fp s₀ H₀, PG (compX X ([x, y] ++ caps) scope cl C fp s₀ H₀) (.Tuple [.Name x px, .Name y py] k pos) (gTup X.K 2 (gCons (gName 0) (gCons (gName 1) gNil))) := fun C fp s₀ H₀ =>
  pg_tup (X := compX X ([x, y] ++ caps) scope cl C fp s₀ H₀) hc (pgs_cons (pg_name (i := 0) O.nd rfl (.inl (lookup_relabel_local (O.lx x (by simp)))) (.inr (lookup_relabel_local (O.lx x (by simp)))))
    (pgs_cons (pg_name (i := 1) O.nd rfl (.inl (lookup_relabel_local (O.lx y (by simp)))) (.inr (lookup_relabel_local (O.lx y (by simp))))) pgs_nil))
end
theorem lookup_in {k : NameKind} {y : Str} : ∀ {l : List (Str × NameKind)}, l.lookup y = some k → (y, k) ∈ l
  | [], h => by simp at h
  | (n, j) :: r, h => by
    cases hx : y == n with
    | true =>
      simp only [List.lookup_cons, hx] at h
      have : y = n := by simpa using hx
      cases h
      rw [this]; exact List.mem_cons_self
    | false =>
      simp only [List.lookup_cons, hx] at h
      exact List.mem_cons_of_mem _ (lookup_in h)
theorem lookupA_in {y : Str} {c : Addr} : ∀ {l : List (Str × Addr)}, l.lookup y = some c → (y, c) ∈ l
  | [], h => by simp at h
  | (n, j) :: r, h => by
    cases hx : y == n with
    | true =>
      simp only [List.lookup_cons, hx] at h
      have : y = n := by simpa using hx
      cases h
      rw [this]; exact List.mem_cons_self
    | false =>
      simp only [List.lookup_cons, hx] at h
      exact List.mem_cons_of_mem _ (lookupA_in h)
theorem in_lookupA {y : Str} {c : Addr} : ∀ {l : List (Str × Addr)}, (y, c) ∈ l → ∃ c', l.lookup y = some c'
  | [], h => by cases h
  | (n, j) :: r, h => by
    cases hx : y == n with
    | true => exact ⟨j, by simp only [List.lookup_cons, hx]⟩
    | false =>
      simp only [List.lookup_cons, hx]
      rcases List.mem_cons.mp h with z | z
      · have : y = n := congrArg Prod.fst z
        rw [this] at hx
        simp at hx
      · exact in_lookupA z
theorem relabel_free {env : Env} {y : Str} (hf : env.scope.kind = .function) (hy : env.kindOf y = some .cell) : ∀ {names : List (Str × NameKind)}, names.lookup y = some .free →
    (names.map fun (n, k) => if (k == NameKind.free && env.scope.kind == .function && env.kindOf n == some .cell) then (n, NameKind.cell) else (n, k)).lookup y = some .cell
  | [], h => by simp at h
  | (n, k) :: r, h => by
    show List.lookup y ((if (k == NameKind.free && env.scope.kind == .function && env.kindOf n == some .cell) = true then (n, NameKind.cell) else (n, k)) :: _) = _
    cases hx : y == n with
    | true =>
      simp only [List.lookup_cons, hx] at h
      have e : y = n := by simpa using hx
      cases h
      rw [← e, hf, hy]
      simp
    | false =>
      simp only [List.lookup_cons, hx] at h
      have ih := relabel_free hf hy h
      split
      · simp only [List.lookup_cons, hx]; exact ih
      · simp only [List.lookup_cons, hx]; exact ih
def frees (names : List (Str × NameKind)) : List Str := names.filterMap fun z => if z.2 == NameKind.free then some z.1 else none
theorem closure_go {env : Env} : ∀ (names : List (Str × NameKind)) (caps : List Str) (cs : List Addr) (acc : List (Str × Addr)), frees names = caps → caps.map (fun y => env.cells.lookup y) = cs.map some →
    (forIn names acc fun (x : Str × NameKind) (r : List (Str × Addr)) => (if (x.2 == NameKind.free) = true then do let a ← cellOf env x.1; pure (ForInStep.yield ((x.1, a) :: r)) else pure (ForInStep.yield r) : Sem (ForInStep (List (Str × Addr))))) = (pure ((caps.zip cs).reverse ++ acc) : Sem (List (Str × Addr)))
  | [], caps, cs, acc, h1, h2 => by
    have : caps = [] := h1.symm
    subst this
    simp
  | (n, k) :: r, caps, cs, acc, h1, h2 => by
    rw [List.forIn_cons]
    by_cases hk : (k == NameKind.free) = true
    · have e1 : caps = n :: frees r := by
        rw [← h1]; unfold frees
        rw [List.filterMap_cons]
        simp only [hk, if_true]
      subst e1
      cases cs with
      | nil => simp at h2
      | cons c cs =>
        simp only [List.map_cons, List.cons.injEq] at h2
        have hcell : cellOf env n = pure c := by unfold cellOf; rw [h2.1]
        simp only [hk, if_true, hcell, pure_bind]
        rw [closure_go r _ cs ((n, c) :: acc) rfl h2.2]
        simp
    · have e1 : caps = frees r := by
        rw [← h1]; unfold frees
        rw [List.filterMap_cons]
        simp only [hk]
        rfl
      subst e1
      simp only [hk, if_false, pure_bind]
      exact closure_go r _ cs acc rfl h2
theorem closureFor_many {env : Env} {scope : Scope} {caps : List Str} {cs : List Addr} (hf : frees scope.names = caps) (hc : caps.map (fun y => env.cells.lookup y) = cs.map some) : closureFor scope env = pure (caps.zip cs).reverse := by
  have h := closure_go (env := env) scope.names caps cs [] hf hc
  rw [List.append_nil] at h
  unfold closureFor
  simp only [bind_pure]
  exact h
theorem CompG.many {X : Cx} {xs caps : List Str} {cap : List Nat} {cs : List Addr} {scope : Scope} (hk : scope.kind = .function) (hf : X.env.scope.kind = .function) (hfr : frees scope.names = caps)
    (hnc : ∀ z ∈ scope.names, z.2 ≠ .cell) (hl : ∀ y ∈ scope.names, y.2 = .local → scope.names.lookup y.1 = some .local) (hlx : ∀ x ∈ xs, scope.names.lookup x = some .local) (hnd : (xs ++ caps).Nodup)
    (hfl : ∀ y ∈ caps, scope.names.lookup y = some .free) (hce : caps.map (fun y => X.env.scope.names.lookup y) = caps.map fun _ => some .cell) (hcs : caps.map (fun y => X.env.cells.lookup y) = cs.map some)
    (hN : cap.map (fun j => X.N[j]?) = caps.map some) : CompG X xs caps cap scope (caps.zip cs).reverse := by
  have hlen : caps.length = cs.length := by simpa using congrArg List.length hcs
  have at_cs : ∀ (i : Nat) (y : Str), caps[i]? = some y → ∃ c, cs[i]? = some c ∧ X.env.cells.lookup y = some c := fun i y h => by
    have e := congrArg (fun l => l[i]?) hcs
    simp only [List.getElem?_map, h] at e
    cases q : cs[i]? with
    | none => rw [q] at e; simp at e
    | some c => rw [q] at e; exact ⟨c, rfl, by simpa using e⟩
  refine ⟨closureFor_many hfr hcs, hnc, hk, hl, hlx, hnd, fun y c h => ?_, fun y h => ?_, ?_, fun i y h => ?_⟩
  · have hm := lookupA_in h
    rw [List.mem_reverse] at hm
    obtain ⟨i, hi, e⟩ := List.getElem_of_mem hm
    have hi1 : i < caps.length := by rw [List.length_zip] at hi; omega
    have hi2 : i < cs.length := by rw [List.length_zip] at hi; omega
    rw [List.getElem_zip] at e
    obtain ⟨c', e1, e2⟩ := at_cs i caps[i] (List.getElem?_eq_getElem hi1)
    have e3 : caps[i] = y := congrArg Prod.fst e
    have e4 : cs[i] = c := congrArg Prod.snd e
    rw [List.getElem?_eq_getElem hi2, e4] at e1
    cases e1
    rw [← e3]; exact e2
  · have hm : y ∈ caps := by
      have aux : ∀ k : NameKind, (k = .cell ∨ k = .free) → (relabel scope X.env).names.lookup y = some k → y ∈ caps := fun k hk h => by
        have h1 := lookup_in h
        obtain ⟨z, hz, e⟩ := List.mem_map.mp h1
        obtain ⟨n, kk⟩ := z
        have hfree : kk = .free ∧ n = y := by
          dsimp only at e
          split at e
          · rename_i q
            simp only [Bool.and_eq_true] at q
            exact ⟨by simpa using q.1.1, congrArg Prod.fst e⟩
          · have e2 : kk = k := congrArg Prod.snd e
            refine ⟨?_, congrArg Prod.fst e⟩
            rcases hk with z | z
            · exact absurd (e2.trans z) (hnc _ hz)
            · exact e2.trans z
        rw [← hfr]
        refine List.mem_filterMap.mpr ⟨(n, kk), hz, ?_⟩
        rw [hfree.1, hfree.2]; rfl
      rcases h with h | h
      · exact aux _ (.inl rfl) h
      · exact aux _ (.inr rfl) h
    obtain ⟨i, hi, e⟩ := List.getElem_of_mem hm
    have hi2 : i < cs.length := by omega
    refine in_lookupA (c := cs[i]) ?_
    rw [List.mem_reverse]
    have hiz : i < (caps.zip cs).length := by rw [List.length_zip]; omega
    have := List.getElem_mem hiz
    rw [List.getElem_zip, e] at this
    exact this
  · have := congrArg List.length hN
    simpa using this
  · have e := congrArg (fun l => l[i]?) hN
    simp only [List.getElem?_map, h] at e
    have hm := List.mem_of_getElem? h
    cases q : cap[i]? with
    | none => rw [q] at e; simp at e
    | some j =>
      rw [q] at e
      have hcell : X.env.scope.names.lookup y = some .cell := by
        have e2 := congrArg (fun l => l[i]?) hce
        simpa only [List.getElem?_map, h, Option.map_some, Option.some.injEq] using e2
      exact ⟨j, rfl, by simpa using e, hcell, relabel_free hf hcell (hfl y hm)⟩
theorem compG_drive {J : It} {n N : Nat} {cs : St} {g : TG} {tt : TT} {te : TE} {H1 : Hp} {acc : Addr} {Q : Hp → Prop} (Pv : Nat → List V → Hp → Prop) (h0 : Pv 0 [] (upd H1 acc (.lst [])))
    (hstop : ∀ ys H, Pv N ys H → J.stop N H ∧ Q H)
    (hstep : ∀ i ys H, i < N → Pv i ys H → J.go i H ∧ ∀ x H3, J.yld i H x H3 → ∀ as : St, as.length = n → g x (as ++ cs) H3 fun σ4 H4 => (∃ bs : St, bs.length = n ∧ σ4 = bs ++ cs) ∧ tt σ4 H4 fun ok H5 => if ok = true then te σ4 H5 (compN N Pv acc i (N - i)) else ∃ m', m' < N - i ∧ compW N Pv (i + 1) m' H5) :
    ∃ W : Nat → Nat → Hp → Prop, (∃ m, W 0 m (upd H1 acc (.lst []))) ∧ ∀ i m H2, W i m H2 →
      (J.stop i H2 ∧ Q H2) ∨ (J.go i H2 ∧ ∀ x H3, J.yld i H2 x H3 → ∀ as : St, as.length = n → g x (as ++ cs) H3 fun σ4 H4 => (∃ bs : St, bs.length = n ∧ σ4 = bs ++ cs) ∧ tt σ4 H4 fun ok H5 => if ok = true then
        te σ4 H5 (fun y H6 => ∃ ys, H6 acc = some (.lst ys) ∧ ys.length < sizeLine ∧ ∃ m', m' < m ∧ W (i + 1) m' (upd H6 acc (.lst (ys ++ [y]))))
        else ∃ m', m' < m ∧ W (i + 1) m' H5) := by
  refine ⟨compW N Pv, ⟨N - 0, rfl, Nat.zero_le _, [], h0⟩, ?_⟩
  rintro i m H2 ⟨rfl, hi, ys, p⟩
  by_cases h : i < N
  · exact .inr (hstep i ys H2 h p)
  · have e : i = N := by omega
    subst e
    exact .inl (hstop ys H2 p)
abbrev CKon (N : Nat) (Pv : Nat → List V → Hp → Prop) (acc : Addr) (i : Nat) (te : TE) (σ : St) : Bool → Hp → Prop := fun ok H5 => if ok = true then te σ H5 (compN N Pv acc i (N - i)) else ∃ m', m' < N - i ∧ compW N Pv (i + 1) m' H5
abbrev CGoal (J : It) (n : Nat) (cs : St) (g : TG) (tt : TT) (te : TE) (H1 : Hp) (acc : Addr) (Q : Hp → Prop) : Prop :=
  ∃ W : Nat → Nat → Hp → Prop, (∃ m, W 0 m (upd H1 acc (.lst []))) ∧ ∀ i m H2, W i m H2 →
      (J.stop i H2 ∧ Q H2) ∨ (J.go i H2 ∧ ∀ x H3, J.yld i H2 x H3 → ∀ as : St, as.length = n → g x (as ++ cs) H3 fun σ4 H4 => (∃ bs : St, bs.length = n ∧ σ4 = bs ++ cs) ∧ tt σ4 H4 fun ok H5 => if ok = true then
        te σ4 H5 (fun y H6 => ∃ ys, H6 acc = some (.lst ys) ∧ ys.length < sizeLine ∧ ∃ m', m' < m ∧ W (i + 1) m' (upd H6 acc (.lst (ys ++ [y]))))
        else ∃ m', m' < m ∧ W (i + 1) m' H5)
section
variable {K : PySem.W.Frag} {a b acc : Addr} {xs zs : List V} {tt : TT} {te : TE} {cs : St} {H1 : Hp} {Q : Hp → Prop}
theorem c1_list (Pv : Nat → List V → Hp → Prop) (h0 : Pv 0 [] (upd H1 acc (.lst []))) (hl : ∀ i ys H, i ≤ xs.length → Pv i ys H → SqL K H a xs)
    (hs : ∀ i x ys H, i < xs.length → xs[i]? = some x → Pv i ys H → tt (some x :: cs) H (CKon xs.length Pv acc i te (some x :: cs))) (hd : ∀ ys H, Pv xs.length ys H → Q H) : CGoal (Itl K a) 1 cs (gName 0) tt te H1 acc Q := by
  refine compG_drive Pv h0 (fun ys H p => ⟨⟨xs, hl _ _ _ (Nat.le_refl _) p, Nat.le_refl _⟩, hd ys H p⟩) fun i ys H hi p => ⟨⟨xs, xs[i], hl _ _ _ (Nat.le_of_lt hi) p, List.getElem?_eq_getElem hi⟩, ?_⟩
  rintro x H3 ⟨rfl, hx⟩ as has
  obtain ⟨a0, rfl⟩ : ∃ a0, as = [a0] := List.length_eq_one_iff.mp has
  exact ⟨⟨[some x], rfl, rfl⟩, hs i x ys _ hi (hx xs (hl _ _ _ (Nat.le_of_lt hi) p)) p⟩
theorem c1_tup (Pv : Nat → List V → Hp → Prop) (h0 : Pv 0 [] (upd H1 acc (.lst []))) (hl : ∀ i ys H, i ≤ xs.length → Pv i ys H → SqT K H a xs)
    (hs : ∀ i x ys H, i < xs.length → xs[i]? = some x → Pv i ys H → tt (some x :: cs) H (CKon xs.length Pv acc i te (some x :: cs))) (hd : ∀ ys H, Pv xs.length ys H → Q H) : CGoal (Itt K a) 1 cs (gName 0) tt te H1 acc Q := by
  refine compG_drive Pv h0 (fun ys H p => ⟨⟨xs, hl _ _ _ (Nat.le_refl _) p, Nat.le_refl _⟩, hd ys H p⟩) fun i ys H hi p => ⟨⟨xs, xs[i], hl _ _ _ (Nat.le_of_lt hi) p, List.getElem?_eq_getElem hi⟩, ?_⟩
  rintro x H3 ⟨rfl, hx⟩ as has
  obtain ⟨a0, rfl⟩ : ∃ a0, as = [a0] := List.length_eq_one_iff.mp has
  exact ⟨⟨[some x], rfl, rfl⟩, hs i x ys _ hi (hx xs (hl _ _ _ (Nat.le_of_lt hi) p)) p⟩
theorem len_two {as : St} (h : as.length = 2) : ∃ a0 a1, as = [a0, a1] := by
  match as, h with
  | [a0, a1], _ => exact ⟨a0, a1, rfl⟩
theorem c2_list (Pv : Nat → List V → Hp → Prop) (h0 : Pv 0 [] (upd H1 acc (.lst []))) (hl : ∀ i ys H, i ≤ xs.length → Pv i ys H → SqL K H a xs)
    (hs : ∀ i x ys H, i < xs.length → xs[i]? = some x → Pv i ys H → ∃ p u v, x = .ref p ∧ SqT K H p [u, v] ∧ tt (some u :: some v :: cs) H (CKon xs.length Pv acc i te (some u :: some v :: cs))) (hd : ∀ ys H, Pv xs.length ys H → Q H) : CGoal (Itl K a) 2 cs (gTup K 2 (gCons (gName 0) (gCons (gName 1) gNil))) tt te H1 acc Q := by
  refine compG_drive Pv h0 (fun ys H p => ⟨⟨xs, hl _ _ _ (Nat.le_refl _) p, Nat.le_refl _⟩, hd ys H p⟩) fun i ys H hi p => ⟨⟨xs, xs[i], hl _ _ _ (Nat.le_of_lt hi) p, List.getElem?_eq_getElem hi⟩, ?_⟩
  rintro x H3 ⟨rfl, hx⟩ as has
  obtain ⟨a0, a1, rfl⟩ := len_two has
  obtain ⟨q, u, v, rfl, hq, h⟩ := hs i x ys _ hi (hx xs (hl _ _ _ (Nat.le_of_lt hi) p)) p
  exact ⟨q, [u, v], rfl, hq, rfl, u, [v], rfl, v, [], rfl, rfl, ⟨[some u, some v], rfl, rfl⟩, h⟩
theorem c2_zip (hlen : xs.length = zs.length) (Pv : Nat → List V → Hp → Prop) (h0 : Pv 0 [] (upd H1 acc (.lst []))) (hl : ∀ i ys H, i ≤ xs.length → Pv i ys H → SqL K H a xs ∧ SqL K H b zs)
    (hs : ∀ i u v p ys H, i < xs.length → xs[i]? = some u → zs[i]? = some v → H p = none → Pv i ys H → tt (some u :: some v :: cs) (upd H p (.tup [u, v])) (CKon xs.length Pv acc i te (some u :: some v :: cs))) (hd : ∀ ys H, Pv xs.length ys H → Q H) : CGoal (Itz K a b xs zs) 2 cs (gTup K 2 (gCons (gName 0) (gCons (gName 1) gNil))) tt te H1 acc Q := by
  refine compG_drive (N := xs.length) Pv h0 (fun ys H p => ?_) fun i ys H hi p => ?_
  · obtain ⟨qa, qb⟩ := hl _ _ _ (Nat.le_refl _) p
    exact ⟨⟨qa, qb, .inl (Nat.le_refl _)⟩, hd ys H p⟩
  · obtain ⟨qa, qb⟩ := hl _ _ _ (Nat.le_of_lt hi) p
    refine ⟨⟨qa, qb, hi, by omega⟩, ?_⟩
    rintro x H3 ⟨q, u, v, hq, rfl, rfl, hu, hv⟩ as has
    obtain ⟨a0, a1, rfl⟩ := len_two has
    exact ⟨q, [u, v], rfl, SqT.of upd_same, rfl, u, [v], rfl, v, [], rfl, rfl, ⟨[some u, some v], rfl, rfl⟩, hs i u v q ys _ hi hu hv hq p⟩
end
end L2
namespace L2
open PySem PySem.Spec PyProof.Rows
section
variable {prog : Program} {w : World} {A : Around} {E : Value → Shared → Prop} {s : Shared}
end
section
variable {X : Cx} {elts : List Expr} {k1 : Nat} {tpos : Pos}
end
end L2
namespace L2
open PySem PySem.Spec PyProof.Rows
theorem size_line : sizeLine = 16777216 := by decide
theorem line_of {n : Nat} (h : n ≤ 5000) : n ≤ sizeLine := by rw [size_line]; omega
end L2
namespace K9
open PySem L2 TM
mutual
def isT (f : Str → Str → Option (List Str)) : Tree Str → Str → Bool
  | .node n _ bs, k => match f k n with
    | none => false
    | some ss => decide (ss.length = bs.length) && isTs f bs ss
def isTs (f : Str → Str → Option (List Str)) : List (Tree Str) → List Str → Bool
  | [], ss => ss.isEmpty
  | b :: bs, ss => match ss with
    | [] => false
    | s :: r => isT f b s && isTs f bs r
end
mutual
def td : Tree Str → PyData
  | .node n m bs => .tuple [.str n, .int m, .tuple (tds bs)]
def tds : List (Tree Str) → List PyData
  | [] => []
  | t :: r => td t :: tds r
end
abbrev KdT := Addr × Str × Addr × List PNx
def RowAt (K : PySem.W.Frag) (H : Hp) (t : PNx) : Prop := SqT K H t.1 [.str t.2.1, .ref t.2.2.1] ∧ SqT K H t.2.2.1 (t.2.2.2.map V.str)
def RowsL (K : PySem.W.Frag) (H : Hp) (lr : Addr) (rs : List PNx) : Prop := SqL K H lr (rs.map fun t => V.ref t.1) ∧ ∀ t ∈ rs, RowAt K H t
def WoodAt (K : PySem.W.Frag) (H : Hp) (w : Addr) (ks : List KdT) : Prop := SqL K H w (ks.map fun k => V.ref k.1) ∧ ∀ k ∈ ks, SqT K H k.1 [.str k.2.1, .ref k.2.2.1] ∧ RowsL K H k.2.2.1 k.2.2.2
theorem RowAt.same {K : PySem.W.Frag} {H H' : Hp} {t : PNx} (g : Same H H') (h : RowAt K H t) : RowAt K H' t := ⟨g.seqT h.1, g.seqT h.2⟩
theorem RowsL.same {K : PySem.W.Frag} {H H' : Hp} {lr : Addr} {rs : List PNx} (g : Same H H') (h : RowsL K H lr rs) : RowsL K H' lr rs := ⟨g.seq h.1, fun t ht => (h.2 t ht).same g⟩
theorem WoodAt.same {K : PySem.W.Frag} {H H' : Hp} {w : Addr} {ks : List KdT} (g : Same H H') (h : WoodAt K H w ks) : WoodAt K H' w ks := ⟨g.seq h.1, fun k hk => ⟨g.seqT (h.2 k hk).1, (h.2 k hk).2.same g⟩⟩
structure RowsOk (rs : List PNx) : Prop where
  nd : (rs.map fun t => t.2.1).Nodup
  len : rs.length ≤ 10
  nm : ∀ r ∈ rs, PyData.strOk r.2.1 = true
  kn : ∀ r ∈ rs, ∀ x ∈ r.2.2.2, PyData.strOk x = true
  kl : ∀ r ∈ rs, r.2.2.2.length ≤ 4
structure WoodOk (ks : List KdT) : Prop where
  nd : (ks.map fun k => k.2.1).Nodup
  len : ks.length ≤ 10
  rows : ∀ k ∈ ks, RowsOk k.2.2.2
def rowsK (ks : List KdT) (kind : Str) : List PNx := ((ks.find? fun k => decide (k.2.1 = kind)).map fun k => k.2.2.2).getD []
def rowK (ks : List KdT) (kind name : Str) : Option (List Str) := ((rowsK ks kind).find? fun r => decide (r.2.1 = name)).map fun r => r.2.2.2
theorem val_map {α : Type} (f : α → Str) (g : α → V) (z : Str) : ∀ l : List α, valV (l.map fun x => ((Sum.inr (f x) : Key), g x)) (Sum.inr z) = (l.find? fun x => decide (f x = z)).map g
  | [] => rfl
  | x :: r => by
    rw [List.map_cons, List.find?_cons]
    by_cases e : f x = z
    · rw [valV_pos (p := ((Sum.inr (f x) : Key), g x)) (by rw [e]), decide_eq_true e]; rfl
    · rw [valV_neg (p := ((Sum.inr (f x) : Key), g x)) (fun q => e (by injection q)), decide_eq_false e]
      exact val_map f g z r
theorem rowsK_ok {ks : List KdT} (h : WoodOk ks) (kind : Str) : RowsOk (rowsK ks kind) := by
  unfold rowsK
  cases e : ks.find? fun k => decide (k.2.1 = kind) with
  | none => exact ⟨List.nodup_nil, Nat.zero_le _, fun r hr => (nomatch hr), fun r hr => (nomatch hr), fun r hr => (nomatch hr)⟩
  | some k => exact h.rows k (List.mem_of_find?_eq_some e)
def RowV (K : PySem.W.Frag) (H : Hp) (v : V) : Option (List Str) → Prop
  | none => v = .non
  | some ss => ∃ b, v = .ref b ∧ SqT K H b (ss.map V.str)
end K9
namespace K14
open PySem L2 K3 TM
structure Nm (w : List Nat) : Prop where
  ne : w ≠ []
  len : w.length ≤ 8
  all : ∀ c ∈ w, c ∈ letL
theorem ah_drop {ws : List (List Nat)} {n : Nat} {w : List Nat} {r : List (List Nat)} (h : ws.drop n = w :: r) : ah ws n = w ∧ n < ws.length ∧ ws.drop (n + 1) = r ∧ w ∈ ws := by
  have hn : n < ws.length := by
    rcases Nat.lt_or_ge n ws.length with q | q
    · exact q
    · rw [List.drop_eq_nil_of_le q] at h; cases h
  rw [List.drop_eq_getElem_cons hn] at h
  injection h with h1 h2
  refine ⟨?_, hn, h2, ?_⟩
  · unfold ah; rw [List.getElem?_eq_getElem hn, h1]; rfl
  · rw [← h1]; exact List.getElem_mem _
theorem drop_app {ws a r : List (List Nat)} {n : Nat} (h : ws.drop n = a ++ r) : ws.drop (n + a.length) = r := by
  rw [← List.drop_drop, h, List.drop_left]
theorem drop_le {ws a r : List (List Nat)} {n : Nat} (hn : n ≤ ws.length) (h : ws.drop n = a ++ r) : n + a.length ≤ ws.length := by
  have := congrArg List.length h
  rw [List.length_drop, List.length_append] at this
  omega
def SXs (Ts : List Addr) (r : Addr) (H H' : Hp) : Prop := ∀ b u, b ∉ Ts → b ≠ r → H b = some u → H' b = some u
theorem SXs.of {Ts : List Addr} {r : Addr} {H H' : Hp} (g : Same H H') : SXs Ts r H H' := fun b u _ _ e => g b u e
theorem SXs.ofT {Ts : List Addr} {T r : Addr} {H H' : Hp} (hT : T ∈ Ts) (g : SameX T H H') : SXs Ts r H H' := fun b u n _ e => g b u (fun z => n (z ▸ hT)) e
theorem SXs.ofR {Ts : List Addr} {r : Addr} {H H' : Hp} (g : SameX r H H') : SXs Ts r H H' := fun b u _ n e => g b u n e
theorem SXs.trans {Ts : List Addr} {r : Addr} {H H1 H2 : Hp} (a : SXs Ts r H H1) (b : SXs Ts r H1 H2) : SXs Ts r H H2 := fun c u n m e => b c u n m (a c u n m e)
structure TRs (C : Addr) (Ts : List Addr) (r : Addr) (H : Hp) : Prop where
  tb : ∀ T ∈ Ts, ∃ ps, H T = some (.tbl ps)
  ins : ∃ dx fs, H r = some (.ins C dx fs)
section
variable {C r : Addr} {Ts : List Addr} {H H' : Hp} {K : PySem.W.Frag}
theorem TRs.ne {b : Addr} {u : HO} (h : TRs C Ts r H) (e : H b = some u) (n1 : ∀ ps, u ≠ .tbl ps) (n2 : ∀ C dx fs, u ≠ .ins C dx fs) : b ∉ Ts ∧ b ≠ r := by
  obtain ⟨dx, fs, hr⟩ := h.ins
  refine ⟨fun z => ?_, fun z => by rw [z, hr] at e; exact n2 C dx fs (Option.some.inj e).symm⟩
  obtain ⟨ps, hT⟩ := h.tb b z
  rw [hT] at e; exact n1 ps (Option.some.inj e).symm
theorem TRs.keep {b : Addr} {u : HO} (h : TRs C Ts r H) (g : SXs Ts r H H') (e : H b = some u) (n1 : ∀ ps, u ≠ .tbl ps) (n2 : ∀ C dx fs, u ≠ .ins C dx fs) : H' b = some u := g b u (h.ne e n1 n2).1 (h.ne e n1 n2).2 e
theorem TRs.seqT {a : Addr} {xs : List V} (h : TRs C Ts r H) (g : SXs Ts r H H') (q : SqT K H a xs) : SqT K H' a xs := by
  rcases q with (q | ⟨o, q⟩) | q
  · exact .inl (.inl (h.keep g q (fun _ z => nomatch z) (fun _ _ _ z => nomatch z)))
  · exact .inl (.inr ⟨o, h.keep g q (fun _ z => nomatch z) (fun _ _ _ z => nomatch z)⟩)
  · exact .inr q
theorem TRs.lst {a : Addr} {xs : List V} (h : TRs C Ts r H) (g : SXs Ts r H H') (q : H a = some (.lst xs)) : H' a = some (.lst xs) := h.keep g q (fun _ z => nomatch z) (fun _ _ _ z => nomatch z)
theorem TRs.lam {f : Addr} {e : Expr} {cl : List (Str × Addr)} (h : TRs C Ts r H) (g : SXs Ts r H H') (q : LamAtC H f e cl) : LamAtC H' f e cl := by
  obtain ⟨qu, pm, c, ctv, h1, h2⟩ := q.ex
  exact ⟨qu, pm, c, ctv, h.keep g h1 (fun _ z => nomatch z) (fun _ _ _ z => nomatch z), h.keep g h2 (fun _ z => nomatch z) (fun _ _ _ z => nomatch z)⟩
end
structure ZOk (Ts : List Addr) (Z : Hp → Prop) : Prop where
  tb : ∀ H, Z H → ∀ T ∈ Ts, ∃ ps, H T = some (.tbl ps)
  sm : ∀ H H', Same H H' → Z H → Z H'
  ins : ∀ H H' r C dx fs, H r = some (.ins C dx fs) → SameX r H H' → Z H → Z H'
  lst : ∀ H a xs ys, H a = some (.lst xs) → Z H → Z (upd H a (.lst ys))
structure Rp (C : Addr) (Ts : List Addr) {α : Type} (Rv : (Addr → Prop) → Hp → V → α → Prop) : Prop where
  sx : ∀ ok H H' r v x, TRs C Ts r H → SXs Ts r H H' → Rv ok H v x → Rv ok H' v x
  pu : ∀ (ok : Addr → Prop) a xs ys H v x, (∀ b, ok b → b ≠ a) → H a = some (.lst xs) → Rv ok H v x → Rv ok (upd H a (.lst ys)) v x
  ex : ∀ ok H v x, Rv ok H v x → Rv (fun b => ok b ∧ H b ≠ none) H v x
  wk : ∀ (ok ok' : Addr → Prop) H v x, (∀ b, ok b → ok' b) → Rv ok H v x → Rv ok' H v x
inductive RL {α : Type} (Rv : (Addr → Prop) → Hp → V → α → Prop) (ok : Addr → Prop) (H : Hp) : List V → List α → Prop where
  | nil : RL Rv ok H [] []
  | cons {v : V} {vs : List V} {x : α} {xs : List α} : Rv ok H v x → RL Rv ok H vs xs → RL Rv ok H (v :: vs) (x :: xs)
theorem RL.imp {α : Type} {Rv : (Addr → Prop) → Hp → V → α → Prop} {ok ok' : Addr → Prop} {H H' : Hp} (k : ∀ v x, Rv ok H v x → Rv ok' H' v x) {vs : List V} {xs : List α} (h : RL Rv ok H vs xs) : RL Rv ok' H' vs xs := by
  induction h with
  | nil => exact .nil
  | cons a r ih => exact .cons (k _ _ a) ih
theorem RL.app {α : Type} {Rv : (Addr → Prop) → Hp → V → α → Prop} {ok : Addr → Prop} {H : Hp} {vs ws : List V} {xs ys : List α} (h : RL Rv ok H vs xs) (h2 : RL Rv ok H ws ys) : RL Rv ok H (vs ++ ws) (xs ++ ys) := by
  induction h with
  | nil => exact h2
  | cons a r ih => exact .cons a ih
theorem RL.len {α : Type} {Rv : (Addr → Prop) → Hp → V → α → Prop} {ok : Addr → Prop} {H : Hp} {vs : List V} {xs : List α} (h : RL Rv ok H vs xs) : vs.length = xs.length := by
  induction h with
  | nil => rfl
  | cons a r ih => rw [List.length_cons, List.length_cons, ih]
def spItem {α : Type} (C : Addr) (Ts : List Addr) (Z : Hp → Prop) (r l : Addr) (ws : List (List Nat)) (Rv : (Addr → Prop) → Hp → V → α → Prop) (Tk : α → List (List Nat) → Prop) (Fo : List (List Nat) → Prop) (ok : α → Prop) : Sp := fun vs H Q _ => ∃ (m : Nat) (x : α) (a rest : List (List Nat)), vs = [] ∧ RdAt C H r l ws m ∧ m ≤ ws.length ∧ ws.drop m = a ++ rest ∧ Tk x a ∧ Fo rest ∧ ok x ∧ Z H ∧
  ∀ (v : V) (H' : Hp), SXs Ts r H H' → RdAt C H' r l ws (m + a.length) → Rv (fun b => H b = none) H' v x → Z H' → Q v H'
theorem RdAt.trs {C r l : Addr} {Ts : List Addr} {Z : Hp → Prop} {H : Hp} {ws : List (List Nat)} {n : Nat} (h : RdAt C H r l ws n) (zo : ZOk Ts Z) (z : Z H) : TRs C Ts r H := by
  obtain ⟨dx, hx⟩ := h.ins
  exact ⟨zo.tb H z, dx, _, hx⟩
end K14
namespace K14
open PySem L2 K3 TM
inductive TkL {α : Type} (Tk : α → List (List Nat) → Prop) : List α → List (List Nat) → Prop where
  | nil : TkL Tk [] []
  | cons {x : α} {xs : List α} {a b : List (List Nat)} : Tk x a → TkL Tk xs b → TkL Tk (x :: xs) (a ++ b)
def brG {α : Type} (xs : List α) (us : List (List Nat)) : List (List Nat) := match xs with
  | [] => []
  | _ :: _ => [40] :: (us ++ [[41]])
def spInG {α : Type} (P : Program) (w : World) (K : PySem.W.Frag) (mg : Str → Option Value) (C : Addr) (Ts : List Addr) (Z : Hp → Prop) (Rv : (Addr → Prop) → Hp → V → α → Prop) (Tk : α → List (List Nat) → Prop) (Fo : List (List Nat) → Prop) (ok : α → Prop) (k : Nat) (g : Heap) : Sp := fun vs H Q _ => ∃ (r l L : Addr) (ws : List (List Nat)) (n : Nat) (xs : List α) (us rest : List (List Nat)) (e : Expr) (cl : List (Str × Addr)), vs = [.ref r, .ref L] ∧ RdAt C H r l ws n ∧ n ≤ ws.length ∧ ws.drop n = brG xs us ++ rest ∧ TkL Tk xs us ∧ (∀ x a, Tk x a → ∃ w q, a = w :: q ∧ w ≠ [41]) ∧ (∀ x a q, Tk x a → Fo (a ++ q)) ∧ (∀ q, Fo ([41] :: q)) ∧ (xs = [] → ah ws n ≠ [40]) ∧ (∀ x ∈ xs, ok x) ∧ xs.length ≤ 1000 ∧ LamAtC H L e cl ∧ CalC P w K mg g k e cl (spItem C Ts Z r l ws Rv Tk Fo ok) ∧ Z H ∧
  ∀ (b : Addr) (vs : List V) (H' : Hp), SXs Ts r H H' → RdAt C H' r l ws (n + (brG xs us).length) → SqT K H' b vs → RL Rv (fun c => H c = none) H' vs xs → Z H' → Q (.ref b) H'
section
variable {P : Program} {w : World} {K : PySem.W.Frag} {mg : Str → Option Value} {base : Heap} {f : Addr} {fd : FuncData} {C : Addr} {Ts : List Addr} {Z : Hp → Prop} {α : Type} {Rv : (Addr → Prop) → Hp → V → α → Prop} {Tk : α → List (List Nat) → Prop} {Fo : List (List Nat) → Prop} {ok : α → Prop}
theorem TkL.fol {xs : List α} {us : List (List Nat)} (h : TkL Tk xs us) (h1 : ∀ x a q, Tk x a → Fo (a ++ q)) {r : List (List Nat)} (hr : Fo r) : Fo (us ++ r) := by
  cases h with
  | nil => exact hr
  | cons a b => rw [List.append_assoc]; exact h1 _ _ _ a
theorem scInB : FnScope ["self", "take_one", "taken"] ["self", "take_one"] (defScope sInB) := ⟨rfl, rfl, rfl, by decide +kernel, rfl, by decide +kernel, by decide +kernel⟩
theorem ok_inG {k : Nat} (zo : ZOk Ts Z) (ro : Rp C Ts Rv) (F : Fun K "in_brackets" "Reader.in_brackets" sInB f fd) (G : Gm mg) (TT : RdT K mg C) (MP : Mt P w K mg base C 2 "passed" ["self", "sign"] (spPassed C)) : FnOk P w K mg base CX0 (k + 3) f fd ["self", "take_one"] (spInG P w K mg C Ts Z Rv Tk Fo ok (k + 2) base) := by
  refine F.ok scInB (fun vs H Q E h => ?_) (fun cdv A outer s H vs Q E hr h => ?_)
  · obtain ⟨r, l, L, ws, n, xs, us, rest, e, cl, rfl, _⟩ := h
    rfl
  obtain ⟨r, l, L, ws, n, xs, us, rest, e, cl, rfl, hR, hn, hd, ht, hT1, hT2, hf41, hnil, hok, hxl, hL, hC, hZ, q⟩ := h
  refine ⟨_, (pss_cons (ps_set (i := 2) scInB.nd rfl (Or.inl rfl) (pe_lst pa_nil))
    (pss_cons (ps_cut (ps_if (pt_val (pe_mt MP TT.cl hr (pv 0) (pa_cons (pe_str) pa_nil) (by omega))) (pss_cons (ps_expr (pe_bm PySem.F.plainAttrs_list PySem.F.slot_list_append PySem.F.type_list_append mt_append (pv 2) (pa_cons (pe_callV0 (i := 1) hC hr) pa_nil)))
    (pss_one (ps_while PassesOwn.never (pt_not (pt_val (pe_mt MP TT.cl hr (pv 0) (pa_cons (pe_str) pa_nil) (by omega)))) (pss_one (ps_expr (pe_bm PySem.F.plainAttrs_list PySem.F.slot_list_append PySem.F.type_list_append mt_append (pv 2) (pa_cons (pe_callV0 (i := 1) hC hr) pa_nil))))))) pss_nil))
    (pss_one (ps_ret (pe_callTy call_tuple_of rfl G.tup PyProof.Rows.boot_tuple (pa_cons (pv 2) pa_nil)))))), ?_⟩
  have e40 : S [40] = Str.ofString "(" := by decide +kernel
  have e41 : S [41] = Str.ofString ")" := by decide +kernel
  refine ⟨(by show 0 ≤ sizeLine; decide), fun lt hlt => ?_⟩
  have s1 := same_new hlt (.lst [])
  have f1 : upd H lt (.lst []) lt = some (.lst []) := upd_same
  have hR1 := hR.same s1
  have hZ1 := zo.sm _ _ s1 hZ
  have hL1 := hL.same s1
  generalize upd H lt (.lst []) = H1 at s1 f1 hR1 hZ1 hL1
  have free : ∀ {H' : Hp} {m : Nat} {b : Addr}, SXs Ts r H H' → Z H' → RdAt C H' r l ws m → H' b = none → H b = none := fun {H' m b} x h2 h3 h4 => by
    cases e : H b with
    | none => rfl
    | some u =>
      by_cases c1 : b ∈ Ts
      · obtain ⟨ps, h⟩ := zo.tb H' h2 b c1
        rw [h4] at h; cases h
      · by_cases c2 : b = r
        · obtain ⟨dx, h⟩ := h3.ins
          rw [← c2, h4] at h; cases h
        · have := x b u c1 c2 e
          rw [h4] at this; cases this
  have nel : l ≠ lt := fun z => by have h1 := hR.fl; rw [z, hlt] at h1; cases h1
  have neR : r ≠ lt := fun z => by
    obtain ⟨dx, h1⟩ := hR.ins
    rw [z, hlt] at h1; cases h1
  have growR : ∀ {H' : Hp} {ys' : List V} {p : Nat}, RdAt C H' r l ws p → RdAt C (upd H' lt (.lst ys')) r l ws p := fun {H' ys' p} h2 => by
    obtain ⟨⟨dx, h5⟩, h6⟩ := h2
    exact ⟨⟨dx, by rw [upd_ne neR]; exact h5⟩, by rw [upd_ne nel]; exact h6⟩
  have growL : ∀ {H' : Hp} {ys ys' : List V}, H' lt = some (.lst ys) → LamAtC H' L e cl → LamAtC (upd H' lt (.lst ys')) L e cl := fun {H' ys ys'} h1 h4 => by
    obtain ⟨qu, pm, c, ctv, h5, h6⟩ := h4.ex
    exact ⟨qu, pm, c, ctv, by rw [upd_ne (ne_of h5 h1 (by intro z; cases z))]; exact h5, by rw [upd_ne (ne_of h6 h1 (by intro z; cases z))]; exact h6⟩
  refine ⟨fun σ' H' => ∃ ys : List V, σ' = [some (.ref r), some (.ref L), some (.ref lt)] ∧ H' lt = some (.lst ys) ∧ SXs Ts r H H' ∧ RdAt C H' r l ws (n + (brG xs us).length) ∧ RL Rv (fun c => H c = none ∧ c ≠ lt) H' ys xs ∧ Z H', ?_, ?_⟩
  case refine_2 =>
    rintro σ H2 ⟨ys, rfl, hy, x2, hR2, ht2, hZ2⟩
    refine ⟨_, rfl, lt, ys, rfl, .inl ⟨SqL.of hy, fun tp htp => ?_⟩⟩
    have s3 := same_new htp (.tup ys)
    have tr2 := hR2.trs zo hZ2
    exact q tp ys _ (x2.trans (SXs.of s3)) (hR2.same s3) (SqT.of upd_same) (ht2.imp fun v x h => ro.wk _ _ _ _ _ (fun b hb => hb.1) (ro.sx _ _ _ r v x tr2 (SXs.of s3) h)) (zo.sm _ _ s3 hZ2)
  obtain ⟨dx, hx⟩ := hR1.ins
  cases ht with
  | nil =>
    exact ⟨_, rfl, r, dx, _, rfl, hx, rfl, r, l, ws, n, [40], (by rw [e40]; rfl), hR1, hn, fun _ => ⟨_, rfl, iteF ⟨[], rfl, f1, SXs.of s1, hR1, .nil, hZ1⟩⟩, fun z => absurd z (hnil rfl)⟩
  | @cons x0 xs' a b ht1 ht2 =>
  have hd' : ws.drop n = [40] :: ((a ++ b) ++ ([41] :: rest)) := by rw [hd]; simp [brG]
  obtain ⟨ha, hn1, hd1, _⟩ := ah_drop hd'
  refine ⟨_, rfl, r, dx, _, rfl, hx, rfl, r, l, ws, n, [40], (by rw [e40]; rfl), hR1, hn, fun z => absurd ha z, fun _ H2 g2 hR2 => ⟨_, rfl, iteT ?_⟩⟩
  have tr1 := hR1.trs zo hZ1
  have x2 : SXs Ts r H1 H2 := SXs.ofR g2
  have f2 := tr1.lst x2 f1
  have hZ2 := zo.ins _ _ r C dx _ hx g2 hZ1
  have hL2 := tr1.lam x2 hL1
  have tr2 := hR2.trs zo hZ2
  have x02 := (SXs.of s1 (Ts := Ts) (r := r)).trans x2
  have hda : ws.drop (n + 1) = a ++ (b ++ ([41] :: rest)) := by rw [hd1, List.append_assoc]
  have len : n + 1 + a.length + b.length + 1 = n + (brG (x0 :: xs') (a ++ b)).length := by simp [brG]; omega
  refine ⟨_, rfl, .inl ⟨rfl, _, SqL.of f2⟩, L, rfl, hL2, n + 1, x0, a, b ++ ([41] :: rest), rfl, hR2, by omega, hda, ht1, ht2.fol hT2 (hf41 _), hok x0 List.mem_cons_self, hZ2, fun v H3 x3 hR3 rv3 hZ3 => ?_⟩
  have f3 := tr2.lst x3 f2
  have hL3 := tr2.lam x3 hL2
  refine ⟨lt, [], v, rfl, rfl, f3, (by show 0 < sizeLine; decide), ?_⟩
  have rv3' : Rv (fun c => H c = none ∧ c ≠ lt) (upd H3 lt (.lst ([] ++ [v]))) v x0 := ro.pu _ lt [] _ H3 v x0 (fun b hb => hb.2) f3 (ro.wk _ _ _ _ _ (fun b hb => ⟨free x02 hZ2 hR2 hb, fun z => by rw [z, f2] at hb; cases hb⟩) rv3)
  have hR4 := growR (ys' := [] ++ [v]) hR3
  have hZ4 := zo.lst _ lt [] ([] ++ [v]) f3 hZ3
  have hL4 := growL (ys' := [] ++ [v]) f3 hL3
  have x14 : SXs Ts r H (upd H3 lt (.lst ([] ++ [v]))) := fun c u n1 n2 e => by
    rw [upd_ne (ne_of_none e hlt)]
    exact x3 c u n1 n2 (x02 c u n1 n2 e)
  have f4 : upd H3 lt (.lst ([] ++ [v])) lt = some (.lst ([] ++ [v])) := upd_same
  generalize upd H3 lt (.lst ([] ++ [v])) = H4 at hR4 hZ4 hL4 x14 rv3' f4
  refine ⟨fun m σ' H' => ∃ (ys : List V) (dn td : List α) (c : List (List Nat)) (p : Nat), σ' = [some (.ref r), some (.ref L), some (.ref lt)] ∧ x0 :: xs' = dn ++ td ∧ td.length = m ∧ H' lt = some (.lst ys) ∧ SXs Ts r H H' ∧ RdAt C H' r l ws p ∧ p ≤ ws.length ∧ ws.drop p = c ++ ([41] :: rest) ∧ TkL Tk td c ∧ p + c.length + 1 = n + (brG (x0 :: xs') (a ++ b)).length ∧ RL Rv (fun c => H c = none ∧ c ≠ lt) H' ys dn ∧ Z H' ∧ LamAtC H' L e cl,
    ⟨xs'.length, [] ++ [v], [x0], xs', b, n + 1 + a.length, rfl, rfl, rfl, f4, x14, hR4, drop_le (by omega) hda, drop_app hda, ht2, len, .cons rv3' .nil, hZ4, hL4⟩, ?_⟩
  rintro m σ H5 ⟨ys, dn, td, c, p, rfl, ets, hm, f5, x5, hR5, hp5, hd5, ht5, len5, rl5, hZ5, hL5⟩
  obtain ⟨dx5, hx5⟩ := hR5.ins
  have tr5 := hR5.trs zo hZ5
  refine ⟨_, rfl, r, dx5, _, rfl, hx5, rfl, r, l, ws, p, [41], (by rw [e41]; rfl), hR5, hp5, fun z => ?_, fun z H6 g6 hR6 => ⟨_, rfl, iteF ?_⟩⟩
  · cases ht5 with
    | nil => exact absurd (ah_drop hd5).1 z
    | @cons x2 td2 a2 b2 h1 h2 =>
    have hmem : x2 ∈ x0 :: xs' := by rw [ets]; exact List.mem_append_right _ List.mem_cons_self
    have hda2 : ws.drop p = a2 ++ (b2 ++ ([41] :: rest)) := by rw [hd5, List.append_assoc]
    have hyl := rl5.len
    have hdl : dn.length + (td2.length + 1) = xs'.length + 1 := by
      have := congrArg List.length ets
      simp at this; omega
    have hts' : xs'.length + 1 ≤ 1000 := hxl
    refine ⟨_, rfl, iteT ⟨fun σ' H' => ∃ m', m' < m ∧ ∃ (ys : List V) (dn td : List α) (c : List (List Nat)) (p : Nat), σ' = [some (.ref r), some (.ref L), some (.ref lt)] ∧ x0 :: xs' = dn ++ td ∧ td.length = m' ∧ H' lt = some (.lst ys) ∧ SXs Ts r H H' ∧ RdAt C H' r l ws p ∧ p ≤ ws.length ∧ ws.drop p = c ++ ([41] :: rest) ∧ TkL Tk td c ∧ p + c.length + 1 = n + (brG (x0 :: xs') (a ++ b)).length ∧ RL Rv (fun c => H c = none ∧ c ≠ lt) H' ys dn ∧ Z H' ∧ LamAtC H' L e cl, fun σ' H' h => h, ?_⟩⟩
    refine ⟨_, rfl, .inl ⟨rfl, _, SqL.of f5⟩, L, rfl, hL5, p, x2, a2, b2 ++ ([41] :: rest), rfl, hR5, hp5, hda2, h1, h2.fol hT2 (hf41 _), hok x2 hmem, hZ5, fun v6 H6 x6 hR6 rv6 hZ6 => ?_⟩
    have f6 := tr5.lst x6 f5
    have hL6 := tr5.lam x6 hL5
    refine ⟨lt, ys, v6, rfl, rfl, f6, Nat.lt_of_lt_of_le (show ys.length < 1001 by omega) (by decide), ?_⟩
    have rv6' : Rv (fun c => H c = none ∧ c ≠ lt) H6 v6 x2 := ro.wk _ _ _ _ _ (fun b hb => ⟨free x5 hZ5 hR5 hb, fun z => by rw [z, f5] at hb; cases hb⟩) rv6
    have rl6 : RL Rv (fun c => H c = none ∧ c ≠ lt) H6 ys dn := rl5.imp fun v x h => ro.sx _ _ _ r v x tr5 x6 h
    have hgp : ∀ v x, Rv (fun c => H c = none ∧ c ≠ lt) H6 v x → Rv (fun c => H c = none ∧ c ≠ lt) (upd H6 lt (.lst (ys ++ [v6]))) v x := fun v x h => ro.pu _ lt ys _ H6 v x (fun b hb => hb.2) f6 h
    refine ⟨td2.length, ?_, ys ++ [v6], dn ++ [x2], td2, b2, p + a2.length, rfl, by rw [ets]; simp, rfl, upd_same, fun c u n1 n2 e => ?_, growR hR6, drop_le hp5 hda2, drop_app hda2, h2, ?_, (rl6.imp hgp).app (.cons (hgp _ _ rv6') .nil), zo.lst _ lt ys _ f6 hZ6, growL f6 hL6⟩
    · rw [← hm]; exact Nat.lt_succ_self _
    · rw [upd_ne (ne_of_none e hlt)]
      exact x6 c u n1 n2 (x5 c u n1 n2 e)
    · rw [List.length_append] at len5; omega
  · have hc0 : td = [] ∧ c = [] := by
      cases ht5 with
      | nil => exact ⟨rfl, rfl⟩
      | @cons x2 td2 a2 b2 h1 h2 =>
        obtain ⟨w1, r1, rfl, hw1⟩ := hT1 _ _ h1
        have := (ah_drop (show ws.drop p = w1 :: (r1 ++ (b2 ++ ([41] :: rest))) by rw [hd5]; simp)).1
        rw [z] at this
        exact absurd this.symm hw1
    obtain ⟨rfl, rfl⟩ := hc0
    have x6 : SXs Ts r H5 H6 := SXs.ofR g6
    rw [List.append_nil] at ets
    have e6 : p + 1 = n + (brG (x0 :: xs') (a ++ b)).length := by simpa using len5
    rw [e6] at hR6
    exact ⟨ys, rfl, tr5.lst x6 f5, x5.trans x6, hR6, by rw [ets]; exact rl5.imp fun v x h => ro.sx _ _ _ r v x tr5 x6 h, zo.ins _ _ r C dx5 _ hx5 g6 hZ5⟩
end
end K14
namespace TT
open TM PySem
inductive Lab where
  | call (m b : Int)
  | put (nm : Str) (kept : Bool) (add : Int)
abbrev Tm := Tree Lab
def lcl : Lab → List (Int × Int)
  | .call m b => [(m, b)]
  | .put _ _ _ => []
def lab : Tm → Lab
  | .node l _ _ => l
mutual
def cls : Tm → List (Int × Int)
  | .node l _ bs => lcl l ++ clss bs
def clss : List Tm → List (Int × Int)
  | [] => []
  | t :: r => cls t ++ clss r
end
def hdF (f : Int → Int → Tm) : Lab → List Tm → Tm
  | .call m b, _ => f m b
  | .put n k a, ts => .node (.put n k a) 0 ts
mutual
def sub (f : Int → Int → Tm) : Tm → Tm
  | .node l _ bs => hdF f l (subs f bs)
def subs (f : Int → Int → Tm) : List Tm → List Tm
  | [] => []
  | t :: r => sub f t :: subs f r
end
def look (t : Tm) (p : List Int) : List (Int × Int) := match atT t p with
  | some u => lcl (lab u)
  | none => []
variable {R : Rows Lab}
variable {B B' : Nat → Tm} {f : Int → Int → Tm}
end TT
namespace L2
open PySem PyProof.Rows TM TT
abbrev CALL : Str := Str.ofString "call"
abbrev PUT : Str := Str.ofString "put"
end L2
namespace K14
open PySem L2 K3 TM K9
inductive LN where
  | call (m : List Nat) (b : Int)
  | put (n : List Nat) (k : Bool) (a : Int)
abbrev TN := Tree LN
mutual
inductive TnV (K : PySem.W.Frag) (H : Hp) : V → TN → Prop where
  | call {a : Addr} {m : List Nat} {b : Int} : SqT K H a [.str CALL, .str (S m), .int b] → TnV K H (.ref a) (.node (.call m b) 0 [])
  | put {a b : Addr} {vs : List V} {ts : List TN} {n : List Nat} {k : Bool} {ad : Int} : SqT K H a [.str PUT, .str (S n), .bl k, .int ad, .ref b] → SqT K H b vs → TnAll K H vs ts → vs.length ≤ 1000 → TnV K H (.ref a) (.node (.put n k ad) 0 ts)
inductive TnAll (K : PySem.W.Frag) (H : Hp) : List V → List TN → Prop where
  | nil : TnAll K H [] []
  | cons {v : V} {vs : List V} {t : TN} {ts : List TN} : TnV K H v t → TnAll K H vs ts → TnAll K H (v :: vs) (t :: ts)
end
mutual
theorem TnV.mono {K : PySem.W.Frag} {H H' : Hp} (k : ∀ a xs, SqT K H a xs → SqT K H' a xs) : ∀ {v : V} {t : TN}, TnV K H v t → TnV K H' v t
  | _, _, .call h => .call (k _ _ h)
  | _, _, .put h1 h2 h3 h4 => .put (k _ _ h1) (k _ _ h2) (TnAll.mono k h3) h4
theorem TnAll.mono {K : PySem.W.Frag} {H H' : Hp} (k : ∀ a xs, SqT K H a xs → SqT K H' a xs) : ∀ {vs : List V} {ts : List TN}, TnAll K H vs ts → TnAll K H' vs ts
  | _, _, .nil => .nil
  | _, _, .cons h t => .cons (TnV.mono k h) (TnAll.mono k t)
end
def kpW (k : Bool) : List (List Nat) := if k = true then [[61]] else []
def Mks (m : Int) (ms : List (List Nat)) : Prop := ms = [sh m] ∨ m = 0 ∧ ms = []
mutual
inductive Tkt : TN → List (List Nat) → Prop where
  | call {m : List Nat} {b : Int} : Nm m → b.natAbs < 10 ^ 60 → Tkt (.node (.call m b) 0 []) [[42], m, sh b]
  | put {n : List Nat} {k : Bool} {ad : Int} {ts : List TN} {ms us : List (List Nat)} : Nm n → ad.natAbs < 10 ^ 60 → Mks ad ms → TktL ts us → ts.length ≤ 1000 → Tkt (.node (.put n k ad) 0 ts) (n :: (kpW k ++ (ms ++ brG ts us)))
inductive TktL : List TN → List (List Nat) → Prop where
  | nil : TktL [] []
  | cons {t : TN} {ts : List TN} {a b : List (List Nat)} : Tkt t a → TktL ts b → TktL (t :: ts) (a ++ b)
end
theorem TktL.all {ts : List TN} : ∀ {us : List (List Nat)}, TktL ts us → TkL Tkt ts us := by
  induction ts with
  | nil => intro us h; cases h; exact .nil
  | cons t ts ih => intro us h; cases h with | cons h1 h2 => exact .cons h1 (ih h2)
def Fol (rest : List (List Nat)) : Prop := ∀ w, rest[0]? = some w → beg w numL = false ∧ w ≠ [40] ∧ w ≠ [61]
theorem Fol.nil : Fol [] := fun w h => by simp at h
theorem Fol.cons {u : List Nat} {r : List (List Nat)} (h : beg u numL = false ∧ u ≠ [40] ∧ u ≠ [61]) : Fol (u :: r) := fun w e => by
  have : u = w := by simpa using e
  rw [← this]; exact h
theorem let_no : ∀ c ∈ letL, c ∉ numL ∧ c ≠ 40 ∧ c ≠ 61 ∧ c ≠ 42 ∧ c ≠ 41 := by decide
theorem Nm.begs {w : List Nat} (h : Nm w) : beg w letL = true ∧ beg w numL = false ∧ w ≠ [40] ∧ w ≠ [61] ∧ w ≠ [42] ∧ w ≠ [41] := by
  cases w with
  | nil => exact absurd rfl h.ne
  | cons c r =>
    have hc := h.all c List.mem_cons_self
    obtain ⟨a, b, d, e, g⟩ := let_no c hc
    refine ⟨decide_eq_true hc, decide_eq_false a, fun z => ?_, fun z => ?_, fun z => ?_, fun z => ?_⟩
    · injection z with z1 _; exact b z1
    · injection z with z1 _; exact d z1
    · injection z with z1 _; exact e z1
    · injection z with z1 _; exact g z1
theorem Tkt.head {t : TN} {a : List (List Nat)} (h : Tkt t a) : ∃ w q, a = w :: q ∧ w ≠ [41] ∧ beg w numL = false ∧ w ≠ [40] ∧ w ≠ [61] := by
  cases h with
  | call h1 h2 => exact ⟨_, _, rfl, by decide, by decide, by decide, by decide⟩
  | put h1 => exact ⟨_, _, rfl, h1.begs.2.2.2.2.2, h1.begs.2.1, h1.begs.2.2.1, h1.begs.2.2.2.1⟩
theorem Tkt.fol {t : TN} {a : List (List Nat)} (q : List (List Nat)) (h : Tkt t a) : Fol (a ++ q) := by
  obtain ⟨w, r, rfl, _, h1, h2, h3⟩ := h.head
  exact Fol.cons ⟨h1, h2, h3⟩
theorem ah_nil {ws : List (List Nat)} {n : Nat} (h : ws.drop n = []) : ah ws n = [] := by
  unfold ah
  rw [List.getElem?_eq_none (List.drop_eq_nil_iff.mp h)]; rfl
theorem ah_len {ws : List (List Nat)} (hW : ∀ w ∈ ws, w.length ≤ 61) (n : Nat) : (ah ws n).length ≤ 100 := by
  unfold ah
  cases e : ws[n]? with
  | none => simp
  | some w => have := hW w (List.mem_of_getElem? e); show w.length ≤ 100; omega
theorem ah_fol {ws rest : List (List Nat)} {n : Nat} (h : ws.drop n = rest) (hf : Fol rest) : beg (ah ws n) numL = false ∧ ah ws n ≠ [40] ∧ ah ws n ≠ [61] := by
  cases rest with
  | nil => rw [ah_nil h]; exact ⟨rfl, by decide, by decide⟩
  | cons w r => rw [(ah_drop h).1]; exact hf w rfl
theorem beg_sh (b : Int) : beg (sh b) numL = true := by
  obtain ⟨c0, r0, e0, h0⟩ := sh_head b
  rw [e0]
  refine decide_eq_true ?_
  rcases h0 with h0 | h0
  · exact List.mem_append_left _ h0
  · rw [h0]; exact List.mem_append_right _ List.mem_cons_self
def eltOf (e : Expr) (i : Nat) : Expr := match e with
  | .Tuple es .. => es.getD i (.Constant .none 0 ⟨0, 0, 0, 0⟩)
  | _ => .Constant .none 0 ⟨0, 0, 0, 0⟩
abbrev eL : Expr := argOf (eltOf (retOf sTermF) 4) 0
abbrev qL : Str := (PyProof.Rows.envOfC "term_from" (defScope sTermF) 0 0 .none).qual ++ "<lambda>"
abbrev pL : Pos := lamPos eL
theorem tbs_ins {H H' : Hp} {T r C dx : Addr} {fs : List (Str × V)} {pos : Pos} {qual : Str} (hr : H r = some (.ins C dx fs)) (g : SameX r H H') (h : TbS H T pos qual) : TbS H' T pos qual := by
  rcases h with q | ⟨c, q, q2⟩
  · exact .inl (g _ _ (ne_of q hr (by intro z; cases z)) q)
  · exact .inr ⟨c, g _ _ (ne_of q hr (by intro z; cases z)) q, g _ _ (ne_of q2 hr (by intro z; cases z)) q2⟩
theorem tbs_lst {H : Hp} {T a : Addr} {xs ys : List V} {pos : Pos} {qual : Str} (ha : H a = some (.lst xs)) (h : TbS H T pos qual) : TbS (upd H a (.lst ys)) T pos qual := by
  rcases h with q | ⟨c, q, q2⟩
  · exact .inl (by rw [upd_ne (ne_of q ha (by intro z; cases z))]; exact q)
  · exact .inr ⟨c, by rw [upd_ne (ne_of q ha (by intro z; cases z))]; exact q, by rw [upd_ne (ne_of q2 ha (by intro z; cases z))]; exact q2⟩
def Z1 (T : Addr) (H : Hp) : Prop := TbS H T pL qL
theorem z1_ok (T : Addr) : ZOk [T] (Z1 T) := by
  refine ⟨fun H z U hU => ?_, fun H H' g z => z.same g, fun H H' r C dx fs hr g z => tbs_ins hr g z, fun H a xs ys ha z => tbs_lst ha z⟩
  obtain rfl := List.mem_singleton.mp hU
  exact z.at
def RvT (K : PySem.W.Frag) (_ : Addr → Prop) (H : Hp) (v : V) (t : TN) : Prop := TnV K H v t
theorem sq_put {K : PySem.W.Frag} {H : Hp} {a d : Addr} {xs ys : List V} {o : HO} (h : SqT K H a xs) (hd : H d = some (.lst ys)) : SqT K (upd H d o) a xs := by
  rcases h with (h | ⟨ob, h⟩) | h
  · exact .inl (.inl (by rw [upd_ne (ne_of h hd (by intro z; cases z))]; exact h))
  · exact .inl (.inr ⟨ob, by rw [upd_ne (ne_of h hd (by intro z; cases z))]; exact h⟩)
  · exact .inr h
theorem rpT (K : PySem.W.Frag) (C : Addr) (Ts : List Addr) : Rp C Ts (RvT K) :=
  ⟨fun _ _ _ _ _ _ tr g h => TnV.mono (fun _ _ q => tr.seqT g q) h, fun _ _ _ _ _ _ _ _ ha h => TnV.mono (fun _ _ q => sq_put q ha) h, fun _ _ _ _ h => h, fun _ _ _ _ _ _ h => h⟩
theorem rl_all {K : PySem.W.Frag} {ok : Addr → Prop} {H : Hp} {vs : List V} {ts : List TN} (h : RL (RvT K) ok H vs ts) : TnAll K H vs ts := by
  induction h with
  | nil => exact .nil
  | cons a _ ih => exact .cons a ih
def spTermF (K : PySem.W.Frag) (C T : Addr) (n : Nat) : Sp := fun vs H Q _ => ∃ (r l : Addr) (ws : List (List Nat)) (m : Nat) (rm : Int) (t : TN) (a rest : List (List Nat)), vs = [.ref r, .int rm] ∧ RdAt C H r l ws m ∧ (∀ w ∈ ws, w.length ≤ 61) ∧ m ≤ ws.length ∧ ws.drop m = a ++ rest ∧ Tkt t a ∧ Fol rest ∧ lv t ≤ n ∧ (lv t : Int) ≤ rm + 1 ∧ Z1 T H ∧
  ∀ (v : V) (H' : Hp), SXs [T] r H H' → RdAt C H' r l ws (m + a.length) → TnV K H' v t → Z1 T H' → Q v H'
section
variable {P : Program} {w : World} {K : PySem.W.Frag} {mg : Str → Option Value} {base : Heap} {f : Addr} {fd : FuncData} {C T c : Addr}
theorem scTermF : FnScope ["reader", "room", "mode", "name", "kept", "add"] ["reader", "room"] (defScope sTermF) := ⟨rfl, rfl, rfl, by decide +kernel, rfl, by decide +kernel, by decide +kernel⟩
theorem lam_free : ∀ y ∈ (lamScope eL).names, y.2 ≠ NameKind.cell ∧ y.2 ≠ NameKind.local := by decide +kernel
theorem lam_two : ∀ y ∈ (lamScope eL).names, y.2 = NameKind.free → y.1 = Str.ofString "reader" ∨ y.1 = Str.ofString "room" := by decide +kernel
theorem ne_rr : Str.ofString "reader" ≠ Str.ofString "room" := by decide +kernel
theorem ok_termF {n : Nat} {fI : Addr} {fdI : FuncData} (F : Fun K "term_from" "term_from" sTermF f fd) (hn : PySem.W.nsIn K mainGlobals "term_from" = some (some (.ref f))) (hTb : PySem.W.tabIn K "term_from" = some (c, T)) (hC : PySem.W.codeHdIn K c T = true) (hB : BtAt mg base) (TT : RdT K mg C)
    (MP : Mt P w K mg base C 2 "passed" ["self", "sign"] (spPassed C)) (MN : Mt P w K mg base C 3 "take_name" ["self"] (spTakeN C)) (MA : Mt P w K mg base C 2 "at_number" ["self"] (spAt C numL)) (MI : Mt P w K mg base C 3 "take_number" ["self"] (spTakeI C)) (mI : Meth K C "in_brackets" fI) (bI : Binds K fdI ["self", "take_one"] [])
    (FI : ∀ (ok : TN → Prop) (g : Heap), FnOk P w K mg g CX0 (3 * n + 3 + 3) fI fdI ["self", "take_one"] (spInG P w K mg C [T] (Z1 T) (RvT K) Tkt Fol ok (3 * n + 3 + 2) g))
    (R : ∀ g : Heap, BtAt mg g → Fn P w K mg g (3 * n + 4) "term_from" ["reader", "room"] (spTermF K C T n)) : FnOk P w K mg base CX0 (3 * n + 7) f fd ["reader", "room"] (spTermF K C T (n + 1)) := by
  refine Fun.okC F hn hTb scTermF (fun vs H Q E h => ?_) (fun A outer s H vs Q E hr h => ?_)
  · obtain ⟨r, l, ws, m, rm, t, a, rest, rfl, _⟩ := h
    rfl
  obtain ⟨r, l, ws, m, rm, t, a, rest, rfl, hR, hW, hmw, hd, ht, hf, hlv, hrm, tb, q⟩ := h
  refine ⟨_, (pss_cons (ps_if (pt_cmpR op_lt (pv 1) pe_int (nomark _)) pss_never pss_nil)
    (pss_cons (ps_if (pt_val (pe_mt MP TT.cl hr (pv 0) (pa_cons (pe_str) pa_nil) (by omega))) (pss_cons (ps_set (i := 2) scTermF.nd rfl (Or.inl rfl) (pe_mt0 MN TT.cl hr (pv 0) (by omega)))
    (pss_one (ps_ret (pe_tup (pa_cons (pe_str) (pa_cons (pv 2) (pa_cons (pe_mt0 MI TT.cl hr (pv 0) (by omega)) pa_nil))))))) pss_nil)
    (pss_cons (ps_set (i := 3) scTermF.nd rfl (Or.inl rfl) (pe_mt0 MN TT.cl hr (pv 0) (by omega)))
    (pss_cons (ps_cut (ps_set (i := 4) scTermF.nd rfl (Or.inl rfl) (pe_mt MP TT.cl hr (pv 0) (pa_cons (pe_str) pa_nil) (by omega))))
    (pss_cons (ps_cut (ps_set (i := 5) scTermF.nd rfl (Or.inl rfl) (pe_ifExp (pt_val (pe_mt0 MA TT.cl hr (pv 0) (by omega))) (pe_mt0 MI TT.cl hr (pv 0) (by omega)) pe_int)))
    (pss_one (ps_ret (pe_tup (pa_cons (pe_str) (pa_cons (pv 3) (pa_cons (pv 4) (pa_cons (pv 5) (pa_cons (pe_methB (pv 0) TT.cl mI (fun g _ => FI (fun t => lv t ≤ n ∧ (lv t : Int) ≤ rm) g) hr bI .nil (fun _ => rfl) (pa_cons (pe_lamC (c := c) (T := T) rfl hC hB) pa_nil)) pa_nil))))))))))))), ?_⟩
  have hl1 : 1 ≤ lv t := by rw [lv_bs]; omega
  have zo := z1_ok T
  have e42 : Str.ofString "*" = S [42] := by decide +kernel
  have e61 : Str.ofString "=" = S [61] := by decide +kernel
  obtain ⟨dx, hx⟩ := hR.ins
  refine ⟨_, rfl, _, _, rfl, rfl, _, rfl, iteN (by omega) ?_⟩
  rw [e42]
  refine ⟨_, rfl, r, dx, _, rfl, hx, rfl, r, l, ws, m, [42], rfl, hR, hmw, fun hne => ⟨_, rfl, iteF ?_⟩, fun heq H1 g1 hR1 => ⟨_, rfl, iteT ?_⟩⟩
  · -- a put
    cases ht with
    | call _ _ => exact absurd (ah_drop (show ws.drop m = [42] :: _ from hd)).1 hne
    | @put wn k ad ts ms us hw hmk hms hts hlen =>
    rw [lv] at hlv hrm
    have hd0 : ws.drop m = wn :: ((kpW k ++ (ms ++ brG ts us)) ++ rest) := hd
    obtain ⟨ha, hm1, hd1, _⟩ := ah_drop hd0
    refine ⟨_, rfl, r, dx, _, rfl, hx, rfl, r, l, ws, m, rfl, hR, by omega, ah_len hW m, by rw [ha]; exact hw.begs.1, fun H1 g1 hR1 => ?_⟩
    rw [ha]
    have z1 : Z1 T H1 := zo.ins _ _ r C dx _ hx g1 tb
    have x1 : SXs [T] r H H1 := SXs.ofR g1
    obtain ⟨dx1, hx1⟩ := hR1.ins
    rw [e61]
    refine ⟨fun σ' H' => ∃ p : Nat, σ' = [some (.ref r), some (.int rm), none, some (.str (S wn)), some (.bl k), none] ∧ SXs [T] r H H' ∧ RdAt C H' r l ws p ∧ p ≤ ws.length ∧ ws.drop p = (ms ++ brG ts us) ++ rest ∧ p + (ms ++ brG ts us).length = m + (wn :: (kpW k ++ (ms ++ brG ts us))).length ∧ Z1 T H', ?_, ?_⟩
    · refine ⟨_, rfl, r, dx1, _, rfl, hx1, rfl, r, l, ws, m + 1, [61], rfl, hR1, by omega, fun hne => ?_, fun heq H2 g2 hR2 => ?_⟩
      · cases k with
        | true => exact absurd (ah_drop (show ws.drop (m + 1) = [61] :: _ from hd1)).1 hne
        | false => exact ⟨m + 1, rfl, x1, hR1, by omega, hd1, by simp [kpW]; omega, z1⟩
      · cases k with
        | false =>
          exfalso
          have hd1' : ws.drop (m + 1) = (ms ++ brG ts us) ++ rest := hd1
          rcases hms with rfl | ⟨_, rfl⟩
          · have := (ah_drop (show ws.drop (m + 1) = sh ad :: _ from hd1')).1
            rw [this] at heq
            have := beg_sh ad
            rw [heq] at this
            cases this
          · cases ts with
            | nil => exact (ah_fol (show ws.drop (m + 1) = rest from hd1') hf).2.2 heq
            | cons t0 ts0 =>
              rw [(ah_drop (show ws.drop (m + 1) = [40] :: _ from hd1')).1] at heq
              cases heq
        | true =>
          obtain ⟨_, hm2, hd2, _⟩ := ah_drop (show ws.drop (m + 1) = [61] :: ((ms ++ brG ts us) ++ rest) from hd1)
          exact ⟨m + 1 + 1, rfl, x1.trans (SXs.ofR g2), hR2, by omega, hd2, by simp [kpW]; omega, zo.ins _ _ r C dx1 _ hx1 g2 z1⟩
    rintro σ H2 ⟨p, rfl, x2, hR2, hp, hd2, hlen2, z2⟩
    obtain ⟨dx2, hx2⟩ := hR2.ins
    refine ⟨fun σ' H' => ∃ p : Nat, σ' = [some (.ref r), some (.int rm), none, some (.str (S wn)), some (.bl k), some (.int ad)] ∧ SXs [T] r H H' ∧ RdAt C H' r l ws p ∧ p ≤ ws.length ∧ ws.drop p = brG ts us ++ rest ∧ p + (brG ts us).length = m + (wn :: (kpW k ++ (ms ++ brG ts us))).length ∧ Z1 T H', ?_, ?_⟩
    · refine ⟨_, rfl, r, dx2, _, rfl, hx2, rfl, r, l, ws, p, rfl, hR2, hp, ah_len hW _, _, rfl, ?_⟩
      rcases hms with rfl | ⟨rfl, rfl⟩
      · have hd3 : ws.drop p = sh ad :: (brG ts us ++ rest) := hd2
        obtain ⟨hb, hm2, hd4, _⟩ := ah_drop hd3
        have bg : beg (ah ws p) numL = true := by rw [hb]; exact beg_sh ad
        rw [bg]
        refine iteT ⟨_, rfl, r, dx2, _, rfl, hx2, rfl, r, l, ws, p, ad, rfl, hR2, hp, ah_len hW _, bg, by rw [hb]; exact read_sh hmk, fun H3 g3 hR3 => ?_⟩
        exact ⟨p + 1, rfl, x2.trans (SXs.ofR g3), hR3, by omega, hd4, by simp at hlen2 ⊢; omega, zo.ins _ _ r C dx2 _ hx2 g3 z2⟩
      · have hd3 : ws.drop p = brG ts us ++ rest := hd2
        have bg : beg (ah ws p) numL = false := by
          cases ts with
          | nil => exact (ah_fol (show ws.drop p = rest from hd3) hf).1
          | cons t0 ts0 => rw [(ah_drop (show ws.drop p = [40] :: _ from hd3)).1]; decide
        rw [bg]
        exact iteF ⟨p, rfl, x2, hR2, hp, hd3, by simp at hlen2 ⊢; omega, z2⟩
    rintro σ H3 ⟨p, rfl, x3, hR3, hp, hd3, hlen3, z3⟩
    obtain ⟨dx3, hx3⟩ := hR3.ins
    refine ⟨_, rfl, _, rfl, _, rfl, _, rfl, r, dx3, _, rfl, hx3, rfl, z3, fun L H4 x4 hL0 hL4 tb4 g hs hc => ?_⟩
    obtain ⟨pss, hps⟩ := TbS.at z3
    have nr : r ≠ T := fun z => by rw [z, hps] at hx3; cases hx3
    have nl : l ≠ T := fun z => by have h := hR3.fl; rw [z, hps] at h; cases h
    have hR4 : RdAt C H4 r l ws p := ⟨⟨dx3, x4 _ _ nr hx3⟩, x4 _ _ nl hR3.fl⟩
    obtain ⟨c1, u1, e1, i1, v1⟩ := hc 0 "reader" (.ref r) rfl rfl rfl
    obtain ⟨c2, u2, e2, i2, v2⟩ := hc 1 "room" (.int rm) rfl rfl rfl
    have hlv' : ∀ t0 ∈ ts, lv t0 ≤ n ∧ (lv t0 : Int) ≤ rm := fun t0 ht0 => by
      have := lv_le ht0
      omega
    refine ⟨r, l, L, ws, p, ts, us, rest, eL, _, rfl, hR4, hp, hd3, hts.all, fun x a hx => ?_, fun x a q hx => hx.fol q, fun q => Fol.cons ⟨by decide, by decide, by decide⟩, fun hts0 => ?_, fun t0 ht0 => hlv' t0 ht0, hlen, hL4, ?_, tb4, fun b vs H5 x5 hR5 sq5 rl5 z5 => ⟨(by show 5 ≤ sizeLine; decide), fun tp htp => ?_⟩⟩
    · obtain ⟨w0, q0, e0, h0, _⟩ := hx.head
      exact ⟨w0, q0, e0, h0⟩
    · subst hts0
      exact (ah_fol (show ws.drop p = rest from hd3) hf).2.1
    · obtain rfl : s.heap.objs.size + 1 = c1 := Option.some.inj e1
      obtain rfl : s.heap.objs.size + 1 + 1 = c2 := Option.some.inj e2
      have hcl := ClAt.two ne_rr (Nat.ne_of_lt (Nat.lt_succ_self _)) i1 i2 v1 v2
      refine lam_runC (k := 3 * n + 4) (N := ["reader", "room"]) (vs := [.ref r, .int rm]) rfl rfl rfl lam_free (fun x hx => ?_) hcl (fun _ _ _ _ => rfl) (fun qual' f' c' A' outer' s' H' Q' E' hr' h' => ?_)
      · rcases lam_two _ (PySem.mem_of_lookup hx) rfl with z | z
        · have z' : x = Str.ofString "reader" := z
          rw [z']
          obtain ⟨c0, u0, e0, _⟩ := hcl.val 0 (Str.ofString "reader") (.ref r) rfl rfl
          exact ⟨c0, e0⟩
        · have z' : x = Str.ofString "room" := z
          rw [z']
          obtain ⟨c0, u0, e0, _⟩ := hcl.val 1 (Str.ofString "room") (.int rm) rfl rfl
          exact ⟨c0, e0⟩
      · obtain ⟨m', t', a', rest', _, hR', hm', hd', ht', hf', hok', z', q'⟩ := h'
        refine ⟨_, pe_fn (R g (hB.sub hs)) hr' (pa_cons (pv 0) (pa_cons (pe_op op_sub (pv 1) pe_int) pa_nil)) (Nat.le_refl _), ?_⟩
        exact ⟨_, rfl, _, rfl, _, _, rfl, rfl, r, l, ws, m', rm - 1, t', a', rest', rfl, hR', hW, hm', hd', ht', hf', hok'.1, (by have := hok'.2; omega), z', q'⟩
    · have s6 := same_new htp (.tup [.str PUT, .str (S wn), .bl k, .int ad, .ref b])
      rw [hlen3] at hR5
      have hl5 := rl5.len
      exact q _ _ ((x3.trans (SXs.ofT (List.mem_singleton.mpr rfl) x4)).trans (x5.trans (SXs.of s6))) (hR5.same s6) (.put (SqT.of upd_same) (s6.seqT sq5) (TnAll.mono (fun _ _ h => s6.seqT h) (rl_all rl5)) (by omega)) (zo.sm _ _ s6 z5)
  · -- a call
    cases ht with
    | @put wn k ad ts ms us hw hmk hms hts hlen =>
      exfalso
      rw [(ah_drop (show ws.drop m = wn :: _ from hd)).1] at heq
      exact hw.begs.2.2.2.2.1 heq
    | @call mn b hw hb =>
      obtain ⟨_, hm1, hd1, _⟩ := ah_drop (show ws.drop m = [42] :: (mn :: sh b :: rest) from hd)
      obtain ⟨ha1, hm2, hd2, _⟩ := ah_drop hd1
      obtain ⟨ha2, hm3, hd3, _⟩ := ah_drop hd2
      obtain ⟨dx1, hx1⟩ := hR1.ins
      have z1 : Z1 T H1 := zo.ins _ _ r C dx _ hx g1 tb
      refine ⟨_, rfl, r, dx1, _, rfl, hx1, rfl, r, l, ws, m + 1, rfl, hR1, by omega, ah_len hW _, by rw [ha1]; exact hw.begs.1, fun H2 g2 hR2 => ?_⟩
      rw [ha1]
      obtain ⟨dx2, hx2⟩ := hR2.ins
      have z2 : Z1 T H2 := zo.ins _ _ r C dx1 _ hx1 g2 z1
      refine ⟨_, rfl, _, rfl, r, dx2, _, rfl, hx2, rfl, r, l, ws, m + 1 + 1, b, rfl, hR2, by omega, ah_len hW _, by rw [ha2]; exact beg_sh b, by rw [ha2]; exact read_sh hb, fun H3 g3 hR3 => ⟨(by show 3 ≤ sizeLine; decide), fun tp htp => ?_⟩⟩
      have s6 := same_new htp (.tup [.str CALL, .str (S mn), .int b])
      exact q _ _ ((SXs.ofR g1).trans ((SXs.ofR g2).trans ((SXs.ofR g3).trans (SXs.of s6)))) (hR3.same s6) (.call (SqT.of upd_same)) (zo.sm _ _ s6 (zo.ins _ _ r C dx2 _ hx2 g3 z2))
theorem none_termF {k : Nat} : FnOk P w K mg base CX0 k f fd ["reader", "room"] (spTermF K C T 0) := by
  have no : ∀ vs H Q E, ¬ spTermF K C T 0 vs H Q E := fun vs H Q E h => by
    obtain ⟨r, l, ws, m, rm, t, a, rest, _, _, _, _, _, _, _, h0, _⟩ := h
    rw [lv_bs] at h0; omega
  exact ⟨fun vs H Q E h => absurd h (no vs H Q E), fun A outer s H args us vs Q E _ _ _ _ h => absurd h (no vs H Q E)⟩
structure RdM (P : Program) (w : World) (K : PySem.W.Frag) (mg : Str → Option Value) (C : Addr) : Prop where
  ps : ∀ g : Heap, Mt P w K mg g C 2 "passed" ["self", "sign"] (spPassed C)
  tn : ∀ g : Heap, Mt P w K mg g C 3 "take_name" ["self"] (spTakeN C)
  an : ∀ g : Heap, Mt P w K mg g C 2 "at_number" ["self"] (spAt C numL)
  ti : ∀ g : Heap, Mt P w K mg g C 3 "take_number" ["self"] (spTakeI C)
  nd : ∀ g : Heap, Mt P w K mg g C 3 "need" ["self", "sign"] (spNeed C)
  en : ∀ g : Heap, Mt P w K mg g C 2 "need_end" ["self"] (spEnd C)
  ib : ∃ (fI : Addr) (fdI : FuncData), Meth K C "in_brackets" fI ∧ Binds K fdI ["self", "take_one"] [] ∧ ∀ (T : Addr) (ok : TN → Prop) (k : Nat) (g : Heap), FnOk P w K mg g CX0 (k + 3) fI fdI ["self", "take_one"] (spInG P w K mg C [T] (Z1 T) (RvT K) Tkt Fol ok (k + 2) g)
theorem all_termF (F : Fun K "term_from" "term_from" sTermF f fd) (hn : PySem.W.nsIn K mainGlobals "term_from" = some (some (.ref f))) (hTb : PySem.W.tabIn K "term_from" = some (c, T)) (hC : PySem.W.codeHdIn K c T = true) (TT : RdT K mg C) (M : RdM P w K mg C) (hb : Binds K fd ["reader", "room"] []) (hm : mg "term_from" = some (.ref f)) : ∀ (n : Nat) (g : Heap), BtAt mg g → FnOk P w K mg g CX0 (3 * n + 4) f fd ["reader", "room"] (spTermF K C T n)
  | 0, _, _ => none_termF
  | n + 1, g, hB => by
    obtain ⟨fI, fdI, mI, bI, FI⟩ := M.ib
    exact ok_termF F hn hTb hC hB TT (M.ps g) (M.tn g) (M.an g) (M.ti g) mI bI (fun ok g => FI T ok (3 * n + 3) g) fun g' hB' => ⟨f, fd, all_termF F hn hTb hC TT M hb hm n g' hB', hb, F.kp, hm⟩
structure RuN where
  m : List Nat
  k : List Nat
  n : List Nat
  t : TN
structure RuV (K : PySem.W.Frag) (H : Hp) (v : V) (x : RuN) : Prop where
  ex : ∃ (a : Addr) (tv : V), v = .ref a ∧ SqT K H a [.str (S x.m), .str (S x.k), .str (S x.n), tv] ∧ TnV K H tv x.t
inductive TkR (d : Nat) : RuN → List (List Nat) → Prop where
  | mk {m k n : List Nat} {t : TN} {a : List (List Nat)} : Nm m → Nm k → Nm n → Tkt t a → lv t ≤ d → TkR d ⟨m, k, n, t⟩ (m :: k :: n :: [58] :: a)
def spRuleF (K : PySem.W.Frag) (C T : Addr) : Sp := fun vs H Q _ => ∃ (r l : Addr) (ws : List (List Nat)) (m : Nat) (x : RuN) (a rest : List (List Nat)), vs = [.ref r] ∧ RdAt C H r l ws m ∧ (∀ w ∈ ws, w.length ≤ 61) ∧ m ≤ ws.length ∧ ws.drop m = a ++ rest ∧ TkR 9 x a ∧ Fol rest ∧ Z1 T H ∧
  ∀ (v : V) (H' : Hp), SXs [T] r H H' → RdAt C H' r l ws (m + a.length) → RuV K H' v x → Z1 T H' → Q v H'
theorem scRuleF : FnScope ["reader", "mode", "kind", "name"] ["reader"] (defScope sRuleF) := ⟨rfl, rfl, rfl, by decide +kernel, rfl, by decide +kernel, by decide +kernel⟩
theorem ok_ruleF (F : Fun K "rule_from" "rule_from" sRuleF f fd) (TT : RdT K mg C) (M : RdM P w K mg C) (hmb : ∃ t, mg "MOST_BRACKETS" = some (.int 8 t)) (R : Fn P w K mg base 31 "term_from" ["reader", "room"] (spTermF K C T 9)) : FnOk P w K mg base CX0 32 f fd ["reader"] (spRuleF K C T) := by
  refine F.ok scRuleF (fun vs H Q E h => ?_) (fun cdv A outer s H vs Q E hr h => ?_)
  · obtain ⟨r, l, ws, m, x, a, rest, rfl, _⟩ := h
    rfl
  obtain ⟨r, l, ws, m, x, a, rest, rfl, hR, hW, hmw, hd, ht, hf, tb, q⟩ := h
  obtain ⟨tk, htk⟩ := hmb
  refine ⟨_, (pss_cons (ps_set (i := 1) scRuleF.nd rfl (Or.inl rfl) (pe_mt0 (M.tn base) TT.cl hr (pv 0) (by omega)))
    (pss_cons (ps_set (i := 2) scRuleF.nd rfl (Or.inl rfl) (pe_mt0 (M.tn base) TT.cl hr (pv 0) (by omega)))
    (pss_cons (ps_set (i := 3) scRuleF.nd rfl (Or.inl rfl) (pe_mt0 (M.tn base) TT.cl hr (pv 0) (by omega)))
    (pss_cons (ps_expr (pe_mt (M.nd base) TT.cl hr (pv 0) (pa_cons (pe_str) pa_nil) (by omega)))
    (pss_one (ps_ret (pe_tup (pa_cons (pv 1) (pa_cons (pv 2) (pa_cons (pv 3) (pa_cons (pe_fn R hr (pa_cons (pv 0) (pa_cons (pe_glob (v := .int 8) rfl htk ⟨_, rfl⟩) pa_nil))) pa_nil))))))))))), ?_⟩
  have zo := z1_ok T
  have e58 : Str.ofString ":" = S [58] := by decide +kernel
  cases ht with
  | @mk mn kn nn t a hm1 hk1 hn1 hta hlt =>
  obtain ⟨a1, m1, d1, _⟩ := ah_drop (show ws.drop m = mn :: (kn :: nn :: [58] :: (a ++ rest)) from hd)
  obtain ⟨a2, m2, d2, _⟩ := ah_drop d1
  obtain ⟨a3, m3, d3, _⟩ := ah_drop d2
  obtain ⟨a4, m4, d4, _⟩ := ah_drop d3
  obtain ⟨dx, hx⟩ := hR.ins
  refine ⟨_, rfl, r, dx, _, rfl, hx, rfl, r, l, ws, m, rfl, hR, by omega, ah_len hW m, by rw [a1]; exact hm1.begs.1, fun H1 g1 hR1 => ?_⟩
  rw [a1]
  have z1 : Z1 T H1 := zo.ins _ _ r C dx _ hx g1 tb
  obtain ⟨dx1, hx1⟩ := hR1.ins
  refine ⟨_, rfl, r, dx1, _, rfl, hx1, rfl, r, l, ws, m + 1, rfl, hR1, by omega, ah_len hW _, by rw [a2]; exact hk1.begs.1, fun H2 g2 hR2 => ?_⟩
  rw [a2]
  have z2 : Z1 T H2 := zo.ins _ _ r C dx1 _ hx1 g2 z1
  obtain ⟨dx2, hx2⟩ := hR2.ins
  refine ⟨_, rfl, r, dx2, _, rfl, hx2, rfl, r, l, ws, m + 1 + 1, rfl, hR2, by omega, ah_len hW _, by rw [a3]; exact hn1.begs.1, fun H3 g3 hR3 => ?_⟩
  rw [a3]
  have z3 : Z1 T H3 := zo.ins _ _ r C dx2 _ hx2 g3 z2
  obtain ⟨dx3, hx3⟩ := hR3.ins
  rw [e58]
  refine ⟨_, rfl, r, dx3, _, rfl, hx3, rfl, r, l, ws, m + 1 + 1 + 1, [58], rfl, hR3, by omega, a4, fun H4 g4 hR4 => ?_⟩
  have z4 : Z1 T H4 := zo.ins _ _ r C dx3 _ hx3 g4 z3
  refine ⟨_, rfl, _, rfl, _, rfl, _, rfl, r, l, ws, m + 1 + 1 + 1 + 1, 8, t, a, rest, rfl, hR4, hW, by omega, d4, hta, hf, hlt, by omega, z4, fun v H5 x5 hR5 tv5 z5 => ⟨(by show 4 ≤ sizeLine; decide), fun tp htp => ?_⟩⟩
  have s6 := same_new htp (.tup [.str (S mn), .str (S kn), .str (S nn), v])
  refine q _ _ ((SXs.ofR g1).trans ((SXs.ofR g2).trans ((SXs.ofR g3).trans ((SXs.ofR g4).trans (x5.trans (SXs.of s6)))))) ?_ ⟨tp, v, rfl, SqT.of upd_same, TnV.mono (fun _ _ h => s6.seqT h) tv5⟩ (zo.sm _ _ s6 z5)
  have e : m + (mn :: kn :: nn :: [58] :: a).length = m + 1 + 1 + 1 + 1 + a.length := by simp; omega
  rw [e]; exact hR5.same s6
end
end K14
namespace K14
open PySem L2 K3 TM K9
inductive LV where
  | call (m : V) (b : Int)
  | put (n : Str) (k : Bool) (a : Int)
abbrev TV := Tree LV
mutual
inductive TvV (K : PySem.W.Frag) (H : Hp) : V → TV → Prop where
  | call {a : Addr} {m : V} {b : Int} : SqT K H a [.str CALL, m, .int b] → TvV K H (.ref a) (.node (.call m b) 0 [])
  | put {a b : Addr} {vs : List V} {ts : List TV} {n : Str} {k : Bool} {ad : Int} : SqT K H a [.str PUT, .str n, .bl k, .int ad, .ref b] → SqT K H b vs → TvAll K H vs ts → vs.length ≤ 1000 → TvV K H (.ref a) (.node (.put n k ad) 0 ts)
inductive TvAll (K : PySem.W.Frag) (H : Hp) : List V → List TV → Prop where
  | nil : TvAll K H [] []
  | cons {v : V} {vs : List V} {t : TV} {ts : List TV} : TvV K H v t → TvAll K H vs ts → TvAll K H (v :: vs) (t :: ts)
end
mutual
theorem TvV.mono {K : PySem.W.Frag} {H H' : Hp} (k : ∀ a xs, SqT K H a xs → SqT K H' a xs) : ∀ {v : V} {t : TV}, TvV K H v t → TvV K H' v t
  | _, _, .call h => .call (k _ _ h)
  | _, _, .put h1 h2 h3 h4 => .put (k _ _ h1) (k _ _ h2) (TvAll.mono k h3) h4
theorem TvAll.mono {K : PySem.W.Frag} {H H' : Hp} (k : ∀ a xs, SqT K H a xs → SqT K H' a xs) : ∀ {vs : List V} {ts : List TV}, TvAll K H vs ts → TvAll K H' vs ts
  | _, _, .nil => .nil
  | _, _, .cons h t => .cons (TvV.mono k h) (TvAll.mono k t)
end
theorem TvAll.length {K : PySem.W.Frag} {H : Hp} : ∀ {vs : List V} {ts : List TV}, TvAll K H vs ts → vs.length = ts.length
  | _, _, .nil => rfl
  | _, _, .cons _ t => by rw [List.length_cons, List.length_cons, TvAll.length t]
theorem TvAll.get {K : PySem.W.Frag} {H : Hp} : ∀ {vs : List V} {ts : List TV} {i : Nat} {t : TV}, TvAll K H vs ts → ts[i]? = some t → ∃ v, vs[i]? = some v ∧ TvV K H v t
  | _, _, _, _, .nil, e => by simp at e
  | _, _, 0, _, .cons h _, e => by simp at e; subst e; exact ⟨_, rfl, h⟩
  | _, _, i + 1, t, .cons _ r, e => by
    obtain ⟨v, h1, h2⟩ := TvAll.get (i := i) (t := t) r (by simpa using e)
    exact ⟨v, by simpa using h1, h2⟩
theorem tv_open {K : PySem.W.Frag} {H : Hp} {v : V} {t : TV} (h : TvV K H v t) : (∃ a m b, v = .ref a ∧ t = .node (.call m b) 0 [] ∧ SqT K H a [.str CALL, m, .int b]) ∨
    ∃ a b vs n k ad, v = .ref a ∧ t = .node (.put n k ad) 0 t.bs ∧ SqT K H a [.str PUT, .str n, .bl k, .int ad, .ref b] ∧ SqT K H b vs ∧ TvAll K H vs t.bs ∧ vs.length ≤ 1000 := by
  cases h with
  | call h => exact .inl ⟨_, _, _, rfl, rfl, h⟩
  | put h1 h2 h3 h4 => exact .inr ⟨_, _, _, _, _, _, rfl, rfl, h1, h2, h3, h4⟩
def isCV : TV → Bool
  | .node (.call _ _) _ _ => true
  | _ => false
mutual
def clV : TV → List (V × Int)
  | .node (.call m b) _ _ => [(m, b)]
  | .node (.put _ _ _) _ bs => clVs bs
def clVs : List TV → List (V × Int)
  | [] => []
  | t :: r => clV t ++ clVs r
end
theorem clVs_snoc (ts : List TV) (c : TV) : clVs (ts ++ [c]) = clVs ts ++ clV c := by
  induction ts with
  | nil => simp [clVs]
  | cons t r ih => rw [List.cons_append, clVs, clVs, ih, List.append_assoc]
mutual
theorem clV_len : ∀ t : TV, (clV t).length ≤ sz t
  | .node (.call m b) _ bs => by rw [clV, sz]; simp
  | .node (.put n k a) _ bs => by rw [clV, sz]; have := clVs_len bs; omega
theorem clVs_len : ∀ ts : List TV, (clVs ts).length ≤ szs ts
  | [] => by rw [clVs, szs]; exact Nat.le_refl _
  | t :: r => by rw [clVs, szs, List.length_append]; have := clV_len t; have := clVs_len r; omega
end
abbrev RfV (ts : List (Addr × V × Int)) : List V := ts.map fun t => V.ref t.1
def TsV (K : PySem.W.Frag) (H : Hp) (ts : List (Addr × V × Int)) : Prop := ∀ t ∈ ts, SqT K H t.1 [t.2.1, .int t.2.2]
theorem TsV.mono {K : PySem.W.Frag} {H H' : Hp} {ts : List (Addr × V × Int)} (h : TsV K H ts) (k : ∀ a xs, SqT K H a xs → SqT K H' a xs) : TsV K H' ts := fun t ht => k _ _ (h t ht)
theorem TsV.app {K : PySem.W.Frag} {H : Hp} {ts us : List (Addr × V × Int)} (h : TsV K H ts) (k : TsV K H us) : TsV K H (ts ++ us) := fun t ht => by
  rcases List.mem_append.mp ht with z | z
  · exact h t z
  · exact k t z
def spIsCV (K : PySem.W.Frag) : Sp := fun vs H Q _ => ∃ (v : V) (t : TV), vs = [v] ∧ TvV K H v t ∧ Q (.bl (isCV t)) H
def spTSV (K : PySem.W.Frag) (n : Nat) : Sp := fun vs H Q _ => ∃ (v : V) (t : TV), vs = [v] ∧ TvV K H v t ∧ lv t ≤ n ∧ sz t ≤ 1000 ∧ ∀ H', Same H H' → Q (.int (sz t : Int)) H'
def spCOV (K : PySem.W.Frag) (n : Nat) : Sp := fun vs H Q _ => ∃ (v : V) (t : TV), vs = [v] ∧ TvV K H v t ∧ lv t ≤ n ∧ sz t ≤ 1000 ∧
  ∀ (l : Addr) (H' : Hp) (ts : List (Addr × V × Int)), Same H H' → H l = none → H' l = some (.lst (RfV ts)) → TsV K H' ts → ts.map (·.2) = clV t → Q (.ref l) H'
section
variable {P : Program} {w : World} {K : PySem.W.Frag} {mg : Str → Option Value} {base : Heap} {f : Addr} {fd : FuncData}
theorem scIsC : FnScope ["term"] ["term"] (defScope sIsCall) := ⟨rfl, rfl, rfl, by decide +kernel, rfl, by decide +kernel, by decide +kernel⟩
theorem ok_isC (F : Fun K "is_call" "is_call" sIsCall f fd) : FnOk P w K mg base CX0 1 f fd ["term"] (spIsCV K) := by
  refine F.ok scIsC (fun vs H Q E h => ?_) (fun cdv A outer s H vs Q E hr h => ?_)
  · obtain ⟨v, t, rfl, _⟩ := h
    rfl
  obtain ⟨v, t, rfl, ht, q⟩ := h
  refine ⟨_, (pss_one (ps_ret (pe_cmpR op_eq (pe_ix ix_tup (pv 0) pe_int (fun _ _ => rfl)) pe_str (nomark _)))), ?_⟩
  rcases tv_open ht with ⟨a, m, b, rfl, rfl, h1⟩ | ⟨a, b, bs, n, k, ad, rfl, et, h1, h2, h3, h4⟩
  · refine ⟨_, rfl, a, _, 0, _, rfl, rfl, h1, rfl, rfl, ?_⟩
    have e : decide (V.str CALL = V.str CALL) = true := decide_eq_true rfl
    show Q (.bl (decide (V.str CALL = V.str CALL))) H
    rw [e]; exact q
  · refine ⟨_, rfl, a, _, 0, _, rfl, rfl, h1, rfl, rfl, ?_⟩
    have e : decide (V.str PUT = V.str CALL) = false := by decide +kernel
    show Q (.bl (decide (V.str PUT = V.str CALL))) H
    rw [et] at q
    rw [e]; exact q
theorem scTS : FnScope ["term"] ["term"] (defScope sSize) := ⟨rfl, rfl, rfl, by decide +kernel, rfl, by decide +kernel, by decide +kernel⟩
theorem ok_ts {n : Nat} (F : Fun K "term_size" "term_size" sSize f fd) (G : Gm mg) (RC : Fn P w K mg base 1 "is_call" ["term"] (spIsCV K)) (R : Fn P w K mg base (n + 1) "term_size" ["term"] (spTSV K n)) : FnOk P w K mg base CX0 (n + 2) f fd ["term"] (spTSV K (n + 1)) := by
  refine F.ok scTS (fun vs H Q E h => ?_) (fun cdv A outer s H vs Q E hr h => ?_)
  · obtain ⟨v, t, rfl, _⟩ := h
    rfl
  obtain ⟨v, t, rfl, ht, hlv, hsz, q⟩ := h
  refine ⟨_, (pss_cons (ps_if (pt_val (pe_fn RC hr (pa_cons (pv 0) pa_nil) (Nat.le_add_left 1 n))) (pss_one (ps_ret pe_int)) pss_nil)
    (pss_one (ps_ret (pe_op op_add pe_int (pe_callB (call_sum rfl) rfl G.sum PyProof.Rows.boot_sum (pa_cons (pe_lcomp (CompOk.plain rfl (by decide +kernel) (by decide +kernel) (by decide +kernel)) rfl (pi_tup (pe_ix ix_tup (pv 0) pe_int (fun _ _ => rfl))) (fun _ _ _ _ => pf_nil) (fun _ _ _ _ => pe_fn R hr (pa_cons (pv 0) pa_nil) (Nat.le_refl _))) pa_nil)))))), ?_⟩
  refine ⟨_, rfl, v, t, rfl, ht, _, rfl, ?_⟩
  rcases tv_open ht with ⟨a, m, b, rfl, rfl, h1⟩ | ⟨a, b, bs, nm, k, ad, rfl, et, h1, h2, h3, h4⟩
  · exact iteT (q H (Same.refl _))
  rw [et]
  refine iteF ?_
  have hlen := h3.length
  rw [lv_bs] at hlv
  rw [sz_bs] at hsz q
  refine ⟨_, rfl, a, _, 4, _, rfl, rfl, h1, rfl, b, rfl, ⟨_, h2⟩, fun acc hacc => ?_⟩
  refine comp_tup (K := K) (xs := bs) (tt := fun _ H Q => Q true H) (te := tCall (spTSV K n) [] E0 (tCons (tVar 0) tNil)) (cs := []) (fun i ys H' => H' acc = some (.lst ys) ∧ Same H H' ∧ ys = ((t.bs.take i).map fun u => (sz u : Int)).map V.int)
    ⟨upd_same, same_new hacc _, rfl⟩ ?_ ?_ ?_
  · rintro i ys H' _ ⟨_, g, _⟩
    exact g.seqT h2
  · rintro i x ys H' hi hx ⟨hya, g, rfl⟩
    obtain ⟨c, hc⟩ : ∃ c, t.bs[i]? = some c := ⟨_, List.getElem?_eq_getElem (by omega)⟩
    obtain ⟨cv, hcv, hct⟩ := h3.get hc
    obtain rfl : cv = x := Option.some.inj (hcv.symm.trans hx)
    have hm := List.mem_of_getElem? hc
    have a1 := lv_le hm
    have a2 := sz_le hm
    refine iteT ⟨_, rfl, cv, c, rfl, hct.mono fun _ _ => g.seqT, by omega, by omega, fun H4 g4 => ?_⟩
    refine comp_next hi (g4 _ _ hya) (by rw [List.length_map, List.length_map, List.length_take]; omega) ⟨upd_same, fun x u e => ?_, ?_⟩
    · rw [upd_ne (ne_of_none e hacc)]; exact g4 _ _ (g _ _ e)
    · rw [List.take_add_one, hc]; simp
  rintro ys H1 ⟨hya, g, rfl⟩
  have et2 : t.bs.take bs.length = t.bs := List.take_of_length_le (by omega)
  rw [et2] at hya
  refine ⟨acc, _, rfl, SqL.of hya, ⟨fun m hm => ?_, ?_⟩, _, _, rfl, rfl, ?_⟩
  · obtain ⟨u, _, rfl⟩ := List.mem_map.mp hm
    omega
  · rw [szs_map]; omega
  · rw [szs_map]
    exact q H1 g
theorem none_ts {k : Nat} : FnOk P w K mg base CX0 k f fd ["term"] (spTSV K 0) := by
  have no : ∀ vs H Q E, ¬ spTSV K 0 vs H Q E := fun vs H Q E h => by
    obtain ⟨v, t, _, _, h0, _⟩ := h
    rw [lv_bs] at h0; omega
  exact ⟨fun vs H Q E h => absurd h (no vs H Q E), fun A outer s H args us vs Q E _ _ _ _ h => absurd h (no vs H Q E)⟩
theorem all_ts (F : Fun K "term_size" "term_size" sSize f fd) (G : Gm mg) (RC : Fn P w K mg base 1 "is_call" ["term"] (spIsCV K)) (hb : Binds K fd ["term"] []) (hm : mg "term_size" = some (.ref f)) : ∀ n : Nat, FnOk P w K mg base CX0 (n + 1) f fd ["term"] (spTSV K n)
  | 0 => none_ts
  | n + 1 => ok_ts F G RC ⟨f, fd, all_ts F G RC hb hm n, hb, F.kp, hm⟩
theorem scCO : FnScope ["term", "told", "part"] ["term"] (defScope sCalls) := ⟨rfl, rfl, rfl, by decide +kernel, rfl, by decide +kernel, by decide +kernel⟩
theorem ok_co {n : Nat} (F : Fun K "calls_of" "calls_of" sCalls f fd) (G : Gm mg) (RC : Fn P w K mg base 1 "is_call" ["term"] (spIsCV K)) (R : Fn P w K mg base (n + 1) "calls_of" ["term"] (spCOV K n)) : FnOk P w K mg base CX0 (n + 2) f fd ["term"] (spCOV K (n + 1)) := by
  refine F.ok scCO (fun vs H Q E h => ?_) (fun cdv A outer s H vs Q E hr h => ?_)
  · obtain ⟨v, t, rfl, _⟩ := h
    rfl
  obtain ⟨v, t, rfl, ht, hlv, hsz, q⟩ := h
  refine ⟨_, (pss_cons (ps_if (pt_val (pe_fn RC hr (pa_cons (pv 0) pa_nil) (Nat.le_add_left 1 n))) (pss_one (ps_ret (pe_lst (pa_cons ((pe_tup (pa_cons (pe_ix ix_tup (pv 0) pe_int (fun _ _ => rfl)) (pa_cons (pe_ix ix_tup (pv 0) pe_int (fun _ _ => rfl)) pa_nil)))) pa_nil)))) pss_nil)
    (pss_cons (ps_set (i := 1) scCO.nd rfl (Or.inl rfl) (pe_lst pa_nil))
    (pss_cons (ps_for PassesOwn.never rfl (pi_tup (pe_ix ix_tup (pv 0) pe_int (fun _ _ => rfl))) (pg_name (i := 2) scCO.nd rfl (Or.inl rfl))
      (pss_one (ps_expr (pe_bm PySem.F.plainAttrs_list PySem.F.slot_list_extend PySem.F.type_list_extend mt_extend (pv 1) (pa_cons (pe_fn R hr (pa_cons (pv 2) pa_nil) (Nat.le_refl _)) pa_nil)))))
    (pss_one (ps_ret (pv 1)))))), ?_⟩
  refine ⟨_, rfl, v, t, rfl, ht, _, rfl, ?_⟩
  rcases tv_open ht with ⟨a, m, b, rfl, rfl, h1⟩ | ⟨a, b, bs, nm, k, ad, rfl, et, h1, h2, h3, h4⟩
  · refine iteT ⟨_, rfl, a, _, 1, _, rfl, rfl, h1, rfl, _, rfl, a, _, 2, _, rfl, rfl, h1, rfl, (by show 2 ≤ sizeLine; decide), fun p hp => ⟨(by show 1 ≤ sizeLine; decide), fun l hl => ?_⟩⟩
    have g1 := same_new hp (.tup [m, .int b])
    have g2 := same_new hl (.lst [.ref p])
    refine q l _ [(p, m, b)] (g1.trans g2) (g1.free hl) upd_same (fun x hx => ?_) rfl
    have : x = (p, m, b) := by simpa using hx
    rw [this]
    exact g2.seqT (SqT.of upd_same)
  have ecls : clV t = clVs t.bs := by
    have := congrArg clV et
    rw [this]; simp [clV]
  rw [et]
  refine iteF ?_
  have hlen := h3.length
  rw [lv_bs] at hlv
  rw [sz_bs] at hsz
  rw [ecls] at q
  refine ⟨(by show 0 ≤ sizeLine; decide), fun l hl => ?_⟩
  have g0 := same_new hl (.lst [])
  refine ⟨_, rfl, a, _, 4, _, rfl, rfl, g0.seqT h1, rfl, b, rfl, ⟨_, g0.seqT h2⟩, ?_⟩
  refine for_tup (K := K) (xs := bs) (fun i σ H' => ∃ (ts : List (Addr × V × Int)) (c1 : Option V), σ = [some (.ref a), some (.ref l), c1] ∧ Same H H' ∧ H' l = some (.lst (RfV ts)) ∧ TsV K H' ts ∧ ts.map (·.2) = clVs (t.bs.take i))
    ⟨[], none, rfl, g0, upd_same, fun x hx => (nomatch hx), by simp [clVs]⟩ ?_ ?_ ?_
  · rintro i σ H' _ ⟨ts, c1, _, g, _⟩
    exact g.seqT h2
  · rintro i x σ H' hx ⟨ts, c1, rfl, g, hl', hts, hcl⟩
    have hi : i < bs.length := (List.getElem?_eq_some_iff.mp hx).1
    obtain ⟨c, hc⟩ : ∃ c, t.bs[i]? = some c := ⟨_, List.getElem?_eq_getElem (by omega)⟩
    obtain ⟨cv, hcv, hct⟩ := h3.get hc
    obtain rfl : cv = x := Option.some.inj (hcv.symm.trans hx)
    have hm := List.mem_of_getElem? hc
    have a1 := lv_le hm
    have a2 := sz_le hm
    refine ⟨_, rfl, .inl ⟨rfl, _, SqL.of hl'⟩, _, rfl, cv, c, rfl, hct.mono fun _ _ => g.seqT, by omega, by omega, fun lb Hb tsb gb hlbn hlb htb hclb => ?_⟩
    have hl2 := gb _ _ hl'
    have tl : ts.length ≤ szs t.bs := by
      have e := congrArg List.length hcl
      rw [List.length_map] at e
      have h5 := clVs_len (t.bs.take i)
      have hle : szs (t.bs.take i) ≤ szs t.bs := by
        have e := szs_map (t.bs.take i ++ t.bs.drop i)
        rw [List.map_append, List.sum_append, szs_map, szs_map, List.take_append_drop] at e
        omega
      omega
    have tl2 : tsb.length ≤ sz c := by
      have e := congrArg List.length hclb
      rw [List.length_map] at e
      have h5 := clV_len c
      omega
    refine ⟨l, lb, _, _, rfl, rfl, hl2, hlb, ?_, ?_⟩
    · rw [List.length_map, List.length_map]; exact line_of (by omega)
    refine ⟨ts ++ tsb, _, rfl, fun x u e => ?_, by rw [upd_same]; simp, ?_, ?_⟩
    · rw [upd_ne (ne_of_none e hl)]; exact gb _ _ (g _ _ e)
    · exact (hts.mono fun _ _ h => (gb.seqT h).put hl2).app (htb.mono fun _ _ h => h.put hl2)
    · rw [List.map_append, hcl, hclb, List.take_add_one, hc]
      show _ = (clVs (t.bs.take i ++ [c]))
      rw [clVs_snoc]
  · rintro σ H' ⟨ts, c1, rfl, g, hl', hts, hcl⟩
    rw [List.take_of_length_le (by omega)] at hcl
    exact ⟨_, rfl, q l H' ts g hl hl' hts hcl⟩
theorem none_co {k : Nat} : FnOk P w K mg base CX0 k f fd ["term"] (spCOV K 0) := by
  have no : ∀ vs H Q E, ¬ spCOV K 0 vs H Q E := fun vs H Q E h => by
    obtain ⟨v, t, _, _, h0, _⟩ := h
    rw [lv_bs] at h0; omega
  exact ⟨fun vs H Q E h => absurd h (no vs H Q E), fun A outer s H args us vs Q E _ _ _ _ h => absurd h (no vs H Q E)⟩
theorem all_co (F : Fun K "calls_of" "calls_of" sCalls f fd) (G : Gm mg) (RC : Fn P w K mg base 1 "is_call" ["term"] (spIsCV K)) (hb : Binds K fd ["term"] []) (hm : mg "calls_of" = some (.ref f)) : ∀ n : Nat, FnOk P w K mg base CX0 (n + 1) f fd ["term"] (spCOV K n)
  | 0 => none_co
  | n + 1 => ok_co F G RC ⟨f, fd, all_co F G RC hb hm n, hb, F.kp, hm⟩
end
end K14
namespace L2
open PySem PySem.Spec PyProof.Rows
def ValO (p d : Addr) : HO := .ext fun h => h.IsValuesView p d
section
variable {X : Cx}
theorem mt_values : MtR X "dict.values" (fun x vs H Q => ∃ (d : Addr) (kvs : List (Key × V)), x = .ref d ∧ vs = [] ∧ H d = some (.dK kvs) ∧ ∀ p, H p = none → Q (.ref p) (upd H p (ValO p d))) := by
  intro pins s σ H x xs v us Q I rx rv h
  obtain ⟨d, kvs, rfl, rfl, hd, q⟩ := h
  cases rx
  cases rv
  obtain ⟨z, ne, vs, rel, dd⟩ := dk_of I.hok hd
  refine call_meetsIn PySem.F.slot_dict_values dd.typeIs PySem.F.entry_dict_values (PySem.F.args_dict_values_1 _) (meets_dict_values (mixKind X.prog X.w) d ne) ⟨⟨vs, dd⟩, ?_⟩
  refine ⟨.ref s.heap.objs.size, _, I.laid (a := s.heap.objs.size) (o := ValO s.heap.objs.size d) (t' := s.toks) (fun b o e => Heap.get?_push_of_some _ e) (Nat.le_refl _) ?_, rfl, q _ (I.hok.fresh (Nat.le_refl _))⟩
  refine ⟨⟨_, Heap.get?_push_size _ rfl, rfl, rfl⟩, ⟨_, Heap.get?_push_size _ rfl⟩, fun h1 h2 ⟨o, e, c, dt⟩ k => ⟨o, k _ e, c, dt⟩⟩
end
section
variable {X : Cx} {pins : List (Addr × Obj)} {σ : St} {H : Hp} {s : Shared}
theorem Inv.freeze {d : Addr} {kvs : List (Key × V)} {ob : Obj} (I : Inv X pins σ H s) (hd : H d = some (.dK kvs)) (e : s.heap.get? d = some ob) : Inv X pins σ (upd H d (.frz ob (.dK kvs))) s := by
  have e1 : ∀ b u, H b = some u → u ≠ .dK kvs → upd H d (.frz ob (.dK kvs)) b = some u := fun b u q n => by rw [upd_ne (ne_of q hd n)]; exact q
  have J := I.step (h' := s.heap) (H' := upd H d (.frz ob (.dK kvs))) (g' := s.gens) (d' := s.drawn) (t' := s.toks) (ch := []) (fun _ z => nomatch z) (fun b o _ _ _ q _ => q) (fun b o _ _ _ q _ => ⟨o.slots, q⟩)
    (fun b o _ q n => by rw [upd_ne (fun z => by rw [z, hd] at n; cases n)]; exact n) (fun b o _ q => ⟨o, q⟩) (fun b xs q => e1 b _ q (by intro z; cases z)) (fun b o u q => e1 b _ q (by intro z; cases z)) (fun b ps q => ⟨#[], by rw [e1 b _ q (by intro z; cases z)]; simp⟩) (fun m hn => hn)
    (fun b u q => by
      by_cases hb : b = d
      · subst hb
        rw [upd_same] at q
        cases q
        exact ⟨e, (I.hok b _ hd).stay (fun c v _ r => r) (fun c r => e1 c _ r (by intro z; cases z)) fun c xs r => e1 c _ r (by intro z; cases z)⟩
      · rw [upd_ne hb] at q
        exact (I.hok b u q).stay (fun c v _ r => r) (fun c r => e1 c _ r (by intro z; cases z)) fun c xs r => e1 c _ r (by intro z; cases z)) I.bare
  exact J
theorem Inv.thaw {d : Addr} {kvs : List (Key × V)} {ob : Obj} (I : Inv X pins σ H s) (h0 : ∀ o u, X.H₀ d ≠ some (.frz o u)) (hd : H d = some (.frz ob (.dK kvs))) : Inv X pins σ (upd H d (.dK kvs)) s := by
  have e1 : ∀ b u, H b = some u → u ≠ .frz ob (.dK kvs) → upd H d (.dK kvs) b = some u := fun b u q n => by rw [upd_ne (ne_of q hd n)]; exact q
  have nn : ∀ b, H b = none → upd H d (.dK kvs) b = none := fun b n => by rw [upd_ne (fun z => by rw [z, hd] at n; cases n)]; exact n
  refine ⟨I.ok, I.os, I.bare, ⟨I.base.keep, I.base.slot, fun b o q n hx => nn b (I.base.free b o q n hx), I.base.there, fun b xs q => e1 b _ (I.base.tups b xs q) (by intro z; cases z), fun b o u q => ?_, fun b ps q => ?_⟩, I.loc, I.cell, nn _ I.free, fun x c q => nn _ (I.freeC x c q), fun p hp => ?_, fun b u q => ?_, I.len⟩
  · have := I.base.frzs b o u q
    by_cases hb : b = d
    · subst hb
      exact absurd q (h0 o u)
    · rw [upd_ne hb]; exact this
  · obtain ⟨more, e⟩ := I.base.tbls b ps q
    exact ⟨more, e1 b _ e (by intro z; cases z)⟩
  · obtain ⟨a1, a2, a3⟩ := I.pin p hp
    exact ⟨a1, nn _ a2, a3⟩
  · by_cases hb : b = d
    · subst hb
      rw [upd_same] at q
      cases q
      exact (I.hok b _ hd).2.stay (fun c v _ r => r) (fun c r => e1 c _ r (by intro z; cases z)) fun c xs r => e1 c _ r (by intro z; cases z)
    · rw [upd_ne hb] at q
      exact (I.hok b u q).stay (fun c v _ r => r) (fun c r => e1 c _ r (by intro z; cases z)) fun c xs r => e1 c _ r (by intro z; cases z)
end
def Melt (d : Addr) (kvs : List (Key × V)) (Q : Hp → Prop) : Hp → Prop := fun H => (∃ o, H d = some (.frz o (.dK kvs))) ∧ Q (upd H d (.dK kvs))
def sMelt (t : TS) : TS := fun D σ H => ∃ d kvs, H d = some (.dK kvs) ∧ t { nx := fun σ' => Melt d kvs (D.nx σ'), ct := fun σ' => Melt d kvs (D.ct σ'), bk := fun σ' => Melt d kvs (D.bk σ'), rt := fun v => Melt d kvs (D.rt v) } σ H
section
variable {X : Cx}
theorem ps_melt {st : Stmt} {t : TS} (h : PS X st t) : PS X st (sMelt t) := by
  intro pins s σ H D I hw
  obtain ⟨d, kvs, hd, hw⟩ := hw
  have h0 : ∀ o u, X.H₀ d ≠ some (.frz o u) := fun o u q => by
    have := I.base.frzs d o u q
    rw [hd] at this; cases this
  refine wpAny_mono (h pins s σ H _ I hw) (fun f s' hs => ?_) fun _ _ z => z
  cases f with
  | next => obtain ⟨σ', H', J, ⟨o, ho⟩, q⟩ := hs; exact ⟨σ', _, J.thaw h0 ho, q⟩
  | cont => obtain ⟨σ', H', J, ⟨o, ho⟩, q⟩ := hs; exact ⟨σ', _, J.thaw h0 ho, q⟩
  | brk => obtain ⟨σ', H', J, ⟨o, ho⟩, q⟩ := hs; exact ⟨σ', _, J.thaw h0 ho, q⟩
  | ret u => obtain ⟨v, σ', H', J, rv, ⟨o, ho⟩, q⟩ := hs; exact ⟨v, σ', _, J.thaw h0 ho, rv, q⟩
end
def Itdv (d : Addr) (o : Obj) (kvs : List (Key × V)) : It :=
  ⟨fun i H => H d = some (.frz o (.dK kvs)) ∧ i < kvs.length, fun i H x H' => H' = H ∧ ∃ k, kvs[i]? = some (k, x), fun i H => H d = some (.frz o (.dK kvs)) ∧ kvs.length ≤ i⟩
theorem frz_dict {P : Program} {w : World} {H : Hp} {h : Heap} {d : Addr} {o : Obj} {kvs : List (Key × V)} {es : Array DictEntry} {ep : Nat} (x : HOk P w H h) (hd : H d = some (.frz o (.dK kvs))) (he : o.data = .dict es ep) : h.get? d = some o ∧ ∃ vs, KV kvs vs ∧ h.DictAt (mixKind P w) d vs ep := by
  obtain ⟨e, z, ne, vs, rel, o2, es2, ep2, e2, ex, dt, r⟩ := x d _ hd
  refine ⟨e, vs, rel, ?_⟩
  rw [e] at e2
  cases e2
  rw [he] at dt
  cases dt
  exact ⟨o, es, e, ex, he, r⟩
theorem KV.at {kvs : List (Key × V)} {vs : List (Key × Value)} (r : KV kvs vs) {i : Nat} {k : Key} {v : V} (e : kvs[i]? = some (k, v)) : ∃ u, vs[i]? = some (k, u) ∧ RelV v u := by
  induction r generalizing i with
  | nil => simp at e
  | @cons p q _ _ h _ ih =>
    cases i with
    | zero =>
      simp at e
      subst e
      obtain ⟨k2, u⟩ := q
      obtain ⟨h1, h2⟩ := h
      simp only at h1 h2
      subst h1
      exact ⟨u, rfl, h2⟩
    | succ i => exact ih (by simpa using e)
theorem turn_dvals {P : Program} {w : World} {K : PySem.W.Frag} {tg : Expr} {d : Addr} {o : Obj} {es : Array DictEntry} {ep : Nat} (he : o.data = .dict es ep) (kvs : List (Key × V)) (it : Addr) : Turn P w K tg (Itdv d o kvs) [it] it (fun i h => h.IsValIter it d i kvs.length ep) where
  mem := by simp
  obj := fun i h st b hb => by
    have e : b = it := by simpa using hb
    subst e
    obtain ⟨ob, e, c, dt⟩ := st
    exact ⟨ob, e, fun v z => by rw [dt] at z; cases z⟩
  keep := fun i h h' st k => by
    obtain ⟨ob, e, r⟩ := st
    exact ⟨ob, k it (by simp) ob e, r⟩
  item := by
    intro X hP hw hK hc i pins s σ H E I hf st hg
    subst hP hw hK
    obtain ⟨hd, hi⟩ := hg
    obtain ⟨_, vs, rel, D⟩ := frz_dict I.hok hd he
    have ek : kvs[i]? = some (kvs[i].1, kvs[i].2) := List.getElem?_eq_getElem hi
    obtain ⟨u, hu, ru⟩ := KV.at rel ek
    obtain ⟨f0, f1, f2, f3, f4, f5⟩ := hf it (by simp)
    rw [rel.length] at st
    refine wpAny_pyNext_values_item st D hu fun h' st' sb => ?_
    have I1 : Inv X pins σ H { s with heap := h' } := I.turned (t' := s.toks) (fun b o hb e => (sb.2 b hb).trans e) f0 f1 f3 f4 f5
    obtain ⟨ob, e, c, dt⟩ := id st'
    rw [← rel.length] at st'
    exact ⟨u, rfl, go_of (s := { s with heap := h' }) e c dt (by decide) ⟨kvs[i].2, H, I1, ru, ⟨rfl, _, ek⟩, st', fun b hb => (hf b hb).1⟩⟩
  done := by
    intro X hP hw hK hc i pins s σ H E I hf st hg
    subst hP hw hK
    obtain ⟨hd, hi⟩ := hg
    obtain ⟨_, vs, rel, D⟩ := frz_dict I.hok hd he
    obtain ⟨f0, f1, f2, f3, f4, f5⟩ := hf it (by simp)
    rw [rel.length] at st
    exact wpAny_pyNext_values_end (I.ok.hd hc) st D (List.getElem?_eq_none (by rw [← rel.length]; exact hi)) fun h' eb => ⟨rfl, I.turned (t' := s.toks) (fun b o hb e => eb b o hb e) f0 f1 f3 f4 f5⟩
  self := fun A i s Q E st h => wpAny_pyIter_valiter st h
section
variable {X : Cx} {tg e : Expr} {te : TE}
def iDV (te : TE) : TI := fun σ H R => te σ H fun x H1 => ∃ p d kvs, x = .ref p ∧ H1 p = some (ValO p d) ∧ H1 d = some (.dK kvs) ∧ ∀ o, R (Itdv d o kvs) (upd H1 d (.frz o (.dK kvs)))
theorem pi_dvals (he : PE X e te) : PI X tg e (iDV te) := by
  intro pins s σ H R I h
  refine thn (he pins s σ H _ I h) fun v s1 ⟨x, H1, I1, r1, p, d, kvs, ex, hp, hd, q⟩ => ?_
  subst ex
  obtain rfl : v = Value.ref p := r1
  obtain ⟨z, ne, vs, rel, o, es, ep, ho, ext, dt, rest⟩ := dk_of I1.hok hd
  have hv : s1.heap.IsValuesView p d := (I1.hok p _ hp).1
  refine wpAny_pyIter_values (knd := mixKind X.prog X.w) hv ⟨o, es, ho, ext, dt, rest⟩ ?_
  have I2 := I1.freeze hd ho
  refine ⟨s1.heap.objs.size, [s1.heap.objs.size], _, _, _, rfl, I2.kept (t' := s1.toks) fun b o e => Heap.get?_push_of_some _ e, turn_dvals dt kvs _, ?_, fun b hb => ?_, q o⟩
  · rw [rel.length]; exact ⟨_, Heap.get?_push_size _ rfl, rfl, rfl⟩
  · have e : b = s1.heap.objs.size := by simpa using hb
    subst e
    exact I2.fpOk (Nat.le_refl _) (I2.hok.fresh (Nat.le_refl _))
end
end L2
namespace L2
open PySem PySem.Spec PyProof.Rows
section
variable {X : Cx} {tg : Expr}
theorem call_anyB (hc : X.calm = true) : CallR X (.builtin "any") (fun xs H Q => ∃ (l : Addr) (bs : List Bool), xs = [.ref l] ∧ SqL X.K H l (bs.map V.bl) ∧ Q (.bl (bs.any id)) H) := by
  intro pins s σ H xs us Q I r h
  obtain ⟨l, bs, rfl, hl, q⟩ := h
  cases r with
  | cons r rr =>
    cases rr
    obtain rfl : _ = Value.ref l := r
    obtain ⟨its, rv, p, _⟩ := I.list hl
    obtain rfl := vals_bools rv
    have hL := p.isList
    have hlt : l < s.heap.objs.size := by obtain ⟨_, e, _⟩ := hL; exact Heap.lt_size e
    refine call_any_walk (wpAny_pyIter_list hL ?_)
    refine ⟨s.heap.objs.size, [s.heap.objs.size, l], [s.heap.objs.size], (bs.map Value.bool).toArray.size, _, _, fun i => (bs[i]?).getD false, rfl, Walks.list (A := X.A.in1) (I.ok.hd hc) _ l (Nat.ne_of_lt hlt) (bs.map Value.bool).toArray,
      ⟨⟨_, Heap.get?_push_size _ rfl, rfl, rfl⟩, hL.push _⟩, fun i v s' Q' E' hP hQ => ?_, fun h' tk hk => ?_⟩
    · have hP' : (bs.map Value.bool)[i]? = some v := by simpa using hP
      rw [List.getElem?_map] at hP'
      cases eb : bs[i]? with
      | none => rw [eb] at hP'; simp at hP'
      | some b =>
        rw [eb] at hP'
        obtain rfl : Value.bool b = v := by simpa using hP'
        have hQ2 : Q' ((bs[i]?).getD false) s' := hQ
        rw [eb] at hQ2
        exact wpAny_truthy_bool hQ2
    · have e : ((List.range (bs.map Value.bool).toArray.size).any fun i => (bs[i]?).getD false) = bs.any id := by
        rw [List.size_toArray, List.length_map, Bool.eq_iff_iff, List.any_eq_true, List.any_eq_true]
        constructor
        · rintro ⟨i, hi, h⟩
          have hi' := List.mem_range.mp hi
          rw [List.getElem?_eq_getElem hi'] at h
          exact ⟨_, List.getElem_mem hi', h⟩
        · rintro ⟨x, hx, h⟩
          obtain ⟨i, hi, rfl⟩ := List.getElem_of_mem hx
          exact ⟨i, List.mem_range.mpr hi, by rw [List.getElem?_eq_getElem hi]; exact h⟩
      rw [e]
      exact ⟨.bl _, H, I.kept (t' := tk) (fun b o eb => hk b o (fun hm => by rw [List.mem_singleton.mp hm] at eb; exact Nat.lt_irrefl _ (Heap.lt_size eb)) (Heap.get?_push_of_some _ eb)), rfl, q⟩
end
end L2
namespace K14
open PySem L2 K3 TM K9
theorem room_fit1 {k : Nat} {A : Around} (hr : Room k A) : A.units + 1 < cLine := by have := hr.units; omega
mutual
def mpV (g : V → V) : TV → TV
  | .node (.call m b) _ _ => .node (.call (g m) b) 0 []
  | .node (.put n k a) _ bs => .node (.put n k a) 0 (mpVs g bs)
def mpVs (g : V → V) : List TV → List TV
  | [] => []
  | t :: r => mpV g t :: mpVs g r
end
theorem mpVs_map (g : V → V) : ∀ ts : List TV, mpVs g ts = ts.map (mpV g)
  | [] => by rw [mpVs]; rfl
  | t :: r => by rw [mpVs, mpVs_map g r]; rfl
theorem clV_mem {ts : List TV} {t : TV} {c : V × Int} (h : t ∈ ts) (hc : c ∈ clV t) : c ∈ clVs ts := by
  induction ts with
  | nil => cases h
  | cons u r ih =>
    rw [clVs]
    rcases List.mem_cons.mp h with rfl | h
    · exact List.mem_append_left _ hc
    · exact List.mem_append_right _ (ih h)
theorem TvAll.append {K : PySem.W.Frag} {H : Hp} : ∀ {vs ws : List V} {ts us : List TV}, TvAll K H vs ts → TvAll K H ws us → TvAll K H (vs ++ ws) (ts ++ us)
  | _, _, _, _, .nil, h => h
  | _, _, _, _, .cons a t, h => .cons a (TvAll.append t h)
mutual
def kpV : TV → Bool
  | .node (.call _ _) _ _ => false
  | .node (.put _ k _) _ bs => k || kpVs bs
def kpVs : List TV → Bool
  | [] => false
  | t :: r => kpV t || kpVs r
end
theorem kpVs_any : ∀ ts : List TV, kpVs ts = (ts.map kpV).any id
  | [] => by simp [kpVs]
  | t :: r => by simp only [kpVs, List.map_cons, List.any_cons, id, kpVs_any r]
structure GmA (mg : Str → Option Value) : Prop where
  any : mg "any" = none
  all : mg "all" = none
  enu : mg "enumerate" = none
  dict : mg "dict" = none
  zip : mg "zip" = none
  set : mg "set" = none
def spWPV (K : PySem.W.Frag) : Sp := fun vs H Q _ => ∃ (v : V) (l : Addr) (ws : List V) (n : Str) (k : Bool) (ad : Int) (ts us : List TV), vs = [v, .ref l] ∧ TvV K H v (.node (.put n k ad) 0 ts) ∧ SqL K H l ws ∧ TvAll K H ws us ∧ ws.length ≤ 1000 ∧
  ∀ (v' : V) (H' : Hp), Same H H' → TvV K H' v' (.node (.put n k ad) 0 us) → Q v' H'
def spKMV (K : PySem.W.Frag) (n : Nat) : Sp := fun vs H Q _ => ∃ (v : V) (t : TV), vs = [v] ∧ TvV K H v t ∧ lv t ≤ n ∧ ∀ H', Same H H' → Q (.bl (kpV t)) H'
def spWM (K : PySem.W.Frag) (n : Nat) : Sp := fun vs H Q _ => ∃ (v : V) (d : Addr) (kvs : List (Key × V)) (t : TV) (g : V → V), vs = [v, .ref d] ∧ TvV K H v t ∧ lv t ≤ n ∧ H d = some (.dK kvs) ∧ (∀ m b, (m, b) ∈ clV t → ∃ k : Key, m = kV k ∧ valV kvs k = some (g m)) ∧ ∀ (v' : V) (H' : Hp), Same H H' → TvV K H' v' (mpV g t) → Q v' H'
section
variable {P : Program} {w : World} {K : PySem.W.Frag} {mg : Str → Option Value} {base : Heap} {f : Addr} {fd : FuncData}
theorem scWP : FnScope ["term", "parts"] ["term", "parts"] (defScope sWithP) := ⟨rfl, rfl, rfl, by decide +kernel, rfl, by decide +kernel, by decide +kernel⟩
theorem ok_wp (F : Fun K "with_parts" "with_parts" sWithP f fd) (G : Gm mg) : FnOk P w K mg base CX0 1 f fd ["term", "parts"] (spWPV K) := by
  refine F.ok scWP (fun vs H Q E h => ?_) (fun cdv A outer s H vs Q E hr h => ?_)
  · obtain ⟨v, l, ws, n, k, ad, ts, us, rfl, _⟩ := h
    rfl
  obtain ⟨v, l, ws, n, k, ad, ts, us, rfl, ht, hl, hw, hwl, q⟩ := h
  refine ⟨_, (pss_one (ps_ret (pe_tup (pa_cons (pe_str) (pa_cons (pe_ix ix_tup (pv 0) pe_int (fun _ _ => rfl)) (pa_cons (pe_ix ix_tup (pv 0) pe_int (fun _ _ => rfl)) (pa_cons (pe_ix ix_tup (pv 0) pe_int (fun _ _ => rfl)) (pa_cons (pe_callTy call_tuple_of rfl G.tup PyProof.Rows.boot_tuple (pa_cons (pv 1) pa_nil)) pa_nil)))))))), ?_⟩
  cases ht with
  | @put a b vs _ _ _ _ h1 h2 h3 h4 =>
    refine ⟨_, rfl, a, _, 1, _, rfl, rfl, h1, rfl, _, rfl, a, _, 2, _, rfl, rfl, h1, rfl, _, rfl, a, _, 3, _, rfl, rfl, h1, rfl, _, rfl, l, ws, rfl, .inl ⟨hl, fun t ht => ⟨(by show 5 ≤ sizeLine; decide), fun p hp => ?_⟩⟩⟩
    have g1 := same_new ht (.tup ws)
    have g2 := same_new hp (.tup [.str PUT, .str n, .bl k, .int ad, .ref t])
    exact q (.ref p) _ (g1.trans g2) (.put (SqT.of upd_same) (g2.seqT (SqT.of upd_same)) (hw.mono fun _ _ => (g1.trans g2).seqT) hwl)
theorem scKM : FnScope ["term"] ["term"] (defScope sKeeps) := ⟨rfl, rfl, rfl, by decide +kernel, rfl, by decide +kernel, by decide +kernel⟩
theorem ok_km {n : Nat} (F : Fun K "keeps_mark" "keeps_mark" sKeeps f fd) (G : GmA mg) (RC : Fn P w K mg base 1 "is_call" ["term"] (spIsCV K)) (R : Fn P w K mg base (n + 1) "keeps_mark" ["term"] (spKMV K n)) : FnOk P w K mg base CX0 (n + 2) f fd ["term"] (spKMV K (n + 1)) := by
  refine F.ok scKM (fun vs H Q E h => ?_) (fun cdv A outer s H vs Q E hr h => ?_)
  · obtain ⟨v, t, rfl, _⟩ := h
    rfl
  obtain ⟨v, t, rfl, ht, hlv, q⟩ := h
  refine ⟨_, (pss_cons (ps_if (pt_val (pe_fn RC hr (pa_cons (pv 0) pa_nil) (Nat.le_add_left 1 n))) (pss_one (ps_ret pe_bl)) pss_nil)
    (pss_one (ps_ret (pe_or (pe_ix ix_tup (pv 0) pe_int (fun _ _ => rfl)) (pe_one (pe_callB (call_anyB rfl) rfl G.any PyProof.Rows.boot_any (pa_cons (pe_lcomp (CompOk.plain rfl (by decide +kernel) (by decide +kernel) (by decide +kernel)) rfl (pi_tup (pe_ix ix_tup (pv 0) pe_int (fun _ _ => rfl))) (fun _ _ _ _ => pf_nil) (fun _ _ _ _ => pe_fn R hr (pa_cons (pv 0) pa_nil) (Nat.le_refl _))) pa_nil))))))), ?_⟩
  refine ⟨_, rfl, v, t, rfl, ht, _, rfl, ?_⟩
  rcases tv_open ht with ⟨a, m, b, rfl, rfl, h1⟩ | ⟨a, b, bs, nm, k, ad, rfl, et, h1, h2, h3, h4⟩
  · exact iteT (q H (Same.refl _))
  have ekp : kpV t = (k || kpVs t.bs) := by
    have := congrArg kpV et
    rw [this]; simp [kpV]
  rw [et]
  refine iteF ?_
  have hlen := h3.length
  rw [lv_bs] at hlv
  rw [ekp] at q
  refine ⟨_, rfl, a, _, 2, _, rfl, rfl, h1, rfl, k, rfl, ?_⟩
  cases k with
  | true => exact iteT (q H (Same.refl _))
  | false =>
    refine iteF ⟨_, rfl, a, _, 4, _, rfl, rfl, h1, rfl, b, rfl, ⟨_, h2⟩, fun acc hacc => ?_⟩
    refine comp_tup (K := K) (xs := bs) (tt := fun _ H Q => Q true H) (te := tCall (spKMV K n) [] E0 (tCons (tVar 0) tNil)) (cs := []) (fun i ys H' => H' acc = some (.lst ys) ∧ Same H H' ∧ ys = ((t.bs.take i).map kpV).map V.bl)
      ⟨upd_same, same_new hacc _, rfl⟩ ?_ ?_ ?_
    · rintro i ys H' _ ⟨_, g, _⟩
      exact g.seqT h2
    · rintro i x ys H' hi hx ⟨hya, g, rfl⟩
      obtain ⟨c, hc⟩ : ∃ c, t.bs[i]? = some c := ⟨_, List.getElem?_eq_getElem (by omega)⟩
      obtain ⟨cv, hcv, hct⟩ := h3.get hc
      obtain rfl : cv = x := Option.some.inj (hcv.symm.trans hx)
      have hm := List.mem_of_getElem? hc
      have a1 := lv_le hm
      refine iteT ⟨_, rfl, cv, c, rfl, hct.mono fun _ _ => g.seqT, by omega, fun H4 g4 => ?_⟩
      refine comp_next hi (g4 _ _ hya) (by rw [List.length_map, List.length_map, List.length_take]; omega) ⟨upd_same, fun x u e => ?_, ?_⟩
      · rw [upd_ne (ne_of_none e hacc)]; exact g4 _ _ (g _ _ e)
      · rw [List.take_add_one, hc]; simp
    rintro ys H1 ⟨hya, g, rfl⟩
    have et2 : t.bs.take bs.length = t.bs := List.take_of_length_le (by omega)
    rw [et2] at hya
    refine ⟨acc, _, rfl, SqL.of hya, ?_⟩
    rw [← kpVs_any]
    exact q H1 g
theorem none_km {k : Nat} : FnOk P w K mg base CX0 k f fd ["term"] (spKMV K 0) := by
  have no : ∀ vs H Q E, ¬ spKMV K 0 vs H Q E := fun vs H Q E h => by
    obtain ⟨v, t, _, _, h0, _⟩ := h
    rw [lv_bs] at h0; omega
  exact ⟨fun vs H Q E h => absurd h (no vs H Q E), fun A outer s H args us vs Q E _ _ _ _ h => absurd h (no vs H Q E)⟩
theorem all_km (F : Fun K "keeps_mark" "keeps_mark" sKeeps f fd) (G : GmA mg) (RC : Fn P w K mg base 1 "is_call" ["term"] (spIsCV K)) (hb : Binds K fd ["term"] []) (hm : mg "keeps_mark" = some (.ref f)) : ∀ n : Nat, FnOk P w K mg base CX0 (n + 1) f fd ["term"] (spKMV K n)
  | 0 => none_km
  | n + 1 => ok_km F G RC ⟨f, fd, all_km F G RC hb hm n, hb, F.kp, hm⟩
theorem scWithM : FnScope ["term", "numbers"] ["term", "numbers"] (defScope sWithM) := ⟨rfl, rfl, rfl, by decide +kernel, rfl, by decide +kernel, by decide +kernel⟩
theorem ok_wm {n : Nat} (F : Fun K "with_modes" "with_modes" sWithM f fd) (G : Gm mg) (RC : Fn P w K mg base 1 "is_call" ["term"] (spIsCV K)) (RW : Fn P w K mg base 1 "with_parts" ["term", "parts"] (spWPV K)) (R : Fn P w K mg base (n + 1) "with_modes" ["term", "numbers"] (spWM K n)) : FnOk P w K mg base CX0 (n + 2) f fd ["term", "numbers"] (spWM K (n + 1)) := by
  refine F.ok scWithM (fun vs H Q E h => ?_) (fun cdv A outer s H vs Q E hr h => ?_)
  · obtain ⟨v, d, kvs, t, g, rfl, _⟩ := h
    rfl
  obtain ⟨v, lt, kvs, t, gm, rfl, ht, hlv, hlt, hT, q⟩ := h
  refine ⟨_, (pss_cons (ps_if (pt_val (pe_fn RC hr (pa_cons (pv 0) pa_nil) (Nat.le_add_left 1 n))) (pss_one (ps_ret (pe_tup (pa_cons (pe_str) (pa_cons (pe_dget (room_fit1 hr) (pv 1) (pe_ix ix_tup (pv 0) pe_int (fun _ _ => rfl)) (fun _ _ => rfl)) (pa_cons (pe_ix ix_tup (pv 0) pe_int (fun _ _ => rfl)) pa_nil)))))) pss_nil)
    (pss_one (ps_ret (pe_fn RW hr (pa_cons (pv 0) (pa_cons (pe_lcompG (CompG.many (xs := ["part"]) (caps := ["numbers"]) (cap := [1]) (cs := [_]) rfl rfl (by decide +kernel) (by decide +kernel) (by decide +kernel) (by decide +kernel) (by decide +kernel) (by decide +kernel) rfl rfl rfl) rfl (pi_tup (pe_ix ix_tup (pv 0) pe_int (fun _ _ => rfl))) (pg_c1 (CompG.many (xs := ["part"]) (caps := ["numbers"]) (cap := [1]) (cs := [_]) rfl rfl (by decide +kernel) (by decide +kernel) (by decide +kernel) (by decide +kernel) (by decide +kernel) (by decide +kernel) rfl rfl rfl)) (fun _ _ _ _ => pf_nil) (fun _ _ _ _ => pe_fn R hr (pa_cons (pv 0) (pa_cons (pv 1) pa_nil)) (Nat.le_refl _))) pa_nil)) (Nat.le_add_left 1 n))))), ?_⟩
  refine ⟨_, rfl, v, t, rfl, ht, _, rfl, ?_⟩
  rcases tv_open ht with ⟨a, m, b, rfl, rfl, h1⟩ | ⟨a, b, bs, nm, k, ad, rfl, et, h1, h2, h3, h4⟩
  · obtain ⟨ky, e1, e2⟩ := hT m b (by simp [clV])
    refine iteT ⟨_, rfl, _, rfl, a, _, 1, _, rfl, rfl, h1, rfl, lt, gm m, rfl, (by rw [← e2, e1]; exact DGet.k hlt), _, rfl, a, _, 2, _, rfl, rfl, h1, rfl, (by show 3 ≤ sizeLine; decide), fun p hp => ?_⟩
    have g1 := same_new hp (.tup [.str CALL, gm m, .int b])
    exact q (.ref p) _ g1 (.call (SqT.of upd_same))
  have ecls : clV t = clVs t.bs := by
    have := congrArg clV et
    rw [this]; simp [clV]
  rw [ecls] at hT
  rw [et]
  refine iteF ?_
  have hlen := h3.length
  rw [lv_bs] at hlv
  refine ⟨_, rfl, _, rfl, a, _, 4, _, rfl, rfl, h1, rfl, b, rfl, ⟨_, h2⟩, fun acc hacc => ?_⟩
  refine c1_tup (K := K) (xs := bs) (cs := [some (.ref lt)]) (tt := fun _ H Q => Q true H) (te := tCall (spWM K n) [] E0 (tCons (tVar 0) (tCons (tVar 1) tNil))) (fun i ys H' => H' acc = some (.lst ys) ∧ Same H H' ∧ ys.length = i ∧ TvAll K H' ys ((t.bs.take i).map (mpV gm)))
    ⟨upd_same, same_new hacc _, rfl, .nil⟩ ?_ ?_ ?_
  · rintro i ys H' _ ⟨_, g, _⟩
    exact g.seqT h2
  · rintro i x ys H' hi hx ⟨hya, g, hyl, hys⟩
    obtain ⟨c, hc⟩ : ∃ c, t.bs[i]? = some c := ⟨_, List.getElem?_eq_getElem (by omega)⟩
    obtain ⟨cv, hcv, hct⟩ := h3.get hc
    obtain rfl : cv = x := Option.some.inj (hcv.symm.trans hx)
    have hm := List.mem_of_getElem? hc
    have a1 := lv_le hm
    refine iteT ⟨_, rfl, _, rfl, cv, lt, kvs, c, gm, rfl, hct.mono fun _ _ => g.seqT, by omega, g _ _ hlt, fun m b hmb => hT m b (clV_mem hm hmb), fun v' H4 g4 hv' => ?_⟩
    refine comp_next (ys := ys) hi (g4 _ _ hya) (by omega) ⟨upd_same, fun x u e => ?_, by simp [hyl], ?_⟩
    · rw [upd_ne (ne_of_none e hacc)]; exact g4 _ _ (g _ _ e)
    · rw [List.take_add_one, hc]
      show TvAll K _ (ys ++ [v']) ((t.bs.take i ++ [c]).map (mpV gm))
      rw [List.map_append]
      refine TvAll.append (hys.mono fun _ _ h => (g4.seqT h).put (g4 _ _ hya)) (.cons (hv'.mono fun _ _ h => h.put (g4 _ _ hya)) .nil)
  rintro ys H1 ⟨hya, g, hyl, hys⟩
  have et2 : t.bs.take bs.length = t.bs := List.take_of_length_le (by omega)
  rw [et2] at hys
  refine ⟨.ref a, acc, ys, nm, k, ad, t.bs, t.bs.map (mpV gm), rfl, (by rw [← et]; exact ht.mono fun _ _ => g.seqT), SqL.of hya, hys, by omega, fun v' H2 g2 hv' => q v' H2 (g.trans g2) ?_⟩
  rw [et]
  rw [mpV, mpVs_map]
  exact hv'
theorem none_wm {k : Nat} : FnOk P w K mg base CX0 k f fd ["term", "numbers"] (spWM K 0) := by
  have no : ∀ vs H Q E, ¬ spWM K 0 vs H Q E := fun vs H Q E h => by
    obtain ⟨v, d, kvs, t, gm, _, _, h0, _⟩ := h
    rw [lv_bs] at h0; omega
  exact ⟨fun vs H Q E h => absurd h (no vs H Q E), fun A outer s H args us vs Q E _ _ _ _ h => absurd h (no vs H Q E)⟩
theorem all_wm (F : Fun K "with_modes" "with_modes" sWithM f fd) (G : Gm mg) (RC : Fn P w K mg base 1 "is_call" ["term"] (spIsCV K)) (RW : Fn P w K mg base 1 "with_parts" ["term", "parts"] (spWPV K)) (hb : Binds K fd ["term", "numbers"] []) (hm : mg "with_modes" = some (.ref f)) : ∀ n : Nat, FnOk P w K mg base CX0 (n + 1) f fd ["term", "numbers"] (spWM K n)
  | 0 => none_wm
  | n + 1 => ok_wm F G RC RW ⟨f, fd, all_wm F G RC RW hb hm n, hb, F.kp, hm⟩
end
end K14
namespace L2
open PySem PySem.Spec PyProof.Rows
theorem setOf_at {prog : Program} {w : World} {h h' : Heap} {S : Addr} {F : Str → Bool} {n : Nat} (k : ∀ o, h.get? S = some o → h'.get? S = some o) (q : Heap.SetOf (strKind prog w) h S F n) : Heap.SetOf (strKind prog w) h' S F n := by
  obtain ⟨o, es, ep, t, h1, r⟩ := q
  exact ⟨o, es, ep, t, k o h1, r⟩
theorem setOf_congr {prog : Program} {w : World} {h : Heap} {S : Addr} {F F' : Str → Bool} {n : Nat} (e : F = F') (q : Heap.SetOf (strKind prog w) h S F n) : Heap.SetOf (strKind prog w) h S F' n := e ▸ q
def TxtsAre (items : Array Value) (ns : List Str) : Prop := items.size = ns.length ∧ ∀ (j : Nat) (x : Str), ns[j]? = some x → ∃ t, items[j]? = some (.str x t)
def cntS (ns : List Str) : Nat → Nat
  | 0 => 0
  | i + 1 => match ns[i]? with
    | some x => if x ∈ ns.take i then cntS ns i else cntS ns i + 1
    | none => cntS ns i
theorem cntS_le (ns : List Str) : ∀ i, cntS ns i ≤ i
  | 0 => Nat.le_refl _
  | i + 1 => by
    have := cntS_le ns i
    unfold cntS
    split
    · split <;> omega
    · omega
theorem cntS_all {ns : List Str} (h : ns.Nodup) : ∀ i, i ≤ ns.length → cntS ns i = i
  | 0, _ => rfl
  | i + 1, hi => by
    have ih := cntS_all h i (by omega)
    have e : ns[i]? = some ns[i] := List.getElem?_eq_getElem (by omega)
    have hno : ns[i] ∉ ns.take i := fun z => by
      obtain ⟨j, hj, e⟩ := List.mem_take_iff_getElem.mp z
      have := (List.getElem_inj h).mp e
      omega
    unfold cntS
    rw [e]; simp only []; rw [if_neg hno, ih]
theorem cntS_few {ns : List Str} (h : ¬ ns.Nodup) : cntS ns ns.length < ns.length := by
  have : ∃ i, ∃ hi : i < ns.length, ns[i] ∈ ns.take i := Classical.byContradiction fun z => h (List.pairwise_iff_getElem.mpr fun i j hi hj hij e => z ⟨j, hj, List.mem_take_iff_getElem.mpr ⟨i, by omega, e⟩⟩)
  obtain ⟨i, hi, hm⟩ := this
  have go : ∀ k, i + 1 + k ≤ ns.length → cntS ns (i + 1 + k) < i + 1 + k := fun k => by
    induction k with
    | zero =>
      intro _
      have := cntS_le ns i
      show cntS ns (i + 1) < i + 1
      unfold cntS
      rw [List.getElem?_eq_getElem hi]; simp only []; rw [if_pos hm]; omega
    | succ k ih =>
      intro hk
      have := ih (by omega)
      show cntS ns ((i + 1 + k) + 1) < _
      unfold cntS
      split
      · split <;> omega
      · omega
  have := go (ns.length - (i + 1)) (by omega)
  rwa [show i + 1 + (ns.length - (i + 1)) = ns.length by omega] at this
theorem set_loopS {prog : Program} {w : World} {A : Around} {R : Result → Shared → Prop} {I S l : Addr} {items : Array Value} {ns : List Str} (hh : A.handled = none) (hIS : S ≠ I) (hIl : l ≠ I) (hSl : l ≠ S) (hv : TxtsAre items ns) (hb : ns.length + 1 < scanBound) :
    ∀ (k i : Nat) (s : Shared), ns.length - i = k → i ≤ ns.length → s.heap.IsListIter I l i → s.heap.IsList l items → Heap.SetOf (strKind prog w) s.heap S (fun x => decide (x ∈ ns.take i)) (cntS ns i) →
      (∀ (h' : Heap) (tk : Nat), (∀ b o, b ≠ I → b ≠ S → s.heap.get? b = some o → h'.get? b = some o) → Heap.SetOf (strKind prog w) h' S (fun x => decide (x ∈ ns)) (cntS ns ns.length) → R (.ok (.ret .none)) { s with heap := h', toks := tk }) →
      codeAny (model prog w) A (.builtin "set.update.loop" ⟨[.ref S, .ref I], []⟩) R s := by
  intro k
  induction k with
  | zero =>
    intro i s hk hi st hl q kk
    have ei : i = ns.length := by omega
    refine codeAny_builtin F.entry_set_update_loop ?_; rw [Around.under_plainId F.plain_set_update_loop _]
    show wpAny _ A.in1 (pyNext (.ref I) >>= _) _ _ s
    refine wpAny_bind (wpAny_pyNext_list_end (A := A.in1) hh st hl (by have := hv.1; simp; omega) fun h' eb => ?_)
    refine wpAny_pure (kk h' s.toks (fun b o n1 _ e => eb b o n1 e) ?_)
    rw [ei, List.take_length] at q
    exact setOf_at (fun o e => eb S o hIS e) q
  | succ k ih =>
    intro i s hk hi st hl q kk
    have hi' : i < ns.length := by omega
    obtain ⟨t, ht⟩ := hv.2 i ns[i] (List.getElem?_eq_getElem hi')
    refine codeAny_builtin F.entry_set_update_loop ?_; rw [Around.under_plainId F.plain_set_update_loop _]
    show wpAny _ A.in1 (pyNext (.ref I) >>= _) _ _ s
    refine wpAny_bind (wpAny_pyNext_list_item (A := A.in1) st hl ht fun h1 st1 sb => ?_)
    have q1 := setOf_at (h' := h1) (fun o e => (sb.2 S hIS).trans e) q
    have hl1 : h1.IsList l items := by
      obtain ⟨o, e, r⟩ := hl
      exact ⟨o, (sb.2 l hIl).trans e, r⟩
    refine wpAny_bind (wpAny_holding ?_)
    unfold setAdd
    refine wpAny_holding (wpAny_bind ((strKind prog w).pyHash (strKind_is prog w ns[i] t) ?_))
    refine wpAny_setAddHashed_of (knd := strKind prog w) (strKind_is prog w ns[i] t) rfl q1 (by have := cntS_le ns i; omega) fun h2 sb2 q2 => ?_
    have hcn : cntS ns (i + 1) = if (fun x => decide (x ∈ ns.take i)) ns[i] then cntS ns i else cntS ns i + 1 := by
      show (match ns[i]? with | some x => if x ∈ ns.take i then cntS ns i else cntS ns i + 1 | none => cntS ns i) = _
      rw [List.getElem?_eq_getElem hi']; simp
    have q3 : Heap.SetOf (strKind prog w) h2 S (fun x => decide (x ∈ ns.take (i + 1))) (cntS ns (i + 1)) := by
      rw [hcn]; exact setOf_congr (by
      funext x
      rw [List.take_add_one, List.getElem?_eq_getElem hi', Option.toList_some, Bool.eq_iff_iff]
      simp only [Bool.or_eq_true, decide_eq_true_eq, List.mem_append, List.mem_singleton]) q2
    have st2 : h2.IsListIter I l (i + 1) := by
      obtain ⟨o, e, r⟩ := st1
      exact ⟨o, (sb2.2 I hIS.symm).trans e, r⟩
    have hl2 : h2.IsList l items := by
      obtain ⟨o, e, r⟩ := hl1
      exact ⟨o, (sb2.2 l hSl).trans e, r⟩
    refine wpAny_pure ⟨plainId_quiet F.plain_set_update_loop _, ?_⟩
    exact ih (i + 1) _ (by omega) (by omega) st2 hl2 q3 fun h' tk kp q' => kk h' tk (fun b o n1 n2 e => kp b o n1 n2 ((sb2.2 b n2).trans ((sb.2 b n1).trans e))) q'
section
variable {X : Cx} {pins : List (Addr × Obj)} {σ : St}
theorem fits0 (led : Bool) : (SetTable.fresh 0 0 led).fits 0 = true := by cases led <;> decide
theorem set_new {prog : Program} {w : World} {h : Heap} {S : Addr} {led : Bool} (e : h.get? S = some { cls := .type "set", data := .set #[] 0 (SetTable.fresh 0 0 led) }) : Heap.SetOf (strKind prog w) h S (fun x => decide (x ∈ ([] : List Str))) 0 := by
  refine ⟨_, #[], 0, _, e, ?_, rfl, ?_, ?_, by decide, fits0 led, rfl⟩
  · first | exact ⟨rfl, rfl⟩ | exact ⟨rfl, rfl, rfl⟩ | rfl | decide
  · first | exact .nil | exact ⟨fun _ h => nomatch h, .nil⟩ | simp [ElemsOf] | (unfold ElemsOf; simp)
  · intro k
    simp
end
end L2
namespace L2
open PySem PySem.Spec PyProof.Rows
section
variable {prog : Program} {w : World} {A : Around} {E : Value → Shared → Prop} {s : Shared}
abbrev bareSet (led : Bool) : Obj := { cls := .type "set", dict := none, data := .set #[] 0 (.fresh 0 0 led) }
theorem init_setS {led : Bool} {l : Addr} {its : Array Value} {ns : List Str} {R : Result → Shared → Prop} (hh : A.handled = none) (hl : s.heap.IsList l its) (hv : TxtsAre its ns) (hb : ns.length + 1 < scanBound) (hp : Heap)
    (ep : hp = s.heap.push (bareSet led))
    (k : ∀ (h2 : Heap) (tk : Nat), Heap.SetOf (strKind prog w) h2 s.heap.objs.size (fun x => decide (x ∈ ns)) (cntS ns ns.length) → (∀ b ob, b < s.heap.objs.size → s.heap.get? b = some ob → h2.get? b = some ob) → R (.ok (.ret .none)) { s with heap := h2, toks := tk }) :
    codeAny (model prog w) A (.call (.builtin "set.__init__") ⟨[.ref s.heap.objs.size, .ref l], []⟩) R { s with heap := hp } := by
  subst ep
  have gS : (s.heap.push (bareSet led)).get? s.heap.objs.size = some (bareSet led) := Heap.get?_push_size _ rfl
  have tS : Shared.TypeIs { s with heap := s.heap.push (bareSet led) } (.ref s.heap.objs.size) "set" := ⟨_, gS, rfl⟩
  refine codeAny_call_builtin F.called_set.init.plain F.entry_set_init (check_set_init_1 tS ?_)
  obtain ⟨ol, gl, cl, nl, dl⟩ := hl
  obtain ⟨oc, od, oda, osl⟩ := ol
  simp only at cl dl
  subst cl; subst dl
  have gl1 : (s.heap.push (bareSet led)).get? l = some { cls := .type "list", dict := od, data := .seq its nl, slots := osl } := Heap.get?_push_of_some _ gl
  have n1 := F.sub_list_set
  have n2 := F.sub_list_frozenset
  have n3 : (Value.type "list" == Value.type "dict") = false := by decide
  have il : (s.heap.push (bareSet led)).IsList l its := ⟨_, gl1, rfl, nl, rfl⟩
  unfold Builtin.«set.__init__» noKeywords Builtin.Frozenset.updateFrom
  generalize hPI : pyIter = PI
  wp_walk
  subst hPI
  refine wpAny_pyIter_list il ?_
  refine wpAny_bind (wpAny_runValue ?_)
  have ll : l < s.heap.objs.size := Heap.lt_size gl
  have e1 : (s.heap.push (bareSet led)).objs.size = s.heap.objs.size + 1 := Heap.size_push ..
  refine set_loopS (by simp [hh]) (by rw [e1]; exact Nat.ne_of_lt (Nat.lt_succ_self _)) (by rw [e1]; exact Nat.ne_of_lt (Nat.lt_succ_of_lt ll)) (Nat.ne_of_lt ll) hv hb (ns.length - 0) 0 _ (by omega) (Nat.zero_le _) ⟨_, Heap.get?_push_size _ rfl, rfl, rfl⟩ (il.push _) (set_new (led := led) (Heap.get?_push_of_some _ gS)) fun h2 tk kp q => ?_
  show wpAny _ _ _ _ _ _
  refine wpAny_pure ?_
  show wpAny _ _ (ret Value.none) _ _ _
  refine wpAny_pure (k h2 tk q fun b ob lb e => kp b ob (by rw [e1]; exact Nat.ne_of_lt (Nat.lt_succ_of_lt lb)) (Nat.ne_of_lt lb) (Heap.get?_push_of_some _ (Heap.get?_push_of_some _ e)))
theorem call_setS {l : Addr} {its : Array Value} {ns : List Str} {Q : Value → Shared → Prop} (hh : A.handled = none) (hl : s.heap.IsList l its) (hv : TxtsAre its ns) (hb : ns.length + 1 < scanBound)
    (k : ∀ (h2 : Heap) (tk : Nat), Heap.SetOf (strKind prog w) h2 s.heap.objs.size (fun x => decide (x ∈ ns)) (cntS ns ns.length) → (∀ b ob, b < s.heap.objs.size → s.heap.get? b = some ob → h2.get? b = some ob) → Q (.ref s.heap.objs.size) { s with heap := h2, toks := tk }) :
    wpAny (model prog w) A (call (.type "set") [.ref l]) Q E s := by
  obtain ⟨c, tl, hmro⟩ := F.called_set.mro
  have f1 := F.called_set.made
  have f2 := F.called_set.sub
  have f3 := F.called_set.notType
  have f4 := F.called_set.canCreate
  have f5 := F.typeCall_set_1 (.ref l)
  refine wpAny_call (codeAny_of_tree ?_)
  show wpAny _ _ (callAny (.type "set") _) _ _ _
  refine wpAny_pure ⟨Code.quiet_builtin _ (by decide +kernel), codeAny_builtin F.entry_type_call ?_⟩
  rw [Around.under_plain (weight_type_call_type "set" [.ref l] []) rfl]
  repeat (any_goals (first | assumption | wp_step))
  refine codeAny_mono (code_set_new_1 (.ref l) (E := E) (Q₁ := fun ob s1 => ∃ led : Bool, ob = .ref s.heap.objs.size ∧ s1 = { s with heap := s.heap.push (bareSet led) }) fun led => ⟨led, rfl, rfl⟩) fun r s1 hr => ?_
  cases r with
  | error e => exact hr
  | ok fl =>
    cases fl with
    | ret ob =>
      obtain ⟨led, rfl, rfl⟩ := hr
      have gS : (s.heap.push (bareSet led)).get? s.heap.objs.size = some (bareSet led) := Heap.get?_push_size _ rfl
      have tS : Shared.TypeIs { s with heap := s.heap.push (bareSet led) } (.ref s.heap.objs.size) "set" := ⟨_, gS, rfl⟩
      have f6 := F.called_set.init.lookup
      have f7 := F.called_set.init.bind (.ref s.heap.objs.size)
      repeat (any_goals (first | assumption | wp_step))
      refine codeAny_mono (init_setS (R := wants (fun r s2 => r = .none ∧ ∃ h2 tk, s2 = { s with heap := h2, toks := tk } ∧ Heap.SetOf (strKind prog w) h2 s.heap.objs.size (fun x => decide (x ∈ ns)) (cntS ns ns.length) ∧ ∀ b ob, b < s.heap.objs.size → s.heap.get? b = some ob → h2.get? b = some ob) E) (by simp [hh]) hl hv hb _ rfl fun h2 tk q kp => ⟨rfl, h2, tk, rfl, q, kp⟩) fun r2 s2 hr2 => ?_
      cases r2 with
      | error e => exact hr2
      | ok fl2 =>
        cases fl2 with
        | ret r =>
          obtain ⟨rfl, h2, tk, rfl, q, kp⟩ := hr2
          repeat (any_goals (first | assumption | wp_step))
          exact k _ _ q kp
        | _ => exact hr2.elim
    | _ => exact hr.elim
end
def TxO (P : Program) (w : World) (S : Addr) (F : Str → Bool) (n : Nat) : HO := .ext fun h => Heap.SetOf (strKind P w) h S F n
theorem txts_of_vals {its : List Value} {ns : List Str} (r : Vals (ns.map V.str) its) : TxtsAre its.toArray ns := by
  refine ⟨by have := r.length; simp at this ⊢; omega, fun j x h => ?_⟩
  have h2 : (ns.map V.str)[j]? = some (.str x) := by rw [List.getElem?_map, h]; rfl
  obtain ⟨u, hu, ⟨t, rfl⟩⟩ := Vals.get r h2
  exact ⟨t, by simpa using hu⟩
section
variable {X : Cx}
theorem call_setTx (hc : X.calm = true) : CallR X (.type "set") (fun xs H Q => ∃ (l : Addr) (ns : List Str), xs = [.ref l] ∧ SqL X.K H l (ns.map V.str) ∧ ns.length ≤ 1000 ∧ ∀ S, H S = none → Q (.ref S) (upd H S (TxO X.prog X.w S (fun x => decide (x ∈ ns)) (cntS ns ns.length)))) := by
  intro pins s σ H xs us Q I rr h
  obtain ⟨l, ns, rfl, hl, hn, q⟩ := h
  obtain ⟨u, rfl, rx⟩ := vals1 rr
  cases rx
  obtain ⟨its, r, pl, hz⟩ := I.list hl
  refine call_setS (ns := ns) (I.ok.hd hc) pl.isList (txts_of_vals r) (by unfold scanBound; omega) fun h2 tk hs kp => ?_
  exact ⟨.ref s.heap.objs.size, _, I.laid (t' := tk) (fun b o e => kp b o (Heap.lt_size e) e) (Nat.le_refl _) (show ObjOk X.prog X.w _ h2 _ (TxO X.prog X.w _ _ _) from ⟨hs, (by obtain ⟨o, _, _, _, e, _⟩ := hs; exact ⟨o, e⟩), fun h1 h3 a k => setOf_at k a⟩), rfl, q _ (I.hok.fresh (Nat.le_refl _))⟩
theorem call_lenTx : CallR X (.builtin "len") (fun xs H Q => ∃ (S : Addr) (F : Str → Bool) (n : Nat), xs = [.ref S] ∧ H S = some (TxO X.prog X.w S F n) ∧ n ≤ 1000 ∧ Q (.int n) H) := by
  intro pins s σ H xs us Q I rr h
  obtain ⟨S, F, n, rfl, hS, hn, q⟩ := h
  obtain ⟨u, rfl, rx⟩ := vals1 rr
  cases rx
  obtain ⟨⟨o, es, ep, t, g, ex, d, a, b, c, f, z⟩, _⟩ := (show ObjOk X.prog X.w H s.heap S (TxO X.prog X.w S F n) from I.hok S _ hS)
  exact call_len_set g ex d f (by rw [z]; omega) ⟨.int n, H, (I.tok _).tok _, ⟨s.toks + 1, by rw [z]⟩, q⟩
end
end L2
namespace L2
open PySem PySem.Spec PyProof.Rows
section
variable {prog : Program} {w : World} {K : Type} [DecidableEq K] {knd : KeyKind prog w K} {A : Around} {E : Value → Shared → Prop} {s : Shared}
theorem sdf_pairs {d : Addr} {kvs : List (K × Value)} {k : K} {key dflt : Value} {Q : Value → Shared → Prop} (hkey : knd.is k key = true) (hm : s.heap.DictOf knd d kvs)
    (hthere : ∀ v, valueAt kvs k = some v → Q v { s with toks := s.toks + 1 })
    (hnew : k ∉ kvs.map (·.1) → ∀ h' : Heap, h'.DictOf knd d (kvs ++ [(k, dflt)]) → Heap.SameBut d s.heap h' → Q dflt { s with heap := h', toks := s.toks + 1 })
    (hsz : kvs.length ≤ sizeLine) : wpAny (model prog w) A (dictSetDefault d key dflt) Q E s := by
  have hmap := hm.mapOf
  obtain ⟨o, es, ep, ho, hc, hd, hk, hp, hn⟩ := hm
  have hes : es.size ≤ sizeLine := by
    have e1 := hp.length
    have e2 : es.toList.length = es.size := by simp
    omega
  have hidx : (es.findIdx? fun e => knd.is k e.key) = kvs.findIdx? fun kv => decide (kv.1 = k) := by
    rw [← hp.findIdx k]; obtain ⟨l⟩ := es; simp
  unfold dictSetDefault
  try with_reducible refine wpAny_holding ?_
  refine wpAny_bind (knd.pyHash hkey ?_)
  refine wpAny_bind (wpAny_dictFind_of (s := { s with toks := s.toks + 1 }) hkey ho hd hk ?_)
  cases hi : es.findIdx? fun e => knd.is k e.key with
  | some i =>
    have hlt : i < es.size := (Array.findIdx?_eq_some_iff_findIdx_eq.mp hi).1
    refine wpAny_bind (wpAny_dictEntries (s := { s with toks := s.toks + 1 }) ho hd ?_)
    have hfk : valueAt kvs k = some es[i].val := by
      rw [← hp.find k]
      have h1 : (es.toList.findIdx? fun e => knd.is k e.key) = some i := by rw [← hi]; obtain ⟨l⟩ := es; simp
      have h2 := List.findIdx?_eq_some_iff_findIdx_eq.mp h1
      have h3 : es.toList.find? (fun e => knd.is k e.key) = some es.toList[i] := by
        rw [List.find?_eq_some_iff_getElem]
        obtain ⟨a, b, c⟩ := List.findIdx?_eq_some_iff_getElem.mp h1
        exact ⟨b, i, a, rfl, fun j hj => by simpa using c j hj⟩
      rw [h3]
      simp
    rw [Array.getElem?_eq_getElem hlt]
    exact wpAny_bind (wpAny_rule (wpAny_pure (hthere _ hfk)))
  | none =>
    have hnot : k ∉ kvs.map (·.1) := not_mem_of_findIdx_none (hidx ▸ hi)
    refine wpAny_bind (wpAny_rule (wpAny_bind (wpAny_updateDictKeys (hz := hes) (s := { s with toks := s.toks + 1 }) ho hd (wpAny_pure (hnew hnot _ ⟨_, _, ep + 1, Heap.get?_update_self _ ho (Obj.isFreed_of_dict (Obj.data_mapDictKeys hd _)),
      hc.mapDictKeys _, Obj.data_mapDictKeys hd _, hk.push hkey _, ?_, ?_⟩ (Heap.SameBut.update ..))))))
    · have := hp.append hkey (knd.hash k) dflt
      obtain ⟨l⟩ := es
      simpa using this
    · rw [List.map_append, List.nodup_append]
      refine ⟨hn, by simp, ?_⟩
      intro a ha b hb
      simp only [List.map_cons, List.map_nil, List.mem_singleton] at hb
      subst hb
      exact fun e => hnot (e ▸ ha)
theorem sdf_meets {k : K} {key : Value} {d : Addr} (hkey : knd.is k key = true) (hd : (d == sysModules) = false) (dflt : Value) (kvs : List (K × Value)) (hsz : kvs.length ≤ sizeLine) :
    MeetsIn prog w (Builtin.«dict.setdefault» ⟨[.ref d, key, dflt], []⟩) (fun _ R s => s.heap.DictOf knd d kvs ∧
      (∀ v, valueAt kvs k = some v → R (.ok (.ret v)) { s with toks := s.toks + 1 }) ∧
      (k ∉ kvs.map (·.1) → ∀ h' : Heap, h'.DictOf knd d (kvs ++ [(k, dflt)]) → Heap.SameBut d s.heap h' → R (.ok (.ret dflt)) { s with heap := h', toks := s.toks + 1 })) :=
  .of_wp fun A R s ⟨hm, h1, h2⟩ => by
    unfold Builtin.«dict.setdefault»
    refine wpAny_bind ?_
    unfold Builtin.Dict.keyAndDefault
    refine wpAny_bind (wpAny_notOrdered_dict hm.mapOf.typeIs ?_)
    show wpAny _ _ (pure (d, key, some dflt)) _ _ s
    refine wpAny_pure ?_
    show wpAny _ _ (if (d == sysModules) = true then _ else (dictSetDefault d key dflt >>= _)) _ _ s
    rw [if_neg (by rw [hd]; exact Bool.false_ne_true)]
    exact wpAny_bind (sdf_pairs hkey hm (fun v hv => wpAny_pure ⟨v, rfl, h1 v hv⟩) (fun hn h' hm' hs' => wpAny_pure ⟨dflt, rfl, h2 hn h' hm' hs'⟩) hsz)
end
section
variable {X : Cx}
theorem mt_setdefault : MtR X "dict.setdefault" (fun x vs H Q => ∃ (d : Addr) (kvs : List (Key × V)) (k : Key) (v : V), x = .ref d ∧ vs = [kV k, v] ∧ H d = some (.dK kvs) ∧ kvs.length < sizeLine ∧
    (∀ u, valV kvs k = some u → Q u H) ∧ (k ∉ kvs.map (·.1) → Q v (upd H d (.dK (kvs ++ [(k, v)]))))) := by
  intro pins s σ H x xs v us Q I rx rv h
  obtain ⟨d, kvs, k, v', rfl, rfl, e, hl, h1, h2⟩ := h
  cases rx
  obtain ⟨u1, us', rfl, r1, rr⟩ : ∃ u1 us', us = u1 :: us' ∧ RelV (kV k) u1 ∧ Vals [v'] us' := by cases rv with | cons a b => exact ⟨_, _, rfl, a, b⟩
  obtain ⟨u2, rfl, r2⟩ := rr.one
  obtain ⟨z, hd, vs, rel, dd⟩ := dk_of I.hok e
  have hz : vs.length ≤ sizeLine := by rw [← rel.length]; exact z
  refine call_meetsIn F.slot_dict_setdefault dd.mapOf.typeIs F.entry_dict_setdefault (F.args_dict_setdefault_3 _ _ _) (sdf_meets (kV_is r1) hd u2 vs hz) ⟨dd, fun w' hw => ?_, fun hn h' dd' hs => ?_⟩
  · have hr := rel.val k
    rw [hw] at hr
    cases hu : valV kvs k with
    | none => rw [hu] at hr; exact hr.elim
    | some u => rw [hu] at hr; exact ⟨u, H, I.tok _, hr, h1 u hu⟩
  · have hn' : k ∉ kvs.map (·.1) := by rw [KV.keys rel]; exact hn
    have he : ∃ q, h'.get? d = some q := let ⟨q, _, _, hq, _⟩ := dd'; ⟨q, hq⟩
    exact ⟨v', _, d_write I (by rw [e]; exact True.intro) hs he (dk_new (by rw [List.length_append]; exact hl) hd (by have hp := KV.put rel k r2; unfold putK stored at hp; rw [if_neg (by rw [List.any_eq_true]; rintro ⟨a, ha, e⟩; exact hn' (List.mem_map.mpr ⟨a, ha, of_decide_eq_true e⟩)), if_neg (by rw [List.any_eq_true]; rintro ⟨a, ha, e⟩; exact hn (List.mem_map.mpr ⟨a, ha, of_decide_eq_true e⟩))] at hp; exact hp) dd'), r2, h2 hn'⟩
end
end L2
namespace K14
open PySem L2 K3 TM K9
def spRowsOf (K : PySem.W.Frag) : Sp := fun vs H Q _ => ∃ (w : Addr) (kind : Str) (ks : List KdT), vs = [.ref w, .str kind] ∧ WoodAt K H w ks ∧ WoodOk ks ∧ ∀ (lr : Addr) (H' : Hp), Same H H' → RowsL K H' lr (rowsK ks kind) → Q (.ref lr) H'
def spRowOf (K : PySem.W.Frag) : Sp := fun vs H Q _ => ∃ (w : Addr) (kind name : Str) (ks : List KdT), vs = [.ref w, .str kind, .str name] ∧ WoodAt K H w ks ∧ WoodOk ks ∧ ∀ (v : V) (H' : Hp), Same H H' → RowV K H' v (rowK ks kind name) → Q v H'
def spTwB (K : PySem.W.Frag) : Sp := fun vs H Q _ => ∃ (l : Addr) (ns : List Str), vs = [.ref l] ∧ SqL K H l (ns.map V.str) ∧ ns.length ≤ 30 ∧ ∀ H', Same H H' → Q (.bl (!decide ns.Nodup)) H'
mutual
def vN : TN → TV
  | .node (.call m b) _ _ => .node (.call (.str (S m)) b) 0 []
  | .node (.put n k a) _ bs => .node (.put (S n) k a) 0 (vNs bs)
def vNs : List TN → List TV
  | [] => []
  | t :: r => vN t :: vNs r
end
mutual
theorem TnV.tv {K : PySem.W.Frag} {H : Hp} : ∀ {v : V} {t : TN}, TnV K H v t → TvV K H v (vN t)
  | _, _, .call h => by rw [vN]; exact .call h
  | _, _, .put h1 h2 h3 h4 => by rw [vN]; exact .put h1 h2 (TnAll.tv h3) h4
theorem TnAll.tv {K : PySem.W.Frag} {H : Hp} : ∀ {vs : List V} {ts : List TN}, TnAll K H vs ts → TvAll K H vs (vNs ts)
  | _, _, .nil => by rw [vNs]; exact .nil
  | _, _, .cons h t => by rw [vNs]; exact .cons (TnV.tv h) (TnAll.tv t)
end
theorem RuV.mono {K : PySem.W.Frag} {H H' : Hp} {v : V} {x : RuN} (k : ∀ a xs, SqT K H a xs → SqT K H' a xs) (h : RuV K H v x) : RuV K H' v x := by
  obtain ⟨a, tv, e, h1, h2⟩ := h.ex
  exact ⟨a, tv, e, k _ _ h1, TnV.mono k h2⟩
structure RuL (K : PySem.W.Frag) (H : Hp) (us : List V) (rs : List RuN) : Prop where
  len : us.length = rs.length
  at_ : ∀ (i : Nat) (v : V) (x : RuN), us[i]? = some v → rs[i]? = some x → RuV K H v x
theorem RuL.get {K : PySem.W.Frag} {H : Hp} {us : List V} {rs : List RuN} (h : RuL K H us rs) {i : Nat} {v : V} (e : us[i]? = some v) : ∃ x, rs[i]? = some x ∧ RuV K H v x := by
  have hi : i < us.length := (List.getElem?_eq_some_iff.mp e).1
  have hi2 : i < rs.length := by rw [← h.len]; exact hi
  exact ⟨rs[i], List.getElem?_eq_getElem hi2, h.at_ i v _ e (List.getElem?_eq_getElem hi2)⟩
def InN (kvs : List (Key × V)) (g : V → V) (t : TV) : Prop := ∀ m b, (m, b) ∈ clV t → ∃ k : Key, m = kV k ∧ valV kvs k = some (g m)
def spNumd (K : PySem.W.Frag) : Sp := fun vs H Q _ => ∃ (v : V) (d : Addr) (kvs : List (Key × V)) (t : TV) (g : V → V), vs = [v, .ref d] ∧ TvV K H v t ∧ lv t ≤ 9 ∧ sz t ≤ 1000 ∧ H d = some (.dK kvs) ∧ InN kvs g t ∧ ∀ (v' : V) (H' : Hp), Same H H' → TvV K H' v' (mpV g t) → Q v' H'
def szR (rs : List RuN) : Nat := (rs.map fun r => sz (vN r.t)).sum
def spChkNu (K : PySem.W.Frag) : Sp := fun vs H Q _ => ∃ (v : V) (t : TV) (l : Addr) (us : List V) (rs : List RuN), vs = [v, .ref l] ∧ TvV K H v t ∧ lv t ≤ 9 ∧ SqL K H l us ∧ RuL K H us rs ∧ (∀ r ∈ rs, lv (vN r.t) ≤ 9) ∧ rs.length ≤ 40 ∧ sz t + szR rs ≤ 120 ∧ ∀ H', Same H H' → Q .non H'
section
variable {P : Program} {w : World} {K : PySem.W.Frag} {mg : Str → Option Value} {base : Heap} {f : Addr} {fd : FuncData}
theorem scRowsOf : FnScope ["wood", "kind"] ["wood", "kind"] (defScope sRowsOf) := ⟨rfl, rfl, rfl, by decide +kernel, rfl, by decide +kernel, by decide +kernel⟩
theorem ok_rowsOf (F : Fun K "rows_of" "rows_of" sRowsOf f fd) (GA : GmA mg) : FnOk P w K mg base CX0 1 f fd ["wood", "kind"] (spRowsOf K) := by
  refine F.ok scRowsOf (fun vs H Q E h => ?_) (fun cdv A outer s H vs Q E hr h => ?_)
  · obtain ⟨w, kind, ks, rfl, _⟩ := h
    rfl
  obtain ⟨wd, kind, ks, rfl, hW, hO, q⟩ := h
  refine ⟨_, (pss_one (ps_ret (pe_dget2 (room_fit1 hr) (pe_callTy (call_dictP rfl) rfl GA.dict PyProof.Rows.boot_dict (pa_cons (pv 0) pa_nil)) (pv 1) (pe_lst pa_nil) ⟨rfl, rfl, rfl, rfl⟩))), ?_⟩
  have hlen := hO.len
  refine ⟨_, rfl, wd, ks.map (fun k => (k.1, k.2.1, V.ref k.2.2.1)), rfl, (by rw [List.map_map]; exact hW.1), fun t ht => ?_, (by rw [List.map_map]; exact hO.nd), (by rw [List.length_map]; omega), fun d hd => ⟨d, rfl, .inl ⟨_, .inl upd_same⟩, _, rfl, (by show 0 ≤ sizeLine; decide), fun p hp => ⟨_, DGet.k (k := Sum.inr kind) ((same_new hp _) _ _ upd_same), ?_⟩⟩⟩
  · obtain ⟨k, hk, rfl⟩ := List.mem_map.mp ht
    exact (hW.2 k hk).1
  · have g1 := same_new hd (.dK ((ks.map (fun k => (k.1, k.2.1, V.ref k.2.2.1))).map fun t => ((Sum.inr t.2.1 : Key), t.2.2)))
    have g2 := same_new hp (.lst [])
    have g12 := g1.trans g2
    have ev : valV ((ks.map (fun k => (k.1, k.2.1, V.ref k.2.2.1))).map fun t => ((Sum.inr t.2.1 : Key), t.2.2)) (Sum.inr kind) = (ks.find? fun k => decide (k.2.1 = kind)).map fun k => V.ref k.2.2.1 := by
      rw [List.map_map]
      exact val_map (fun k : KdT => k.2.1) (fun k => V.ref k.2.2.1) kind ks
    rw [ev]
    unfold rowsK at q
    cases e : ks.find? fun k => decide (k.2.1 = kind) with
    | none =>
      rw [e] at q
      exact q p _ g12 ⟨SqL.of upd_same, fun t ht => (nomatch ht)⟩
    | some k =>
      rw [e] at q
      exact q k.2.2.1 _ g12 ((hW.2 k (List.mem_of_find?_eq_some e)).2.same g12)
theorem scRowOf : FnScope ["wood", "kind", "name"] ["wood", "kind", "name"] (defScope sRowOf) := ⟨rfl, rfl, rfl, by decide +kernel, rfl, by decide +kernel, by decide +kernel⟩
theorem ok_rowOf (F : Fun K "row_of" "row_of" sRowOf f fd) (GA : GmA mg) (RO : Fn P w K mg base 1 "rows_of" ["wood", "kind"] (spRowsOf K)) : FnOk P w K mg base CX0 2 f fd ["wood", "kind", "name"] (spRowOf K) := by
  refine F.ok scRowOf (fun vs H Q E h => ?_) (fun cdv A outer s H vs Q E hr h => ?_)
  · obtain ⟨w, kind, name, ks, rfl, _⟩ := h
    rfl
  obtain ⟨wd, kind, name, ks, rfl, hW, hO, q⟩ := h
  refine ⟨_, (pss_one (ps_ret (pe_dget1 (room_fit1 hr) (pe_callTy (call_dictP rfl) rfl GA.dict PyProof.Rows.boot_dict (pa_cons (pe_fn RO hr (pa_cons (pv 0) (pa_cons (pv 1) pa_nil))) pa_nil)) (pv 2) ⟨rfl, rfl, rfl, rfl⟩))), ?_⟩
  refine ⟨_, rfl, _, rfl, wd, kind, ks, rfl, hW, hO, fun lr H1 g1 hR => ?_⟩
  have hRo := rowsK_ok hO kind
  have hlen := hRo.len
  refine ⟨lr, (rowsK ks kind).map (fun r => (r.1, r.2.1, V.ref r.2.2.1)), rfl, (by rw [List.map_map]; exact hR.1), fun t ht => ?_, (by rw [List.map_map]; exact hRo.nd), (by rw [List.length_map]; omega), fun d hd => ⟨d, rfl, .inl ⟨_, .inl upd_same⟩, _, rfl, _, DGet.k (k := Sum.inr name) upd_same, ?_⟩⟩
  · obtain ⟨k, hk, rfl⟩ := List.mem_map.mp ht
    exact (hR.2 k hk).1
  · have g2 := same_new hd (.dK (((rowsK ks kind).map (fun r => (r.1, r.2.1, V.ref r.2.2.1))).map fun t => ((Sum.inr t.2.1 : Key), t.2.2)))
    have ev : valV (((rowsK ks kind).map (fun r => (r.1, r.2.1, V.ref r.2.2.1))).map fun t => ((Sum.inr t.2.1 : Key), t.2.2)) (Sum.inr name) = ((rowsK ks kind).find? fun r => decide (r.2.1 = name)).map fun r => V.ref r.2.2.1 := by
      rw [List.map_map]
      exact val_map (fun r : PNx => r.2.1) (fun r => V.ref r.2.2.1) name (rowsK ks kind)
    rw [ev]
    unfold rowK at q
    cases e : (rowsK ks kind).find? fun r => decide (r.2.1 = name) with
    | none =>
      rw [e] at q
      exact q .non _ (g1.trans g2) rfl
    | some r =>
      rw [e] at q
      exact q (.ref r.2.2.1) _ (g1.trans g2) ⟨_, rfl, g2.seqT (hR.2 r (List.mem_of_find?_eq_some e)).2⟩
theorem scTw : FnScope ["names"] ["names"] (defScope sTwice) := ⟨rfl, rfl, rfl, by decide +kernel, rfl, by decide +kernel, by decide +kernel⟩
theorem ok_tw (F : Fun K "has_one_twice" "has_one_twice" sTwice f fd) (G : Gm mg) (GA : GmA mg) : FnOk P w K mg base CX0 1 f fd ["names"] (spTwB K) := by
  refine F.ok scTw (fun vs H Q E h => ?_) (fun cdv A outer s H vs Q E hr h => ?_)
  · obtain ⟨l, ns, rfl, _⟩ := h
    rfl
  obtain ⟨l, ns, rfl, hl, h30, q⟩ := h
  refine ⟨_, (pss_one (ps_ret (pe_cmpR op_lt (pe_callB call_lenTx rfl G.len PySem.boot_len (pa_cons (pe_callTy (call_setTx rfl) rfl GA.set PyProof.Rows.boot_set (pa_cons (pv 0) pa_nil)) pa_nil)) (pe_callB call_len_seq rfl G.len PySem.boot_len (pa_cons (pv 0) pa_nil)) (nomark _)))), ?_⟩
  refine ⟨_, rfl, l, ns, rfl, hl, by omega, fun S hS => ?_⟩
  have s1 := same_new hS (TxO P w S (fun x => decide (x ∈ ns)) (cntS ns ns.length))
  refine ⟨S, _, _, rfl, upd_same, (by have := cntS_le ns ns.length; omega), _, rfl, l, _, rfl, .inl (s1.seq hl), _, _, rfl, rfl, ?_⟩
  have e : decide (((cntS ns ns.length : Nat) : Int) < ((ns.map V.str).length : Nat)) = !decide ns.Nodup := by
    rw [List.length_map]
    by_cases hnd : ns.Nodup
    · rw [decide_eq_true hnd, decide_eq_false (by rw [cntS_all hnd _ (Nat.le_refl _)]; omega)]; rfl
    · rw [decide_eq_false hnd, decide_eq_true (by have := cntS_few hnd; omega)]; rfl
  show Q (.bl (decide (((cntS ns ns.length : Nat) : Int) < ((ns.map V.str).length : Nat)))) _
  rw [e]
  exact q _ s1
theorem scNumd : FnScope ["term", "numbers", "mode", "branch"] ["term", "numbers"] (defScope sNumd) := ⟨rfl, rfl, rfl, by decide +kernel, rfl, by decide +kernel, by decide +kernel⟩
theorem ok_numd (F : Fun K "numbered" "numbered" sNumd f fd) (RCO : Fn P w K mg base 10 "calls_of" ["term"] (spCOV K 9)) (RWM : Fn P w K mg base 10 "with_modes" ["term", "numbers"] (spWM K 9)) : FnOk P w K mg base CX0 11 f fd ["term", "numbers"] (spNumd K) := by
  refine F.ok scNumd (fun vs H Q E h => ?_) (fun cdv A outer s H vs Q E hr h => ?_)
  · obtain ⟨v, d, kvs, t, g, rfl, _⟩ := h
    rfl
  obtain ⟨v, d, kvs, t, g, rfl, ht, hlv, hsz, hd, hin, q⟩ := h
  refine ⟨_, (pss_cons (ps_for PassesOwn.never rfl (pi_list (pe_fn RCO hr (pa_cons (pv 0) pa_nil))) (pg_tup rfl (pgs_cons (pg_name (i := 2) scNumd.nd rfl (Or.inl rfl)) (pgs_cons (pg_name (i := 3) scNumd.nd rfl (Or.inl rfl)) pgs_nil)))
      (pss_one (ps_if (pt_cmp (pc_dnotin (room_fit1 hr) (pv 2) (pv 1))) pss_never pss_nil)))
    (pss_one (ps_ret (pe_fn RWM hr (pa_cons (pv 0) (pa_cons (pv 1) pa_nil)))))), ?_⟩
  refine ⟨_, rfl, v, t, rfl, ht, hlv, hsz, fun l H1 ts g1 hl0 hl hts hcl => ?_⟩
  refine ⟨l, rfl, ⟨_, SqL.of hl⟩, ?_⟩
  refine for_list (K := K) (xs := RfV ts) (fun i σ H' => ∃ c2 c3 : Option V, σ = [some v, some (.ref d), c2, c3] ∧ H1 = H') ⟨none, none, rfl, rfl⟩ ?_ ?_ ?_
  · rintro i σ H' _ ⟨_, _, _, rfl⟩
    exact SqL.of hl
  · rintro i x σ H' hx ⟨c2, c3, rfl, rfl⟩
    have hi : i < ts.length := by have := (List.getElem?_eq_some_iff.mp hx).1; rw [List.length_map] at this; exact this
    obtain rfl : x = .ref ts[i].1 := by
      rw [List.getElem?_map, List.getElem?_eq_getElem hi] at hx
      exact (Option.some.inj hx).symm
    have hm : ts[i].2 ∈ clV t := by rw [← hcl]; exact List.mem_map_of_mem (List.getElem_mem hi)
    obtain ⟨k, e1, e2⟩ := hin ts[i].2.1 ts[i].2.2 hm
    refine ⟨_, _, rfl, hts _ (List.getElem_mem hi), rfl, _, _, rfl, _, _, rfl, rfl, ?_⟩
    refine ⟨_, rfl, _, rfl, d, _, rfl, (by rw [e1]; exact DGet.k (k := k) (g1 _ _ hd)), _, rfl, ?_⟩
    rw [e2]
    exact iteF ⟨_, _, rfl, rfl⟩
  · rintro σ H' ⟨c2, c3, rfl, rfl⟩
    exact ⟨_, rfl, _, rfl, v, d, kvs, t, g, rfl, ht.mono fun _ _ => g1.seqT, hlv, g1 _ _ hd, hin, fun v' H2 g2 h2 => q v' H2 (g1.trans g2) h2⟩
theorem scChkNu : FnScope ["start", "rules"] ["start", "rules"] (defScope sChkN) := ⟨rfl, rfl, rfl, by decide +kernel, rfl, by decide +kernel, by decide +kernel⟩
theorem ok_chkNu (F : Fun K "check_numbers" "check_numbers" sChkN f fd) (G : Gm mg) (hmr : ∃ t, mg "MOST_RULES" = some (.int 40 t)) (hmp : ∃ t, mg "MOST_PUTS_AND_CALLS" = some (.int 120 t)) (RTS : Fn P w K mg base 10 "term_size" ["term"] (spTSV K 9)) : FnOk P w K mg base CX0 11 f fd ["start", "rules"] (spChkNu K) := by
  refine F.ok scChkNu (fun vs H Q E h => ?_) (fun cdv A outer s H vs Q E hr h => ?_)
  · obtain ⟨v, t, l, us, rs, rfl, _⟩ := h
    rfl
  obtain ⟨v, t, l, us, rs, rfl, ht, hlv, hl, hR, hrl, h40, h120, q⟩ := h
  obtain ⟨t1, ht1⟩ := hmr
  obtain ⟨t2, ht2⟩ := hmp
  refine ⟨_, (pss_cons (ps_if (pt_cmpR op_gt (pe_callB call_len_seq rfl G.len PySem.boot_len (pa_cons (pv 1) pa_nil)) (pe_glob (v := .int 40) rfl ht1 ⟨_, rfl⟩) (nomark _)) pss_never pss_nil)
    (pss_one (ps_if (pt_cmpR op_gt (pe_op op_add (pe_fn RTS hr (pa_cons (pv 0) pa_nil)) (pe_callB (call_sum rfl) rfl G.sum PyProof.Rows.boot_sum (pa_cons (pe_lcompG (CompG.many (xs := ["rule"]) (caps := []) (cap := []) (cs := []) rfl rfl (by decide +kernel) (by decide +kernel) (by decide +kernel) (by decide +kernel) (by decide +kernel) (by decide +kernel) rfl rfl rfl) rfl (pi_list (pv 1)) (pg_c1 (CompG.many (xs := ["rule"]) (caps := []) (cap := []) (cs := []) rfl rfl (by decide +kernel) (by decide +kernel) (by decide +kernel) (by decide +kernel) (by decide +kernel) (by decide +kernel) rfl rfl rfl)) (fun _ _ _ _ => pf_nil) (fun _ _ _ _ => pe_fn RTS hr (pa_cons (pe_ix (r := rIxT K) ix_tup (pv 0) pe_int (fun _ _ => rfl)) pa_nil))) pa_nil))) (pe_glob (v := .int 120) rfl ht2 ⟨_, rfl⟩) (nomark _)) pss_never pss_nil))), ?_⟩
  refine ⟨_, rfl, l, us, rfl, .inl hl, _, _, rfl, rfl, _, rfl, iteN (by have := hR.len; omega) ?_⟩
  refine ⟨_, rfl, v, t, rfl, ht, hlv, by omega, fun H1 g1 => ?_⟩
  refine ⟨_, rfl, l, rfl, ⟨_, g1.seq hl⟩, fun acc hacc => ?_⟩
  refine c1_list (K := K) (xs := us) (cs := []) (tt := fun _ H Q => Q true H) (fun j ys H' => ys = ((rs.take j).map fun r => (sz (vN r.t) : Int)).map V.int ∧ H' acc = some (.lst ys) ∧ Same H1 H')
    ⟨rfl, upd_same, same_new hacc _⟩ ?_ ?_ ?_
  · rintro j ys H' _ ⟨_, _, g⟩
    exact (g1.trans g).seq hl
  · rintro j x ys H' hj hx ⟨rfl, hy, g⟩
    obtain ⟨r, hr1, hrv⟩ := hR.get hx
    obtain ⟨a, tv, rfl, h1, h2⟩ := hrv.ex
    have hm := List.mem_of_getElem? hr1
    have hsz : sz (vN r.t) ≤ szR rs := by
      unfold szR
      have : ∀ (l : List Nat) (a : Nat), a ∈ l → a ≤ l.sum := fun l a h => by
        induction l with
        | nil => cases h
        | cons b r ih =>
          rw [List.sum_cons]
          rcases List.mem_cons.mp h with rfl | h
          · omega
          · have := ih h; omega
      exact this _ _ (List.mem_map_of_mem hm)
    have gg := g1.trans g
    refine iteT ⟨_, rfl, a, _, 3, _, rfl, rfl, gg.seqT h1, rfl, tv, vN r.t, rfl, h2.tv.mono fun _ _ => gg.seqT, hrl r hm, by omega, fun H4 g4 => ?_⟩
    refine comp_next hj (g4 _ _ hy) (by rw [List.length_map, List.length_map, List.length_take]; omega) ⟨?_, upd_same, fun b u e => ?_⟩
    · rw [List.take_add_one, hr1]; simp
    · rw [upd_ne (ne_of_none e hacc)]; exact g4 _ _ (g _ _ e)
  rintro ys H2 ⟨rfl, hy, g2⟩
  rw [hR.len, List.take_length] at hy
  have hsum : (rs.map fun r => (sz (vN r.t) : Int)).sum = (szR rs : Int) := by
    unfold szR
    clear hR hrl h40 h120 hy q
    induction rs with
    | nil => rfl
    | cons r l ih => rw [List.map_cons, List.sum_cons, ih, List.map_cons, List.sum_cons]; omega
  refine ⟨acc, _, rfl, SqL.of hy, ⟨fun m hm => ?_, ?_⟩, ?_⟩
  · obtain ⟨r, _, rfl⟩ := List.mem_map.mp hm
    omega
  · rw [hsum]; omega
  · rw [hsum]
    exact ⟨_, _, rfl, rfl, _, _, rfl, rfl, _, rfl, iteN (by omega) (q H2 (g1.trans g2))⟩
end
end K14
namespace K14
open PySem L2 K3 TM K9
def dW (ks : List KdT) : List (Str × List PNx) := ks.map fun k => (k.2.1, k.2.2.2)
theorem find_dW (kind : Str) : ∀ ks : List KdT, rowsK ks kind = (((dW ks).find? fun k => decide (k.1 = kind)).map fun k => k.2).getD []
  | [] => rfl
  | k :: r => by
    have ih := find_dW kind r
    unfold rowsK at ih ⊢
    unfold dW at ih ⊢
    rw [List.map_cons, List.find?_cons, List.find?_cons]
    by_cases e : k.2.1 = kind
    · rw [decide_eq_true e]; rfl
    · rw [decide_eq_false e]; exact ih
theorem rowsK_dW {ks ks' : List KdT} (h : dW ks' = dW ks) (kind : Str) : rowsK ks' kind = rowsK ks kind := by rw [find_dW, find_dW, h]
theorem rowK_dW {ks ks' : List KdT} (h : dW ks' = dW ks) (kind name : Str) : rowK ks' kind name = rowK ks kind name := by unfold rowK; rw [rowsK_dW h]
theorem WoodOk.dW {ks ks' : List KdT} (h : dW ks' = dW ks) (o : WoodOk ks) : WoodOk ks' := by
  have h1 : (ks'.map fun k => k.2.1) = ks.map fun k => k.2.1 := by
    have := congrArg (List.map Prod.fst) h
    unfold K14.dW at this
    rw [List.map_map, List.map_map] at this
    exact this
  refine ⟨by rw [h1]; exact o.nd, ?_, fun k hk => ?_⟩
  · have := congrArg List.length h1
    rw [List.length_map, List.length_map] at this
    rw [this]; exact o.len
  · have hm : (k.2.1, k.2.2.2) ∈ K14.dW ks' := List.mem_map_of_mem hk
    rw [h] at hm
    obtain ⟨k0, hk0, e⟩ := List.mem_map.mp hm
    injection e with e1 e2
    rw [← e2]; exact o.rows k0 hk0
structure NewWd (K : PySem.W.Frag) (H H' : Hp) (lw : Addr) (ks : List KdT) : Prop where
  n0 : H lw = none
  at0 : H' lw = some (.lst (ks.map fun k => V.ref k.1))
  kd : ∀ k ∈ ks, SqT K H' k.1 [.str k.2.1, .ref k.2.2.1] ∧ H' k.2.2.1 = some (.lst (k.2.2.2.map fun t => V.ref t.1)) ∧ H k.2.2.1 = none ∧ ∀ t ∈ k.2.2.2, RowAt K H' t
theorem NewWd.wood {K : PySem.W.Frag} {H H' : Hp} {lw : Addr} {ks : List KdT} (h : NewWd K H H' lw ks) : WoodAt K H' lw ks := ⟨SqL.of h.at0, fun k hk => ⟨(h.kd k hk).1, SqL.of (h.kd k hk).2.1, (h.kd k hk).2.2.2⟩⟩
abbrev rListOf (K : PySem.W.Frag) : List V → Hp → VK → Prop := fun xs H Q => ∃ p ys, xs = [.ref p] ∧ (SqL K H p ys ∨ SqT K H p ys) ∧ ∀ l, H l = none → Q (.ref l) (upd H l (.lst ys))
def spOwnW (K : PySem.W.Frag) : Sp := fun vs H Q _ => ∃ (w : Addr) (ks : List KdT), vs = [.ref w] ∧ WoodAt K H w ks ∧ ks.length ≤ 100 ∧ ∀ (lw : Addr) (H' : Hp) (ks' : List KdT), Same H H' → NewWd K H H' lw ks' → dW ks' = dW ks → Q (.ref lw) H'
structure MoOk (ks : List KdT) (rs : List RuN) (kd : List Nat) : Prop where
  kind : ∀ r ∈ rs, r.k = kd
  row : ∀ r ∈ rs, rowK ks (S kd) (S r.n) ≠ none
  nd : (rs.map fun r => S r.n).Nodup
  all : (rowsK ks (S kd)).length ≤ rs.length
  few : rs.length ≤ 30
def spChkM (K : PySem.W.Frag) : Sp := fun vs H Q _ => ∃ (w l : Addr) (mo kd : List Nat) (ks : List KdT) (us : List V) (rs : List RuN), vs = [.ref w, .str (S mo), .str (S kd), .ref l] ∧ WoodAt K H w ks ∧ WoodOk ks ∧ SqL K H l us ∧ RuL K H us rs ∧ MoOk ks rs kd ∧ ∀ H', Same H H' → Q .non H'
def RuN.ok (kvs : List (Key × V)) (g : V → V) (r : RuN) : Prop := lv (vN r.t) ≤ 9 ∧ sz (vN r.t) ≤ 1000 ∧ InN kvs g (vN r.t)
def ruT (rs : List RuN) (name : Str) : TV := ((rs.find? fun r => decide (S r.n = name)).map fun r => vN r.t).getD (.node (.put (S []) false 0) 0 [])
def spModeO (K : PySem.W.Frag) : Sp := fun vs H Q _ => ∃ (w d l : Addr) (kd : List Nat) (kvs : List (Key × V)) (g : V → V) (ks : List KdT) (us : List V) (rs : List RuN), vs = [.ref w, .ref d, .ref l] ∧ WoodAt K H w ks ∧ WoodOk ks ∧ H d = some (.dK kvs) ∧ SqL K H l us ∧ RuL K H us rs ∧ rs ≠ [] ∧ MoOk ks rs kd ∧ (∀ r ∈ rs, r.ok kvs g) ∧
  ∀ (p lt : Addr) (H' : Hp) (vs : List V), Same H H' → SqT K H' p [.str (S kd), .ref lt] → H lt = none → H' lt = some (.lst vs) → TvAll K H' vs ((rowsK ks (S kd)).map fun t => mpV g (ruT rs t.2.1)) → Q (.ref p) H'
section
variable {P : Program} {w : World} {K : PySem.W.Frag} {mg : Str → Option Value} {base : Heap} {f : Addr} {fd : FuncData}
theorem scOwnW : FnScope ["wood"] ["wood"] (defScope sOwnW) := ⟨rfl, rfl, rfl, by decide +kernel, rfl, by decide +kernel, by decide +kernel⟩
theorem ok_ownW (F : Fun K "own_wood" "own_wood" sOwnW f fd) (G : Gm mg) : FnOk P w K mg base CX0 1 f fd ["wood"] (spOwnW K) := by
  refine F.ok scOwnW (fun vs H Q E h => ?_) (fun cdv A outer s H vs Q E hr h => ?_)
  · obtain ⟨wd, ks, rfl, _⟩ := h
    rfl
  obtain ⟨wd, ks, rfl, hW, h100, q⟩ := h
  refine ⟨_, (pss_one (ps_ret (pe_lcompG (CompG.many (xs := ["kind", "rows"]) (caps := []) (cap := []) (cs := []) rfl rfl (by decide +kernel) (by decide +kernel) (by decide +kernel) (by decide +kernel) (by decide +kernel) (by decide +kernel) rfl rfl rfl) rfl (pi_list (pv 0)) (pg_c2 (CompG.many (xs := ["kind", "rows"]) (caps := []) (cap := []) (cs := []) rfl rfl (by decide +kernel) (by decide +kernel) (by decide +kernel) (by decide +kernel) (by decide +kernel) (by decide +kernel) rfl rfl rfl) rfl) (fun _ _ _ _ => pf_nil) (fun _ _ _ _ => (pe_tup (pa_cons (pv 0) (pa_cons (pe_callTy (r := rListOf K) call_list_of rfl G.lst PyProof.Rows.boot_list (pa_cons (pv 1) pa_nil)) pa_nil))))))), ?_⟩
  refine ⟨_, rfl, wd, rfl, ⟨_, hW.1⟩, fun acc hacc => ?_⟩
  refine c2_list (K := K) (xs := ks.map fun t => V.ref t.1) (cs := []) (tt := fun _ H Q => Q true H) (fun j ys H' => ∃ ks' : List KdT, ys = ks'.map (fun k => V.ref k.1) ∧ dW ks' = dW (ks.take j) ∧ H' acc = some (.lst ys) ∧ Same H H' ∧ ∀ k ∈ ks', SqT K H' k.1 [.str k.2.1, .ref k.2.2.1] ∧ H' k.2.2.1 = some (.lst (k.2.2.2.map fun t => V.ref t.1)) ∧ H k.2.2.1 = none ∧ k.2.2.1 ≠ acc ∧ ∀ t ∈ k.2.2.2, RowAt K H' t)
    ⟨[], rfl, rfl, upd_same, same_new hacc _, fun k hk => (nomatch hk)⟩ ?_ ?_ ?_
  · rintro j ys H' _ ⟨_, _, _, _, g, _⟩
    exact g.seq hW.1
  · rintro j x ys H' hj hx ⟨ks', rfl, hd, hy, g, hA⟩
    rw [List.length_map] at hj
    obtain rfl : x = .ref ks[j].1 := by
      rw [List.getElem?_map, List.getElem?_eq_getElem hj] at hx
      exact (Option.some.inj hx).symm
    obtain ⟨k1, k2⟩ := hW.2 ks[j] (List.getElem_mem hj)
    refine ⟨_, _, _, rfl, g.seqT k1, iteT ⟨_, rfl, _, rfl, ks[j].2.2.1, _, rfl, .inl (g.seq k2.1), fun l1 hl1 => ⟨(by show 2 ≤ sizeLine; decide), fun p hp => ?_⟩⟩⟩
    have s1 := same_new hl1 (.lst (ks[j].2.2.2.map fun t => V.ref t.1))
    have b1 : upd H' l1 (.lst (ks[j].2.2.2.map fun t => V.ref t.1)) l1 = some (.lst (ks[j].2.2.2.map fun t => V.ref t.1)) := upd_same
    generalize upd H' l1 (.lst (ks[j].2.2.2.map fun t => V.ref t.1)) = X1 at s1 b1 hp ⊢
    have s2 := same_new hp (.tup [.str ks[j].2.1, .ref l1])
    have b2 : upd X1 p (.tup [.str ks[j].2.1, .ref l1]) p = some (.tup [.str ks[j].2.1, .ref l1]) := upd_same
    generalize upd X1 p (.tup [.str ks[j].2.1, .ref l1]) = X2 at s2 b2 ⊢
    have g12 := s1.trans s2
    have hlen : ks'.length = j := by
      have := congrArg List.length hd
      unfold dW at this
      rw [List.length_map, List.length_map, List.length_take] at this; omega
    have nl : l1 ≠ acc := fun z => by rw [z, hy] at hl1; cases hl1
    have nH : H l1 = none := by
      cases e : H l1 with
      | none => rfl
      | some u => rw [g _ _ e] at hl1; cases hl1
    have hy2 := g12 _ _ hy
    rw [List.length_map]
    refine comp_next hj hy2 (by rw [List.length_map]; omega) ⟨ks' ++ [(p, ks[j].2.1, l1, ks[j].2.2.2)], by simp, ?_, upd_same, fun b u e => ?_, fun k hk => ?_⟩
    · unfold dW at hd ⊢
      rw [List.map_append, hd, List.take_add_one, List.getElem?_eq_getElem hj, Option.toList_some, List.map_append]; rfl
    · rw [upd_ne (ne_of_none e hacc)]; exact g12 _ _ (g _ _ e)
    · rcases List.mem_append.mp hk with hk | hk
      · obtain ⟨a1, a2, a3, a4, a5⟩ := hA k hk
        exact ⟨(g12.seqT a1).put hy2, by rw [upd_ne a4]; exact g12 _ _ a2, a3, a4, fun t ht => ⟨(g12.seqT (a5 t ht).1).put hy2, (g12.seqT (a5 t ht).2).put hy2⟩⟩
      · obtain rfl := List.mem_singleton.mp hk
        exact ⟨(SqT.of b2).put hy2, by rw [upd_ne nl]; exact s2 _ _ b1, nH, nl, fun t ht => ⟨((g.trans g12).seqT (k2.2 t ht).1).put hy2, ((g.trans g12).seqT (k2.2 t ht).2).put hy2⟩⟩
  · rintro ys H' ⟨ks', rfl, hd, hy, g, hA⟩
    rw [List.length_map, List.take_length] at hd
    exact q acc H' ks' g ⟨hacc, hy, fun k hk => ⟨(hA k hk).1, (hA k hk).2.1, (hA k hk).2.2.1, (hA k hk).2.2.2.2⟩⟩ hd
theorem scChkM : FnScope ["wood", "mode", "kind", "rules", "rule", "names", "name"] ["wood", "mode", "kind", "rules"] (defScope sChkM) := ⟨rfl, rfl, rfl, by decide +kernel, rfl, by decide +kernel, by decide +kernel⟩
theorem ok_chkM (F : Fun K "check_mode" "check_mode" sChkM f fd) (G : Gm mg) (RR : Fn P w K mg base 2 "row_of" ["wood", "kind", "name"] (spRowOf K)) (RT : Fn P w K mg base 1 "has_one_twice" ["names"] (spTwB K)) (RO : Fn P w K mg base 1 "rows_of" ["wood", "kind"] (spRowsOf K)) : FnOk P w K mg base CX0 3 f fd ["wood", "mode", "kind", "rules"] (spChkM K) := by
  refine F.ok scChkM (fun vs H Q E h => ?_) (fun cdv A outer s H vs Q E hr h => ?_)
  · obtain ⟨wd, l, mo, kd, ks, us, rs, rfl, _⟩ := h
    rfl
  obtain ⟨wd, l, mo, kd, ks, us, rs, rfl, hW, hO, hl, hR, hM, q⟩ := h
  refine ⟨_, (pss_cons (ps_for PassesOwn.never rfl (pi_list (pv 3)) (pg_name (i := 4) scChkM.nd rfl (Or.inl rfl)) (pss_one (ps_if (pt_cmpR op_ne (pe_ix ix_tup (pv 4) pe_int (fun _ _ => rfl)) (pv 2) (nomark _)) pss_never pss_nil)))
    (pss_cons (ps_setG (i := 5) (CompG.many (xs := ["rule"]) (caps := []) (cap := []) (cs := []) rfl rfl (by decide +kernel) (by decide +kernel) (by decide +kernel) (by decide +kernel) (by decide +kernel) (by decide +kernel) rfl rfl rfl) rfl (pi_list (pv 3)) (pg_c1 (CompG.many (xs := ["rule"]) (caps := []) (cap := []) (cs := []) rfl rfl (by decide +kernel) (by decide +kernel) (by decide +kernel) (by decide +kernel) (by decide +kernel) (by decide +kernel) rfl rfl rfl)) (fun _ _ _ _ => pf_nil) (fun _ _ _ _ => pe_ix (r := rIxT K) ix_tup (pv 0) pe_int (fun _ _ => rfl)) scChkM.nd rfl rfl)
    (pss_cons (ps_for PassesOwn.never rfl (pi_list (pv 5)) (pg_name (i := 6) scChkM.nd rfl (Or.inl rfl)) (pss_one (ps_if (pt_cmpR op_isN (pe_fn RR hr (pa_cons (pv 0) (pa_cons (pv 2) (pa_cons (pv 6) pa_nil)))) pe_non (nomark _)) pss_never pss_nil)))
    (pss_cons (ps_if (pt_val (pe_fn RT hr (pa_cons (pv 5) pa_nil))) pss_never pss_nil)
    (pss_one (ps_if (pt_cmpR op_lt (pe_callB call_len_seq rfl G.len PySem.boot_len (pa_cons (pv 5) pa_nil)) (pe_callB call_len_seq rfl G.len PySem.boot_len (pa_cons (pe_fn RO hr (pa_cons (pv 0) (pa_cons (pv 2) pa_nil))) pa_nil)) (nomark _)) pss_never pss_nil)))))), ?_⟩
  refine ⟨_, rfl, l, rfl, ⟨_, hl⟩, ?_⟩
  refine for_list (K := K) (xs := us) (fun i σ H' => ∃ c4 : Option V, σ = [some (.ref wd), some (.str (S mo)), some (.str (S kd)), some (.ref l), c4, none, none] ∧ H = H') ⟨none, rfl, rfl⟩ ?_ ?_ ?_
  · rintro i σ H' _ ⟨_, _, rfl⟩
    exact hl
  · rintro i x σ H' hx ⟨c4, rfl, rfl⟩
    obtain ⟨r, hr1, hrv⟩ := hR.get hx
    obtain ⟨a, tv, rfl, h1, h2⟩ := hrv.ex
    have hk := hM.kind r (List.mem_of_getElem? hr1)
    rw [hk] at h1
    refine ⟨_, rfl, a, _, 1, _, rfl, rfl, h1, rfl, _, rfl, rfl, _, rfl, ?_⟩
    show if _ = true then _ else _
    rw [decide_eq_true (show V.str (S kd) = V.str (S kd) from rfl)]
    exact iteF ⟨_, rfl, rfl⟩
  rintro σ H' ⟨c4, rfl, rfl⟩
  refine ⟨_, rfl, l, rfl, ⟨_, hl⟩, fun acc hacc => ?_⟩
  refine c1_list (K := K) (xs := us) (cs := []) (tt := fun _ H Q => Q true H) (fun j ys H' => ys = ((rs.take j).map fun r => S r.n).map V.str ∧ H' acc = some (.lst ys) ∧ Same H H')
    ⟨rfl, upd_same, same_new hacc _⟩ ?_ ?_ ?_
  · rintro j ys H' _ ⟨_, _, g⟩
    exact g.seq hl
  · rintro j x ys H' hj hx ⟨rfl, hy, g⟩
    obtain ⟨r, hr1, hrv⟩ := hR.get hx
    obtain ⟨a, tv, rfl, h1, h2⟩ := hrv.ex
    have := hR.len
    have := hM.few
    refine iteT ⟨_, rfl, a, _, 2, _, rfl, rfl, g.seqT h1, rfl, ?_⟩
    refine comp_next hj hy (by rw [List.length_map, List.length_map, List.length_take]; omega) ⟨?_, upd_same, fun b u e => ?_⟩
    · rw [List.take_add_one, hr1]; simp
    · rw [upd_ne (ne_of_none e hacc)]; exact g _ _ e
  rintro ys H1 ⟨rfl, hy, g1⟩
  rw [hR.len, List.take_length] at hy
  have hnm : SqL K H1 acc ((rs.map fun r => S r.n).map V.str) := SqL.of hy
  refine ⟨_, rfl, acc, rfl, ⟨_, hnm⟩, ?_⟩
  refine for_list (K := K) (xs := (rs.map fun r => S r.n).map V.str) (fun i σ H' => ∃ c4 c6 : Option V, σ = [some (.ref wd), some (.str (S mo)), some (.str (S kd)), some (.ref l), c4, some (.ref acc), c6] ∧ Same H1 H') ⟨c4, none, rfl, fun _ _ e => e⟩ ?_ ?_ ?_
  · rintro i σ H' _ ⟨_, _, _, g⟩
    exact g.seq hnm
  · rintro i x σ H' hx ⟨c4, c6, rfl, g⟩
    have hi : i < rs.length := by have := (List.getElem?_eq_some_iff.mp hx).1; rw [List.length_map, List.length_map] at this; exact this
    obtain rfl : x = .str (S rs[i].n) := by
      rw [List.getElem?_map, List.getElem?_map, List.getElem?_eq_getElem hi] at hx
      exact (Option.some.inj hx).symm
    have hrow := hM.row rs[i] (List.getElem_mem hi)
    refine ⟨_, rfl, _, rfl, _, rfl, wd, S kd, S rs[i].n, ks, rfl, (hW.same g1).same g, hO, fun v H2 g2 hv => ?_⟩
    cases e : rowK ks (S kd) (S rs[i].n) with
    | none => exact absurd e hrow
    | some ss =>
      rw [e] at hv
      obtain ⟨b, rfl, _⟩ := hv
      exact ⟨rfl, _, rfl, iteN (fun z => by cases z) ⟨_, _, rfl, g.trans g2⟩⟩
  rintro σ H2 ⟨c4, c6, rfl, g2⟩
  refine ⟨_, rfl, acc, _, rfl, g2.seq hnm, (by rw [List.length_map]; exact hM.few), fun H3 g3 => ?_⟩
  rw [decide_eq_true hM.nd]
  refine ⟨_, rfl, iteF ?_⟩
  refine ⟨_, rfl, acc, _, rfl, .inl (g3.seq (g2.seq hnm)), _, rfl, _, rfl, wd, S kd, ks, rfl, ((hW.same g1).same g2).same g3, hO, fun lr H4 g4 hL => ?_⟩
  refine ⟨lr, _, rfl, .inl hL.1, _, _, rfl, rfl, _, rfl, iteN ?_ (q H4 (g1.trans (g2.trans (g3.trans g4))))⟩
  have := hM.all
  rw [List.length_map, List.length_map, List.length_map]; omega
end
end K14
namespace K14
open PySem L2 K3 TM K9
theorem pig {α : Type} [DecidableEq α] : ∀ (l1 l2 : List α), l1.Nodup → (∀ x ∈ l1, x ∈ l2) → l2.length ≤ l1.length → ∀ x ∈ l2, x ∈ l1
  | [], l2, _, _, hl, x, hx => by
    have : l2 = [] := List.length_eq_zero_iff.mp (by simpa using hl)
    rw [this] at hx; cases hx
  | a :: l1, l2, hn, hs, hl, x, hx => by
    obtain ⟨h1, h2⟩ := List.nodup_cons.mp hn
    have ha := hs a List.mem_cons_self
    by_cases e : x = a
    · rw [e]; exact List.mem_cons_self
    · refine List.mem_cons_of_mem _ (pig l1 (l2.erase a) h2 (fun y hy => ?_) ?_ x ((List.mem_erase_of_ne e).mpr hx))
      · exact (List.mem_erase_of_ne (fun z : y = a => h1 (by rw [← z]; exact hy))).mpr (hs y (List.mem_cons_of_mem _ hy))
      · rw [List.length_erase_of_mem ha]
        simp at hl
        omega
theorem find_nd {α : Type} (f : α → Str) : ∀ (xs : List α), (xs.map f).Nodup → ∀ (i : Nat) (h : i < xs.length), xs.find? (fun x => decide (f x = f xs[i])) = some xs[i]
  | x :: r, hn, 0, _ => by rw [List.find?_cons]; simp
  | x :: r, hn, i + 1, h => by
    rw [List.map_cons] at hn
    obtain ⟨h1, h2⟩ := List.nodup_cons.mp hn
    have hi : i < r.length := by simpa using h
    have ih := find_nd f r h2 i hi
    have hne : ¬ f x = f r[i] := fun z => h1 (by rw [z]; exact List.mem_map_of_mem (List.getElem_mem hi))
    rw [List.getElem_cons_succ, List.find?_cons, decide_eq_false hne]
    exact ih
theorem MoOk.has {ks : List KdT} {rs : List RuN} {kd : List Nat} (h : MoOk ks rs kd) {t : PNx} (ht : t ∈ rowsK ks (S kd)) : ∃ (i : Nat) (hi : i < rs.length), S rs[i].n = t.2.1 := by
  have := pig (rs.map fun r => S r.n) ((rowsK ks (S kd)).map fun t => t.2.1) h.nd (fun x hx => ?_) (by rw [List.length_map, List.length_map]; exact h.all) t.2.1 (List.mem_map_of_mem ht)
  · obtain ⟨r, hr, e⟩ := List.mem_map.mp this
    obtain ⟨i, hi, rfl⟩ := List.mem_iff_getElem.mp hr
    exact ⟨i, hi, e⟩
  · obtain ⟨r, hr, rfl⟩ := List.mem_map.mp hx
    have := h.row r hr
    unfold rowK at this
    cases e : (rowsK ks (S kd)).find? fun x => decide (x.2.1 = S r.n) with
    | none => rw [e] at this; exact absurd rfl this
    | some y =>
      have h1 := List.mem_of_find?_eq_some e
      have h2 := List.find?_some e
      rw [← of_decide_eq_true h2]
      exact List.mem_map_of_mem h1
theorem MoOk.ru {ks : List KdT} {rs : List RuN} {kd : List Nat} (h : MoOk ks rs kd) {i : Nat} (hi : i < rs.length) : ruT rs (S rs[i].n) = vN rs[i].t := by
  unfold ruT
  rw [find_nd (fun r : RuN => S r.n) rs h.nd i hi]
  rfl
section
variable {P : Program} {w : World} {K : PySem.W.Frag} {mg : Str → Option Value} {base : Heap} {f : Addr} {fd : FuncData}
theorem scModeO : FnScope ["wood", "numbers", "rules", "kind", "terms"] ["wood", "numbers", "rules"] (defScope sModeO) := ⟨rfl, rfl, rfl, by decide +kernel, rfl, by decide +kernel, by decide +kernel⟩
theorem ok_modeO (F : Fun K "mode_of" "mode_of" sModeO f fd) (GA : GmA mg) (RM : Fn P w K mg base 3 "check_mode" ["wood", "mode", "kind", "rules"] (spChkM K)) (RN : Fn P w K mg base 11 "numbered" ["term", "numbers"] (spNumd K)) (RO : Fn P w K mg base 1 "rows_of" ["wood", "kind"] (spRowsOf K)) : FnOk P w K mg base CX0 12 f fd ["wood", "numbers", "rules"] (spModeO K) := by
  refine F.ok scModeO (fun vs H Q E h => ?_) (fun cdv A outer s H vs Q E hr h => ?_)
  · obtain ⟨wd, d, l, kd, kvs, g, ks, us, rs, rfl, _⟩ := h
    rfl
  obtain ⟨wd, d, l, kd, kvs, g, ks, us, rs, rfl, hW, hO, hd, hl, hR, hne, hM, hok, q⟩ := h
  refine ⟨_, (pss_cons (ps_set (i := 3) scModeO.nd rfl (Or.inl rfl) (pe_ix ix_tup (pe_ix ix_list (pv 2) pe_int (fun _ _ => rfl)) pe_int (fun _ _ => rfl)))
    (pss_cons (ps_expr (pe_fn RM hr (pa_cons (pv 0) (pa_cons (pe_ix ix_tup (pe_ix ix_list (pv 2) pe_int (fun _ _ => rfl)) pe_int (fun _ _ => rfl)) (pa_cons (pv 3) (pa_cons (pv 2) pa_nil))))))
    (pss_cons (ps_set (i := 4) scModeO.nd rfl (Or.inr rfl) (pe_callTy (call_dictP rfl) rfl GA.dict PyProof.Rows.boot_dict (pa_cons (pe_lcompG (CompG.many (xs := ["rule"]) (caps := ["numbers"]) (cap := [1]) (cs := [_]) rfl rfl (by decide +kernel) (by decide +kernel) (by decide +kernel) (by decide +kernel) (by decide +kernel) (by decide +kernel) rfl rfl rfl) rfl (pi_list (pv 2)) (pg_c1 (CompG.many (xs := ["rule"]) (caps := ["numbers"]) (cap := [1]) (cs := [_]) rfl rfl (by decide +kernel) (by decide +kernel) (by decide +kernel) (by decide +kernel) (by decide +kernel) (by decide +kernel) rfl rfl rfl)) (fun _ _ _ _ => pf_nil) (fun _ _ _ _ => (pe_tup (pa_cons (pe_ix (r := rIxT K) ix_tup (pv 0) pe_int (fun _ _ => rfl)) (pa_cons (pe_fn RN hr (pa_cons (pe_ix (r := rIxT K) ix_tup (pv 0) pe_int (fun _ _ => rfl)) (pa_cons (pv 1) pa_nil))) pa_nil))))) pa_nil)))
    (pss_one (ps_ret (pe_tup (pa_cons (pv 3) (pa_cons (pe_lcompG (CompG.many (xs := ["name", "branches"]) (caps := ["terms"]) (cap := [4]) (cs := [_]) rfl rfl (by decide +kernel) (by decide +kernel) (by decide +kernel) (by decide +kernel) (by decide +kernel) (by decide +kernel) rfl rfl rfl) rfl (pi_list (pe_fn RO hr (pa_cons (pv 0) (pa_cons (pv 3) pa_nil)))) (pg_c2 (CompG.many (xs := ["name", "branches"]) (caps := ["terms"]) (cap := [4]) (cs := [_]) rfl rfl (by decide +kernel) (by decide +kernel) (by decide +kernel) (by decide +kernel) (by decide +kernel) (by decide +kernel) rfl rfl rfl) rfl) (fun _ _ _ _ => pf_nil) (fun _ _ _ _ => pe_dget (room_fit1 hr) (pv 2) (pv 0) (fun _ _ => rfl))) pa_nil)))))))), ?_⟩
  have hlen := hR.len
  have hfew := hM.few
  have h0 : 0 < rs.length := List.length_pos_iff.mpr hne
  have h0u : 0 < us.length := by omega
  obtain ⟨r0, hr0, hrv0⟩ := hR.get (List.getElem?_eq_getElem h0u)
  obtain ⟨a0, tv0, e0, h10, h20⟩ := hrv0.ex
  have hk0 := hM.kind r0 (List.mem_of_getElem? hr0)
  have hat0 : atI us (0 : Int) = some (.ref a0) := atI_nat (j := 0) (by rw [List.getElem?_eq_getElem h0u, e0])
  rw [hk0] at h10
  refine ⟨_, rfl, l, us, _, _, rfl, rfl, hl, hat0, a0, _, 1, _, rfl, rfl, h10, rfl, ?_⟩
  refine ⟨_, rfl, _, rfl, l, us, _, _, rfl, rfl, hl, hat0, a0, _, 0, _, rfl, rfl, h10, rfl, _, rfl, _, rfl, wd, l, r0.m, kd, ks, us, rs, rfl, hW, hO, hl, hR, hM, fun H1 g1 => ?_⟩
  refine ⟨_, rfl, l, rfl, ⟨_, g1.seq hl⟩, fun acc hacc => ?_⟩
  refine c1_list (K := K) (xs := us) (cs := [some (.ref d)]) (tt := fun _ H Q => Q true H) (fun j ys H' => ∃ ts : List (Addr × Str × V), ys = ts.map (fun t => V.ref t.1) ∧ ts.length = j ∧ H' acc = some (.lst ys) ∧ Same H1 H' ∧ (∀ t ∈ ts, SqT K H' t.1 [.str t.2.1, t.2.2]) ∧ (ts.map fun t => t.2.1) = (rs.take j).map (fun r => S r.n) ∧ ∀ (i : Nat) (h : i < ts.length) (h2 : i < rs.length), TvV K H' ts[i].2.2 (mpV g (vN rs[i].t)))
    ⟨[], rfl, rfl, upd_same, same_new hacc _, fun t ht => (nomatch ht), rfl, fun i h => (nomatch h)⟩ ?_ ?_ ?_
  · rintro j ys H' _ ⟨_, _, _, _, g2, _⟩
    exact (g1.trans g2).seq hl
  · rintro j x ys H' hj hx ⟨ts, rfl, htl, hy, g2, hts, hnm, htv⟩
    obtain ⟨r, hr1, hrv⟩ := hR.get hx
    obtain ⟨a, tv, rfl, h1, h2⟩ := hrv.ex
    have gg := g1.trans g2
    obtain ⟨k1, k2, k3⟩ := hok r (List.mem_of_getElem? hr1)
    refine iteT ⟨_, rfl, a, _, 2, _, rfl, rfl, gg.seqT h1, rfl, _, rfl, a, _, 3, _, rfl, rfl, gg.seqT h1, rfl, _, rfl, tv, d, kvs, vN r.t, g, rfl, h2.tv.mono fun _ _ => gg.seqT, k1, k2, gg _ _ hd, k3, fun v' H4 g4 hv' => ⟨(by show 2 ≤ sizeLine; decide), fun p hp => ?_⟩⟩
    have s5 := same_new hp (.tup [.str (S r.n), v'])
    have b5 : upd H4 p (.tup [.str (S r.n), v']) p = some (.tup [.str (S r.n), v']) := upd_same
    generalize upd H4 p (.tup [.str (S r.n), v']) = X5 at s5 b5 ⊢
    have hy5 := s5 _ _ (g4 _ _ hy)
    have hjr : j < rs.length := by omega
    have ej : rs[j] = r := by
      rw [List.getElem?_eq_getElem hjr] at hr1
      exact Option.some.inj hr1
    refine comp_next hj hy5 (by rw [List.length_map]; omega) ⟨ts ++ [(p, S r.n, v')], by simp, by simp [htl], upd_same, fun b u e => ?_, fun t ht => ?_, ?_, fun i h h2 => ?_⟩
    · rw [upd_ne (ne_of_none e hacc)]; exact s5 _ _ (g4 _ _ (g2 _ _ e))
    · rcases List.mem_append.mp ht with ht | ht
      · exact (s5.seqT (g4.seqT (hts t ht))).put hy5
      · obtain rfl := List.mem_singleton.mp ht; exact (SqT.of b5).put hy5
    · rw [List.map_append, hnm, List.take_add_one, hr1]; simp
    · by_cases c : i < ts.length
      · rw [List.getElem_append_left c]
        exact (htv i c h2).mono fun _ _ h => (s5.seqT (g4.seqT h)).put hy5
      · rw [List.length_append, List.length_singleton] at h
        have ei : i = ts.length := by omega
        subst ei
        rw [List.getElem_append_right (Nat.le_refl _)]
        have e2 : rs[ts.length] = r := by
          have : rs[ts.length]'h2 = rs[j]'hjr := by congr 1
          rw [this, ej]
        rw [e2]
        simp only [Nat.sub_self, List.getElem_cons_zero]
        exact hv'.mono fun _ _ h => (s5.seqT h).put hy5
  rintro ys H2 ⟨ts, rfl, htl, hy, g2, hts, hnm, htv⟩
  rw [hlen, List.take_length] at hnm
  have htl2 : ts.length = rs.length := by omega
  have hnd : (ts.map fun t => t.2.1).Nodup := by rw [hnm]; exact hM.nd
  refine ⟨acc, ts, rfl, SqL.of hy, hts, hnd, by omega, fun dt hdt => ?_⟩
  have s3 := same_new hdt (.dK (ts.map fun t => ((Sum.inr t.2.1 : Key), t.2.2)))
  have b3 : upd H2 dt (.dK (ts.map fun t => ((Sum.inr t.2.1 : Key), t.2.2))) dt = some (.dK (ts.map fun t => ((Sum.inr t.2.1 : Key), t.2.2))) := upd_same
  generalize upd H2 dt (.dK (ts.map fun t => ((Sum.inr t.2.1 : Key), t.2.2))) = H3 at s3 b3 ⊢
  have g13 := g1.trans (g2.trans s3)
  refine ⟨_, rfl, _, rfl, _, rfl, wd, S kd, ks, rfl, hW.same g13, hO, fun lr H4 g4 hL => ?_⟩
  have hd4 := g4 _ _ b3
  refine ⟨lr, rfl, ⟨_, hL.1⟩, fun ac hac => ?_⟩
  have hrows := rowsK_ok hO (S kd)
  have hrl := hrows.len
  refine c2_list (K := K) (xs := (rowsK ks (S kd)).map fun t => V.ref t.1) (cs := [some (.ref dt)]) (tt := fun _ H Q => Q true H) (fun j ys H' => H' ac = some (.lst ys) ∧ Same H4 H' ∧ ys.length = j ∧ TvAll K H' ys (((rowsK ks (S kd)).take j).map fun t => mpV g (ruT rs t.2.1)))
    ⟨upd_same, same_new hac _, rfl, .nil⟩ ?_ ?_ ?_
  · rintro j ys H' _ ⟨_, g5, _⟩
    exact g5.seq hL.1
  · rintro j x ys H' hj hx ⟨hy5, g5, hyl, hT⟩
    rw [List.length_map] at hj
    obtain rfl : x = .ref (rowsK ks (S kd))[j].1 := by
      rw [List.getElem?_map, List.getElem?_eq_getElem hj] at hx
      exact (Option.some.inj hx).symm
    have hmj := List.getElem_mem hj
    obtain ⟨k1, k2⟩ := hL.2 (rowsK ks (S kd))[j] hmj
    obtain ⟨i, hi, ei⟩ := hM.has hmj
    have hit : i < ts.length := by omega
    have hti : ts[i].2.1 = S rs[i].n := by
      have h1 : (ts.map fun t => t.2.1)[i]'(by simpa using hit) = (rs.map fun r => S r.n)[i]'(by simpa using hi) := by congr 1
      rw [List.getElem_map, List.getElem_map] at h1
      exact h1
    have hval : valV (ts.map fun t => ((Sum.inr t.2.1 : Key), t.2.2)) (Sum.inr (rowsK ks (S kd))[j].2.1) = some ts[i].2.2 := by
      rw [val_map (fun t : Addr × Str × V => t.2.1) (fun t => t.2.2) _ ts, ← ei, ← hti, find_nd (fun t : Addr × Str × V => t.2.1) ts hnd i hit]
      rfl
    refine ⟨_, _, _, rfl, g5.seqT k1, iteT ⟨_, rfl, _, rfl, dt, ts[i].2.2, rfl, (by rw [← hval]; exact DGet.k (k := Sum.inr (rowsK ks (S kd))[j].2.1) (g5 _ _ hd4)), ?_⟩⟩
    rw [List.length_map]
    refine comp_next hj hy5 (by omega) ⟨upd_same, fun b u e => ?_, by simp [hyl], ?_⟩
    · rw [upd_ne (ne_of_none e hac)]; exact g5 _ _ e
    · rw [List.take_add_one, List.getElem?_eq_getElem hj, Option.toList_some, List.map_append]
      refine TvAll.append (hT.mono fun _ _ h => h.put hy5) (.cons ?_ .nil)
      show TvV K _ ts[i].2.2 (mpV g (ruT rs (rowsK ks (S kd))[j].2.1))
      rw [← ei, hM.ru hi]
      exact (htv i hit hi).mono fun _ _ h => (g5.seqT (g4.seqT (s3.seqT h))).put hy5
  · rintro ys H5 ⟨hy5, g5, hyl, hT⟩
    rw [List.length_map, List.take_length] at hT
    refine ⟨(by show 2 ≤ sizeLine; decide), fun p hp => ?_⟩
    have s6 := same_new hp (.tup [.str (S kd), .ref ac])
    have hn : H ac = none := by
      cases e : H ac with
      | none => rfl
      | some u => rw [g4 _ _ (g13 _ _ e)] at hac; cases hac
    exact q p ac _ ys (g13.trans (g4.trans (g5.trans s6))) (SqT.of upd_same) hn (s6 _ _ hy5) (hT.mono fun _ _ h => s6.seqT h)
end
end K14
namespace K14
open PySem L2 K3 TM K9
abbrev MvT := Addr × Str × Addr × List V × List TV
def MvAt (K : PySem.W.Frag) (H : Hp) (m : MvT) : Prop := SqT K H m.1 [.str m.2.1, .ref m.2.2.1] ∧ SqL K H m.2.2.1 m.2.2.2.1 ∧ TvAll K H m.2.2.2.1 m.2.2.2.2
def ModesV (K : PySem.W.Frag) (H : Hp) (lm : Addr) (ms : List MvT) : Prop := SqL K H lm (ms.map fun m => V.ref m.1) ∧ ∀ m ∈ ms, MvAt K H m
theorem MvAt.same {K : PySem.W.Frag} {H H' : Hp} {m : MvT} (g : Same H H') (h : MvAt K H m) : MvAt K H' m := ⟨g.seqT h.1, g.seq h.2.1, h.2.2.mono fun _ _ => g.seqT⟩
theorem ModesV.same {K : PySem.W.Frag} {H H' : Hp} {lm : Addr} {ms : List MvT} (g : Same H H') (h : ModesV K H lm ms) : ModesV K H' lm ms := ⟨g.seq h.1, fun m hm => (h.2 m hm).same g⟩
def FitV (mk ks : List Str) (t : TV) : Prop := ∀ m b, (m, b) ∈ clV t → ∃ i j : Nat, m = .int (i : Int) ∧ b = (j : Int) ∧ i < mk.length ∧ j < ks.length ∧ mk[i]? = ks[j]?
def mkV (ms : List MvT) : List Str := ms.map fun m => m.2.1
structure RuFit (ks : List KdT) (mk : List Str) (kind : Str) (ts : List TV) : Prop where
  ne : rowsK ks kind ≠ []
  len : ts.length = (rowsK ks kind).length
  fit : ∀ (i : Nat) (h1 : i < (rowsK ks kind).length) (h2 : i < ts.length), FitV mk (rowsK ks kind)[i].2.2.2 ts[i]
  ok : ∀ t ∈ ts, lv t ≤ 9 ∧ sz t ≤ 1000
def spCFV (K : PySem.W.Frag) : Sp := fun vs H Q _ => ∃ (lm kk : Addr) (i j : Nat) (ms : List MvT) (ks : List Str), vs = [.ref lm, .int (i : Int), .int (j : Int), .ref kk] ∧ ModesV K H lm ms ∧ SqT K H kk (ks.map V.str) ∧ i < (mkV ms).length ∧ j < ks.length ∧ (mkV ms)[i]? = ks[j]? ∧ Q (.bl true) H
def spCsFV (K : PySem.W.Frag) : Sp := fun vs H Q _ => ∃ (lm kk : Addr) (v : V) (t : TV) (ms : List MvT) (ks : List Str), vs = [.ref lm, v, .ref kk] ∧ ModesV K H lm ms ∧ SqT K H kk (ks.map V.str) ∧ TvV K H v t ∧ lv t ≤ 9 ∧ sz t ≤ 1000 ∧ FitV (mkV ms) ks t ∧ ∀ H', Same H H' → Q (.bl true) H'
def spRFV (K : PySem.W.Frag) : Sp := fun vs H Q _ => ∃ (w lm l : Addr) (kind : Str) (ks : List KdT) (ms : List MvT) (us : List V) (ts : List TV), vs = [.ref w, .ref lm, .str kind, .ref l] ∧ WoodAt K H w ks ∧ WoodOk ks ∧ ModesV K H lm ms ∧ SqL K H l us ∧ TvAll K H us ts ∧ RuFit ks (mkV ms) kind ts ∧ ∀ H', Same H H' → Q (.bl true) H'
def spISV (K : PySem.W.Frag) : Sp := fun vs H Q _ => ∃ (w lm : Addr) (v : V) (t : TV) (ks : List KdT) (ms : List MvT) (k0 : KdT), vs = [.ref w, v, .ref lm] ∧ WoodAt K H w ks ∧ WoodOk ks ∧ ks[0]? = some k0 ∧ ModesV K H lm ms ∧ ms.length ≤ 50 ∧ (∀ m ∈ ms, RuFit ks (mkV ms) m.2.1 m.2.2.2.2) ∧ TvV K H v t ∧ lv t ≤ 9 ∧ sz t ≤ 1000 ∧ kpV t = false ∧ FitV (mkV ms) [k0.2.1] t ∧ ∀ H', Same H H' → Q (.bl true) H'
theorem all_true : ∀ n : Nat, (List.replicate n true).all id = true
  | 0 => rfl
  | n + 1 => by rw [List.replicate_succ, List.all_cons, all_true n]; rfl
section
variable {P : Program} {w : World} {K : PySem.W.Frag} {mg : Str → Option Value} {base : Heap} {f : Addr} {fd : FuncData}
theorem scCF : FnScope ["modes", "mode", "branch", "kinds"] ["modes", "mode", "branch", "kinds"] (defScope sCallF) := ⟨rfl, rfl, rfl, by decide +kernel, rfl, by decide +kernel, by decide +kernel⟩
theorem ok_cf (F : Fun K "call_fits" "call_fits" sCallF f fd) (G : Gm mg) : FnOk P w K mg base CX0 1 f fd ["modes", "mode", "branch", "kinds"] (spCFV K) := by
  refine F.ok scCF (fun vs H Q E h => ?_) (fun cdv A outer s H vs Q E hr h => ?_)
  · obtain ⟨lm, kk, i, j, ms, ks, rfl, _⟩ := h
    rfl
  obtain ⟨lm, kk, i, j, ms, ks, rfl, hM, hk, hi, hj, he, q⟩ := h
  refine ⟨_, (pss_cons (ps_if (PW.pt (pw_or (pt_not (pt_chain op_le op_lt pe_int (pv 1) (pe_callB call_len_seq rfl G.len PySem.boot_len (pa_cons (pv 0) pa_nil)))) (pw_or1 (pt_not (pt_chain op_le op_lt pe_int (pv 2) (pe_callB call_len_seq rfl G.len PySem.boot_len (pa_cons (pv 3) pa_nil))))))) (pss_one (ps_ret pe_bl)) pss_nil)
    (pss_one (ps_ret (pe_cmpR op_eq (pe_ix ix_tup (pe_ix ix_list (pv 0) (pv 1) (fun _ _ => rfl)) pe_int (fun _ _ => rfl)) (pe_ix ix_tup (pv 3) (pv 2) (fun _ _ => rfl)) (nomark _))))), ?_⟩
  have him : i < ms.length := by unfold mkV at hi; rw [List.length_map] at hi; exact hi
  have hA := hM.2 ms[i] (List.getElem_mem him)
  have e1 : ms[i].2.1 = ks[j] := by
    rw [List.getElem?_eq_getElem hi, List.getElem?_eq_getElem hj] at he
    have h1 := Option.some.inj he
    have h2 : (mkV ms)[i] = ms[i].2.1 := by simp [mkV]
    rw [← h2]; exact h1
  refine ⟨_, rfl, _, _, rfl, rfl, _, rfl, iteP (by omega) ⟨_, rfl, lm, _, rfl, .inl hM.1, _, _, rfl, rfl, _, rfl, ?_⟩⟩
  have elk : (ks.map V.str).length = ks.length := List.length_map ..
  have elm : (ms.map fun m => V.ref m.1).length = ms.length := List.length_map ..
  rw [elm, decide_eq_true (show (i : Int) < (ms.length : Int) by omega)]
  refine iteF ⟨_, rfl, _, _, rfl, rfl, _, rfl, iteP (by omega) ⟨_, rfl, kk, _, rfl, .inr hk, _, _, rfl, rfl, _, rfl, ?_⟩⟩
  rw [elk, decide_eq_true (show (j : Int) < (ks.length : Int) by omega)]
  refine iteF ?_
  refine ⟨_, rfl, _, rfl, lm, _, _, _, rfl, rfl, hM.1, atI_nat (by rw [List.getElem?_map, List.getElem?_eq_getElem him]; rfl), ms[i].1, _, 0, _, rfl, rfl, hA.1, rfl, _, rfl, _, rfl, kk, _, _, .str ks[j], rfl, rfl, hk, atI_nat (by rw [List.getElem?_map, List.getElem?_eq_getElem hj]; rfl), rfl, ?_⟩
  rw [e1, decide_eq_true rfl]
  exact q
theorem scCsF : FnScope ["modes", "term", "kinds"] ["modes", "term", "kinds"] (defScope sCallsF) := ⟨rfl, rfl, rfl, by decide +kernel, rfl, by decide +kernel, by decide +kernel⟩
theorem ok_csf (F : Fun K "calls_fit" "calls_fit" sCallsF f fd) (GA : GmA mg) (RO : Fn P w K mg base 10 "calls_of" ["term"] (spCOV K 9)) (RF : Fn P w K mg base 1 "call_fits" ["modes", "mode", "branch", "kinds"] (spCFV K)) : FnOk P w K mg base CX0 11 f fd ["modes", "term", "kinds"] (spCsFV K) := by
  refine F.ok scCsF (fun vs H Q E h => ?_) (fun cdv A outer s H vs Q E hr h => ?_)
  · obtain ⟨lm, kk, v, t, ms, ks, rfl, _⟩ := h
    rfl
  obtain ⟨lm, kk, v, t, ms, ks, rfl, hM, hk, ht, hlv, hsz, hF, q⟩ := h
  refine ⟨_, (pss_one (ps_ret (pe_callB (call_allB rfl) rfl GA.all PyProof.Rows.boot_all (pa_cons (pe_lcompG (CompG.many (xs := ["mode", "branch"]) (caps := ["kinds", "modes"]) (cap := [2, 0]) (cs := [_, _]) rfl rfl (by decide +kernel) (by decide +kernel) (by decide +kernel) (by decide +kernel) (by decide +kernel) (by decide +kernel) rfl rfl rfl) rfl (pi_list (pe_fn RO hr (pa_cons (pv 1) pa_nil))) (pg_c2 (CompG.many (xs := ["mode", "branch"]) (caps := ["kinds", "modes"]) (cap := [2, 0]) (cs := [_, _]) rfl rfl (by decide +kernel) (by decide +kernel) (by decide +kernel) (by decide +kernel) (by decide +kernel) (by decide +kernel) rfl rfl rfl) rfl) (fun _ _ _ _ => pf_nil) (fun _ _ _ _ => pe_fn RF hr (pa_cons (pv 3) (pa_cons (pv 0) (pa_cons (pv 1) (pa_cons (pv 2) pa_nil)))))) pa_nil)))), ?_⟩
  refine ⟨_, rfl, v, t, rfl, ht, hlv, hsz, fun l H1 ts g1 hl0 hl hts hcl => ⟨l, rfl, ⟨_, SqL.of hl⟩, fun acc hacc => ?_⟩⟩
  have hcs := clV_len t
  have hlen : ts.length = (clV t).length := by rw [← hcl, List.length_map]
  refine c2_list (K := K) (xs := RfV ts) (cs := [some (.ref kk), some (.ref lm)]) (tt := fun _ H Q => Q true H) (fun i ys H' => H' acc = some (.lst ys) ∧ Same H1 H' ∧ ys = (List.replicate i true).map V.bl)
    ⟨upd_same, same_new hacc _, rfl⟩ ?_ ?_ ?_
  · rintro i ys H' _ ⟨_, g, _⟩
    exact SqL.of (g _ _ hl)
  · rintro i x ys H' hi hx ⟨hya, g, rfl⟩
    have hit : i < ts.length := by simpa using hi
    have ex : x = .ref ts[i].1 := by
      rw [List.getElem?_map, List.getElem?_eq_getElem hit] at hx
      exact (Option.some.inj hx).symm
    have hm : ts[i].2 ∈ clV t := by rw [← hcl]; exact List.mem_map_of_mem (List.getElem_mem hit)
    obtain ⟨a, b, e1, e2, h1, h2, h3⟩ := hF ts[i].2.1 ts[i].2.2 hm
    have hp := hts _ (List.getElem_mem hit)
    rw [e1, e2] at hp
    have gg := g1.trans g
    refine ⟨_, _, _, ex, g.seqT hp, iteT ⟨_, rfl, _, rfl, _, rfl, _, rfl, lm, kk, a, b, ms, ks, rfl, hM.same gg, gg.seqT hk, h1, h2, h3, ?_⟩⟩
    refine comp_next hi hya (by rw [List.length_map, List.length_replicate]; omega) ⟨upd_same, fun x u e => ?_, ?_⟩
    · rw [upd_ne (ne_of_none e hacc)]; exact g _ _ e
    · rw [List.replicate_succ', List.map_append]; rfl
  rintro ys H2 ⟨hya, g, rfl⟩
  refine ⟨acc, _, rfl, SqL.of hya, ?_⟩
  rw [all_true]
  exact q H2 (g1.trans g)
theorem scRF : FnScope ["wood", "modes", "kind", "rules", "rows"] ["wood", "modes", "kind", "rules"] (defScope sRulesF) := ⟨rfl, rfl, rfl, by decide +kernel, rfl, by decide +kernel, by decide +kernel⟩
theorem ok_rf (F : Fun K "rules_fit" "rules_fit" sRulesF f fd) (G : Gm mg) (GA : GmA mg) (RO : Fn P w K mg base 1 "rows_of" ["wood", "kind"] (spRowsOf K)) (RC : Fn P w K mg base 11 "calls_fit" ["modes", "term", "kinds"] (spCsFV K)) : FnOk P w K mg base CX0 12 f fd ["wood", "modes", "kind", "rules"] (spRFV K) := by
  refine F.ok scRF (fun vs H Q E h => ?_) (fun cdv A outer s H vs Q E hr h => ?_)
  · obtain ⟨wd, lm, l, kind, ks, ms, us, ts, rfl, _⟩ := h
    rfl
  obtain ⟨wd, lm, l, kind, ks, ms, us, ts, rfl, hW, hO, hM, hl, hts, hF, q⟩ := h
  refine ⟨_, (pss_cons (ps_set (i := 4) scRF.nd rfl (Or.inl rfl) (pe_fn RO hr (pa_cons (pv 0) (pa_cons (pv 2) pa_nil))))
    (pss_cons (ps_if (PW.pt (pw_or (pt_cmpR op_eq (pe_callB call_len_seq rfl G.len PySem.boot_len (pa_cons (pv 4) pa_nil)) pe_int (nomark _)) (pw_or1 (pt_cmpR op_ne (pe_callB call_len_seq rfl G.len PySem.boot_len (pa_cons (pv 3) pa_nil)) (pe_callB call_len_seq rfl G.len PySem.boot_len (pa_cons (pv 4) pa_nil)) (nomark _))))) (pss_one (ps_ret pe_bl)) pss_nil)
    (pss_one (ps_ret (pe_callB (call_allB rfl) rfl GA.all PyProof.Rows.boot_all (pa_cons (pe_lcompG (CompG.many (xs := ["row", "rule"]) (caps := ["modes"]) (cap := [1]) (cs := [_]) rfl rfl (by decide +kernel) (by decide +kernel) (by decide +kernel) (by decide +kernel) (by decide +kernel) (by decide +kernel) rfl rfl rfl) rfl (pi_zip rfl GA.zip (pa_cons (pv 4) (pa_cons (pv 3) pa_nil))) (pg_c2 (CompG.many (xs := ["row", "rule"]) (caps := ["modes"]) (cap := [1]) (cs := [_]) rfl rfl (by decide +kernel) (by decide +kernel) (by decide +kernel) (by decide +kernel) (by decide +kernel) (by decide +kernel) rfl rfl rfl) rfl) (fun _ _ _ _ => pf_nil) (fun _ _ _ _ => pe_fn RC hr (pa_cons (pv 2) (pa_cons (pv 1) (pa_cons (pe_ix (r := rIxT K) ix_tup (pv 0) pe_int (fun _ _ => rfl)) pa_nil))))) pa_nil)))))), ?_⟩
  refine ⟨_, rfl, _, rfl, wd, kind, ks, rfl, hW, hO, fun lr H1 g1 hR => ?_⟩
  have elr : ((rowsK ks kind).map fun t => V.ref t.1).length = (rowsK ks kind).length := List.length_map ..
  have hul := hts.length
  have hfl := hF.len
  have hr10 := (rowsK_ok hO kind).len
  have h0 : (rowsK ks kind).length ≠ 0 := fun z => hF.ne (List.length_eq_zero_iff.mp z)
  have h1 : us.length = (rowsK ks kind).length := by omega
  refine ⟨_, rfl, lr, _, rfl, .inl hR.1, rfl, _, rfl, ?_⟩
  rw [elr]
  refine iteN (fun z => h0 (by injection z with z; omega)) ?_
  refine ⟨_, rfl, l, _, rfl, .inl (g1.seq hl), _, rfl, lr, _, rfl, .inl hR.1, rfl, _, rfl, ?_⟩
  rw [elr]
  show if _ = true then _ else _
  rw [decide_eq_true (show V.int (us.length : Int) = V.int ((rowsK ks kind).length : Int) by rw [h1])]
  refine iteF ?_
  refine ⟨_, rfl, _, rfl, lr, l, _, us, rfl, hR.1, g1.seq hl, fun acc hacc => ?_⟩
  refine c2_zip (K := K) (xs := (rowsK ks kind).map fun t => V.ref t.1) (zs := us) (cs := [some (.ref lm)]) (tt := fun _ H Q => Q true H) (by rw [elr, h1]) (fun i ys H' => H' acc = some (.lst ys) ∧ Same H1 H' ∧ ys = (List.replicate i true).map V.bl)
    ⟨upd_same, same_new hacc _, rfl⟩ ?_ ?_ ?_
  · rintro i ys H' _ ⟨_, g, _⟩
    exact ⟨g.seq hR.1, (g1.trans g).seq hl⟩
  · rintro i u v p ys H' hi hu hv hp ⟨hya, g, rfl⟩
    have hir : i < (rowsK ks kind).length := by simpa using hi
    have hit : i < ts.length := by omega
    obtain ⟨cv, hcv, hct⟩ := hts.get (List.getElem?_eq_getElem hit)
    obtain rfl : cv = v := Option.some.inj (hcv.symm.trans hv)
    obtain rfl : u = .ref (rowsK ks kind)[i].1 := by
      rw [List.getElem?_map, List.getElem?_eq_getElem hir] at hu
      exact (Option.some.inj hu).symm
    have gp := same_new hp (.tup [.ref (rowsK ks kind)[i].1, cv])
    have gg := g1.trans (g.trans gp)
    have hRA := (hR.2 _ (List.getElem_mem hir)).same (g.trans gp)
    obtain ⟨k1, k2⟩ := hF.ok ts[i] (List.getElem_mem hit)
    refine iteT ⟨_, rfl, _, rfl, _, rfl, _, _, 1, _, rfl, rfl, hRA.1, rfl, lm, _, cv, ts[i], ms, _, rfl, hM.same gg, hRA.2, hct.mono fun _ _ => gg.seqT, k1, k2, hF.fit i hir hit, fun H4 g4 => ?_⟩
    refine comp_next hi (g4 _ _ (gp _ _ hya)) (by rw [List.length_map, List.length_replicate]; omega) ⟨upd_same, fun x u e => ?_, ?_⟩
    · rw [upd_ne (ne_of_none e hacc)]; exact g4 _ _ (gp _ _ (g _ _ e))
    · rw [List.replicate_succ', List.map_append]; rfl
  rintro ys H2 ⟨hya, g, rfl⟩
  refine ⟨acc, _, rfl, SqL.of hya, ?_⟩
  rw [all_true]
  exact q H2 (g1.trans g)
theorem scIS : FnScope ["wood", "start", "modes"] ["wood", "start", "modes"] (defScope sSound) := ⟨rfl, rfl, rfl, by decide +kernel, rfl, by decide +kernel, by decide +kernel⟩
theorem ok_is (F : Fun K "is_sound" "is_sound" sSound f fd) (GA : GmA mg) (RF : Fn P w K mg base 12 "rules_fit" ["wood", "modes", "kind", "rules"] (spRFV K)) (RK : Fn P w K mg base 10 "keeps_mark" ["term"] (spKMV K 9)) (RC : Fn P w K mg base 11 "calls_fit" ["modes", "term", "kinds"] (spCsFV K)) : FnOk P w K mg base CX0 13 f fd ["wood", "start", "modes"] (spISV K) := by
  refine F.ok scIS (fun vs H Q E h => ?_) (fun cdv A outer s H vs Q E hr h => ?_)
  · obtain ⟨wd, lm, v, t, ks, ms, k0, rfl, _⟩ := h
    rfl
  obtain ⟨wd, lm, v, t, ks, ms, k0, rfl, hW, hO, hk0, hM, h50, hMo, ht, hlv, hsz, hkp, hF, q⟩ := h
  refine ⟨_, (pss_cons (ps_if (pt_not (pt_val (pe_callB (call_allB rfl) rfl GA.all PyProof.Rows.boot_all (pa_cons (pe_lcompG (CompG.many (xs := ["kind", "rules"]) (caps := ["modes", "wood"]) (cap := [2, 0]) (cs := [_, _]) rfl rfl (by decide +kernel) (by decide +kernel) (by decide +kernel) (by decide +kernel) (by decide +kernel) (by decide +kernel) rfl rfl rfl) rfl (pi_list (pv 2)) (pg_c2 (CompG.many (xs := ["kind", "rules"]) (caps := ["modes", "wood"]) (cap := [2, 0]) (cs := [_, _]) rfl rfl (by decide +kernel) (by decide +kernel) (by decide +kernel) (by decide +kernel) (by decide +kernel) (by decide +kernel) rfl rfl rfl) rfl) (fun _ _ _ _ => pf_nil) (fun _ _ _ _ => pe_fn RF hr (pa_cons (pv 3) (pa_cons (pv 2) (pa_cons (pv 0) (pa_cons (pv 1) pa_nil)))))) pa_nil)))) (pss_one (ps_ret pe_bl)) pss_nil)
    (pss_one (ps_ret (pe_and (pe_not (pe_fn RK hr (pa_cons (pv 1) pa_nil))) (pe_one (pe_fn RC hr (pa_cons (pv 2) (pa_cons (pv 1) (pa_cons ((pe_tup (pa_cons (pe_ix ix_tup (pe_ix ix_list (pv 0) pe_int (fun _ _ => rfl)) pe_int (fun _ _ => rfl)) pa_nil))) pa_nil))))))))), ?_⟩
  refine ⟨_, rfl, lm, rfl, ⟨_, hM.1⟩, fun acc hacc => ?_⟩
  refine c2_list (K := K) (xs := ms.map fun m => V.ref m.1) (cs := [some (.ref lm), some (.ref wd)]) (tt := fun _ H Q => Q true H) (fun i ys H' => H' acc = some (.lst ys) ∧ Same H H' ∧ ys = (List.replicate i true).map V.bl)
    ⟨upd_same, same_new hacc _, rfl⟩ ?_ ?_ ?_
  · rintro i ys H' _ ⟨_, g, _⟩
    exact g.seq hM.1
  · rintro i x ys H' hi hx ⟨hya, g, rfl⟩
    have him : i < ms.length := by simpa using hi
    have ex : x = .ref ms[i].1 := by
      rw [List.getElem?_map, List.getElem?_eq_getElem him] at hx
      exact (Option.some.inj hx).symm
    have hA := (hM.2 _ (List.getElem_mem him)).same g
    refine ⟨_, _, _, ex, hA.1, iteT ⟨_, rfl, _, rfl, _, rfl, _, rfl, wd, lm, ms[i].2.2.1, ms[i].2.1, ks, ms, _, _, rfl, hW.same g, hO, hM.same g, hA.2.1, hA.2.2, hMo _ (List.getElem_mem him), fun H4 g4 => ?_⟩⟩
    refine comp_next hi (g4 _ _ hya) (by rw [List.length_map, List.length_replicate]; omega) ⟨upd_same, fun x u e => ?_, ?_⟩
    · rw [upd_ne (ne_of_none e hacc)]; exact g4 _ _ (g _ _ e)
    · rw [List.replicate_succ', List.map_append]; rfl
  rintro ys H1 ⟨hya, g, rfl⟩
  refine ⟨acc, _, rfl, SqL.of hya, _, rfl, ?_⟩
  rw [all_true]
  refine iteF ⟨_, rfl, v, t, rfl, ht.mono fun _ _ => g.seqT, hlv, fun H2 g2 => ⟨_, rfl, _, rfl, ?_⟩⟩
  rw [hkp]
  have gg := g.trans g2
  have hk0m := List.mem_of_getElem? hk0
  have hat : atI (ks.map fun k => V.ref k.1) 0 = some (.ref k0.1) := atI_nat (j := 0) (by rw [List.getElem?_map, hk0]; rfl)
  refine iteT ⟨_, rfl, _, rfl, _, rfl, wd, _, 0, _, rfl, rfl, (hW.same gg).1, hat, k0.1, _, 0, _, rfl, rfl, ((hW.same gg).2 k0 hk0m).1, rfl, (by show 1 ≤ sizeLine; decide), fun p hp => ?_⟩
  have g3 := same_new hp (.tup [.str k0.2.1])
  have g4 := gg.trans g3
  exact ⟨lm, p, v, t, ms, [k0.2.1], rfl, hM.same g4, SqT.of upd_same, ht.mono fun _ _ => g4.seqT, hlv, hsz, hF, fun H5 g5 => q H5 (g4.trans g5)⟩
end
end K14
namespace L2
open PySem PySem.Spec PyProof.Rows
def ItL (K : PySem.W.Frag) (a : Addr) : It :=
  ⟨fun i H => ∃ xs x, SqL K H a xs ∧ xs[i]? = some x,
   fun i H x H' => ∃ p v, H p = none ∧ x = .ref p ∧ H' = upd H p (.tup [.int (i : Int), v]) ∧ ∀ xs, SqL K H a xs → xs[i]? = some v,
   fun i H => ∃ xs, SqL K H a xs ∧ xs.length ≤ i⟩
theorem turn_enumL {P : Program} {w : World} {K : PySem.W.Frag} {elts : List Expr} {k1 : Nat} {pos : Pos} (a e it : Addr) (hei : e ≠ it) :
    Turn P w K (.Tuple elts k1 pos) (ItL K a) [e, it] e (fun i h => (∃ old, IsEnum h e it (i : Nat) old) ∧ h.IsListIter it a i) where
  mem := by simp
  obj := fun i h st c hc => by
    obtain ⟨⟨old, he⟩, hi⟩ := st
    simp only [List.mem_cons, List.mem_nil_iff, or_false] at hc
    rcases hc with rfl | rfl
    · exact ⟨_, he, fun v z => by have z' : Data.fields _ = Data.cell v := z; cases z'⟩
    · obtain ⟨o, g, c, d⟩ := hi; exact ⟨o, g, fun v z => by rw [d] at z; cases z⟩
  keep := fun i h h' st k => by
    obtain ⟨⟨old, he⟩, hi⟩ := st
    exact ⟨⟨old, k e (by simp) _ he⟩, hi.at fun o g => k it (by simp) o g⟩
  item := by
    intro X hP hw hK hc i pins s σ H E I hf st hg
    subst hP hw hK
    obtain ⟨⟨old, he⟩, hi⟩ := st
    obtain ⟨xs, x, hq, hx⟩ := hg
    obtain ⟨its, rv, p, hz⟩ := I.list hq
    obtain ⟨u, hu, ru⟩ := rv.get hx
    have pt : s.heap.IsList a its.toArray := p.isList
    obtain ⟨oa, ga, ca, na, da⟩ := id pt
    have hae : a ≠ e := fun z => by
      subst z
      have hE : s.heap.get? a = some _ := he
      rw [hE] at ga
      cases ga
      exact absurd (Value.type.inj ca) (by decide)
    have hai : a ≠ it := fun z => by
      subst z
      obtain ⟨o, g, c, d⟩ := hi
      rw [g] at ga
      cases ga
      rw [c] at ca
      exact absurd (Value.type.inj ca) (by decide)
    have hlt : i < its.toArray.size := by
      have := (List.getElem?_eq_some_iff.mp hu).1
      simpa using this
    refine wpAny_pyNext_enum_itemD (Draws.list (prog := X.prog) (w := X.w) (A := X.A.in1) (I.ok.hd hc) it a hai its.toArray) he ⟨hi, pt⟩ hlt hei (by simp only [List.mem_cons, List.mem_nil_iff, or_false, not_or]; exact ⟨hei, Ne.symm hae⟩) fun y h' tk hy ho hst ht hsz hk => ?_
    have hyu : y = u := by
      have : its.toArray[i]? = some u := by simpa using hu
      exact Option.some.inj (hy.symm.trans this)
    subst hyu
    refine ⟨.ref s.heap.objs.size, rfl, wpAny_letOwnedTupleGo_enum (s := { s with heap := h', toks := tk + 1 }) ho fun h'' he'' hs' => ?_⟩
    have lt : ∀ {c o}, s.heap.get? c = some o → c ≠ s.heap.objs.size := fun g => Nat.ne_of_lt (Heap.lt_size g)
    have hse : s.heap.objs.size ≠ e := Ne.symm (lt he)
    have hch : ∀ c ∈ [e, it], FpOk X pins H c := hf
    have I2 : Inv X pins σ (upd H s.heap.objs.size (.tup [.int (i : Int), x])) { s with heap := h'', toks := tk + 1 } := by
      refine I.turnedNew (ch := [e, it]) (fun c o hc g => ?_) hch (Nat.le_refl _) ⟨by show 2 ≤ sizeLine; decide, [.int (i : Int) tk, y], .cons ⟨tk, rfl⟩ (.cons ru .nil), ⟨_, (hs'.2 _ hse).trans ht, rfl, _, rfl⟩⟩
      simp only [List.mem_cons, List.mem_nil_iff, or_false, not_or] at hc
      exact (hs'.2 c hc.1).trans (hk c o hc.1 hc.2 g)
    have hfr : ∀ c ∈ [e, it], upd H s.heap.objs.size (.tup [.int (i : Int), x]) c = none := fun c hc => by
      have : c ≠ s.heap.objs.size := by
        have hc' := hc
        simp only [List.mem_cons, List.mem_nil_iff, or_false] at hc'
        rcases hc' with rfl | rfl
        · exact lt he
        · obtain ⟨o, g, _⟩ := hi; exact lt g
      rw [upd_ne this]; exact (hf c hc).1
    exact ⟨.ref s.heap.objs.size, _, I2, rfl, ⟨s.heap.objs.size, x, I.fresh, rfl, rfl, fun ys hys => by rw [I.list_inj hys hq]; exact hx⟩, ⟨⟨_, he''⟩, hst.1.extBut hs'.extBut (Ne.symm hei)⟩, hfr⟩
  done := by
    intro X hP hw hK hc i pins s σ H E I hf st hg
    subst hP hw hK
    obtain ⟨⟨old, he⟩, hi⟩ := st
    obtain ⟨xs, hq, hx⟩ := hg
    obtain ⟨its, rv, p, hz⟩ := I.list hq
    have pt : s.heap.IsList a its.toArray := p.isList
    have hlen := rv.length
    have hn : its.toArray.size ≤ i := by simp; omega
    have hT : s.TypeIs (.ref e) "enumerate" := ⟨_, he, rfl⟩
    unfold pyNext
    refine wpAny_bind (wpAny_attempt (wpAny_callSpecial?_slot (name := Str.ofString "__next__") hT F.slot_enumerate_next (wpAny_call_entry F.slot_enumerate_next hT F.entry_enumerate_next ?_ (F.args_enumerate_next_1 _))))
    show wpAny _ _ (field (.ref e) 2 >>= _) _ _ _
    refine wpAny_bind (wpAny_field he rfl (x := .ref it) rfl ?_)
    refine wpAny_bind (wpAny_nextOf_list_end (A := X.A.in1) (I.ok.hd hc) hi pt (Array.getElem?_eq_none hn) fun h' y he' hy => ?_)
    obtain ⟨o, ho, hcl⟩ := hy
    refine wpAny_bind (wpAny_isInstance (T := "StopIteration") (b := true) ⟨o, ho, hcl⟩ isSubtype_stop ?_)
    refine wpAny_pure ⟨rfl, I.turnedL (t' := s.toks) (ch := [e, it]) (fun c u hc' g => he' c u (fun z => hc' (by rw [z]; simp)) g) hf⟩
  self := fun _ _ _ _ _ st h => wpAny_pyIter_enum st.1.choose_spec h
section
variable {X : Cx} {elts : List Expr} {k1 : Nat} {tpos : Pos}
def iEnumL (K : PySem.W.Frag) (ta : TA) : TI := fun σ H R => ta σ H fun vs H1 => ∃ a xs, vs = [.ref a] ∧ SqL K H1 a xs ∧ R (ItL K a) H1
theorem pi_enumL {e1 : Expr} {ta : TA} {p pos : Pos} (hg : Gl X "enumerate") (hm : X.mg "enumerate" = none) (ha : PA X [e1] ta) (hb : bootBuiltins "enumerate" = some (.type "enumerate") := by decide +kernel) (hs : starEach [e1] X.env = [(false, eval e1 X.env)] := by rfl) :
    PI X (.Tuple elts k1 tpos) (.Call (.Name "enumerate" p) [e1] [] pos) (iEnumL X.K ta) := by
  intro pins s σ H R I h
  refine Call_ (ld_blt I hg hm hb (PyProof.Rows.callWith_type1 (thn (ha pos pins s σ H _ I h) fun us s1 ⟨vs, H1, I1, r1, q1⟩ => ?_) hs rfl))
  obtain ⟨a, xs, e, hq, q⟩ := q1
  subst e
  cases r1 with
  | cons r rr =>
    cases rr
    obtain rfl : _ = Value.ref a := r
    obtain ⟨its, rv, pt, _⟩ := I1.list hq
    refine call_enumerate_list (show s1.heap.IsList a its.toArray from pt.isList) fun h' he hi hsz hk => ?_
    refine wpAny_pyIter_enum he ?_
    have I2 : Inv X pins σ H1 { s1 with heap := h' } := I1.kept (t' := s1.toks) hk
    refine ⟨s1.heap.objs.size + 1, [s1.heap.objs.size + 1, s1.heap.objs.size], _, _, H1, rfl, I2, turn_enumL a (s1.heap.objs.size + 1) s1.heap.objs.size (nne (by omega)), ⟨⟨_, he⟩, hi⟩, fun c hc => ?_, q⟩
    have hle : @LE.le Nat _ s1.heap.objs.size c := by
      simp only [List.mem_cons, List.mem_nil_iff, or_false] at hc
      rcases hc with rfl | rfl <;> omega
    exact I1.fpOk hle (I1.hok.fresh hle)
theorem for_enumL {K : PySem.W.Frag} {a : Addr} {xs : List V} {g : TG} {tb : TS} {D : Ends} {σ : St} {H : Hp} (Pv : Nat → St → Hp → Prop) (h0 : Pv 0 σ H) (hl : ∀ i σ H, i ≤ xs.length → Pv i σ H → SqL K H a xs)
    (hs : ∀ i v p σ H, xs[i]? = some v → H p = none → Pv i σ H → g (.ref p) σ (upd H p (.tup [.int (i : Int), v])) fun σ2 H2 => tb { D with nx := Pv (i + 1), ct := Pv (i + 1), bk := D.nx } σ2 H2) (hd : ∀ σ H, Pv xs.length σ H → D.nx σ H) :
    ∃ W : Nat → Nat → St → Hp → Prop, (∃ m, W 0 m σ H) ∧ ∀ i m σ H, W i m σ H →
      ((ItL K a).stop i H ∧ D.nx σ H) ∨ ((ItL K a).go i H ∧ ∃ N : St → Hp → Prop, (∀ σ' H', N σ' H' → ∃ m', m' < m ∧ W (i + 1) m' σ' H') ∧ ∀ x H', (ItL K a).yld i H x H' → g x σ H' fun σ2 H2 => tb { D with nx := N, ct := N, bk := D.nx } σ2 H2) := by
  refine ⟨fun i m σ H => m = xs.length - i ∧ i ≤ xs.length ∧ Pv i σ H, ⟨xs.length - 0, rfl, Nat.zero_le _, h0⟩, ?_⟩
  rintro i m σ H ⟨rfl, hi, p⟩
  have hq := hl i σ H hi p
  by_cases h : i < xs.length
  · refine .inr ⟨⟨xs, xs[i], hq, List.getElem?_eq_getElem h⟩, Pv (i + 1), fun σ' H' p' => ⟨xs.length - (i + 1), by omega, rfl, h, p'⟩, ?_⟩
    rintro x H' ⟨p', v, hp, rfl, rfl, hv⟩
    exact hs i v p' σ H (hv xs hq) hp p
  · have e : i = xs.length := by omega
    subst e
    exact .inl ⟨⟨xs, hq, Nat.le_refl _⟩, hd σ H p⟩
end
end L2
namespace L2
open PySem PySem.Spec PyProof.Rows
end L2
namespace L2
open PySem PySem.Spec PyProof.Rows
def DEn (h : Heap) (d : Addr) (ents : Array DictEntry) (ep : Nat) : Prop := ∃ o, h.get? d = some o ∧ o.ExactDict ∧ o.data = .dict ents ep
section
variable {prog : Program} {w : World} {A : Around} {E : Value → Shared → Prop} {s : Shared} {d it : Addr} {ents : Array DictEntry} {ep i : Nat}
theorem DEn.ty (x : DEn s.heap d ents ep) : s.TypeIs (.ref d) "dict" := by
  obtain ⟨o, g, e, _⟩ := x
  exact ⟨o, g, e.1⟩
theorem den_iter {Q : Value → Shared → Prop} (lo : (d == sysModules) = false) (x : DEn s.heap d ents ep)
    (fin : Q (.ref s.heap.objs.size) { s with heap := s.heap.push { cls := .type "dict_keyiterator", data := .fields #[.ref d, .int 0 0, .int ents.size 0, .int ep 0] } }) : wpAny (model prog w) A (pyIter (.ref d)) Q E s := by
  have ty := x.ty
  obtain ⟨o, g, ex, dat⟩ := x
  refine wpAny_pyIter_slot ty F.slot_dict_iter (wpAny_call_entry F.slot_dict_iter ty F.entry_dict_iter ?_ (F.args_dict_iter_1 _))
  unfold Builtin.«dict.__iter__» Builtin.Dict.dictSlotNone
  refine wpAny_bind (wpAny_bind (wpAny_notOrdered_dict ty (show wpAny _ _ (pure (Value.ref d)) _ _ s from wpAny_pure ?_)))
  show wpAny _ _ (Builtin.Dict.showsAll d >>= _) _ _ s
  unfold Builtin.Dict.showsAll
  rw [if_neg (by rw [lo]; exact Bool.false_ne_true)]
  refine wpAny_bind (wpAny_pure (wpAny_bind (wpAny_dictEntries g dat (wpAny_bind (wpAny_dictEpoch g dat ?_)))))
  refine wpAny_bind (wpAny_newObj_type (wpAny_pure ⟨_, rfl, "dict_keyiterator", _, ⟨_, Heap.get?_push_size _ rfl, rfl⟩, F.slot_dict_keyiterator_next.lookup, ?_⟩))
  simpa [rawInt] using fin
theorem dnx_item {t : DictEntry} {Q : Value → Shared → Prop} (hI : s.heap.IsKeyIter it d i ents.size ep) (x : DEn s.heap d ents ep) (at_i : ents[i]? = some t)
    (fin : ∀ h2, h2.IsKeyIter it d (i + 1) ents.size ep → Heap.SameBut it s.heap h2 → Q t.key { s with heap := h2 }) : wpAny (model prog w) A (Builtin.SmallTypes.nextOf (.ref it)) Q E s := by
  obtain ⟨oi, gi, ci, di⟩ := id hI
  obtain ⟨od, gd, exd, dat⟩ := id x
  unfold Builtin.SmallTypes.nextOf
  refine wpAny_bind (wpAny_callSpecial?_slot (name := Str.ofString "__next__") hI.typeIs F.slot_dict_keyiterator_next (wpAny_call_entry F.slot_dict_keyiterator_next hI.typeIs F.entry_dict_keyiterator_next ?_ (F.args_dict_keyiterator_next_1 _)))
  refine wpAny_bind (wpAny_pure (wpAny_bind (wpAny_bind ?_)))
  first | refine wpAny_bind (wpAny_typeNameOfWhole_keyiter hI.typeIs (wpAny_pure ?_)) | refine wpAny_bind (wpAny_typeNameOf_keyiter hI.typeIs (wpAny_pure ?_))
  refine wpAny_bind (wpAny_fieldsOf gi di ?_)
  have own0 : Builtin.Dict_items.ownsTuple "dict_keyiterator" = false := by decide
  simp only [own0, Bool.false_eq_true, if_false]
  show wpAny _ _ (if (Value.ref d == Value.none) = true then _ else _) _ _ s
  rw [if_neg (show ¬ ((Value.ref d == Value.none) = true) from Bool.false_ne_true)]
  refine wpAny_bind (wpAny_pure (wpAny_bind (wpAny_dictEntries gd dat ?_)))
  rw [if_neg (by simp)]
  refine wpAny_bind (wpAny_pure (wpAny_bind (wpAny_dictEpoch gd dat ?_)))
  rw [if_neg (by simp)]
  refine wpAny_pure ?_
  simp only [show ¬ ((i : Int) < 0) from by omega, if_false, Int.toNat_natCast, at_i]
  refine wpAny_bind ?_
  first | refine wpAny_bind (wpAny_typeNameOfWhole_keyiter hI.typeIs (wpAny_pure ?_)) | refine wpAny_bind (wpAny_typeNameOf_keyiter hI.typeIs (wpAny_pure ?_))
  refine wpAny_bind (wpAny_isOneOf_keyiter hI.typeIs ?_)
  show wpAny _ _ (setField (.ref it) 1 (rawInt ((i : Int) + 1)) >>= _) _ _ s
  refine wpAny_bind (wpAny_setField gi di (by simp) ?_)
  have hI2 : (s.heap.update it (Obj.mapFields (·.setIfInBounds 1 (rawInt ((i : Int) + 1))))).IsKeyIter it d (i + 1) ents.size ep := by
    refine ⟨_, Heap.get?_update_self _ gi (Obj.isFreed_of_fields (Obj.data_mapFields di _)), (Obj.cls_mapFields ..).trans ci, ?_⟩
    rw [Obj.data_mapFields di]; simp [rawInt]
  refine wpAny_bind (wpAny_holding (wpAny_bind (wpAny_isOneOf_keyiter (s := { s with heap := s.heap.update it (Obj.mapFields (·.setIfInBounds 1 (rawInt ((i : Int) + 1)))) }) hI2.typeIs ?_)))
  show wpAny _ _ (pure t.key) _ _ _
  exact wpAny_pure (wpAny_pure ⟨_, rfl, wpAny_pure (fin _ hI2 (Heap.SameBut.update ..))⟩)
theorem dnx_end {Q : Value → Shared → Prop} (hh : A.handled = none) (hI : s.heap.IsKeyIter it d ents.size ents.size ep) (x : DEn s.heap d ents ep) (fin : ∀ h2 e, Heap.ExtBut it s.heap h2 → (∃ o, h2.get? e = some o ∧ o.cls = .type "StopIteration") → E (.ref e) { s with heap := h2 }) : wpAny (model prog w) A (Builtin.SmallTypes.nextOf (.ref it)) Q E s := by
  obtain ⟨oi, gi, ci, di⟩ := id hI
  obtain ⟨od, gd, exd, dat⟩ := id x
  unfold Builtin.SmallTypes.nextOf
  refine wpAny_bind (wpAny_callSpecial?_slot (name := Str.ofString "__next__") hI.typeIs F.slot_dict_keyiterator_next (wpAny_call_entry F.slot_dict_keyiterator_next hI.typeIs F.entry_dict_keyiterator_next ?_ (F.args_dict_keyiterator_next_1 _)))
  refine wpAny_bind (wpAny_pure (wpAny_bind (wpAny_bind ?_)))
  first | refine wpAny_bind (wpAny_typeNameOfWhole_keyiter hI.typeIs (wpAny_pure ?_)) | refine wpAny_bind (wpAny_typeNameOf_keyiter hI.typeIs (wpAny_pure ?_))
  refine wpAny_bind (wpAny_fieldsOf gi di ?_)
  have own0 : Builtin.Dict_items.ownsTuple "dict_keyiterator" = false := by decide
  simp only [own0, Bool.false_eq_true, if_false]
  show wpAny _ _ (if (Value.ref d == Value.none) = true then _ else _) _ _ s
  rw [if_neg (show ¬ ((Value.ref d == Value.none) = true) from Bool.false_ne_true)]
  refine wpAny_bind (wpAny_pure (wpAny_bind (wpAny_dictEntries gd dat ?_)))
  rw [if_neg (by simp)]
  refine wpAny_bind (wpAny_pure (wpAny_bind (wpAny_dictEpoch gd dat ?_)))
  rw [if_neg (by simp)]
  refine wpAny_pure ?_
  simp only [show ¬ (((ents.size : Nat) : Int) < 0) from by omega, if_false, Int.toNat_natCast, Array.getElem?_eq_none (Nat.le_refl _)]
  refine wpAny_bind ?_
  first | refine wpAny_bind (wpAny_typeNameOfWhole_keyiter hI.typeIs (wpAny_pure ?_)) | refine wpAny_bind (wpAny_typeNameOf_keyiter hI.typeIs (wpAny_pure ?_))
  show wpAny _ _ (setField (.ref it) 0 .none >>= _) _ _ s
  refine wpAny_bind (wpAny_setField gi di (by simp) ?_)
  show wpAny _ _ (newExc (.type "StopIteration") [] >>= _) _ _ _
  refine wpAny_bind ?_
  simp only [newExc, newTuple]
  refine wpAny_bind (wpAny_newObj_type ?_ (by size_fits))
  refine wpAny_bind (m := firstArgMember _ _) (wpAny_of_eq (a := Value.none) (by first | rfl | (simp only [firstArgMember]; rfl)) ?_)
  refine wpAny_newObj_type ?_ (by size_fits)
  simp only [raiseNew]
  refine wpAny_bind (wpAny_handled ?_)
  rw [show A.in1.handled = none from hh]
  refine wpAny_bind (wpAny_pure (wpAny_throw ?_))
  exact fin _ _ (((Heap.SameBut.update ..).extBut.push _).push _) ⟨_, Heap.get?_push_size _ rfl, rfl⟩
theorem Draws.dkeys {prog : Program} {w : World} {A : Around} (hh : A.handled = none) (it d : Addr) (ne : d ≠ it) (ents : Array DictEntry) (ep : Nat) :
    Draws prog w A it [it, d] ents.size (fun i v => ∃ t, ents[i]? = some t ∧ v = t.key) (fun i h => h.IsKeyIter it d i ents.size ep ∧ DEn h d ents ep) where
  live := fun _ _ st => let ⟨o, ho, _⟩ := st.1; ⟨o, ho⟩
  frame := fun _ _ _ st hk => ⟨let ⟨o, ho, r⟩ := st.1; ⟨o, hk it (by simp) o ho, r⟩, let ⟨o, ho, r⟩ := st.2; ⟨o, hk d (by simp) o ho, r⟩⟩
  item := fun i s Q E hi st hQ => by
    refine dnx_item st.1 st.2 (t := ents[i]) (by simp [hi]) fun h' hit' hs' => ?_
    exact hQ _ h' s.toks ⟨_, by simp [hi], rfl⟩ ⟨hit', let ⟨o, ho, r⟩ := st.2; ⟨o, (hs'.2 d ne).trans ho, r⟩⟩ hs'
  done := fun s Q E st hE => dnx_end hh st.1 st.2 hE
set_option maxHeartbeats 1000000 in
theorem enum_newD (d : Addr) (ob : Obj) (ents : Array DictEntry) (ep : Nat) (lo : (d == sysModules) = false) :
    Meets (Builtin.«enumerate.__new__» ⟨[.type "enumerate", .ref d], []⟩) (fun _ R s => s.heap.get? d = some ob ∧ DEn s.heap d ents ep ∧
      R (.ok (.ret (.ref (s.heap.push { cls := .type "dict_keyiterator", data := .fields #[.ref d, .int 0 0, .int ents.size 0, .int ep 0] }).objs.size)))
        { s with heap := (s.heap.push { cls := .type "dict_keyiterator", data := .fields #[.ref d, .int 0 0, .int ents.size 0, .int ep 0] }).push { cls := .type "enumerate", data := .fields #[.none, .bool false, .ref s.heap.objs.size, rawInt 0, .none, .none] } }) :=
  .of_wp fun prog w A R s h => by
    obtain ⟨hp, g, dr, tk, os⟩ := s; obtain ⟨hl, hD, h⟩ := h
    have hsub := sub_enumerate
    wp_walk using wpAny_loadPart' hl
    refine wpAny_stack_any fun st => wpAny_pure ?_
    split
    · rename_i c _ _ _ _ _
      cases (c == Value.type "enumerate")
      · wp_walk using wpAny_loadPart' hl, den_iter lo hD
        exact ⟨_, rfl, h⟩
      · wp_walk using wpAny_loadPart' hl, den_iter lo hD
        exact ⟨_, rfl, h⟩
    · wp_walk using wpAny_loadPart' hl, den_iter lo hD
      exact ⟨_, rfl, h⟩
theorem enum_dict {Q : Value → Shared → Prop} {ob : Obj} (lo : (d == sysModules) = false) (g : s.heap.get? d = some ob) (hD : DEn s.heap d ents ep)
    (h : ∀ h', IsEnum h' (s.heap.objs.size + 1) s.heap.objs.size 0 .none → h'.IsKeyIter s.heap.objs.size d 0 ents.size ep → (∀ b o, s.heap.get? b = some o → h'.get? b = some o) → Q (.ref (s.heap.objs.size + 1)) { s with heap := h' }) :
    wpAny (model prog w) A (call (.type "enumerate") [.ref d]) Q E s := by
  refine callType_new F.called_enumerate (by decide) (F.typeCall_enumerate_1 _) (F.newCall_enumerate_1 _) (fun obj => F.args_object_init_2 obj _) F.entry_enumerate_new (enum_newD d ob ents ep lo) ⟨g, hD, ?_⟩
  have hz : (s.heap.push { cls := .type "dict_keyiterator", data := .fields #[.ref d, .int 0 0, .int ents.size 0, .int ep 0] }).objs.size = s.heap.objs.size + 1 := Heap.size_push ..
  show _ ∧ _
  rw [hz]
  have he : IsEnum ((s.heap.push { cls := .type "dict_keyiterator", data := .fields #[.ref d, .int 0 0, .int ents.size 0, .int ep 0] }).push
      { cls := .type "enumerate", data := .fields #[.none, .bool false, .ref s.heap.objs.size, rawInt 0, .none, .none] }) (s.heap.objs.size + 1) s.heap.objs.size 0 .none := by
    have := Heap.get?_push_size (s.heap.push { cls := .type "dict_keyiterator", data := .fields #[.ref d, .int 0 0, .int ents.size 0, .int ep 0] })
      (o := { cls := .type "enumerate", data := .fields #[.none, .bool false, .ref s.heap.objs.size, rawInt 0, .none, .none] }) rfl
    rw [hz] at this; exact this
  exact ⟨⟨_, he, rfl⟩, h _ he ⟨_, Heap.get?_push_of_some _ (Heap.get?_push_size _ rfl), rfl, rfl⟩ fun b o x => Heap.get?_push_of_some _ (Heap.get?_push_of_some _ x)⟩
end
def ItE (d : Addr) (o : Obj) (kvs : List (Key × V)) : It :=
  ⟨fun i H => H d = some (.frz o (.dK kvs)) ∧ i < kvs.length, fun i H x H' => ∃ p k v, H p = none ∧ x = .ref p ∧ H' = upd H p (.tup [.int (i : Int), kV k]) ∧ kvs[i]? = some (k, v), fun i H => H d = some (.frz o (.dK kvs)) ∧ i = kvs.length⟩
theorem pairs_key {P : Program} {w : World} {es : List DictEntry} {vs : List (Key × Value)} (h : Pairs (mixKind P w) es vs) : ∀ {i : Nat} {k : Key} {u : Value}, vs[i]? = some (k, u) → ∃ t, es[i]? = some t ∧ (mixKind P w).is k t.key = true := by
  induction h with
  | nil => intro i k u e; simp at e
  | @cons e kv es kvs h1 h2 h3 ih =>
    intro i k u q
    cases i with
    | zero =>
      simp at q
      subst q
      exact ⟨e, rfl, h1⟩
    | succ i => exact ih (by simpa using q)
theorem turn_enumD {P : Program} {w : World} {K : PySem.W.Frag} {elts : List Expr} {k1 : Nat} {pos : Pos} {d : Addr} {o : Obj} {es : Array DictEntry} {ep : Nat} (he : o.data = .dict es ep) (kvs : List (Key × V)) (e it : Addr) (hei : e ≠ it) :
    Turn P w K (.Tuple elts k1 pos) (ItE d o kvs) [e, it] e (fun i h => (∃ old, IsEnum h e it (i : Nat) old) ∧ h.IsKeyIter it d i kvs.length ep) where
  mem := by simp
  obj := fun i h st c hc => by
    obtain ⟨⟨old, he⟩, hi⟩ := st
    simp only [List.mem_cons, List.mem_nil_iff, or_false] at hc
    rcases hc with rfl | rfl
    · exact ⟨_, he, fun v z => by have z' : Data.fields _ = Data.cell v := z; cases z'⟩
    · obtain ⟨o, g, c, d⟩ := hi; exact ⟨o, g, fun v z => by rw [d] at z; cases z⟩
  keep := fun i h h' st k => by
    obtain ⟨⟨old, he⟩, hi⟩ := st
    exact ⟨⟨old, k e (by simp) _ he⟩, let ⟨o, ho, r⟩ := hi; ⟨o, k it (by simp) o ho, r⟩⟩
  item := by
    intro X hP hw hK hc i pins s σ H E I hf st hg
    subst hP hw hK
    obtain ⟨⟨old, hen⟩, hi⟩ := st
    obtain ⟨hd, hik⟩ := hg
    obtain ⟨god, vs, rel, o2, es2, g2, ex2, dt2, _, prs, _⟩ := frz_dict I.hok hd he
    rw [god] at g2
    cases g2
    rw [he] at dt2
    cases dt2
    have ek : kvs[i]? = some (kvs[i].1, kvs[i].2) := List.getElem?_eq_getElem hik
    obtain ⟨u, hu, ru⟩ := KV.at rel ek
    obtain ⟨t, ht, hkey⟩ := pairs_key prs hu
    have hsz : es.size = kvs.length := by
      have e1 := prs.length
      have e2 : es.toList.length = es.size := by simp
      have e3 := rel.length
      omega
    have hD : DEn s.heap d es ep := ⟨o, god, ex2, he⟩
    rw [← hsz] at hi
    have hde : d ≠ e := fun z => by
      subst z
      have hE : s.heap.get? d = some _ := hen
      rw [hE] at god
      cases god
      exact absurd he (by simp)
    have hdi : d ≠ it := fun z => by
      subst z
      obtain ⟨oi, gi, ci, di⟩ := hi
      rw [gi] at god
      cases god
      rw [di] at he
      cases he
    have hlt : i < es.size := by omega
    refine wpAny_pyNext_enum_itemD (Draws.dkeys (prog := X.prog) (w := X.w) (A := X.A.in1) (I.ok.hd hc) it d hdi es ep) hen ⟨hi, hD⟩ hlt hei (by simp only [List.mem_cons, List.mem_nil_iff, or_false, not_or]; exact ⟨hei, Ne.symm hde⟩) fun y h' tk hy ho hst ht' hsz' hk => ?_
    obtain ⟨t2, ht2, rfl⟩ := hy
    have htt : t2 = t := by
      have : es[i]? = some t := by simpa using ht
      exact Option.some.inj (ht2.symm.trans this)
    subst htt
    refine ⟨.ref s.heap.objs.size, rfl, wpAny_letOwnedTupleGo_enum (s := { s with heap := h', toks := tk + 1 }) ho fun h'' he'' hs' => ?_⟩
    have lt : ∀ {c o}, s.heap.get? c = some o → c ≠ s.heap.objs.size := fun g => Nat.ne_of_lt (Heap.lt_size g)
    have hse : s.heap.objs.size ≠ e := Ne.symm (lt hen)
    have rk : RelV (kV kvs[i].1) t2.key := by
      rcases keyIs_shape hkey with ⟨j, t, e1, e2⟩ | ⟨x, t, e1, e2⟩
      · rw [e1]; exact ⟨t, e2⟩
      · rw [e1]; exact ⟨t, e2⟩
    have I2 : Inv X pins σ (upd H s.heap.objs.size (.tup [.int (i : Int), kV kvs[i].1])) { s with heap := h'', toks := tk + 1 } := by
      refine I.turnedNew (ch := [e, it]) (fun c o hc g => ?_) hf (Nat.le_refl _) ⟨by show 2 ≤ sizeLine; decide, [.int (i : Int) tk, t2.key], .cons ⟨tk, rfl⟩ (.cons rk .nil), ⟨_, (hs'.2 _ hse).trans ht', rfl, _, rfl⟩⟩
      simp only [List.mem_cons, List.mem_nil_iff, or_false, not_or] at hc
      exact (hs'.2 c hc.1).trans (hk c o hc.1 hc.2 g)
    have hfr : ∀ c ∈ [e, it], upd H s.heap.objs.size (.tup [.int (i : Int), kV kvs[i].1]) c = none := fun c hc => by
      have : c ≠ s.heap.objs.size := by
        have hc' := hc
        simp only [List.mem_cons, List.mem_nil_iff, or_false] at hc'
        rcases hc' with rfl | rfl
        · exact lt hen
        · obtain ⟨o, g, _⟩ := hi; exact lt g
      rw [upd_ne this]; exact (hf c hc).1
    have hst1 := hst.1
    rw [hsz] at hst1
    exact ⟨.ref s.heap.objs.size, _, I2, rfl, ⟨s.heap.objs.size, _, _, I.fresh, rfl, rfl, ek⟩, ⟨⟨_, he''⟩, let ⟨o3, h3, r3⟩ := hst1; ⟨o3, (hs'.2 it (Ne.symm hei)).trans h3, r3⟩⟩, hfr⟩
  done := by
    intro X hP hw hK hc i pins s σ H E I hf st hg
    subst hP hw hK
    obtain ⟨⟨old, hen⟩, hi⟩ := st
    obtain ⟨hd, hik⟩ := hg
    obtain ⟨god, vs, rel, o2, es2, g2, ex2, dt2, _, prs, _⟩ := frz_dict I.hok hd he
    rw [god] at g2
    cases g2
    rw [he] at dt2
    cases dt2
    subst hik
    have hsz : es.size = kvs.length := by
      have e1 := prs.length
      have e2 : es.toList.length = es.size := by simp
      have e3 := rel.length
      omega
    have hD : DEn s.heap d es ep := ⟨o, god, ex2, he⟩
    rw [← hsz] at hi
    have hT : s.TypeIs (.ref e) "enumerate" := ⟨_, hen, rfl⟩
    unfold pyNext
    refine wpAny_bind (wpAny_attempt (wpAny_callSpecial?_slot (name := Str.ofString "__next__") hT F.slot_enumerate_next (wpAny_call_entry F.slot_enumerate_next hT F.entry_enumerate_next ?_ (F.args_enumerate_next_1 _))))
    show wpAny _ _ (field (.ref e) 2 >>= _) _ _ _
    refine wpAny_bind (wpAny_field hen rfl (x := .ref it) rfl ?_)
    refine wpAny_bind (dnx_end (A := X.A.in1) (I.ok.hd hc) hi hD fun h' y he' hy => ?_)
    obtain ⟨ox, hox, hcl⟩ := hy
    refine wpAny_bind (wpAny_isInstance (T := "StopIteration") (b := true) ⟨ox, hox, hcl⟩ isSubtype_stop ?_)
    refine wpAny_pure ⟨rfl, I.turnedL (t' := s.toks) (ch := [e, it]) (fun c u hc' g => he' c u (fun z => hc' (by rw [z]; simp)) g) hf⟩
  self := fun _ _ _ _ _ st h => wpAny_pyIter_enum st.1.choose_spec h
section
variable {X : Cx} {elts : List Expr} {k1 : Nat} {tpos : Pos}
def iEnumD (ta : TA) : TI := fun σ H R => ta σ H fun vs H1 => ∃ d kvs, vs = [.ref d] ∧ H1 d = some (.dK kvs) ∧ ∀ o, R (ItE d o kvs) (upd H1 d (.frz o (.dK kvs)))
theorem pi_enumD {e1 : Expr} {ta : TA} {p pos : Pos} (hg : Gl X "enumerate") (hm : X.mg "enumerate" = none) (ha : PA X [e1] ta) (hb : bootBuiltins "enumerate" = some (.type "enumerate") := by decide +kernel) (hs : starEach [e1] X.env = [(false, eval e1 X.env)] := by rfl) :
    PI X (.Tuple elts k1 tpos) (.Call (.Name "enumerate" p) [e1] [] pos) (iEnumD ta) := by
  intro pins s σ H R I h
  refine Call_ (ld_blt I hg hm hb (PyProof.Rows.callWith_type1 (thn (ha pos pins s σ H _ I h) fun us s1 ⟨vs, H1, I1, r1, q1⟩ => ?_) hs rfl))
  obtain ⟨d, kvs, ev, hd, q⟩ := q1
  subst ev
  cases r1 with
  | cons r rr =>
    cases rr
    obtain rfl : _ = Value.ref d := r
    obtain ⟨z, ne, vs, rel, o, es, ep, ho, ext, dt, kk, prs, nd⟩ := dk_of I1.hok hd
    have hsz : es.size = kvs.length := by
      have e1 := prs.length
      have e2 : es.toList.length = es.size := by simp
      have e3 := rel.length
      omega
    refine enum_dict ne ho ⟨o, ho, ext, dt⟩ fun h' he hi hk => ?_
    refine wpAny_pyIter_enum he ?_
    have I2 := I1.freeze hd ho
    have I3 : Inv X pins σ (upd H1 d (.frz o (.dK kvs))) { s1 with heap := h' } := I2.kept (t' := s1.toks) hk
    rw [hsz] at hi
    refine ⟨s1.heap.objs.size + 1, [s1.heap.objs.size + 1, s1.heap.objs.size], _, _, _, rfl, I3, turn_enumD dt kvs (s1.heap.objs.size + 1) s1.heap.objs.size (nne (by omega)), ⟨⟨_, he⟩, hi⟩, fun c hc => ?_, q o⟩
    have hle : @LE.le Nat _ s1.heap.objs.size c := by
      simp only [List.mem_cons, List.mem_nil_iff, or_false] at hc
      rcases hc with rfl | rfl <;> omega
    exact I2.fpOk hle (I2.hok.fresh hle)
end
theorem c2_enumD {K : PySem.W.Frag} {d acc : Addr} {o : Obj} {kvs : List (Key × V)} {tt : TT} {te : TE} {cs : St} {H1 : Hp} {Q : Hp → Prop} (Pv : Nat → List V → Hp → Prop) (h0 : Pv 0 [] (upd H1 acc (.lst []))) (hl : ∀ i ys H, i ≤ kvs.length → Pv i ys H → H d = some (.frz o (.dK kvs)))
    (hs : ∀ (i : Nat) (k : Key) (v : V) (p : Addr) (ys : List V) (H : Hp), i < kvs.length → kvs[i]? = some (k, v) → H p = none → Pv i ys H → tt (some (.int (i : Int)) :: some (kV k) :: cs) (upd H p (.tup [.int (i : Int), kV k])) (CKon kvs.length Pv acc i te (some (.int (i : Int)) :: some (kV k) :: cs))) (hd : ∀ ys H, Pv kvs.length ys H → Q H) :
    CGoal (ItE d o kvs) 2 cs (gTup K 2 (gCons (gName 0) (gCons (gName 1) gNil))) tt te H1 acc Q := by
  refine compG_drive (N := kvs.length) Pv h0 (fun ys H p => ?_) fun i ys H hi p => ?_
  · exact ⟨⟨hl _ _ _ (Nat.le_refl _) p, rfl⟩, hd ys H p⟩
  · refine ⟨⟨hl _ _ _ (Nat.le_of_lt hi) p, hi⟩, ?_⟩
    rintro x H3 ⟨q, k, v, hp, rfl, rfl, hv⟩ as has
    obtain ⟨a0, a1, rfl⟩ := len_two has
    exact ⟨q, [.int (i : Int), kV k], rfl, SqT.of upd_same, rfl, _, [kV k], rfl, kV k, [], rfl, rfl, ⟨[some _, some (kV k)], rfl, rfl⟩, hs i k v q ys _ hi hv hp p⟩
theorem c1_dvals {d acc : Addr} {o : Obj} {kvs : List (Key × V)} {tt : TT} {te : TE} {cs : St} {H1 : Hp} {Q : Hp → Prop} (Pv : Nat → List V → Hp → Prop) (h0 : Pv 0 [] (upd H1 acc (.lst []))) (hl : ∀ i ys H, i ≤ kvs.length → Pv i ys H → H d = some (.frz o (.dK kvs)))
    (hs : ∀ (i : Nat) (k : Key) (v : V) (ys : List V) (H : Hp), i < kvs.length → kvs[i]? = some (k, v) → Pv i ys H → tt (some v :: cs) H (CKon kvs.length Pv acc i te (some v :: cs))) (hd : ∀ ys H, Pv kvs.length ys H → Q H) :
    CGoal (Itdv d o kvs) 1 cs (gName 0) tt te H1 acc Q := by
  refine compG_drive (N := kvs.length) Pv h0 (fun ys H p => ?_) fun i ys H hi p => ?_
  · exact ⟨⟨hl _ _ _ (Nat.le_refl _) p, Nat.le_refl _⟩, hd ys H p⟩
  · refine ⟨⟨hl _ _ _ (Nat.le_of_lt hi) p, hi⟩, ?_⟩
    rintro x H3 ⟨rfl, k, hx⟩ as has
    obtain ⟨a0, rfl⟩ : ∃ a0, as = [a0] := List.length_eq_one_iff.mp has
    exact ⟨⟨[some x], rfl, rfl⟩, hs i k x ys _ hi hx p⟩
end L2
namespace K14
open PySem L2 K3 TM K9
abbrev ZR := V × RuN
def RuZ (K : PySem.W.Frag) (H : Hp) (zz : List ZR) : Prop := ∀ x ∈ zz, RuV K H x.1 x.2
def addM (ms : List (List Nat)) (m : List Nat) : List (List Nat) := if m ∈ ms then ms else ms ++ [m]
def omz (zz : List ZR) : List (List Nat) := zz.foldl (fun ms x => addM ms x.2.m) []
def grp (zz : List ZR) (m : List Nat) : List ZR := zz.filter fun x => decide (x.2.m = m)
theorem omz_snoc (zz : List ZR) (x : ZR) : omz (zz ++ [x]) = addM (omz zz) x.2.m := by unfold omz; rw [List.foldl_append]; rfl
theorem grp_snoc (zz : List ZR) (x : ZR) (m : List Nat) : grp (zz ++ [x]) m = if x.2.m = m then grp zz m ++ [x] else grp zz m := by
  unfold grp
  rw [List.filter_append]
  by_cases e : x.2.m = m
  · rw [if_pos e]; simp [e]
  · rw [if_neg e]; simp [e]
theorem addM_nd {ms : List (List Nat)} {m : List Nat} (h : ms.Nodup) : (addM ms m).Nodup := by
  unfold addM
  split
  · exact h
  · rename_i hn
    rw [List.nodup_append]
    exact ⟨h, by simp, fun a ha b hb => by rw [List.mem_singleton.mp hb]; exact fun z => hn (z ▸ ha)⟩
theorem addM_mem {ms : List (List Nat)} {m x : List Nat} : x ∈ addM ms m ↔ x ∈ ms ∨ x = m := by
  unfold addM
  split
  · rename_i h
    exact ⟨.inl, fun z => z.elim id fun e => by rw [e]; exact h⟩
  · rw [List.mem_append, List.mem_singleton]
theorem rev_ind {α : Type} {p : List α → Prop} (h0 : p []) (hs : ∀ l x, p l → p (l ++ [x])) (l : List α) : p l := by
  have : ∀ n : Nat, ∀ l : List α, l.length = n → p l := fun n => by
    induction n with
    | zero => intro l hl; rw [List.length_eq_zero_iff.mp hl]; exact h0
    | succ n ih =>
      intro l hl
      have hne : l ≠ [] := fun z => by rw [z] at hl; cases hl
      rw [← List.dropLast_concat_getLast hne]
      exact hs _ _ (ih _ (by rw [List.length_dropLast, hl]; rfl))
  exact this _ l rfl
theorem omz_nd (zz : List ZR) : (omz zz).Nodup := by
  refine rev_ind (p := fun zz => (omz zz).Nodup) (by exact List.nodup_nil) (fun l x h => ?_) zz
  rw [omz_snoc]; exact addM_nd h
theorem omz_mem {zz : List ZR} {m : List Nat} : m ∈ omz zz ↔ ∃ x ∈ zz, x.2.m = m := by
  refine rev_ind (p := fun zz => m ∈ omz zz ↔ ∃ x ∈ zz, x.2.m = m) ?_ (fun l x h => ?_) zz
  · exact ⟨fun z => (nomatch z), fun ⟨x, hx, _⟩ => (nomatch hx)⟩
  · rw [omz_snoc, addM_mem, h]
    constructor
    · rintro (⟨y, hy, e⟩ | e)
      · exact ⟨y, List.mem_append_left _ hy, e⟩
      · exact ⟨x, List.mem_append_right _ List.mem_cons_self, e.symm⟩
    · rintro ⟨y, hy, e⟩
      rcases List.mem_append.mp hy with hy | hy
      · exact .inl ⟨y, hy, e⟩
      · obtain rfl := List.mem_singleton.mp hy; exact .inr e.symm
theorem omz_len (zz : List ZR) : (omz zz).length ≤ zz.length := by
  refine rev_ind (p := fun zz => (omz zz).length ≤ zz.length) (Nat.le_refl _) (fun l x h => ?_) zz
  rw [omz_snoc, List.length_append]
  unfold addM
  split
  · simp; omega
  · rw [List.length_append]; simp; omega
theorem grp_ne {zz : List ZR} {m : List Nat} (h : m ∈ omz zz) : grp zz m ≠ [] := fun z => by
  obtain ⟨x, hx, e⟩ := omz_mem.mp h
  have : x ∈ grp zz m := List.mem_filter.mpr ⟨hx, decide_eq_true e⟩
  rw [z] at this; cases this
theorem grp_mem {zz : List ZR} {m : List Nat} {x : ZR} (h : x ∈ grp zz m) : x ∈ zz ∧ x.2.m = m := by
  obtain ⟨h1, h2⟩ := List.mem_filter.mp h
  exact ⟨h1, of_decide_eq_true h2⟩
theorem RuZ.ru {K : PySem.W.Frag} {H : Hp} {zz : List ZR} (h : RuZ K H zz) : RuL K H (zz.map fun x => x.1) (zz.map fun x => x.2) := by
  refine ⟨by simp, fun i v x e1 e2 => ?_⟩
  rw [List.getElem?_map] at e1 e2
  cases e : zz[i]? with
  | none => rw [e] at e1; cases e1
  | some y =>
    rw [e] at e1 e2
    cases e1; cases e2
    exact h y (List.mem_of_getElem? e)
theorem RuZ.mono {K : PySem.W.Frag} {H H' : Hp} {zz : List ZR} (k : ∀ a xs, SqT K H a xs → SqT K H' a xs) (h : RuZ K H zz) : RuZ K H' zz := fun x hx => (h x hx).mono k
def rsG (zz : List ZR) (m : List Nat) : List RuN := (grp zz m).map fun x => x.2
def nixS (ms : List (List Nat)) (s : Str) : Nat := ms.findIdx fun m => decide (S m = s)
def nixV (ms : List (List Nat)) (v : V) : V := match v with
  | .str s => .int (nixS ms s : Int)
  | v => v
theorem nix_at {ms : List (List Nat)} (hn : ms.Nodup) {i : Nat} (h : i < ms.length) : nixS ms (S ms[i]) = i := by
  unfold nixS
  rw [List.findIdx_eq h]
  refine ⟨decide_eq_true rfl, fun j hj => decide_eq_false fun z => ?_⟩
  have := (List.getElem_inj hn).mp (S_inj z)
  omega
theorem sx_sqT {K : PySem.W.Frag} {H H' : Hp} {d a : Addr} {xs : List V} {u : HO} (hd : H d = some u) (nu : ∀ ys, u ≠ .tup ys) (nf : ∀ o ys, u ≠ .frz o (.tup ys)) (g : SameX d H H') (h : SqT K H a xs) : SqT K H' a xs := by
  rcases h with (h | ⟨ob, h⟩) | h
  · exact .inl (.inl (g _ _ (fun z => by rw [z, hd] at h; exact nu _ (Option.some.inj h)) h))
  · exact .inl (.inr ⟨ob, g _ _ (fun z => by rw [z, hd] at h; exact nf _ _ (Option.some.inj h)) h⟩)
  · exact .inr h
theorem sx_sqL {K : PySem.W.Frag} {H H' : Hp} {d a : Addr} {xs : List V} {u : HO} (hd : H d = some u) (nu : ∀ ys, u ≠ .lst ys) (nf : ∀ o ys, u ≠ .frz o (.lst ys)) (g : SameX d H H') (h : SqL K H a xs) : SqL K H' a xs := by
  rcases h with (h | ⟨ob, h⟩) | h
  · exact .inl (.inl (g _ _ (fun z => by rw [z, hd] at h; exact nu _ (Option.some.inj h)) h))
  · exact .inl (.inr ⟨ob, g _ _ (fun z => by rw [z, hd] at h; exact nf _ _ (Option.some.inj h)) h⟩)
  · exact .inr h
structure Held (K : PySem.W.Frag) (H H' : Hp) (d : Addr) : Prop where
  sx : SameX d H H'
  qt : ∀ a xs, SqT K H a xs → SqT K H' a xs
  ql : ∀ a xs, SqL K H a xs → SqL K H' a xs
theorem Held.melt {K : PySem.W.Frag} {H : Hp} {d : Addr} {kvs : List (Key × V)} {o : Obj} (h : H d = some (.frz o (.dK kvs))) : Held K H (upd H d (.dK kvs)) d :=
  have g : SameX d H (upd H d (.dK kvs)) := fun b u n e => by rw [upd_ne n]; exact e
  ⟨g, fun _ _ q => sx_sqT h (fun _ z => nomatch z) (fun _ _ z => (by cases z)) g q, fun _ _ q => sx_sqL h (fun _ z => nomatch z) (fun _ _ z => (by cases z)) g q⟩
theorem Held.wood {K : PySem.W.Frag} {H H' : Hp} {d w : Addr} {ks : List KdT} (g : Held K H H' d) (h : WoodAt K H w ks) : WoodAt K H' w ks :=
  ⟨g.ql _ _ h.1, fun k hk => ⟨g.qt _ _ (h.2 k hk).1, g.ql _ _ (h.2 k hk).2.1, fun t ht => ⟨g.qt _ _ ((h.2 k hk).2.2 t ht).1, g.qt _ _ ((h.2 k hk).2.2 t ht).2⟩⟩⟩
theorem Held.modes {K : PySem.W.Frag} {H H' : Hp} {d lm : Addr} {ms : List MvT} (g : Held K H H' d) (h : ModesV K H lm ms) : ModesV K H' lm ms :=
  ⟨g.ql _ _ h.1, fun m hm => ⟨g.qt _ _ (h.2 m hm).1, g.ql _ _ (h.2 m hm).2.1, (h.2 m hm).2.2.mono g.qt⟩⟩
end K14
namespace K14
open PySem L2 K3 TM K9
def InM (ms : List (List Nat)) (t : TV) : Prop := ∀ m b, (m, b) ∈ clV t → ∃ x ∈ ms, m = .str (S x)
def tmsO (ks : List KdT) (zz : List ZR) (kd : List Nat → List Nat) (m : List Nat) : List TV := (rowsK ks (S (kd m))).map fun t => mpV (nixV (omz zz)) (ruT (rsG zz m) t.2.1)
structure TuOk (ks : List KdT) (k0 : Str) (zz : List ZR) (st : TV) (kd : List Nat → List Nat) : Prop where
  mo : ∀ m ∈ omz zz, MoOk ks (rsG zz m) (kd m)
  rl : ∀ x ∈ zz, lv (vN x.2.t) ≤ 9 ∧ sz (vN x.2.t) ≤ 1000 ∧ InM (omz zz) (vN x.2.t)
  stl : lv st ≤ 9 ∧ sz st ≤ 1000 ∧ InM (omz zz) st
  stm : lv (mpV (nixV (omz zz)) st) ≤ 9 ∧ sz (mpV (nixV (omz zz)) st) ≤ 1000
  kp : kpV (mpV (nixV (omz zz)) st) = false
  n40 : zz.length ≤ 40
  fit : ∀ m ∈ omz zz, RuFit ks ((omz zz).map fun m => S (kd m)) (S (kd m)) (tmsO ks zz kd m)
  fst : FitV ((omz zz).map fun m => S (kd m)) [k0] (mpV (nixV (omz zz)) st)
structure NewMs (K : PySem.W.Frag) (H H' : Hp) (lm : Addr) (ms : List MvT) : Prop where
  n0 : H lm = none
  at0 : H' lm = some (.lst (ms.map fun m => V.ref m.1))
  md : ∀ m ∈ ms, SqT K H' m.1 [.str m.2.1, .ref m.2.2.1] ∧ H' m.2.2.1 = some (.lst m.2.2.2.1) ∧ H m.2.2.1 = none ∧ TvAll K H' m.2.2.2.1 m.2.2.2.2
theorem NewMs.modes {K : PySem.W.Frag} {H H' : Hp} {lm : Addr} {ms : List MvT} (h : NewMs K H H' lm ms) : ModesV K H' lm ms := ⟨SqL.of h.at0, fun m hm => ⟨(h.md m hm).1, SqL.of (h.md m hm).2.1, (h.md m hm).2.2.2⟩⟩
def dM (ms : List MvT) : List (Str × List TV) := ms.map fun m => (m.2.1, m.2.2.2.2)
def spTurnO (K : PySem.W.Frag) : Sp := fun vs H Q _ => ∃ (w l : Addr) (v : V) (ks : List KdT) (k0 : KdT) (zz : List ZR) (st : TV) (kd : List Nat → List Nat), vs = [.ref w, v, .ref l] ∧ WoodAt K H w ks ∧ WoodOk ks ∧ ks[0]? = some k0 ∧ TvV K H v st ∧ SqL K H l (zz.map fun x => x.1) ∧ RuZ K H zz ∧ TuOk ks k0.2.1 zz st kd ∧
  ∀ (p lw lm : Addr) (v' : V) (ks' : List KdT) (ms : List MvT) (H' : Hp), Same H H' → SqT K H' p [.ref lw, v', .ref lm] → NewWd K H H' lw ks' → dW ks' = dW ks → TvV K H' v' (mpV (nixV (omz zz)) st) → NewMs K H H' lm ms → dM ms = (omz zz).map (fun m => (S (kd m), tmsO ks zz kd m)) → Q (.ref p) H'
structure ByM (H H' : Hp) (bd : Addr) (zz : List ZR) (ps : List (List Nat × Addr)) : Prop where
  at_ : H' bd = some (.dK (ps.map fun p => ((Sum.inr (S p.1) : Key), V.ref p.2)))
  nm : (ps.map fun p => p.1) = omz zz
  ls : ∀ p ∈ ps, H' p.2 = some (.lst ((grp zz p.1).map fun x => x.1))
  nd : (ps.map fun p => p.2).Nodup
  ne : ∀ p ∈ ps, p.2 ≠ bd ∧ H p.2 = none
theorem S_nd {ms : List (List Nat)} (h : ms.Nodup) : (ms.map S).Nodup := by
  unfold List.Nodup at *
  rw [List.pairwise_map]
  exact h.imp fun hne e => hne (S_inj e)
theorem nd_inj {ps : List (List Nat × Addr)} (h : (ps.map fun p => p.2).Nodup) {p q : List Nat × Addr} (hp : p ∈ ps) (hq : q ∈ ps) (e : p.2 = q.2) : p = q := by
  obtain ⟨i, hi, rfl⟩ := List.mem_iff_getElem.mp hp
  obtain ⟨j, hj, rfl⟩ := List.mem_iff_getElem.mp hq
  have : (ps.map fun p => p.2)[i]'(by simpa using hi) = (ps.map fun p => p.2)[j]'(by simpa using hj) := by rw [List.getElem_map, List.getElem_map]; exact e
  have := (List.getElem_inj h).mp this
  subst this; rfl
theorem grp_nil {zz : List ZR} {m : List Nat} (h : m ∉ omz zz) : grp zz m = [] := by
  unfold grp
  rw [List.filter_eq_nil_iff]
  intro x hx z
  exact h (omz_mem.mpr ⟨x, hx, of_decide_eq_true z⟩)
theorem ByM.old {H H' : Hp} {bd p : Addr} {zz : List ZR} {ps : List (List Nat × Addr)} (h : ByM H H' bd zz ps) (g : Same H H') (hp : H' p = none) {x : ZR} {q : List Nat × Addr} (hq : q ∈ ps) (e : q.1 = x.2.m) :
    ByM H (upd (upd H' p (.lst [])) q.2 (.lst ((grp zz x.2.m).map (fun x => x.1) ++ [x.1]))) bd (zz ++ [x]) ps ∧ Same H (upd (upd H' p (.lst [])) q.2 (.lst ((grp zz x.2.m).map (fun x => x.1) ++ [x.1]))) := by
  have hm : x.2.m ∈ omz zz := by rw [← h.nm, ← e]; exact List.mem_map_of_mem hq
  have hqb := (h.ne q hq).1
  refine ⟨⟨?_, ?_, fun r hr => ?_, h.nd, h.ne⟩, fun b u eb => ?_⟩
  · rw [upd_ne (Ne.symm hqb), upd_ne (ne_of_none h.at_ hp)]; exact h.at_
  · rw [omz_snoc, h.nm]; unfold addM; rw [if_pos hm]
  · by_cases c : r = q
    · subst c
      rw [upd_same, grp_snoc, if_pos e.symm, List.map_append, e]; rfl
    · have c2 : r.2 ≠ q.2 := fun z => c (nd_inj h.nd hr hq z)
      have c3 : x.2.m ≠ r.1 := fun z => by
        have hnd : (ps.map fun p => p.1).Nodup := by rw [h.nm]; exact omz_nd zz
        obtain ⟨i, hi, rfl⟩ := List.mem_iff_getElem.mp hr
        obtain ⟨j, hj, rfl⟩ := List.mem_iff_getElem.mp hq
        have : (ps.map fun p => p.1)[i]'(by simpa using hi) = (ps.map fun p => p.1)[j]'(by simpa using hj) := by rw [List.getElem_map, List.getElem_map, e, z]
        have := (List.getElem_inj hnd).mp this
        subst this; exact c rfl
      rw [upd_ne c2, upd_ne (ne_of_none (h.ls r hr) hp), grp_snoc, if_neg c3]
      exact h.ls r hr
  · rw [upd_ne (ne_of_none eb (h.ne q hq).2), upd_ne (ne_of_none (g _ _ eb) hp)]
    exact g _ _ eb
theorem ByM.new {H H' : Hp} {bd p : Addr} {zz : List ZR} {ps : List (List Nat × Addr)} (h : ByM H H' bd zz ps) (g : Same H H') (hb : H bd = none) (hp : H' p = none) {x : ZR} (hn : x.2.m ∉ omz zz) :
    ByM H (upd (upd (upd H' p (.lst [])) bd (.dK ((ps.map fun p => ((Sum.inr (S p.1) : Key), V.ref p.2)) ++ [(Sum.inr (S x.2.m), .ref p)]))) p (.lst ([] ++ [x.1]))) bd (zz ++ [x]) (ps ++ [(x.2.m, p)]) ∧ Same H (upd (upd (upd H' p (.lst [])) bd (.dK ((ps.map fun p => ((Sum.inr (S p.1) : Key), V.ref p.2)) ++ [(Sum.inr (S x.2.m), .ref p)]))) p (.lst ([] ++ [x.1]))) := by
  have hpb : p ≠ bd := Ne.symm (ne_of_none h.at_ hp)
  have hHp : H p = none := by
    cases e : H p with
    | none => rfl
    | some u => rw [g _ _ e] at hp; cases hp
  refine ⟨⟨?_, ?_, fun r hr => ?_, ?_, fun r hr => ?_⟩, fun b u eb => ?_⟩
  · rw [upd_ne (Ne.symm hpb), upd_same, List.map_append]; rfl
  · rw [omz_snoc, List.map_append, h.nm]; unfold addM; rw [if_neg hn]; rfl
  · rcases List.mem_append.mp hr with hr | hr
    · have c3 : x.2.m ≠ r.1 := fun z => hn (by rw [← h.nm, z]; exact List.mem_map_of_mem hr)
      rw [upd_ne (ne_of_none (h.ls r hr) hp), upd_ne (h.ne r hr).1, upd_ne (ne_of_none (h.ls r hr) hp), grp_snoc, if_neg c3]
      exact h.ls r hr
    · obtain rfl := List.mem_singleton.mp hr
      rw [upd_same, grp_snoc, if_pos rfl, grp_nil hn]; rfl
  · rw [List.map_append, List.nodup_append]
    refine ⟨h.nd, by simp, fun a ha b hb => ?_⟩
    obtain ⟨r, hr, rfl⟩ := List.mem_map.mp ha
    obtain rfl : b = p := by simpa using hb
    exact ne_of_none (h.ls r hr) hp
  · rcases List.mem_append.mp hr with hr | hr
    · exact h.ne r hr
    · obtain rfl := List.mem_singleton.mp hr; exact ⟨hpb, hHp⟩
  · rw [upd_ne (ne_of_none eb hHp), upd_ne (ne_of_none eb hb), upd_ne (ne_of_none eb hHp)]
    exact g _ _ eb
section
variable {P : Program} {w : World} {K : PySem.W.Frag} {mg : Str → Option Value} {base : Heap} {f : Addr} {fd : FuncData}
theorem scTurnO : FnScope ["wood", "start", "rules", "own", "by_modes", "rule", "numbers", "modes", "term"] ["wood", "start", "rules"] (defScope sTurnO) := ⟨rfl, rfl, rfl, by decide +kernel, rfl, by decide +kernel, by decide +kernel⟩
theorem ok_turnO (F : Fun K "turning_of" "turning_of" sTurnO f fd) (GA : GmA mg) (ROW : Fn P w K mg base 1 "own_wood" ["wood"] (spOwnW K)) (RMO : Fn P w K mg base 12 "mode_of" ["wood", "numbers", "rules"] (spModeO K)) (RN : Fn P w K mg base 11 "numbered" ["term", "numbers"] (spNumd K)) (RIS : Fn P w K mg base 13 "is_sound" ["wood", "start", "modes"] (spISV K)) : FnOk P w K mg base CX0 14 f fd ["wood", "start", "rules"] (spTurnO K) := by
  refine F.ok scTurnO (fun vs H Q E h => ?_) (fun cdv A outer s H vs Q E hr h => ?_)
  · obtain ⟨wd, l, v, ks, k0, zz, st, kd, rfl, _⟩ := h
    rfl
  obtain ⟨wd, l, v, ks, k0, zz, st, kd, rfl, hW, hO, hk0, hv, hl, hZ, hT, q⟩ := h
  refine ⟨_, (pss_cons (ps_set (i := 3) scTurnO.nd rfl (Or.inr rfl) (pe_fn ROW hr (pa_cons (pv 0) pa_nil)))
    (pss_cons (ps_set (i := 4) scTurnO.nd rfl (Or.inl rfl) pe_dnewK)
    (pss_cons (ps_for PassesOwn.never rfl (pi_list (pv 2)) (pg_name (i := 5) scTurnO.nd rfl (Or.inl rfl)) (pss_one (ps_expr (pe_bm PySem.F.plainAttrs_list PySem.F.slot_list_append PySem.F.type_list_append mt_append (pe_bm PySem.F.plainAttrs_dict PySem.F.slot_dict_setdefault PySem.F.type_dict_setdefault mt_setdefault (pv 4) (pa_cons (pe_ix ix_tup (pv 5) pe_int (fun _ _ => rfl)) (pa_cons (pe_lst pa_nil) pa_nil))) (pa_cons (pv 5) pa_nil)))))
    (pss_cons (ps_melt (ps_set (i := 6) scTurnO.nd rfl (Or.inr rfl) (pe_callTy (call_dictP rfl) rfl GA.dict PyProof.Rows.boot_dict (pa_cons (pe_lcompG (CompG.many (xs := ["number", "mode"]) (caps := []) (cap := []) (cs := []) rfl rfl (by decide +kernel) (by decide +kernel) (by decide +kernel) (by decide +kernel) (by decide +kernel) (by decide +kernel) rfl rfl rfl) rfl (pi_enumD rfl GA.enu (pa_cons (pv 4) pa_nil)) (pg_c2 (CompG.many (xs := ["number", "mode"]) (caps := []) (cap := []) (cs := []) rfl rfl (by decide +kernel) (by decide +kernel) (by decide +kernel) (by decide +kernel) (by decide +kernel) (by decide +kernel) rfl rfl rfl) rfl) (fun _ _ _ _ => pf_nil) (fun _ _ _ _ => (pe_tup (pa_cons (pv 1) (pa_cons (pv 0) pa_nil))))) pa_nil))))
    (pss_cons (ps_melt (ps_setG (i := 7) (CompG.many (xs := ["its_rules"]) (caps := ["numbers", "own"]) (cap := [6, 3]) (cs := [_, _]) rfl rfl (by decide +kernel) (by decide +kernel) (by decide +kernel) (by decide +kernel) (by decide +kernel) (by decide +kernel) rfl rfl rfl) rfl (pi_dvals (pe_bm0 PySem.F.plainAttrs_dict PySem.F.slot_dict_values PySem.F.type_dict_values mt_values (pv 4))) (pg_c1 (CompG.many (xs := ["its_rules"]) (caps := ["numbers", "own"]) (cap := [6, 3]) (cs := [_, _]) rfl rfl (by decide +kernel) (by decide +kernel) (by decide +kernel) (by decide +kernel) (by decide +kernel) (by decide +kernel) rfl rfl rfl)) (fun _ _ _ _ => pf_nil) (fun _ _ _ _ => pe_fn RMO hr (pa_cons (pv 2) (pa_cons (pv 1) (pa_cons (pv 0) pa_nil)))) scTurnO.nd rfl rfl))
    (pss_cons (ps_set (i := 8) scTurnO.nd rfl (Or.inl rfl) (pe_fn RN hr (pa_cons (pv 1) (pa_cons (pv 6) pa_nil))))
    (pss_cons (ps_if (pt_not (pt_val (pe_fn RIS hr (pa_cons (pv 3) (pa_cons (pv 8) (pa_cons (pv 7) pa_nil)))))) pss_never pss_nil)
    (pss_one (ps_ret (pe_tup (pa_cons (pv 3) (pa_cons (pv 8) (pa_cons (pv 7) pa_nil))))))))))))), ?_⟩
  have hz40 := hT.n40
  refine ⟨_, rfl, wd, ks, rfl, hW, (by have := hO.len; omega), fun lw H1 ks' g1 hN hdw => ?_⟩
  have hlw1 : H1 lw ≠ none := by rw [hN.at0]; exact fun z => nomatch z
  refine fun bd hbd => ?_
  have s1 := same_new hbd (.dK [])
  refine ⟨_, rfl, l, rfl, ⟨_, s1.seq (g1.seq hl)⟩, ?_⟩
  refine for_list (K := K) (xs := zz.map fun x => x.1) (fun i σ H' => ∃ (c5 : Option V) (ps : List (List Nat × Addr)), σ = [some (.ref wd), some v, some (.ref l), some (.ref lw), some (.ref bd), c5, none, none, none] ∧ ByM H1 H' bd (zz.take i) ps ∧ Same H1 H')
    ⟨none, [], rfl, ⟨upd_same, rfl, fun p hp => (nomatch hp), List.nodup_nil, fun p hp => (nomatch hp)⟩, s1⟩ ?_ ?_ ?_
  · rintro i σ H' _ ⟨_, _, _, _, g2⟩
    exact g2.seq (g1.seq hl)
  · rintro i x σ H' hx ⟨c5, ps, rfl, hB, g2⟩
    have hi : i < zz.length := by have := (List.getElem?_eq_some_iff.mp hx).1; rw [List.length_map] at this; exact this
    obtain rfl : x = zz[i].1 := by
      rw [List.getElem?_map, List.getElem?_eq_getElem hi] at hx
      exact (Option.some.inj hx).symm
    obtain ⟨a, tv, ea, h1, h2⟩ := (hZ zz[i] (List.getElem_mem hi)).ex
    have htk : zz.take (i + 1) = zz.take i ++ [zz[i]] := by rw [List.take_add_one, List.getElem?_eq_getElem hi]; rfl
    have hpl : ps.length ≤ 40 := by
      have e1 := congrArg List.length hB.nm
      rw [List.length_map] at e1
      have e2 := omz_len (zz.take i)
      rw [List.length_take] at e2
      omega
    have hgl : ∀ m, (grp (zz.take i) m).length ≤ 40 := fun m => by
      have e1 := List.length_filter_le (fun x : ZR => decide (x.2.m = m)) (zz.take i)
      have e2 : (zz.take i).length ≤ 40 := by rw [List.length_take]; omega
      unfold grp; omega
    refine ⟨_, rfl, .inr (.inr (.inl ⟨rfl, .inl ⟨_, hB.at_⟩⟩)), _, (by rw [ea]; rfl), a, _, 0, _, rfl, rfl, (g1.trans g2).seqT h1, rfl, ⟨(by show 0 ≤ sizeLine; decide), fun p hp => ⟨bd, _, Sum.inr (S zz[i].2.m), .ref p, rfl, rfl, (by rw [upd_ne (ne_of_none hB.at_ hp)]; exact hB.at_), (by rw [List.length_map]; exact Nat.lt_of_le_of_lt hpl (by decide)), fun u hu => ?_, fun hn => ?_⟩⟩⟩
    · rw [val_map (fun p : List Nat × Addr => S p.1) (fun p => V.ref p.2) _ ps] at hu
      cases e : ps.find? fun p => decide (S p.1 = S zz[i].2.m) with
      | none => rw [e] at hu; cases hu
      | some r =>
        rw [e] at hu
        cases hu
        have hr := List.mem_of_find?_eq_some e
        have er : r.1 = zz[i].2.m := S_inj (of_decide_eq_true (List.find?_some (p := fun p : List Nat × Addr => decide (S p.1 = S zz[i].2.m)) e))
        have hls := hB.ls r hr
        rw [er] at hls
        have hls2 : upd H' p (.lst []) r.2 = some (.lst ((grp (zz.take i) zz[i].2.m).map fun x => x.1)) := by rw [upd_ne (ne_of_none hls hp)]; exact hls
        refine ⟨.inl ⟨rfl, _, SqL.of hls2⟩, _, (by rw [ea]; rfl), r.2, _, zz[i].1, rfl, (by rw [ea]), hls2, (by rw [List.length_map]; exact Nat.lt_of_le_of_lt (hgl _) (by decide)), ?_⟩
        obtain ⟨k1, k2⟩ := hB.old g2 hp hr er (x := zz[i])
        exact ⟨_, ps, rfl, by rw [htk]; exact k1, k2⟩
    · have hno : zz[i].2.m ∉ omz (zz.take i) := fun z => hn (by
        rw [← hB.nm] at z
        obtain ⟨r, hr, er⟩ := List.mem_map.mp z
        rw [List.map_map]
        exact List.mem_map.mpr ⟨r, hr, by show (Sum.inr (S r.1) : Key) = _; rw [er]⟩)
      have hpb : p ≠ bd := Ne.symm (ne_of_none hB.at_ hp)
      have hls2 : upd (upd H' p (.lst [])) bd (.dK ((ps.map fun p => ((Sum.inr (S p.1) : Key), V.ref p.2)) ++ [(Sum.inr (S zz[i].2.m), .ref p)])) p = some (.lst []) := by rw [upd_ne hpb, upd_same]
      refine ⟨.inl ⟨rfl, _, SqL.of hls2⟩, _, (by rw [ea]; rfl), p, _, zz[i].1, rfl, (by rw [ea]), hls2, (by decide), ?_⟩
      obtain ⟨k1, k2⟩ := hB.new g2 hbd hp hno (x := zz[i])
      exact ⟨_, _, rfl, by rw [htk]; exact k1, k2⟩
  · rintro σ H2 ⟨c5, ps, rfl, hB, g2⟩
    rw [List.length_map, List.take_length] at hB
    have hpl : ps.length = (omz zz).length := by rw [← hB.nm, List.length_map]
    have hol : (omz zz).length ≤ 40 := by have := omz_len zz; omega
    have hpi : ∀ (i : Nat) (h : i < ps.length) (h2 : i < (omz zz).length), ps[i].1 = (omz zz)[i] := fun i h h2 => by
      have e1 : (ps.map fun p => p.1)[i]'(by simpa using h) = (omz zz)[i] := by congr 1; exact hB.nm
      rw [List.getElem_map] at e1; exact e1
    have hat := hB.at_
    refine ⟨bd, _, hat, ?_⟩
    refine ⟨_, rfl, bd, _, rfl, hat, fun o acc hacc => ?_⟩
    have gF : Same H1 (upd H2 bd (.frz o (.dK (ps.map fun p => ((Sum.inr (S p.1) : Key), V.ref p.2))))) := fun b u e => by rw [upd_ne (ne_of_none e hbd)]; exact g2 _ _ e
    have bF : upd H2 bd (.frz o (.dK (ps.map fun p => ((Sum.inr (S p.1) : Key), V.ref p.2)))) bd = some (.frz o (.dK (ps.map fun p => ((Sum.inr (S p.1) : Key), V.ref p.2)))) := upd_same
    have lF : ∀ p ∈ ps, upd H2 bd (.frz o (.dK (ps.map fun p => ((Sum.inr (S p.1) : Key), V.ref p.2)))) p.2 = some (.lst ((grp zz p.1).map fun x => x.1)) := fun p hp => by rw [upd_ne (hB.ne p hp).1]; exact hB.ls p hp
    generalize upd H2 bd (.frz o (.dK (ps.map fun p => ((Sum.inr (S p.1) : Key), V.ref p.2)))) = F1 at gF bF lF hacc ⊢
    refine c2_enumD (K := K) (cs := []) (tt := fun _ H Q => Q true H) (fun j ys H' => ∃ ts : List (Addr × Str × V), ys = ts.map (fun t => V.ref t.1) ∧ ts.length = j ∧ H' acc = some (.lst ys) ∧ Same F1 H' ∧ (∀ t ∈ ts, SqT K H' t.1 [.str t.2.1, t.2.2]) ∧ ∀ (i : Nat) (h : i < ts.length) (h2 : i < (omz zz).length), ts[i].2 = (S (omz zz)[i], .int (i : Int)))
      ⟨[], rfl, rfl, upd_same, same_new hacc _, fun t ht => (nomatch ht), fun i h => (nomatch h)⟩ ?_ ?_ ?_
    · rintro j ys H' _ ⟨_, _, _, _, g3, _⟩
      exact g3 _ _ bF
    · rintro j k u p ys H' hj hx hp ⟨ts, rfl, htl, hy, g3, hts, hnm⟩
      rw [List.length_map] at hj
      rw [List.getElem?_map, List.getElem?_eq_getElem hj] at hx
      cases hx
      have s4 := same_new hp (.tup [.int (j : Int), kV (Sum.inr (S ps[j].1))])
      generalize upd H' p (.tup [.int (j : Int), kV (Sum.inr (S ps[j].1))]) = X4 at s4 ⊢
      refine iteT ⟨_, rfl, _, rfl, (by show 2 ≤ sizeLine; decide), fun p5 hp5 => ?_⟩
      have s5 := same_new hp5 (.tup [kV (Sum.inr (S ps[j].1)), .int (j : Int)])
      have b5 : upd X4 p5 (.tup [kV (Sum.inr (S ps[j].1)), .int (j : Int)]) p5 = some (.tup [kV (Sum.inr (S ps[j].1)), .int (j : Int)]) := upd_same
      generalize upd X4 p5 (.tup [kV (Sum.inr (S ps[j].1)), .int (j : Int)]) = X5 at s5 b5 ⊢
      have hy5 := s5 _ _ (s4 _ _ hy)
      rw [List.length_map]
      refine comp_next hj hy5 (by rw [List.length_map]; omega) ⟨ts ++ [(p5, S ps[j].1, .int (j : Int))], by simp, by simp [htl], upd_same, fun b u e => ?_, fun t ht => ?_, fun i h h2 => ?_⟩
      · rw [upd_ne (ne_of_none e hacc)]; exact s5 _ _ (s4 _ _ (g3 _ _ e))
      · rcases List.mem_append.mp ht with ht | ht
        · exact (s5.seqT (s4.seqT (hts t ht))).put hy5
        · obtain rfl := List.mem_singleton.mp ht; exact (SqT.of b5).put hy5
      · by_cases c : i < ts.length
        · rw [List.getElem_append_left c]; exact hnm i c h2
        · rw [List.length_append, List.length_singleton] at h
          have ei : i = j := by omega
          subst ei
          rw [List.getElem_append_right (by omega)]
          simp only [htl, Nat.sub_self, List.getElem_cons_zero]
          rw [hpi i hj h2]
    rintro ys H3 ⟨ts, rfl, htl, hy, g3, hts, hnm⟩
    rw [List.length_map] at htl
    have hnmS : (ts.map fun t => t.2.1) = (omz zz).map S := by
      refine List.ext_getElem (by rw [List.length_map, List.length_map]; omega) fun i h1 h2 => ?_
      rw [List.getElem_map, List.getElem_map]
      rw [List.length_map] at h1 h2
      exact congrArg Prod.fst (hnm i h1 h2)
    have hnd : (ts.map fun t => t.2.1).Nodup := by rw [hnmS]; exact S_nd (omz_nd zz)
    refine ⟨acc, ts, rfl, SqL.of hy, hts, hnd, by omega, fun dn hdn => ?_⟩
    have hin : ∀ t : TV, InM (omz zz) t → InN (ts.map fun t => ((Sum.inr t.2.1 : Key), t.2.2)) (nixV (omz zz)) t := fun t ht m b hm => by
      obtain ⟨x, hx, rfl⟩ := ht m b hm
      refine ⟨Sum.inr (S x), rfl, ?_⟩
      obtain ⟨i, hi, rfl⟩ := List.mem_iff_getElem.mp hx
      have hit : i < ts.length := by omega
      have e := hnm i hit hi
      have e1 : ts[i].2.1 = S (omz zz)[i] := congrArg Prod.fst e
      rw [val_map (fun t : Addr × Str × V => t.2.1) (fun t => t.2.2) _ ts, ← e1, find_nd (fun t : Addr × Str × V => t.2.1) ts hnd i hit]
      show some ts[i].2.2 = some (nixV (omz zz) (.str ts[i].2.1))
      rw [e]
      show some (V.int (i : Int)) = some (.int ((nixS (omz zz) (S (omz zz)[i]) : Nat) : Int))
      rw [nix_at (omz_nd zz) hi]
    have s4 := same_new hdn (.dK (ts.map fun t => ((Sum.inr t.2.1 : Key), t.2.2)))
    have b4 : upd H3 dn (.dK (ts.map fun t => ((Sum.inr t.2.1 : Key), t.2.2))) dn = some (.dK (ts.map fun t => ((Sum.inr t.2.1 : Key), t.2.2))) := upd_same
    generalize hkn : (ts.map fun t => ((Sum.inr t.2.1 : Key), t.2.2)) = kn at hin s4 b4 ⊢
    have n4 : dn ≠ bd := Ne.symm (ne_of_none (g3 _ _ bF) hdn)
    generalize upd H3 dn (.dK kn) = H4 at s4 b4 ⊢
    have gH4 : Same F1 H4 := g3.trans s4
    refine ⟨⟨o, gH4 _ _ bF⟩, ?_⟩
    have G5 : Same H1 (upd H4 bd (.dK (ps.map fun p => ((Sum.inr (S p.1) : Key), V.ref p.2)))) := fun b u e => by rw [upd_ne (ne_of_none e hbd)]; exact gH4 _ _ (gF _ _ e)
    have b5 : upd H4 bd (.dK (ps.map fun p => ((Sum.inr (S p.1) : Key), V.ref p.2))) bd = some (.dK (ps.map fun p => ((Sum.inr (S p.1) : Key), V.ref p.2))) := upd_same
    have d5 : upd H4 bd (.dK (ps.map fun p => ((Sum.inr (S p.1) : Key), V.ref p.2))) dn = some (.dK kn) := by rw [upd_ne n4]; exact b4
    have l5 : ∀ p ∈ ps, upd H4 bd (.dK (ps.map fun p => ((Sum.inr (S p.1) : Key), V.ref p.2))) p.2 = some (.lst ((grp zz p.1).map fun x => x.1)) := fun p hp => by rw [upd_ne (hB.ne p hp).1]; exact gH4 _ _ (lF p hp)
    generalize upd H4 bd (.dK (ps.map fun p => ((Sum.inr (S p.1) : Key), V.ref p.2))) = H5 at G5 b5 d5 l5 ⊢
    refine ⟨bd, _, b5, ?_⟩
    refine ⟨_, rfl, .inr (.inr (.inl ⟨rfl, .inl ⟨_, b5⟩⟩)), bd, _, rfl, rfl, b5, fun pv hpv => ?_⟩
    have hpvb : bd ≠ pv := ne_of_none b5 hpv
    refine ⟨pv, bd, _, rfl, upd_same, (by rw [upd_ne hpvb]; exact b5), fun o acc2 hacc2 => ?_⟩
    have sv := same_new hpv (ValO pv bd)
    have gG : Same H1 (upd (upd H5 pv (ValO pv bd)) bd (.frz o (.dK (ps.map fun p => ((Sum.inr (S p.1) : Key), V.ref p.2))))) := fun b u e => by rw [upd_ne (ne_of_none e hbd)]; exact sv _ _ (G5 _ _ e)
    have bG : upd (upd H5 pv (ValO pv bd)) bd (.frz o (.dK (ps.map fun p => ((Sum.inr (S p.1) : Key), V.ref p.2)))) bd = some (.frz o (.dK (ps.map fun p => ((Sum.inr (S p.1) : Key), V.ref p.2)))) := upd_same
    have dG : upd (upd H5 pv (ValO pv bd)) bd (.frz o (.dK (ps.map fun p => ((Sum.inr (S p.1) : Key), V.ref p.2)))) dn = some (.dK kn) := by rw [upd_ne n4]; exact sv _ _ d5
    have lG : ∀ p ∈ ps, upd (upd H5 pv (ValO pv bd)) bd (.frz o (.dK (ps.map fun p => ((Sum.inr (S p.1) : Key), V.ref p.2)))) p.2 = some (.lst ((grp zz p.1).map fun x => x.1)) := fun p hp => by rw [upd_ne (hB.ne p hp).1]; exact sv _ _ (l5 p hp)
    generalize upd (upd H5 pv (ValO pv bd)) bd (.frz o (.dK (ps.map fun p => ((Sum.inr (S p.1) : Key), V.ref p.2)))) = F2 at gG bG dG lG hacc2 ⊢
    refine c1_dvals (cs := [some (.ref dn), some (.ref lw)]) (tt := fun _ H Q => Q true H) (fun j ys H' => ∃ ms : List MvT, ys = ms.map (fun m => V.ref m.1) ∧ ms.length = j ∧ H' acc2 = some (.lst ys) ∧ Same F2 H' ∧ (∀ m ∈ ms, SqT K H' m.1 [.str m.2.1, .ref m.2.2.1] ∧ H' m.2.2.1 = some (.lst m.2.2.2.1) ∧ F2 m.2.2.1 = none ∧ m.2.2.1 ≠ acc2 ∧ TvAll K H' m.2.2.2.1 m.2.2.2.2) ∧ dM ms = ((omz zz).take j).map (fun m => (S (kd m), tmsO ks zz kd m)))
      ⟨[], rfl, rfl, upd_same, same_new hacc2 _, fun t ht => (nomatch ht), rfl⟩ ?_ ?_ ?_
    · rintro j ys H' _ ⟨_, _, _, _, g6, _⟩
      exact g6 _ _ bG
    · rintro j k u ys H' hj hx ⟨ms, rfl, hml, hy, g6, hms, hdm⟩
      rw [List.length_map] at hj
      rw [List.getElem?_map, List.getElem?_eq_getElem hj] at hx
      cases hx
      have hjo : j < (omz zz).length := by omega
      have hmo : (omz zz)[j] ∈ omz zz := List.getElem_mem hjo
      have hpj := hpi j hj hjo
      have hlj := lG _ (List.getElem_mem hj)
      rw [hpj] at hlj
      have gg : Same H H' := g1.trans (gG.trans g6)
      have hMo := hT.mo _ hmo
      refine iteT ⟨_, rfl, _, rfl, _, rfl, lw, dn, ps[j].2, kd (omz zz)[j], kn, nixV (omz zz), ks', _, rsG zz (omz zz)[j], rfl, hN.wood.same (gG.trans g6), K14.WoodOk.dW hdw hO, g6 _ _ dG, SqL.of (g6 _ _ hlj), RuZ.ru (fun x hx => (hZ x (grp_mem hx).1).mono fun _ _ => gg.seqT), ?_, ?_, fun r hr => ?_, fun p lt H7 us g7 k1 k2 k3 k4 => ?_⟩
      · exact fun z => grp_ne hmo (List.map_eq_nil_iff.mp z)
      · exact ⟨hMo.kind, fun r hr => by rw [rowK_dW hdw]; exact hMo.row r hr, hMo.nd, by rw [rowsK_dW hdw]; exact hMo.all, hMo.few⟩
      · obtain ⟨x, hx, rfl⟩ := List.mem_map.mp hr
        obtain ⟨e1, e2, e3⟩ := hT.rl x (grp_mem hx).1
        exact ⟨e1, e2, hin _ e3⟩
      · rw [rowsK_dW hdw] at k4
        have hy7 := g7 _ _ hy
        have hla : lt ≠ acc2 := fun z => by rw [z, hy] at k2; cases k2
        rw [List.length_map]
        refine comp_next hj hy7 (by rw [List.length_map]; omega) ⟨ms ++ [(p, S (kd (omz zz)[j]), lt, us, tmsO ks zz kd (omz zz)[j])], by simp, by simp [hml], upd_same, fun b u e => ?_, fun m hm => ?_, ?_⟩
        · rw [upd_ne (ne_of_none e hacc2)]; exact g7 _ _ (g6 _ _ e)
        · rcases List.mem_append.mp hm with hm | hm
          · obtain ⟨e1, e2, e3, e4, e5⟩ := hms m hm
            exact ⟨(g7.seqT e1).put hy7, (by rw [upd_ne e4]; exact g7 _ _ e2), e3, e4, e5.mono fun _ _ h => (g7.seqT h).put hy7⟩
          · obtain rfl := List.mem_singleton.mp hm
            have hF : F2 lt = none := by
              cases e : F2 lt with
              | none => rfl
              | some u => rw [g6 _ _ e] at k2; cases k2
            exact ⟨k1.put hy7, (by rw [upd_ne hla]; exact k3), hF, hla, k4.mono fun _ _ h => h.put hy7⟩
        · unfold dM at hdm ⊢
          rw [List.map_append, hdm, List.take_add_one, List.getElem?_eq_getElem hjo, List.map_append]; rfl
    rintro ys H6 ⟨ms, rfl, hml, hy, g6, hms, hdm⟩
    rw [List.length_map] at hml
    rw [List.length_map, hpl, List.take_length] at hdm
    have b6 := g6 _ _ bG
    refine ⟨⟨o, b6⟩, ?_⟩
    have K7 := Held.melt (K := K) b6
    have G7 : Same H1 (upd H6 bd (.dK (ps.map fun p => ((Sum.inr (S p.1) : Key), V.ref p.2)))) := fun b u e => by rw [upd_ne (ne_of_none e hbd)]; exact g6 _ _ (gG _ _ e)
    have d7 : upd H6 bd (.dK (ps.map fun p => ((Sum.inr (S p.1) : Key), V.ref p.2))) dn = some (.dK kn) := by rw [upd_ne n4]; exact g6 _ _ dG
    generalize upd H6 bd (.dK (ps.map fun p => ((Sum.inr (S p.1) : Key), V.ref p.2))) = H7 at K7 G7 d7 ⊢
    have nH : ∀ a, F2 a = none → H a = none := fun a ha => by
      cases e : H a with
      | none => rfl
      | some u => rw [gG _ _ (g1 _ _ e)] at ha; cases ha
    have nF : ∀ {a : Addr} {ys : List V}, H6 a = some (.lst ys) → a ≠ bd := fun h z => by rw [z, b6] at h; cases h
    have hNM : NewMs K H H7 acc2 ms := ⟨nH _ hacc2, K7.sx _ _ (nF hy) hy, fun m hm => by
      obtain ⟨e1, e2, e3, e4, e5⟩ := hms m hm
      exact ⟨K7.qt _ _ e1, K7.sx _ _ (nF e2) e2, nH _ e3, e5.mono K7.qt⟩⟩
    refine ⟨_, rfl, _, rfl, v, dn, kn, st, nixV (omz zz), rfl, hv.mono (fun _ _ => (g1.trans G7).seqT), hT.stl.1, hT.stl.2.1, d7, hin _ hT.stl.2.2, fun v' H8 g8 hv8 => ?_⟩
    have hmk : mkV ms = (omz zz).map fun m => S (kd m) := by
      have := congrArg (List.map Prod.fst) hdm
      unfold dM at this
      rw [List.map_map, List.map_map] at this
      exact this
    have hmt : ∀ m ∈ ms, ∃ x ∈ omz zz, m.2.1 = S (kd x) ∧ m.2.2.2.2 = tmsO ks zz kd x := fun m hm => by
      have : (m.2.1, m.2.2.2.2) ∈ dM ms := List.mem_map_of_mem (f := fun m : MvT => (m.2.1, m.2.2.2.2)) hm
      rw [hdm] at this
      obtain ⟨x, hx, e⟩ := List.mem_map.mp this
      exact ⟨x, hx, (congrArg Prod.fst e).symm, (congrArg Prod.snd e).symm⟩
    obtain ⟨k0', hk0', ek0⟩ : ∃ k0' : KdT, ks'[0]? = some k0' ∧ k0'.2.1 = k0.2.1 := by
      have := congrArg (fun l => (l[0]?).map Prod.fst) hdw
      unfold dW at this
      simp only [List.getElem?_map, hk0] at this
      cases e : ks'[0]? with
      | none => rw [e] at this; cases this
      | some k => rw [e] at this; exact ⟨k, rfl, Option.some.inj this⟩
    have hNW : NewWd K H H8 lw ks' := by
      have g := G7.trans g8
      exact ⟨hN.n0, g _ _ hN.at0, fun k hk => ⟨g.seqT (hN.kd k hk).1, g _ _ (hN.kd k hk).2.1, (hN.kd k hk).2.2.1, fun t ht => ⟨g.seqT ((hN.kd k hk).2.2.2 t ht).1, g.seqT ((hN.kd k hk).2.2.2 t ht).2⟩⟩⟩
    have hM8 : ∀ {X : Hp}, Same H8 X → NewMs K H X acc2 ms := fun gx => ⟨hNM.n0, gx _ _ (g8 _ _ hNM.at0), fun m hm => by
      obtain ⟨e1, e2, e3, e4⟩ := hNM.md m hm
      exact ⟨gx.seqT (g8.seqT e1), gx _ _ (g8 _ _ e2), e3, e4.mono fun _ _ h => gx.seqT (g8.seqT h)⟩⟩
    refine ⟨_, rfl, _, rfl, _, rfl, lw, acc2, v', _, ks', ms, k0', rfl, hNW.wood, K14.WoodOk.dW hdw hO, hk0', (hM8 (Same.refl _)).modes, by omega, fun m hm => ?_, hv8, hT.stm.1, hT.stm.2, hT.kp, ?_, fun H9 g9 => ?_⟩
    · obtain ⟨x, hx, e1, e2⟩ := hmt m hm
      rw [e1, e2, hmk]
      obtain ⟨f1, f2, f3, f4⟩ := hT.fit x hx
      refine ⟨?_, ?_, ?_, ?_⟩ <;> first | exact f4 | (simp only [rowsK_dW hdw]; first | exact f1 | exact f2 | exact f3 | exact f4)
    · rw [hmk, ek0]; exact hT.fst
    · refine ⟨_, rfl, iteF ?_⟩
      refine ⟨_, rfl, _, rfl, _, rfl, (by show 3 ≤ sizeLine; decide), fun p hp => ?_⟩
      have sp := same_new hp (.tup [.ref lw, v', .ref acc2])
      have g := (g9.trans sp)
      exact q p lw acc2 v' ks' ms _ (g1.trans (G7.trans (g8.trans g))) (SqT.of upd_same) ⟨hNW.n0, g _ _ hNW.at0, fun k hk => ⟨g.seqT (hNW.kd k hk).1, g _ _ (hNW.kd k hk).2.1, (hNW.kd k hk).2.2.1, fun t ht => ⟨g.seqT ((hNW.kd k hk).2.2.2 t ht).1, g.seqT ((hNW.kd k hk).2.2.2 t ht).2⟩⟩⟩ hdw (hv8.mono fun _ _ => g.seqT) (hM8 g) hdm
end
end K14
namespace K14
open PySem L2 K3 TM K9
def omR (rs : List RuN) : List (List Nat) := rs.foldl (fun ms x => addM ms x.m) []
def rsR (rs : List RuN) (m : List Nat) : List RuN := rs.filter fun x => decide (x.m = m)
theorem omz_R (zz : List ZR) : omz zz = omR (zz.map fun x => x.2) := by unfold omz omR; rw [List.foldl_map]
theorem rsG_R (zz : List ZR) (m : List Nat) : rsG zz m = rsR (zz.map fun x => x.2) m := by unfold rsG rsR grp; rw [List.filter_map]; rfl
def tmsR (ks : List KdT) (rs : List RuN) (kd : List Nat → List Nat) (m : List Nat) : List TV := (rowsK ks (S (kd m))).map fun t => mpV (nixV (omR rs)) (ruT (rsR rs m) t.2.1)
theorem tms_R (ks : List KdT) (zz : List ZR) (kd : List Nat → List Nat) (m : List Nat) : tmsO ks zz kd m = tmsR ks (zz.map fun x => x.2) kd m := by unfold tmsO tmsR; rw [omz_R, rsG_R]
structure TuR (ks : List KdT) (k0 : Str) (rs : List RuN) (st : TV) (kd : List Nat → List Nat) : Prop where
  mo : ∀ m ∈ omR rs, MoOk ks (rsR rs m) (kd m)
  rl : ∀ x ∈ rs, lv (vN x.t) ≤ 9 ∧ sz (vN x.t) ≤ 1000 ∧ InM (omR rs) (vN x.t)
  stl : lv st ≤ 9 ∧ sz st ≤ 1000 ∧ InM (omR rs) st
  stm : lv (mpV (nixV (omR rs)) st) ≤ 9 ∧ sz (mpV (nixV (omR rs)) st) ≤ 1000
  kp : kpV (mpV (nixV (omR rs)) st) = false
  n40 : rs.length ≤ 40
  n120 : sz st + szR rs ≤ 120
  fit : ∀ m ∈ omR rs, RuFit ks ((omR rs).map fun m => S (kd m)) (S (kd m)) (tmsR ks rs kd m)
  fst : FitV ((omR rs).map fun m => S (kd m)) [k0] (mpV (nixV (omR rs)) st)
theorem TuR.ok {ks : List KdT} {k0 : Str} {zz : List ZR} {st : TV} {kd : List Nat → List Nat} (h : TuR ks k0 (zz.map fun x => x.2) st kd) : TuOk ks k0 zz st kd := by
  constructor
  · intro m hm; rw [omz_R] at hm; rw [rsG_R]; exact h.mo m hm
  · intro x hx; rw [omz_R]; exact h.rl x.2 (List.mem_map_of_mem hx)
  · rw [omz_R]; exact h.stl
  · rw [omz_R]; exact h.stm
  · rw [omz_R]; exact h.kp
  · have := h.n40; rwa [List.length_map] at this
  · intro m hm; rw [omz_R] at hm ⊢; rw [tms_R]; exact h.fit m hm
  · rw [omz_R]; exact h.fst
inductive RwL : List RuN → List (List Nat) → Prop where
  | nil : RwL [] []
  | cons {x : RuN} {rs : List RuN} {a b : List (List Nat)} : TkR 9 x a → RwL rs b → RwL (x :: rs) ([59] :: (a ++ b))
theorem RwL.fol {rs : List RuN} {b : List (List Nat)} (h : RwL rs b) : Fol b := by
  cases h with
  | nil => exact Fol.nil
  | cons _ _ => exact Fol.cons ⟨by decide, by decide, by decide⟩
def SXT (T : Addr) (H H' : Hp) : Prop := ∀ b u, b ≠ T → H b = some u → H' b = some u
def spReadT (K : PySem.W.Frag) (T : Addr) : Sp := fun vs H Q _ => ∃ (wd : Addr) (z : List Nat) (ws a b : List (List Nat)) (st : TN) (rs : List RuN) (ks : List KdT) (k0 : KdT) (kd : List Nat → List Nat), vs = [.ref wd, .str (S z)] ∧ z.length ≤ 5000 ∧ Writ z ws ∧ ws = a ++ b ∧ Tkt st a ∧ lv st ≤ 9 ∧ RwL rs b ∧ WoodAt K H wd ks ∧ WoodOk ks ∧ ks[0]? = some k0 ∧ TuR ks k0.2.1 rs (vN st) kd ∧ Z1 T H ∧
  ∀ (p lw lm : Addr) (v' : V) (ks' : List KdT) (ms : List MvT) (H' : Hp), SXT T H H' → SqT K H' p [.ref lw, v', .ref lm] → NewWd K H H' lw ks' → dW ks' = dW ks → TvV K H' v' (mpV (nixV (omR rs)) (vN st)) → NewMs K H H' lm ms → dM ms = (omR rs).map (fun m => (S (kd m), tmsR ks rs kd m)) → Z1 T H' → Q (.ref p) H'
theorem TRs.seq {C r : Addr} {Ts : List Addr} {H H' : Hp} {K : PySem.W.Frag} {a : Addr} {xs : List V} (h : TRs C Ts r H) (g : SXs Ts r H H') (q : SqL K H a xs) : SqL K H' a xs := by
  rcases q with (q | ⟨o, q⟩) | q
  · exact .inl (.inl (h.keep g q (fun _ z => nomatch z) (fun _ _ _ z => nomatch z)))
  · exact .inl (.inr ⟨o, h.keep g q (fun _ z => nomatch z) (fun _ _ _ z => nomatch z)⟩)
  · exact .inr q
theorem TRs.wood {C r : Addr} {Ts : List Addr} {H H' : Hp} {K : PySem.W.Frag} {w : Addr} {ks : List KdT} (h : TRs C Ts r H) (g : SXs Ts r H H') (q : WoodAt K H w ks) : WoodAt K H' w ks :=
  ⟨h.seq g q.1, fun k hk => ⟨h.seqT g (q.2 k hk).1, h.seq g (q.2 k hk).2.1, fun t ht => ⟨h.seqT g ((q.2 k hk).2.2 t ht).1, h.seqT g ((q.2 k hk).2.2 t ht).2⟩⟩⟩
section
variable {P : Program} {w : World} {K : PySem.W.Frag} {mg : Str → Option Value} {base : Heap} {f : Addr} {fd : FuncData} {C T c : Addr}
theorem scReadT : FnScope ["wood", "text", "reader", "start", "rules"] ["wood", "text"] (defScope sRead) := ⟨rfl, rfl, rfl, by decide +kernel, rfl, by decide +kernel, by decide +kernel⟩
theorem ok_readT {fI : Addr} {fdI : FuncData} (F : Fun K "read_turning" "read_turning" sRead f fd) (TT : RdT K mg C) (M : RdM P w K mg C) (hmb : ∃ t, mg "MOST_BRACKETS" = some (.int 8 t))
    (mkI : Mk K C fI) (FI : FnOk P w K mg base CX0 6 fI fdI ["self", "text"] (spInit C)) (bI : Binds K fdI ["self", "text"] [])
    (RT : Fn P w K mg base 31 "term_from" ["reader", "room"] (spTermF K C T 9)) (RR : Fn P w K mg base 32 "rule_from" ["reader"] (spRuleF K C T))
    (RC : Fn P w K mg base 11 "check_numbers" ["start", "rules"] (spChkNu K)) (RO : Fn P w K mg base 14 "turning_of" ["wood", "start", "rules"] (spTurnO K)) : FnOk P w K mg base CX0 33 f fd ["wood", "text"] (spReadT K T) := by
  refine F.ok scReadT (fun vs H Q E h => ?_) (fun cdv A outer s H vs Q E hr h => ?_)
  · obtain ⟨wd, z, ws, a, b, st, rs, ks, k0, kd, rfl, _⟩ := h
    rfl
  obtain ⟨wd, z, ws, a, b, st, rs, ks, k0, kd, rfl, hz, hw, hws, hst, hlv, hrw, hW, hO, hk0, hT, hZ, q⟩ := h
  obtain ⟨tk, htk⟩ := hmb
  have hr7 : Room 7 _ := hr.mono (by decide)
  refine ⟨_, (pss_cons (ps_set (i := 2) scReadT.nd rfl (Or.inl rfl) (pe_make mkI FI hr7 rfl TT.mgC bI .nil pass0 (pa_cons (pv 1) pa_nil)))
    (pss_cons (ps_set (i := 3) scReadT.nd rfl (Or.inl rfl) (pe_fn RT hr (pa_cons (pv 2) (pa_cons (pe_glob (v := .int 8) rfl htk ⟨_, rfl⟩) pa_nil))))
    (pss_cons (ps_set (i := 4) scReadT.nd rfl (Or.inl rfl) (pe_lst pa_nil))
    (pss_cons (ps_while PassesOwn.never (pt_val (pe_mt (M.ps base) TT.cl hr (pv 2) (pa_cons (pe_str) pa_nil) (by omega))) (pss_one (ps_expr (pe_bm PySem.F.plainAttrs_list PySem.F.slot_list_append PySem.F.type_list_append mt_append (pv 4) (pa_cons (pe_fn RR hr (pa_cons (pv 2) pa_nil)) pa_nil)))))
    (pss_cons (ps_expr (pe_mt0 (M.en base) TT.cl hr (pv 2) (by omega)))
    (pss_cons (ps_expr (pe_fn RC hr (pa_cons (pv 3) (pa_cons (pv 4) pa_nil))))
    (pss_one (ps_ret (pe_fn RO hr (pa_cons (pv 0) (pa_cons (pv 3) (pa_cons (pv 4) pa_nil)))))))))))), ?_⟩
  have hW61 : ∀ u ∈ ws, u.length ≤ 61 := fun u hu => (hw.words u hu).len
  have zo := z1_ok T
  have e59 : Str.ofString ";" = S [59] := by decide +kernel
  refine ⟨_, rfl, fun r dx hr0 hdx0 hne => ?_⟩
  have s1 : Same H (upd (upd H dx (.own r)) r (.ins C dx [])) := fun b u e => by rw [upd_ne (ne_of_none e hr0), upd_ne (ne_of_none e hdx0)]; exact e
  have hx1 : upd (upd H dx (.own r)) r (.ins C dx []) r = some (.ins C dx []) := upd_same
  generalize upd (upd H dx (.own r)) r (.ins C dx []) = H1 at s1 hx1
  refine ⟨r, dx, z, ws, rfl, hx1, hz, hw, fun l H2 g2 hR2 => ⟨rfl, ?_⟩⟩
  have hZ2 := zo.ins _ _ r C dx _ hx1 g2 (zo.sm _ _ s1 hZ)
  have x2 : Same H H2 := fun b u e => g2 _ _ (ne_of_none e hr0) (s1 _ _ e)
  have tr2 := hR2.trs zo hZ2
  refine ⟨_, rfl, r, l, ws, 0, 8, st, a, b, rfl, hR2, hW61, Nat.zero_le _, hws, hst, hrw.fol, hlv, by omega, hZ2, fun v H3 x3 hR3 hv3 hZ3 => ?_⟩
  have hW3 := tr2.wood x3 (hW.same x2)
  have x03 : SXT T H H3 := fun b u n e => x3 _ _ (by simpa using n) (ne_of_none e hr0) (x2 _ _ e)
  have tr3 := hR3.trs zo hZ3
  rw [Nat.zero_add] at hR3
  refine ⟨(by show 0 ≤ sizeLine; decide), fun lt hlt => ?_⟩
  have s4 := same_new hlt (.lst [])
  have f4 : upd H3 lt (.lst []) lt = some (.lst []) := upd_same
  have hR4 := hR3.same s4
  have hZ4 := zo.sm _ _ s4 hZ3
  generalize upd H3 lt (.lst []) = H4 at s4 f4 hR4 hZ4
  have nel : l ≠ lt := fun z => by have h1 := hR3.fl; rw [z, hlt] at h1; cases h1
  have neR : r ≠ lt := fun z => by
    obtain ⟨dx, h1⟩ := hR3.ins
    rw [z, hlt] at h1; cases h1
  have growR : ∀ {H' : Hp} {ys' : List V} {p : Nat}, RdAt C H' r l ws p → RdAt C (upd H' lt (.lst ys')) r l ws p := fun {H' ys' p} h2 => by
    obtain ⟨⟨dx, h5⟩, h6⟩ := h2
    exact ⟨⟨dx, by rw [upd_ne neR]; exact h5⟩, by rw [upd_ne nel]; exact h6⟩
  have hal : a.length ≤ ws.length := by rw [hws, List.length_append]; omega
  have hdb : ws.drop a.length = b := by rw [hws, List.drop_left]
  have h40 := hT.n40
  refine ⟨fun m σ' H' => ∃ (zz : List ZR) (td : List RuN) (c : List (List Nat)) (p : Nat), σ' = [some (.ref wd), some (.str (S z)), some (.ref r), some v, some (.ref lt)] ∧ rs = (zz.map fun x => x.2) ++ td ∧ td.length = m ∧ H' lt = some (.lst (zz.map fun x => x.1)) ∧ SXs [T] r H3 H' ∧ RdAt C H' r l ws p ∧ p ≤ ws.length ∧ ws.drop p = c ∧ RwL td c ∧ RuZ K H' zz ∧ Z1 T H',
    ⟨rs.length, [], rs, b, a.length, rfl, rfl, rfl, f4, SXs.of s4, hR4, hal, hdb, hrw, fun x hx => (nomatch hx), hZ4⟩, ?_⟩
  rintro m σ H5 ⟨zz, td, c, p, rfl, ers, hm, f5, x5, hR5, hp5, hd5, ht5, hz5, hZ5⟩
  obtain ⟨dx5, hx5⟩ := hR5.ins
  have tr5 := hR5.trs zo hZ5
  rw [e59]
  refine ⟨_, rfl, r, dx5, _, rfl, hx5, rfl, r, l, ws, p, [59], rfl, hR5, hp5, fun hno => ⟨_, rfl, iteF ?_⟩, fun heq H6 g6 hR6 => ⟨_, rfl, iteT ?_⟩⟩
  · -- the end
    have hc0 : td = [] ∧ c = [] := by
      cases ht5 with
      | nil => exact ⟨rfl, rfl⟩
      | @cons x td2 a2 b2 h1 h2 => exact absurd (ah_drop (show ws.drop p = [59] :: (a2 ++ b2) from hd5)).1 hno
    obtain ⟨rfl, rfl⟩ := hc0
    rw [List.append_nil] at ers
    subst ers
    have hpe : p = ws.length := by have := List.drop_eq_nil_iff.mp hd5; omega
    have hv5 : TvV K H5 v (vN st) := (TnV.mono (fun _ _ h => tr3.seqT x5 h) hv3).tv
    have hW5 := tr3.wood x5 hW3
    refine ⟨_, rfl, r, dx5, _, rfl, hx5, rfl, r, l, ws, p, rfl, hR5, hpe, ?_⟩
    refine ⟨_, rfl, _, rfl, v, vN st, lt, _, _, rfl, hv5, hT.stl.1, SqL.of f5, hz5.ru, fun x hx => (hT.rl x hx).1, h40, hT.n120, fun H6 g6 => ?_⟩
    refine ⟨_, rfl, _, rfl, _, rfl, wd, lt, v, ks, k0, zz, vN st, kd, rfl, hW5.same g6, hO, hk0, hv5.mono (fun _ _ => g6.seqT), SqL.of (g6 _ _ f5), hz5.mono (fun _ _ => g6.seqT), hT.ok, fun p lw lm v' ks' ms H7 g7 k1 k2 k3 k4 k5 k6 => ?_⟩
    have hZ6 := zo.sm _ _ g6 hZ5
    have x6 : SXT T H H6 := fun b u n e => g6 _ _ (x5 _ _ (by simpa using n) (ne_of_none e hr0) (x03 _ _ n e))
    have nn : ∀ a, H6 a = none → H a = none := fun a ha => by
      cases e : H a with
      | none => rfl
      | some u =>
        by_cases hm : a = T
        · obtain ⟨ps, h⟩ := zo.tb H6 hZ6 a (by simpa using hm)
          rw [ha] at h; cases h
        · rw [x6 _ _ hm e] at ha; cases ha
    rw [omz_R] at k4 k6
    refine q p lw lm v' ks' ms H7 (fun b u n e => g7 _ _ (x6 _ _ n e)) k1 ⟨nn _ k2.n0, k2.at0, fun k hk => ?_⟩ k3 k4 ⟨nn _ k5.n0, k5.at0, fun m hm => ?_⟩ ?_ (zo.sm _ _ g7 hZ6)
    · obtain ⟨e1, e2, e3, e4⟩ := k2.kd k hk
      exact ⟨e1, e2, nn _ e3, e4⟩
    · obtain ⟨e1, e2, e3, e4⟩ := k5.md m hm
      exact ⟨e1, e2, nn _ e3, e4⟩
    · rw [k6]
      exact List.map_congr_left fun m _ => by rw [tms_R]
  · cases ht5 with
    | nil => rw [ah_nil hd5] at heq; cases heq
    | @cons x td2 a2 b2 h1 h2 =>
    obtain ⟨_, hp6, hd6, _⟩ := ah_drop (show ws.drop p = [59] :: (a2 ++ b2) from hd5)
    have hZ6 := zo.ins _ _ r C dx5 _ hx5 g6 hZ5
    have x6 : SXs [T] r H5 H6 := SXs.ofR g6
    have f6 := tr5.lst x6 f5
    have tr6 := hR6.trs zo hZ6
    have hzl : zz.length ≤ 40 := by
      have := congrArg List.length ers
      rw [List.length_append, List.length_map] at this
      omega
    refine ⟨fun σ' H' => ∃ m', m' < m ∧ ∃ (zz : List ZR) (td : List RuN) (c : List (List Nat)) (p : Nat), σ' = [some (.ref wd), some (.str (S z)), some (.ref r), some v, some (.ref lt)] ∧ rs = (zz.map fun x => x.2) ++ td ∧ td.length = m' ∧ H' lt = some (.lst (zz.map fun x => x.1)) ∧ SXs [T] r H3 H' ∧ RdAt C H' r l ws p ∧ p ≤ ws.length ∧ ws.drop p = c ∧ RwL td c ∧ RuZ K H' zz ∧ Z1 T H', fun σ' H' h => h, ?_⟩
    refine ⟨_, rfl, .inl ⟨rfl, _, SqL.of f6⟩, _, rfl, r, l, ws, p + 1, x, a2, b2, rfl, hR6, hW61, by omega, hd6, h1, h2.fol, hZ6, fun v7 H7 x7 hR7 rv7 hZ7 => ?_⟩
    have f7 := tr6.lst x7 f6
    refine ⟨lt, _, v7, rfl, rfl, f7, (by rw [List.length_map]; exact Nat.lt_of_le_of_lt hzl (by decide)), ?_⟩
    refine ⟨td2.length, ?_, zz ++ [(v7, x)], td2, b2, p + 1 + a2.length, rfl, by rw [ers]; simp, rfl, by rw [upd_same]; simp, fun c u n1 n2 e => ?_, growR hR7, drop_le (by omega) hd6, drop_app hd6, h2, fun y hy => ?_, zo.lst _ lt _ _ f7 hZ7⟩
    · rw [← hm]; exact Nat.lt_succ_self _
    · rw [upd_ne (ne_of_none e hlt)]
      exact x7 c u n1 n2 (x6 c u n1 n2 (x5 c u n1 n2 e))
    · rcases List.mem_append.mp hy with hy | hy
      · exact (hz5 y hy).mono fun _ _ h => sq_put (tr6.seqT x7 (tr5.seqT x6 h)) f7
      · obtain rfl := List.mem_singleton.mp hy
        exact rv7.mono fun _ _ h => sq_put h f7
end
end K14
namespace L2
open PySem PySem.Spec PyProof.Rows PySem.W
theorem strs_of_vals : ∀ {ss : List Str} {us : List Value}, Vals (ss.map V.str) us → StrsAre us ss
  | [], _, .nil => .nil
  | x :: r, _, .cons h t => by
    obtain ⟨k, rfl⟩ := (show ∃ t, _ = Value.str x t from h)
    exact .cons x k (strs_of_vals t)
section
variable {X : Cx}
theorem mt_join : MtR X "str.join" (fun x vs H Q => ∃ (sep : Str) (l : Addr) (ss : List Str), x = .str sep ∧ vs = [.ref l] ∧ SqL X.K H l (ss.map V.str) ∧ (ss.map (·.length)).sum + ss.length * sep.length ≤ 16777216 ∧ Q (.str (Txt.join sep ss)) H) := by
  intro pins s σ H x xs v us Q I rx rv h
  obtain ⟨sep, l, ss, rfl, rfl, hl, hz, q⟩ := h
  obtain ⟨t, rfl⟩ := (show ∃ t, v = Value.str sep t from rx)
  obtain ⟨u, rfl, ru⟩ := rv.one
  obtain rfl : u = Value.ref l := ru
  obtain ⟨its, r, p, _⟩ := I.list hl
  exact join_list p.isList (strs_of_vals r) hz fun t' k => ⟨.str _, H, I.tok _, ⟨_, rfl⟩, q⟩
end
section
variable {prog : Program} {w : World} {A : Around} {E : Value → Shared → Prop} {s : Shared}
end
section
variable {X : Cx} {tg : Expr}
end
end L2
namespace K14
open PySem L2 K3 TM K9
def gl (sep : List Nat) : List (List Nat) → List Nat
  | [] => []
  | x :: r => x ++ r.flatMap fun y => sep ++ y
theorem gl_fold (sep : List Nat) : ∀ (r : List (List Nat)) (acc : List Nat), (r.map S).foldl (fun a p => a ++ (S sep).cps ++ p.cps) acc.toArray = (acc ++ r.flatMap fun y => sep ++ y).toArray
  | [], acc => by simp
  | y :: r, acc => by
    rw [List.map_cons, List.foldl_cons]
    have e : acc.toArray ++ (S sep).cps ++ (S y).cps = (acc ++ (sep ++ y)).toArray := by
      apply Array.toList_inj.mp
      simp [S]
    rw [e, gl_fold sep r]
    simp [List.flatMap_cons]
theorem join_S (sep : List Nat) (xs : List (List Nat)) : Txt.join (S sep) (xs.map S) = S (gl sep xs) := by
  show Builtin.Str.glued (S sep) (xs.map S) = _
  unfold Builtin.Str.glued
  cases xs with
  | nil => rfl
  | cons x r =>
    have := gl_fold sep r x
    show (⟨((r.map S).foldl (fun a p => a ++ (S sep).cps ++ p.cps) (S x).cps)⟩ : Str) = _
    rw [show (S x).cps = x.toArray from rfl, this]
    rfl
theorem gl_len (sep : List Nat) : ∀ xs : List (List Nat), (xs.map List.length).sum ≤ (gl sep xs).length
  | [] => by simp [gl]
  | x :: r => by
    have : ∀ r : List (List Nat), (r.map List.length).sum ≤ (r.flatMap fun y => sep ++ y).length := fun r => by
      induction r with
      | nil => simp
      | cons y r ih => simp only [List.map_cons, List.sum_cons, List.flatMap_cons, List.length_append]; omega
    have h := this r
    simp only [gl, List.map_cons, List.sum_cons, List.length_append]; omega
theorem gl_cnt {sep : List Nat} (hs : 0 < sep.length) : ∀ xs : List (List Nat), xs.length ≤ (gl sep xs).length + 1
  | [] => by simp
  | x :: r => by
    have : ∀ r : List (List Nat), r.length ≤ (r.flatMap fun y => sep ++ y).length := fun r => by
      induction r with
      | nil => simp
      | cons y r ih => simp only [List.flatMap_cons, List.length_append, List.length_cons]; omega
    have h := this r
    simp only [gl, List.length_cons, List.length_append]; omega
def shM (m : Int) : List Nat := if m = 0 then [] else sh m
def shB (xs : List (List Nat)) : List Nat := match xs with
  | [] => []
  | _ :: _ => [40] ++ gl [32] xs ++ [41]
theorem le_sum : ∀ {l : List Nat} {x : Nat}, x ∈ l → x ≤ l.sum
  | y :: r, x, h => by
    rw [List.sum_cons]
    rcases List.mem_cons.mp h with rfl | h
    · omega
    · have := le_sum h; omega
theorem shB_mem {xs : List (List Nat)} {x : List Nat} (h : x ∈ xs) : x.length ≤ (shB xs).length ∧ (xs.map List.length).sum ≤ (shB xs).length ∧ xs.length ≤ (shB xs).length := by
  cases xs with
  | nil => cases h
  | cons y r =>
    have h1 := gl_len [32] (y :: r)
    have h2 := gl_cnt (sep := [32]) (by decide) (y :: r)
    have h3 : x.length ≤ ((y :: r).map List.length).sum := le_sum (List.mem_map.mpr ⟨x, h, rfl⟩)
    have e : (shB (y :: r)).length = (gl [32] (y :: r)).length + 2 := by simp [shB]
    omega
theorem str_sh (i : Int) : Str.ofString (toString i) = S (sh i) := by
  cases i with
  | ofNat n =>
    show Str.ofString (toString ((n : Nat) : Int)) = _
    rw [← S_self (Str.ofString (toString ((n : Nat) : Int))), PySem.W.KIN.signs_num]
    unfold sh
    rw [if_neg (by show ¬ ((n : Nat) : Int) < 0; omega)]
    rfl
  | negSucc n =>
    rw [← S_self (Str.ofString (toString (Int.negSucc n))), PyProof.Rows.signs_ofString]
    have e : toString (Int.negSucc n) = "-" ++ Nat.repr (n + 1) := rfl
    rw [e, String.toList_append, List.map_append, Nat.toList_repr]
    unfold sh
    rw [if_pos (by omega)]
    rfl
theorem log_sh {i : Int} (h : i.natAbs < 10 ^ 60) : i.natAbs.log2 < 1920 := log_small (Nat.lt_trans h (by decide))
def spSM : Sp := fun vs H Q _ => ∃ m : Int, vs = [.int m] ∧ m.natAbs < 10 ^ 60 ∧ Q (.str (S (shM m))) H
def spSB (K : PySem.W.Frag) : Sp := fun vs H Q _ => ∃ (l : Addr) (xs : List (List Nat)), vs = [.ref l] ∧ SqL K H l (xs.map fun x => V.str (S x)) ∧ (shB xs).length ≤ 5000 ∧ Q (.str (S (shB xs))) H
def shMo (n : Nat) : List Nat := if n < 26 then [97 + n] else [97 + n / 26, 97 + n % 26]
def mdS : V → List Nat
  | .int i => shMo i.toNat
  | _ => []
def kpS (k : Bool) : List Nat := if k = true then [61] else []
mutual
def shV : TV → List Nat
  | .node (.call m b) _ _ => [42] ++ mdS m ++ sh b
  | .node (.put n k a) _ bs => n.cps.toList ++ kpS k ++ shM a ++ shB (shVs bs)
def shVs : List TV → List (List Nat)
  | [] => []
  | t :: r => shV t :: shVs r
end
theorem shVs_map : ∀ ts : List TV, shVs ts = ts.map shV
  | [] => by simp [shVs]
  | t :: r => by simp only [shVs, List.map_cons, shVs_map r]
mutual
def mbV : TV → Prop
  | .node (.call m b) _ _ => (∃ i : Nat, i < 676 ∧ m = .int (i : Int)) ∧ b.natAbs < 10 ^ 60
  | .node (.put _ _ a) _ bs => a.natAbs < 10 ^ 60 ∧ mbVs bs
def mbVs : List TV → Prop
  | [] => True
  | t :: r => mbV t ∧ mbVs r
end
theorem mbV_mem : ∀ {ts : List TV} {t : TV}, mbVs ts → t ∈ ts → mbV t
  | u :: r, t, h, ht => by
    rw [mbVs] at h
    rcases List.mem_cons.mp ht with rfl | ht
    · exact h.1
    · exact mbV_mem h.2 ht
theorem let_at : ∀ n : Nat, n < 26 → letL[n]? = some (97 + n) := by decide
def spShMo : Sp := fun vs H Q _ => ∃ n : Nat, vs = [.int (n : Int)] ∧ n < 676 ∧ Q (.str (S (shMo n))) H
def spShTm (K : PySem.W.Frag) (n : Nat) : Sp := fun vs H Q _ => ∃ (v : V) (t : TV), vs = [v] ∧ TvV K H v t ∧ lv t ≤ n ∧ mbV t ∧ (shV t).length ≤ 5000 ∧ ∀ H', Same H H' → Q (.str (S (shV t))) H'
section
variable {P : Program} {w : World} {K : PySem.W.Frag} {mg : Str → Option Value} {base : Heap} {f : Addr} {fd : FuncData}
theorem scSM : FnScope ["mark"] ["mark"] (defScope sShowM) := ⟨rfl, rfl, rfl, by decide +kernel, rfl, by decide +kernel, by decide +kernel⟩
theorem ok_sm (F : Fun K "show_mark" "show_mark" sShowM f fd) (G : Gm mg) : FnOk P w K mg base CX0 1 f fd ["mark"] spSM := by
  refine F.ok scSM (fun vs H Q E h => ?_) (fun cdv A outer s H vs Q E hr h => ?_)
  · obtain ⟨m, rfl, _⟩ := h
    rfl
  obtain ⟨m, rfl, hm, q⟩ := h
  refine ⟨_, (pss_one (ps_ret (pe_ifExp (pt_cmpR op_eq (pv 0) pe_int (nomark _)) pe_str (pe_callTy call_str_int rfl G.str PyProof.Rows.boot_str (pa_cons (pv 0) pa_nil))))), ?_⟩
  unfold shM at q
  refine ⟨_, rfl, rfl, _, rfl, ite2 (fun c => ?_) (fun c => ?_)⟩
  · have : m = 0 := V.int.inj (of_decide_eq_true c)
    rw [if_pos this] at q
    show Q (.str (Str.ofString "")) H
    rw [none_eq]; exact q
  · have : m ≠ 0 := fun z => c (decide_eq_true (by rw [z]))
    rw [if_neg this, ← str_sh] at q
    exact ⟨_, rfl, _, rfl, log_sh hm, q⟩
theorem scSB : FnScope ["texts"] ["texts"] (defScope sShowB) := ⟨rfl, rfl, rfl, by decide +kernel, rfl, by decide +kernel, by decide +kernel⟩
theorem ok_sb (F : Fun K "show_in_brackets" "show_in_brackets" sShowB f fd) (G : Gm mg) : FnOk P w K mg base CX0 1 f fd ["texts"] (spSB K) := by
  refine F.ok scSB (fun vs H Q E h => ?_) (fun cdv A outer s H vs Q E hr h => ?_)
  · obtain ⟨l, xs, rfl, _⟩ := h
    rfl
  obtain ⟨l, xs, rfl, hl, hz, q⟩ := h
  refine ⟨_, (pss_cons (ps_if (pt_cmpR op_eq (pe_callB call_len_seq rfl G.len PySem.boot_len (pa_cons (pv 0) pa_nil)) pe_int (nomark _)) (pss_one (ps_ret pe_str)) pss_nil)
    (pss_one (ps_ret (pe_op op_add_str (pe_op op_add_str pe_str (pe_bm PySem.F.plainAttrs_str PySem.F.slot_str_join PySem.F.type_str_join mt_join pe_str (pa_cons (pv 0) pa_nil))) pe_str)))), ?_⟩
  refine ⟨_, rfl, l, _, rfl, .inl hl, rfl, _, rfl, ?_⟩
  rw [List.length_map]
  cases xs with
  | nil =>
    refine iteP rfl ?_
    show Q (.str (Str.ofString "")) H
    rw [none_eq]; exact q
  | cons x r =>
    refine iteN (fun z => by have := V.int.inj z; simp at this; omega) ?_
    have h1 := gl_len [32] (x :: r)
    have h2 := gl_cnt (sep := [32]) (by decide) (x :: r)
    have e : (shB (x :: r)).length = (gl [32] (x :: r)).length + 2 := by simp [shB]
    have eb : Str.ofString " " = S [32] := by decide +kernel
    have eo : Str.ofString "(" = S [40] := by decide +kernel
    have ec : Str.ofString ")" = S [41] := by decide +kernel
    have hm : ((x :: r).map S).map V.str = (x :: r).map fun x => V.str (S x) := by rw [List.map_map]; rfl
    have hls : (((x :: r).map S).map fun z : Str => z.length) = (x :: r).map List.length := by
      rw [List.map_map]
      exact List.map_congr_left fun y _ => S_len y
    refine ⟨rfl, _, rfl, S [32], l, (x :: r).map S, (by rw [← eb]), rfl, (by rw [hm]; exact hl), ?_, ?_⟩
    · rw [hls, List.length_map, S_len]
      show _ + _ * 1 ≤ _
      omega
    · rw [join_S]
      refine ⟨_, _, rfl, rfl, ?_, _, _, rfl, rfl, ?_, ?_⟩
      · rw [eo, S_len, S_len]; exact line_of (by simp only [List.length_singleton]; omega)
      · rw [eo, ec, S_app, S_len, S_len]; exact line_of (by simp only [List.length_append, List.length_singleton]; omega)
      · rw [eo, ec, S_app, S_app]; exact q
theorem scShMo : FnScope ["mode", "base", "shown", "rest"] ["mode"] (defScope sShowMo) := ⟨rfl, rfl, rfl, by decide +kernel, rfl, by decide +kernel, by decide +kernel⟩
theorem ok_shMo (F : Fun K "show_mode" "show_mode" sShowMo f fd) (G : Gm mg) : FnOk P w K mg base CX0 1 f fd ["mode"] spShMo := by
  refine F.ok scShMo (fun vs H Q E h => ?_) (fun cdv A outer s H vs Q E hr h => ?_)
  · obtain ⟨n, rfl, _⟩ := h
    rfl
  obtain ⟨n, rfl, hn, q⟩ := h
  obtain ⟨tl, htl⟩ := G.lets
  refine ⟨_, (pss_cons (ps_set (i := 1) scShMo.nd rfl (Or.inl rfl) (pe_callB call_len_str rfl G.len PySem.boot_len (pa_cons (pe_glob (v := .str LETS) rfl htl ⟨_, rfl⟩) pa_nil)))
    (pss_cons (ps_set (i := 2) scShMo.nd rfl (Or.inl rfl) (pe_ix ix_str (pe_glob (v := .str LETS) rfl htl ⟨_, rfl⟩) (pe_op op_mod (pv 0) (pv 1)) (fun _ _ => rfl)))
    (pss_cons (ps_set (i := 3) scShMo.nd rfl (Or.inl rfl) (pe_op op_fdiv (pv 0) (pv 1)))
    (pss_cons (ps_while PassesOwn.never (pt_cmpR op_gt (pv 3) pe_int (nomark _)) (pss_cons (ps_set (i := 2) scShMo.nd rfl (Or.inl rfl) (pe_op op_add_str (pe_ix ix_str (pe_glob (v := .str LETS) rfl htl ⟨_, rfl⟩) (pe_op op_mod (pv 3) (pv 1)) (fun _ _ => rfl)) (pv 2)))
    (pss_one (ps_set (i := 3) scShMo.nd rfl (Or.inl rfl) (pe_op op_fdiv (pv 3) (pv 1))))))
    (pss_one (ps_ret (pv 2))))))), ?_⟩
  have hll : LETS.length = 26 := by decide +kernel
  have hat : ∀ k : Nat, k < 26 → atI LETS.cps.toList (k : Int) = some (97 + k) := fun k hk => by rw [let_eq]; exact atS (let_at k hk)
  have hS : ∀ c : Nat, (⟨#[c]⟩ : Str) = S [c] := fun c => rfl
  have hlz : LETS.length ≤ sizeLine := by rw [hll]; decide
  have em : ∀ k : Nat, ((k : Int) % ((26 : Nat) : Int)) = ((k % 26 : Nat) : Int) := fun k => by omega
  have ed : ∀ k : Nat, ((k : Int) / ((26 : Nat) : Int)) = ((k / 26 : Nat) : Int) := fun k => by omega
  refine ⟨_, rfl, hlz, ?_⟩
  rw [hll]
  have h26 : (0 : Int) < ((26 : Nat) : Int) := by decide
  have c26 : ∀ i : Int, CDiv i ((26 : Nat) : Int) := fun i => ⟨by decide, by decide⟩
  refine ⟨_, rfl, _, rfl, _, _, rfl, rfl, h26, LETS, _, 97 + n % 26, rfl, rfl, hlz, ?_, ?_⟩
  · rw [em]; exact hat _ (by omega)
  rw [hS]
  refine ⟨_, rfl, _, rfl, _, _, rfl, rfl, c26 _, ?_⟩
  refine ⟨fun m σ' H' => H' = H ∧ ((m = 1 ∧ σ' = [some (.int (n : Int)), some (.int ((26 : Nat) : Int)), some (.str (S [97 + n % 26])), some (.int ((n : Int) / ((26 : Nat) : Int)))]) ∨ (m = 0 ∧ σ' = [some (.int (n : Int)), some (.int ((26 : Nat) : Int)), some (.str (S (shMo n))), some (.int 0)])), ⟨1, rfl, .inl ⟨rfl, rfl⟩⟩, ?_⟩
  rintro m σ H' ⟨rfl, ⟨rfl, rfl⟩ | ⟨rfl, rfl⟩⟩
  · refine ⟨_, rfl, _, _, rfl, rfl, _, rfl, ?_⟩
    by_cases c : n < 26
    · refine iteN (by omega) ?_
      have e : shMo n = [97 + n % 26] := by unfold shMo; rw [if_pos c, Nat.mod_eq_of_lt c]
      rw [e] at q
      exact ⟨_, rfl, q⟩
    · refine iteP (by omega) ⟨fun σ' H' => ∃ m', m' < 1 ∧ _, fun σ' H' h => h, ?_⟩
      refine ⟨_, rfl, _, rfl, _, _, rfl, rfl, h26, LETS, _, 97 + n / 26, rfl, rfl, hlz, ?_, ?_⟩
      · rw [ed, em, Nat.mod_eq_of_lt (by omega)]; exact hat _ (by omega)
      rw [hS]
      refine ⟨_, rfl, _, _, rfl, rfl, ?_, ?_⟩
      · rw [S_len, S_len]; exact line_of (by simp)
      rw [S_app]
      refine ⟨_, rfl, _, rfl, _, _, rfl, rfl, c26 _, ?_⟩
      refine ⟨0, by decide, rfl, .inr ⟨rfl, ?_⟩⟩
      have e : shMo n = [97 + n / 26, 97 + n % 26] := by unfold shMo; rw [if_neg c]
      have e2 : ((n : Int) / ((26 : Nat) : Int)) / ((26 : Nat) : Int) = 0 := by omega
      show [some (V.int (n : Int)), some (.int ((26 : Nat) : Int)), some (.str (S ([97 + n / 26] ++ [97 + n % 26]))), some (.int (((n : Int) / ((26 : Nat) : Int)) / ((26 : Nat) : Int)))] = _
      rw [e, e2]; rfl
  · exact ⟨_, rfl, _, _, rfl, rfl, _, rfl, iteN (by decide) ⟨_, rfl, q⟩⟩
theorem scShTm : FnScope ["term", "kept"] ["term"] (defScope sShowTm) := ⟨rfl, rfl, rfl, by decide +kernel, rfl, by decide +kernel, by decide +kernel⟩
theorem ok_shTm {n : Nat} (F : Fun K "show_term" "show_term" sShowTm f fd) (G : Gm mg) (RC : Fn P w K mg base 1 "is_call" ["term"] (spIsCV K)) (RMo : Fn P w K mg base 1 "show_mode" ["mode"] spShMo) (RM : Fn P w K mg base 1 "show_mark" ["mark"] spSM) (RB : Fn P w K mg base 1 "show_in_brackets" ["texts"] (spSB K)) (R : Fn P w K mg base (n + 1) "show_term" ["term"] (spShTm K n)) : FnOk P w K mg base CX0 (n + 2) f fd ["term"] (spShTm K (n + 1)) := by
  refine F.ok scShTm (fun vs H Q E h => ?_) (fun cdv A outer s H vs Q E hr h => ?_)
  · obtain ⟨v, t, rfl, _⟩ := h
    rfl
  obtain ⟨v, t, rfl, ht, hlv, hmb, hz, q⟩ := h
  refine ⟨_, (pss_cons (ps_if (pt_val (pe_fn RC hr (pa_cons (pv 0) pa_nil) (Nat.le_add_left 1 n))) (pss_one (ps_ret (pe_op op_add_str (pe_op op_add_str pe_str (pe_fn RMo hr (pa_cons (pe_ix ix_tup (pv 0) pe_int (fun _ _ => rfl)) pa_nil) (by omega))) (pe_callTy call_str_int rfl G.str PyProof.Rows.boot_str (pa_cons (pe_ix ix_tup (pv 0) pe_int (fun _ _ => rfl)) pa_nil))))) pss_nil)
    (pss_cons (ps_cut (ps_set (i := 1) scShTm.nd rfl (Or.inl rfl) (pe_ifExp (pt_val (pe_ix ix_tup (pv 0) pe_int (fun _ _ => rfl))) pe_str pe_str)))
    (pss_one (ps_ret (pe_op op_add_str (pe_op op_add_str (pe_op op_add_str (pe_ix ix_tup (pv 0) pe_int (fun _ _ => rfl)) (pv 1)) (pe_fn RM hr (pa_cons (pe_ix ix_tup (pv 0) pe_int (fun _ _ => rfl)) pa_nil) (by omega))) (pe_fn RB hr (pa_cons (pe_lcomp (CompOk.plain rfl (by decide +kernel) (by decide +kernel) (by decide +kernel)) rfl (pi_tup (pe_ix ix_tup (pv 0) pe_int (fun _ _ => rfl))) (fun _ _ _ _ => pf_nil) (fun _ _ _ _ => pe_fn R hr (pa_cons (pv 0) pa_nil) (Nat.le_refl _))) pa_nil) (by omega))))))), ?_⟩
  have e42 : Str.ofString "*" = S [42] := by decide +kernel
  have e61 : Str.ofString "=" = S [61] := by decide +kernel
  refine ⟨_, rfl, v, t, rfl, ht, _, rfl, ?_⟩
  rcases tv_open ht with ⟨a, m, b, rfl, rfl, h1⟩ | ⟨a, b, bs, nm, k, ad, rfl, et, h1, h2, h3, h4⟩
  · rw [mbV] at hmb
    obtain ⟨⟨i, hi, rfl⟩, hb⟩ := hmb
    rw [shV] at hz q
    rw [List.length_append, List.length_append] at hz
    have em : mdS (.int (i : Int)) = shMo i := by show shMo (i : Int).toNat = _; rw [Int.toNat_natCast]
    rw [em] at hz q
    refine iteT ⟨_, rfl, a, _, 1, _, rfl, rfl, h1, rfl, i, rfl, hi, _, _, rfl, rfl, ?_, ?_⟩
    · rw [e42, S_len, S_len]; exact line_of (by omega)
    rw [e42, S_app]
    refine ⟨_, rfl, a, _, 2, _, rfl, rfl, h1, rfl, _, rfl, log_sh hb, _, _, rfl, rfl, ?_, ?_⟩
    · rw [str_sh, S_len, S_len]; exact line_of (by rw [List.length_append]; omega)
    · rw [str_sh, S_app]; exact q H (Same.refl _)
  · rw [et] at hmb hz q
    rw [mbV] at hmb
    rw [shV] at hz q
    have hlen := h3.length
    rw [lv_bs] at hlv
    rw [et]
    refine iteF ⟨fun σ' H' => σ' = [some (.ref a), some (.str (S (kpS k)))] ∧ H' = H, ?_, ?_⟩
    · refine ⟨_, rfl, a, _, 2, _, rfl, rfl, h1, rfl, _, rfl, ?_⟩
      cases k with
      | true => exact iteT ⟨by rw [e61]; rfl, rfl⟩
      | false => exact iteF ⟨by rw [none_eq]; rfl, rfl⟩
    rintro σ H' ⟨rfl, rfl⟩
    rw [List.length_append, List.length_append, List.length_append] at hz
    have hnl : nm.length = nm.cps.toList.length := by simp [Str.length]
    refine ⟨_, rfl, a, _, 1, _, rfl, rfl, h1, rfl, _, rfl, _, _, rfl, rfl, ?_, ?_⟩
    · rw [S_len]; exact line_of (by omega)
    have e1 : nm ++ S (kpS k) = S (nm.cps.toList ++ kpS k) := by rw [← S_app, S_self]
    rw [e1]
    refine ⟨_, rfl, a, _, 3, _, rfl, rfl, h1, rfl, ad, rfl, hmb.1, _, _, rfl, rfl, ?_, ?_⟩
    · rw [S_len, S_len]; exact line_of (by rw [List.length_append]; omega)
    rw [S_app]
    refine ⟨_, rfl, a, _, 4, _, rfl, rfl, h1, rfl, b, rfl, ⟨_, h2⟩, fun acc hacc => ?_⟩
    refine comp_tup (K := K) (xs := bs) (tt := fun _ H Q => Q true H) (te := tCall (spShTm K n) [] E0 (tCons (tVar 0) tNil)) (cs := []) (fun i ys H2 => H2 acc = some (.lst ys) ∧ Same H' H2 ∧ ys = ((t.bs.take i).map shV).map fun x => V.str (S x))
      ⟨upd_same, same_new hacc _, rfl⟩ ?_ ?_ ?_
    · rintro i ys H2 _ ⟨_, g, _⟩
      exact g.seqT h2
    · rintro i x ys H2 hi hx ⟨hya, g, rfl⟩
      obtain ⟨c, hc⟩ : ∃ c, t.bs[i]? = some c := ⟨_, List.getElem?_eq_getElem (by omega)⟩
      obtain ⟨cv, hcv, hct⟩ := h3.get hc
      obtain rfl : cv = x := Option.some.inj (hcv.symm.trans hx)
      have hm := List.mem_of_getElem? hc
      have a1 := lv_le hm
      have a2 := shB_mem (xs := shVs t.bs) (x := shV c) (by rw [shVs_map]; exact List.mem_map.mpr ⟨c, hm, rfl⟩)
      refine iteT ⟨_, rfl, cv, c, rfl, hct.mono fun _ _ => g.seqT, by omega, mbV_mem hmb.2 hm, by omega, fun H4 g4 => ?_⟩
      refine comp_next hi (g4 _ _ hya) (by rw [List.length_map, List.length_map, List.length_take]; omega) ⟨upd_same, fun x u e => ?_, ?_⟩
      · rw [upd_ne (ne_of_none e hacc)]; exact g4 _ _ (g _ _ e)
      · rw [List.take_add_one, hc]; simp
    rintro ys H1 ⟨hya, g, rfl⟩
    rw [hlen, List.take_length] at hya
    refine ⟨acc, shVs t.bs, rfl, (by rw [shVs_map]; exact SqL.of hya), by omega, _, _, rfl, rfl, ?_, ?_⟩
    · rw [S_len, S_len]; exact line_of (by rw [List.length_append, List.length_append]; omega)
    · rw [S_app]; exact q H1 g
theorem none_shTm {k : Nat} : FnOk P w K mg base CX0 k f fd ["term"] (spShTm K 0) := by
  have no : ∀ vs H Q E, ¬ spShTm K 0 vs H Q E := fun vs H Q E h => by
    obtain ⟨v, t, _, _, h0, _⟩ := h
    rw [lv_bs] at h0; omega
  exact ⟨fun vs H Q E h => absurd h (no vs H Q E), fun A outer s H args us vs Q E _ _ _ _ h => absurd h (no vs H Q E)⟩
theorem all_shTm (F : Fun K "show_term" "show_term" sShowTm f fd) (G : Gm mg) (RC : Fn P w K mg base 1 "is_call" ["term"] (spIsCV K)) (RMo : Fn P w K mg base 1 "show_mode" ["mode"] spShMo) (RM : Fn P w K mg base 1 "show_mark" ["mark"] spSM) (RB : Fn P w K mg base 1 "show_in_brackets" ["texts"] (spSB K)) (hb : Binds K fd ["term"] []) (hm : mg "show_term" = some (.ref f)) : ∀ n : Nat, FnOk P w K mg base CX0 (n + 1) f fd ["term"] (spShTm K n)
  | 0 => none_shTm
  | n + 1 => ok_shTm F G RC RMo RM RB ⟨f, fd, all_shTm F G RC RMo RM RB hb hm n, hb, F.kp, hm⟩
end
end K14
namespace K14
open PySem L2 K3 TM K9
def ruS (mo kind name : List Nat) (t : TV) : List Nat := mo ++ [32] ++ kind ++ [32] ++ name ++ [32, 58, 32] ++ shV t
def codes (s : Str) : List Nat := s.cps.toList
theorem S_codes (s : Str) : S (codes s) = s := S_self s
theorem codes_len (s : Str) : (codes s).length = s.length := by simp [codes, Str.length]
def mdR (mo : List Nat) (kind : Str) (rw : List PNx) (ts : List TV) : List (List Nat) := (rw.zip ts).map fun x => ruS mo (codes kind) (codes x.1.2.1) x.2
structure TmOk (t : TV) : Prop where
  lv : lv t ≤ 9
  mb : mbV t
  len : (shV t).length ≤ 4000
def spShR (K : PySem.W.Frag) : Sp := fun vs H Q _ => ∃ (mo : List Nat) (kind : Str) (lr l : Addr) (rw : List PNx) (us : List V) (ts : List TV), vs = [.str (S mo), .str kind, .ref lr, .ref l] ∧ mo.length ≤ 8 ∧ kind.length ≤ 8 ∧ RowsL K H lr rw ∧ rw.length ≤ 10 ∧ (∀ r ∈ rw, r.2.1.length ≤ 8) ∧ SqL K H l us ∧ TvAll K H us ts ∧ ts.length = rw.length ∧ (∀ t ∈ ts, TmOk t) ∧
  ∀ (lo : Addr) (H' : Hp), Same H H' → H lo = none → H' lo = some (.lst ((mdR mo kind rw ts).map fun x => V.str (S x))) → Q (.ref lo) H'
def tuR (ks : List KdT) : Nat → List (Str × List TV) → List (List Nat)
  | _, [] => []
  | i, m :: r => mdR (shMo i) m.1 (rowsK ks m.1) m.2 ++ tuR ks (i + 1) r
theorem tuR_snoc (ks : List KdT) (m : Str × List TV) : ∀ (l : List (Str × List TV)) (i : Nat), tuR ks i (l ++ [m]) = tuR ks i l ++ mdR (shMo (i + l.length)) m.1 (rowsK ks m.1) m.2
  | [], i => by simp [tuR]
  | x :: r, i => by
    rw [List.cons_append, tuR, tuR, tuR_snoc ks m r (i + 1), List.append_assoc, List.length_cons]
    congr 3
    rw [show i + 1 + r.length = i + (r.length + 1) by omega]
def tuS (ks : List KdT) (st : TV) (D : List (Str × List TV)) : List Nat := gl [59, 32] (shV st :: tuR ks 0 D)
structure ShOk (ks : List KdT) (st : TV) (D : List (Str × List TV)) : Prop where
  st : TmOk st
  len : D.length ≤ 200
  kl : ∀ m ∈ D, m.1.length ≤ 8
  ln : ∀ m ∈ D, m.2.length = (rowsK ks m.1).length
  tm : ∀ m ∈ D, ∀ t ∈ m.2, TmOk t
  nl : ∀ m ∈ D, ∀ r ∈ rowsK ks m.1, r.2.1.length ≤ 8
def spShT (K : PySem.W.Frag) : Sp := fun vs H Q _ => ∃ (p lw lm : Addr) (v : V) (ks : List KdT) (st : TV) (ms : List MvT), vs = [.ref p] ∧ SqT K H p [.ref lw, v, .ref lm] ∧ WoodAt K H lw ks ∧ WoodOk ks ∧ TvV K H v st ∧ ModesV K H lm ms ∧ ShOk ks st (dM ms) ∧ ∀ H', Same H H' → Q (.str (S (tuS ks st (dM ms)))) H'
theorem ruS_len {mo kind name : List Nat} {t : TV} (h1 : mo.length ≤ 8) (h2 : kind.length ≤ 8) (h3 : name.length ≤ 8) (h4 : TmOk t) : (ruS mo kind name t).length ≤ 4100 := by
  have := h4.len
  unfold ruS
  simp only [List.length_append, List.length_cons, List.length_nil]; omega
theorem mdR_len (mo : List Nat) (kind : Str) (rw : List PNx) (ts : List TV) : (mdR mo kind rw ts).length ≤ rw.length := by
  unfold mdR
  rw [List.length_map, List.length_zip]; omega
theorem mdR_all {mo : List Nat} {kind : Str} {rw : List PNx} {ts : List TV} (h1 : mo.length ≤ 8) (h2 : kind.length ≤ 8) (h3 : ∀ r ∈ rw, r.2.1.length ≤ 8) (h4 : ∀ t ∈ ts, TmOk t) : ∀ x ∈ mdR mo kind rw ts, x.length ≤ 4100 := fun x hx => by
  obtain ⟨y, hy, rfl⟩ := List.mem_map.mp hx
  obtain ⟨a, b⟩ := y
  have := List.of_mem_zip hy
  exact ruS_len h1 (by rw [codes_len]; exact h2) (by rw [codes_len]; exact h3 _ this.1) (h4 _ this.2)
theorem shMo_len (n : Nat) : (shMo n).length ≤ 2 := by unfold shMo; split <;> simp
theorem tuR_ok {ks : List KdT} (hO : WoodOk ks) : ∀ (D : List (Str × List TV)) (i : Nat), (∀ m ∈ D, m.1.length ≤ 8) → (∀ m ∈ D, ∀ t ∈ m.2, TmOk t) → (∀ m ∈ D, ∀ r ∈ rowsK ks m.1, r.2.1.length ≤ 8) → (tuR ks i D).length ≤ 10 * D.length ∧ ∀ x ∈ tuR ks i D, x.length ≤ 4100
  | [], i, _, _, _ => ⟨by simp [tuR], fun x hx => by simp [tuR] at hx⟩
  | m :: r, i, h1, h2, h3 => by
    obtain ⟨k1, k2⟩ := tuR_ok hO r (i + 1) (fun x hx => h1 x (List.mem_cons_of_mem _ hx)) (fun x hx => h2 x (List.mem_cons_of_mem _ hx)) (fun x hx => h3 x (List.mem_cons_of_mem _ hx))
    have k3 := mdR_len (shMo i) m.1 (rowsK ks m.1) m.2
    have k4 := (rowsK_ok hO m.1).len
    rw [tuR]
    refine ⟨by rw [List.length_append, List.length_cons]; omega, fun x hx => ?_⟩
    rcases List.mem_append.mp hx with hx | hx
    · exact mdR_all (by have := shMo_len i; omega) (h1 m List.mem_cons_self) (h3 m List.mem_cons_self) (h2 m List.mem_cons_self) x hx
    · exact k2 x hx
theorem sum_le {l : List (List Nat)} {n : Nat} (h : ∀ x ∈ l, x.length ≤ n) : (l.map List.length).sum ≤ n * l.length := by
  induction l with
  | nil => simp
  | cons x r ih =>
    have h1 := h x List.mem_cons_self
    have h2 := ih fun y hy => h y (List.mem_cons_of_mem _ hy)
    rw [List.map_cons, List.sum_cons, List.length_cons, Nat.mul_add]; omega
section
variable {P : Program} {w : World} {K : PySem.W.Frag} {mg : Str → Option Value} {base : Heap} {f : Addr} {fd : FuncData}
theorem scShR : FnScope ["mode", "kind", "rows", "rules", "ahead"] ["mode", "kind", "rows", "rules"] (defScope sShowR) := ⟨rfl, rfl, rfl, by decide +kernel, rfl, by decide +kernel, by decide +kernel⟩
theorem ok_shR (F : Fun K "show_rules" "show_rules" sShowR f fd) (GA : GmA mg) (RT : Fn P w K mg base 10 "show_term" ["term"] (spShTm K 9)) : FnOk P w K mg base CX0 11 f fd ["mode", "kind", "rows", "rules"] (spShR K) := by
  refine F.ok scShR (fun vs H Q E h => ?_) (fun cdv A outer s H vs Q E hr h => ?_)
  · obtain ⟨mo, kind, lr, l, rw, us, ts, rfl, _⟩ := h
    rfl
  obtain ⟨mo, kind, lr, l, rw, us, ts, rfl, hmo, hkl, hR, hr10, hnl, hl, hts, hlen, hok, q⟩ := h
  refine ⟨_, (pss_cons (ps_set (i := 4) scShR.nd rfl (Or.inr rfl) (pe_op op_add_str (pe_op op_add_str (pe_op op_add_str (pv 0) pe_str) (pv 1)) pe_str))
    (pss_one (ps_ret (pe_lcompG (CompG.many (xs := ["row", "rule"]) (caps := ["ahead"]) (cap := [4]) (cs := [_]) rfl rfl (by decide +kernel) (by decide +kernel) (by decide +kernel) (by decide +kernel) (by decide +kernel) (by decide +kernel) rfl rfl rfl) rfl (pi_zip rfl GA.zip (pa_cons (pv 2) (pa_cons (pv 3) pa_nil))) (pg_c2 (CompG.many (xs := ["row", "rule"]) (caps := ["ahead"]) (cap := [4]) (cs := [_]) rfl rfl (by decide +kernel) (by decide +kernel) (by decide +kernel) (by decide +kernel) (by decide +kernel) (by decide +kernel) rfl rfl rfl) rfl) (fun _ _ _ _ => pf_nil) (fun _ _ _ _ => pe_op op_add_str (pe_op op_add_str (pe_op op_add_str (pv 2) (pe_ix (r := rIxT K) ix_tup (pv 0) pe_int (fun _ _ => rfl))) pe_str) (pe_fn RT hr (pa_cons (pv 1) pa_nil))))))), ?_⟩
  have e32 : Str.ofString " " = S [32] := by decide +kernel
  have e58 : Str.ofString " : " = S [32, 58, 32] := by decide +kernel
  have ek : (codes kind).length = kind.length := codes_len kind
  rw [← S_codes kind, e32]
  refine ⟨_, rfl, _, _, rfl, rfl, ?_, ?_⟩
  · rw [S_len, S_len]; exact line_of (by simp only [List.length_cons, List.length_nil]; omega)
  rw [S_app]
  refine ⟨_, rfl, _, _, rfl, rfl, ?_, ?_⟩
  · rw [S_len, S_len]; exact line_of (by simp only [List.length_append, List.length_cons, List.length_nil]; omega)
  rw [S_app]
  refine ⟨_, _, rfl, rfl, ?_, ?_⟩
  · rw [S_len, S_len]; exact line_of (by simp only [List.length_append, List.length_cons, List.length_nil]; omega)
  rw [S_app]
  have hul := hts.length
  have elr : (rw.map fun t => V.ref t.1).length = rw.length := List.length_map ..
  refine ⟨_, rfl, _, rfl, lr, l, _, us, rfl, hR.1, hl, fun acc hacc => ?_⟩
  refine c2_zip (K := K) (xs := rw.map fun t => V.ref t.1) (zs := us) (cs := [some (.str (S (mo ++ [32] ++ codes kind ++ [32])))]) (tt := fun _ H Q => Q true H) (by rw [elr]; omega) (fun i ys H' => H' acc = some (.lst ys) ∧ Same H H' ∧ ys = ((mdR mo kind rw ts).take i).map fun x => V.str (S x))
    ⟨upd_same, same_new hacc _, rfl⟩ ?_ ?_ ?_
  · rintro i ys H' _ ⟨_, g, _⟩
    exact ⟨g.seq hR.1, g.seq hl⟩
  · rintro i u v p ys H' hi hu hv hp ⟨hya, g, rfl⟩
    have hir : i < rw.length := by simpa using hi
    have hit : i < ts.length := by omega
    obtain ⟨cv, hcv, hct⟩ := hts.get (List.getElem?_eq_getElem hit)
    obtain rfl : cv = v := Option.some.inj (hcv.symm.trans hv)
    obtain rfl : u = .ref rw[i].1 := by
      rw [List.getElem?_map, List.getElem?_eq_getElem hir] at hu
      exact (Option.some.inj hu).symm
    have gp := same_new hp (.tup [.ref rw[i].1, cv])
    have gg := g.trans gp
    generalize upd H' p (.tup [.ref rw[i].1, cv]) = H2 at gp gg ⊢
    have hRA := (hR.2 _ (List.getElem_mem hir)).same gg
    have hto := hok ts[i] (List.getElem_mem hit)
    have hnr := hnl rw[i] (List.getElem_mem hir)
    have hcn := codes_len rw[i].2.1
    have hsl := hto.len
    have hre := hRA.1
    rw [← S_codes rw[i].2.1] at hre
    rw [e58]
    refine iteT ⟨_, rfl, _, rfl, rw[i].1, _, 0, _, rfl, rfl, hre, rfl, _, _, rfl, rfl, ?_, ?_⟩
    · rw [S_len, S_len]; exact line_of (by simp only [List.length_append, List.length_cons, List.length_nil]; omega)
    rw [S_app]
    refine ⟨_, _, rfl, rfl, ?_, ?_⟩
    · rw [S_len, S_len]; exact line_of (by simp only [List.length_append, List.length_cons, List.length_nil]; omega)
    rw [S_app]
    refine ⟨_, rfl, cv, ts[i], rfl, hct.mono fun _ _ => gg.seqT, hto.lv, hto.mb, by omega, fun H4 g4 => ⟨_, _, rfl, rfl, ?_, ?_⟩⟩
    · rw [S_len, S_len]; exact line_of (by simp only [List.length_append, List.length_cons, List.length_nil]; omega)
    rw [S_app]
    have hmi : (mdR mo kind rw ts)[i]? = some (ruS mo (codes kind) (codes rw[i].2.1) ts[i]) := by
      unfold mdR
      rw [List.getElem?_map, List.getElem?_eq_getElem (by rw [List.length_zip]; omega), List.getElem_zip]; rfl
    refine comp_next hi (g4 _ _ (gp _ _ hya)) (by rw [List.length_map, List.length_take]; omega) ⟨upd_same, fun x u e => ?_, ?_⟩
    · rw [upd_ne (ne_of_none e hacc)]; exact g4 _ _ (gp _ _ (g _ _ e))
    · rw [List.take_add_one, hmi]; simp [ruS]
  rintro ys H2 ⟨hya, g, rfl⟩
  have hml : (mdR mo kind rw ts).length = rw.length := by unfold mdR; rw [List.length_map, List.length_zip]; omega
  rw [elr, ← hml, List.take_length] at hya
  exact q acc H2 g hacc hya
theorem scShT : FnScope ["turning", "shown", "mode", "told"] ["turning"] (defScope sShowT) := ⟨rfl, rfl, rfl, by decide +kernel, rfl, by decide +kernel, by decide +kernel⟩
theorem ok_shT (F : Fun K "show_turning" "show_turning" sShowT f fd) (GA : GmA mg) (RT : Fn P w K mg base 10 "show_term" ["term"] (spShTm K 9)) (RR : Fn P w K mg base 11 "show_rules" ["mode", "kind", "rows", "rules"] (spShR K)) (RMo : Fn P w K mg base 1 "show_mode" ["mode"] spShMo) (RO : Fn P w K mg base 1 "rows_of" ["wood", "kind"] (spRowsOf K)) : FnOk P w K mg base CX0 12 f fd ["turning"] (spShT K) := by
  refine F.ok scShT (fun vs H Q E h => ?_) (fun cdv A outer s H vs Q E hr h => ?_)
  · obtain ⟨p, lw, lm, v, ks, st, ms, rfl, _⟩ := h
    rfl
  obtain ⟨p, lw, lm, v, ks, st, ms, rfl, hp, hW, hO, hv, hM, hS, q⟩ := h
  refine ⟨_, (pss_cons (ps_set (i := 1) scShT.nd rfl (Or.inl rfl) (pe_lst (pa_cons (pe_fn RT hr (pa_cons (pe_ix ix_tup (pv 0) pe_int (fun _ _ => rfl)) pa_nil)) pa_nil)))
    (pss_cons (ps_for PassesOwn.never rfl (pi_enumL rfl GA.enu (pa_cons (pe_ix ix_tup (pv 0) pe_int (fun _ _ => rfl)) pa_nil)) (pg_tup rfl (pgs_cons (pg_name (i := 2) scShT.nd rfl (Or.inl rfl)) (pgs_cons (pg_name (i := 3) scShT.nd rfl (Or.inl rfl)) pgs_nil)))
      (pss_one (ps_expr (pe_bm PySem.F.plainAttrs_list PySem.F.slot_list_extend PySem.F.type_list_extend mt_extend (pv 1) (pa_cons (pe_fn RR hr (pa_cons (pe_fn RMo hr (pa_cons (pv 2) pa_nil)) (pa_cons (pe_ix ix_tup (pv 3) pe_int (fun _ _ => rfl)) (pa_cons (pe_fn RO hr (pa_cons (pe_ix ix_tup (pv 0) pe_int (fun _ _ => rfl)) (pa_cons (pe_ix ix_tup (pv 3) pe_int (fun _ _ => rfl)) pa_nil))) (pa_cons (pe_ix ix_tup (pv 3) pe_int (fun _ _ => rfl)) pa_nil))))) pa_nil)))))
    (pss_one (ps_ret (pe_bm PySem.F.plainAttrs_str PySem.F.slot_str_join PySem.F.type_str_join mt_join pe_str (pa_cons (pv 1) pa_nil)))))), ?_⟩
  have hsl := hS.st.len
  refine ⟨_, rfl, p, _, 1, _, rfl, rfl, hp, rfl, v, st, rfl, hv, hS.st.lv, hS.st.mb, by omega, fun H1 g1 => ⟨(by show 1 ≤ sizeLine; decide), fun lo hlo => ?_⟩⟩
  have s2 := same_new hlo (.lst [.str (S (shV st))])
  have f2 : upd H1 lo (.lst [.str (S (shV st))]) lo = some (.lst [.str (S (shV st))]) := upd_same
  generalize upd H1 lo (.lst [.str (S (shV st))]) = H2 at s2 f2 ⊢
  have g2 := g1.trans s2
  refine ⟨_, rfl, p, _, 2, _, rfl, rfl, g2.seqT hp, rfl, lm, _, rfl, (hM.same g2).1, ?_⟩
  have hdl : (dM ms).length = ms.length := by unfold dM; rw [List.length_map]
  have hD := hS.len
  refine for_enumL (K := K) (xs := ms.map fun m => V.ref m.1) (fun i σ H' => ∃ c2 c3 : Option V, σ = [some (.ref p), some (.ref lo), c2, c3] ∧ Same H H' ∧ H' lo = some (.lst ((shV st :: tuR ks 0 ((dM ms).take i)).map fun x => V.str (S x))))
    ⟨none, none, rfl, g2, f2⟩ ?_ ?_ ?_
  · rintro i σ H' _ ⟨_, _, _, g, _⟩
    exact (hM.same g).1
  · rintro i x p2 σ H' hx hp2 ⟨c2, c3, rfl, g, hlo'⟩
    have hi : i < ms.length := by have := (List.getElem?_eq_some_iff.mp hx).1; rw [List.length_map] at this; exact this
    obtain rfl : x = .ref ms[i].1 := by
      rw [List.getElem?_map, List.getElem?_eq_getElem hi] at hx
      exact (Option.some.inj hx).symm
    have hmi : (dM ms)[i]? = some (ms[i].2.1, ms[i].2.2.2.2) := by unfold dM; rw [List.getElem?_map, List.getElem?_eq_getElem hi]; rfl
    have hmm := List.mem_of_getElem? hmi
    have s3 := same_new hp2 (.tup [.int (i : Int), .ref ms[i].1])
    have b3 : upd H' p2 (.tup [.int (i : Int), .ref ms[i].1]) p2 = some (.tup [.int (i : Int), .ref ms[i].1]) := upd_same
    generalize upd H' p2 (.tup [.int (i : Int), .ref ms[i].1]) = H3 at s3 b3 ⊢
    have g3 := g.trans s3
    have hlo3 := s3 _ _ hlo'
    obtain ⟨m1, m2, m3⟩ := (hM.same g3).2 ms[i] (List.getElem_mem hi)
    have hML := shMo_len i
    refine ⟨_, _, rfl, SqT.of b3, rfl, _, _, rfl, _, _, rfl, rfl, ?_⟩
    refine ⟨_, rfl, .inl ⟨rfl, _, SqL.of hlo3⟩, _, rfl, i, rfl, by omega, _, rfl, ms[i].1, _, 0, _, rfl, rfl, m1, rfl, _, rfl, p, _, 0, _, rfl, rfl, g3.seqT hp, rfl, _, rfl, ms[i].1, _, 0, _, rfl, rfl, m1, rfl, lw, ms[i].2.1, ks, rfl, hW.same g3, hO, fun lr H4 g4 hL => ?_⟩
    have g34 := g3.trans g4
    obtain ⟨n1, n2, n3⟩ := (hM.same g34).2 ms[i] (List.getElem_mem hi)
    refine ⟨_, rfl, ms[i].1, _, 1, _, rfl, rfl, n1, rfl, shMo i, ms[i].2.1, lr, ms[i].2.2.1, rowsK ks ms[i].2.1, ms[i].2.2.2.1, ms[i].2.2.2.2, rfl, by omega, hS.kl _ hmm, hL, (rowsK_ok hO _).len, hS.nl _ hmm, n2, n3, hS.ln _ hmm, hS.tm _ hmm, fun lb H5 g5 hlb0 hlb => ?_⟩
    have hlo5 := g5 _ _ (g4 _ _ hlo3)
    refine ⟨lo, lb, _, _, rfl, rfl, hlo5, hlb, ?_, ?_⟩
    · have k1 := (tuR_ok hO ((dM ms).take i) 0 (fun m hm => hS.kl m (List.mem_of_mem_take hm)) (fun m hm => hS.tm m (List.mem_of_mem_take hm)) (fun m hm => hS.nl m (List.mem_of_mem_take hm))).1
      have k2 := mdR_len (shMo i) ms[i].2.1 (rowsK ks ms[i].2.1) ms[i].2.2.2.2
      have k3 := (rowsK_ok hO ms[i].2.1).len
      rw [List.length_take] at k1
      rw [List.length_map, List.length_map, List.length_cons]; exact line_of (by omega)
    · refine ⟨_, _, rfl, fun b u e => ?_, ?_⟩
      · have hn : H lo = none := by
          cases e2 : H lo with
          | none => rfl
          | some u => rw [g1 _ _ e2] at hlo; cases hlo
        rw [upd_ne (ne_of_none e hn)]; exact g5 _ _ (g34 _ _ e)
      · rw [upd_same, List.take_add_one, hmi, Option.toList_some, tuR_snoc, List.length_take, Nat.min_eq_left (by omega), Nat.zero_add]
        simp
  · rintro σ H' ⟨c2, c3, rfl, g, hlo'⟩
    rw [List.length_map, ← hdl, List.take_length] at hlo'
    have e59 : Str.ofString "; " = S [59, 32] := by decide +kernel
    obtain ⟨k1, k2⟩ := tuR_ok hO (dM ms) 0 hS.kl hS.tm hS.nl
    have k3 : ((shV st :: tuR ks 0 (dM ms)).map List.length).sum ≤ 4100 * (shV st :: tuR ks 0 (dM ms)).length := sum_le fun x hx => by
      rcases List.mem_cons.mp hx with rfl | hx
      · omega
      · exact k2 x hx
    rw [List.length_cons] at k3
    have hm : ((shV st :: tuR ks 0 (dM ms)).map S).map V.str = (shV st :: tuR ks 0 (dM ms)).map fun x => V.str (S x) := by rw [List.map_map]; rfl
    have hls : (((shV st :: tuR ks 0 (dM ms)).map S).map fun z : Str => z.length) = (shV st :: tuR ks 0 (dM ms)).map List.length := by
      rw [List.map_map]
      exact List.map_congr_left fun y _ => S_len y
    refine ⟨rfl, _, rfl, S [59, 32], lo, (shV st :: tuR ks 0 (dM ms)).map S, (by rw [← e59]), rfl, (by rw [hm]; exact SqL.of hlo'), ?_, ?_⟩
    · rw [hls, List.length_map, S_len, List.length_cons]
      show _ + _ * 2 ≤ _
      omega
    · rw [join_S]; exact q H' g
end
end K14
namespace K14
open PySem L2 K3 TM K9
mutual
def gdV : TV → Prop
  | .node (.call m b) k bs => (∃ i : Nat, i < 676 ∧ m = .int (i : Int)) ∧ b.natAbs < 10 ^ 60 ∧ k = 0 ∧ bs = []
  | .node (.put n _ a) k bs => Nm (codes n) ∧ a.natAbs < 10 ^ 60 ∧ k = 0 ∧ bs.length ≤ 1000 ∧ gdVs bs
def gdVs : List TV → Prop
  | [] => True
  | t :: r => gdV t ∧ gdVs r
end
mutual
def nmV : TV → TN
  | .node (.call m b) _ _ => .node (.call (mdS m) b) 0 []
  | .node (.put n k a) _ bs => .node (.put (codes n) k a) 0 (nmVs bs)
def nmVs : List TV → List TN
  | [] => []
  | t :: r => nmV t :: nmVs r
end
def mkW (a : Int) : List (List Nat) := if a = 0 then [] else [sh a]
mutual
def wkV : TV → List (List Nat)
  | .node (.call m b) _ _ => [[42], mdS m, sh b]
  | .node (.put n k a) _ bs => codes n :: (kpW k ++ (mkW a ++ brG bs (wkVs bs)))
def wkVs : List TV → List (List Nat)
  | [] => []
  | t :: r => wkV t ++ wkVs r
end
theorem mdS_int (i : Nat) : mdS (.int (i : Int)) = shMo i := by show shMo (i : Int).toNat = _; rw [Int.toNat_natCast]
theorem let_mem : ∀ n : Nat, n < 26 → 97 + n ∈ letL := fun n h => List.mem_of_getElem? (let_at n h)
theorem shMo_nm {i : Nat} (h : i < 676) : Nm (shMo i) := by
  unfold shMo
  split
  · rename_i c
    exact ⟨by simp, by simp, fun x hx => by obtain rfl : x = 97 + i := by simpa using hx
                                            exact let_mem i c⟩
  · refine ⟨by simp, by simp, fun x hx => ?_⟩
    rcases List.mem_cons.mp hx with rfl | hx
    · exact let_mem _ (by omega)
    · obtain rfl : x = 97 + i % 26 := by simpa using hx
      exact let_mem _ (by omega)
theorem nmVs_len : ∀ ts : List TV, (nmVs ts).length = ts.length
  | [] => by rw [nmVs]; rfl
  | t :: r => by rw [nmVs, List.length_cons, List.length_cons, nmVs_len r]
theorem brG_nm (ts : List TV) (us : List (List Nat)) : brG (nmVs ts) us = brG ts us := by cases ts <;> rw [nmVs] <;> rfl
theorem mkW_ok (a : Int) : Mks a (mkW a) := by
  unfold mkW
  split
  · rename_i h; exact .inr ⟨h, rfl⟩
  · exact .inl rfl
mutual
theorem tk_nm : ∀ t : TV, gdV t → Tkt (nmV t) (wkV t)
  | .node (.call m b) k bs, h => by
    rw [gdV] at h
    obtain ⟨⟨i, hi, rfl⟩, hb, _, _⟩ := h
    rw [nmV, wkV, mdS_int]
    exact .call (shMo_nm hi) hb
  | .node (.put n k a) _ bs, h => by
    rw [gdV] at h
    obtain ⟨h1, h2, _, h3, h4⟩ := h
    rw [nmV, wkV, ← brG_nm]
    exact .put h1 h2 (mkW_ok a) (tk_nms bs h4) (by rw [nmVs_len]; exact h3)
theorem tk_nms : ∀ ts : List TV, gdVs ts → TktL (nmVs ts) (wkVs ts)
  | [], _ => by rw [nmVs, wkVs]; exact .nil
  | t :: r, h => by
    rw [gdVs] at h
    rw [nmVs, wkVs]; exact .cons (tk_nm t h.1) (tk_nms r h.2)
end
mutual
theorem gd_mb : ∀ t : TV, gdV t → mbV t
  | .node (.call m b) k bs, h => by rw [gdV] at h; rw [mbV]; exact ⟨h.1, h.2.1⟩
  | .node (.put n k a) _ bs, h => by rw [gdV] at h; rw [mbV]; exact ⟨h.2.1, gd_mbs bs h.2.2.2.2⟩
theorem gd_mbs : ∀ ts : List TV, gdVs ts → mbVs ts
  | [], _ => by rw [mbVs]; trivial
  | t :: r, h => by rw [gdVs] at h; rw [mbVs]; exact ⟨gd_mb t h.1, gd_mbs r h.2⟩
end
mutual
theorem lv_nm : ∀ t : TV, gdV t → lv (vN (nmV t)) = lv t
  | .node (.call m b) k bs, h => by rw [gdV] at h; rw [nmV, vN, lv, lv, h.2.2.2]
  | .node (.put n k a) _ bs, h => by rw [gdV] at h; rw [nmV, vN, lv, lv, lvs_nm bs h.2.2.2.2]
theorem lvs_nm : ∀ ts : List TV, gdVs ts → lvs (vNs (nmVs ts)) = lvs ts
  | [], _ => by rw [nmVs, vNs]
  | t :: r, h => by rw [gdVs] at h; rw [nmVs, vNs, lvs, lvs, lv_nm t h.1, lvs_nm r h.2]
end
mutual
theorem lvN_nm : ∀ t : TV, gdV t → lv (nmV t) = lv t
  | .node (.call m b) k bs, h => by rw [gdV] at h; rw [nmV, lv, lv, h.2.2.2, lvs, lvs]
  | .node (.put n k a) _ bs, h => by rw [gdV] at h; rw [nmV, lv, lv, lvsN_nm bs h.2.2.2.2]
theorem lvsN_nm : ∀ ts : List TV, gdVs ts → lvs (nmVs ts) = lvs ts
  | [], _ => by rw [nmVs, lvs, lvs]
  | t :: r, h => by rw [gdVs] at h; rw [nmVs, lvs, lvs, lvN_nm t h.1, lvsN_nm r h.2]
end
mutual
theorem sz_nm : ∀ t : TV, gdV t → sz (vN (nmV t)) = sz t
  | .node (.call m b) k bs, h => by rw [gdV] at h; rw [nmV, vN, sz, sz, h.2.2.2]
  | .node (.put n k a) _ bs, h => by rw [gdV] at h; rw [nmV, vN, sz, sz, szs_nm bs h.2.2.2.2]
theorem szs_nm : ∀ ts : List TV, gdVs ts → szs (vNs (nmVs ts)) = szs ts
  | [], _ => by rw [nmVs, vNs]
  | t :: r, h => by rw [gdVs] at h; rw [nmVs, vNs, szs, szs, sz_nm t h.1, szs_nm r h.2]
end
mutual
theorem cl_nm : ∀ t : TV, clV (vN (nmV t)) = (clV t).map fun c => (.str (S (mdS c.1)), c.2)
  | .node (.call m b) k bs => by rw [nmV, vN, clV, clV]; rfl
  | .node (.put n k a) _ bs => by rw [nmV, vN, clV, clV, cls_nm bs]
theorem cls_nm : ∀ ts : List TV, clVs (vNs (nmVs ts)) = (clVs ts).map fun c => (.str (S (mdS c.1)), c.2)
  | [] => by simp [nmVs, vNs, clVs]
  | t :: r => by rw [nmVs, vNs, clVs, clVs, cl_nm t, cls_nm r, List.map_append]
end
mutual
theorem back_nm (g : V → V) : ∀ t : TV, gdV t → (∀ m b, (m, b) ∈ clV t → g (.str (S (mdS m))) = m) → mpV g (vN (nmV t)) = t
  | .node (.call m b) k bs, h, hg => by
    rw [gdV] at h
    obtain ⟨_, _, rfl, rfl⟩ := h
    rw [nmV, vN, mpV, hg m b (by rw [clV]; exact List.mem_cons_self)]
  | .node (.put n k a) _ bs, h, hg => by
    rw [gdV] at h
    obtain ⟨_, _, rfl, _, h4⟩ := h
    rw [nmV, vN, mpV, backs_nm g bs h4 (fun m b hm => hg m b (by rw [clV]; exact hm)), S_codes]
theorem backs_nm (g : V → V) : ∀ ts : List TV, gdVs ts → (∀ m b, (m, b) ∈ clVs ts → g (.str (S (mdS m))) = m) → mpVs g (vNs (nmVs ts)) = ts
  | [], _, _ => by rw [nmVs, vNs, mpVs]
  | t :: r, h, hg => by
    rw [gdVs] at h
    rw [nmVs, vNs, mpVs, back_nm g t h.1 (fun m b hm => hg m b (by rw [clVs]; exact List.mem_append_left _ hm)), backs_nm g r h.2 (fun m b hm => hg m b (by rw [clVs]; exact List.mem_append_right _ hm))]
end
def En (rest : List Nat) : Prop := ∀ c, rest[0]? = some c → c ∉ letL ∧ c ∉ figL
theorem En.nil : En [] := fun c h => by simp at h
theorem En.cons {c : Nat} {r : List Nat} (h : c ∉ letL ∧ c ∉ figL) : En (c :: r) := fun d e => by
  have : c = d := by simpa using e
  rw [← this]; exact h
theorem wr_sign {c : Nat} (h : c ∈ sgnL) (hn : c ∉ letL ∧ c ∉ figL) {t : List Nat} {ws : List (List Nat)} (w : Writ t ws) : Writ (c :: t) ([c] :: ws) :=
  .word (w := [c]) (.sign h) (fun a b ha _ => by
    have : c = a := by simpa using ha
    subst this
    exact ⟨fun z => absurd z.1 hn.1, fun z => absurd z.1 hn.2⟩) w
theorem wr_name {n : List Nat} (h : Nm n) {t : List Nat} {ws : List (List Nat)} (hs : ∀ c, t[0]? = some c → c ∉ letL) (w : Writ t ws) : Writ (n ++ t) (n :: ws) :=
  .word (.name h.ne h.len h.all) (fun a b ha hb => by
    have ha' : a ∈ n := List.mem_of_getLast? ha
    exact ⟨fun z => hs b hb z.2, fun z => let_fig a (h.all a ha') z.1⟩) w
theorem wr_num {m : Int} (h : m.natAbs < 10 ^ 60) {t : List Nat} {ws : List (List Nat)} (hs : En t) (w : Writ t ws) : Writ (sh m ++ t) (sh m :: ws) :=
  .word (sh_word h) (fun a b ha hb => by
    obtain ⟨a', ea, hf⟩ := sh_last m
    rw [ea] at ha
    obtain rfl := Option.some.inj ha
    exact ⟨fun z => fig_let _ hf z.1, fun z => (hs b hb).2 z.2⟩) w
theorem sh_nolet (m : Int) (t : List Nat) : ∀ c, (sh m ++ t)[0]? = some c → c ∉ letL := fun c hc => by
  obtain ⟨c0, r0, e0, h0⟩ := sh_head m
  rw [e0] at hc
  have : c0 = c := by simpa using hc
  subst this
  rcases h0 with h0 | h0
  · exact fig_let _ h0
  · rw [h0]; exact n45.2.1
theorem cons_nolet {d : Nat} (h : d ∉ letL) (t : List Nat) : ∀ c, (d :: t)[0]? = some c → c ∉ letL := fun c hc => by
  have : d = c := by simpa using hc
  rw [← this]; exact h
theorem wr_put {n : List Nat} (hn : Nm n) (k : Bool) {a : Int} (ha : a.natAbs < 10 ^ 60) {t : List Nat} {ws : List (List Nat)} (he : En t) (w : Writ t ws) : Writ (n ++ (kpS k ++ (shM a ++ t))) (n :: (kpW k ++ (mkW a ++ ws))) := by
  have h1 : Writ (shM a ++ t) (mkW a ++ ws) ∧ ∀ c, (shM a ++ t)[0]? = some c → c ∉ letL := by
    unfold shM mkW
    by_cases c : a = 0
    · rw [if_pos c, if_pos c]; exact ⟨w, fun c hc => (he c hc).1⟩
    · rw [if_neg c, if_neg c]; exact ⟨wr_num ha he w, sh_nolet a t⟩
  cases k with
  | true => exact wr_name hn (cons_nolet (by decide) _) (wr_sign (by decide) (by decide) h1.1)
  | false => exact wr_name hn h1.2 h1.1
theorem en_tl (ts : List (List Nat)) {rest : List Nat} (h : En rest) : En ((ts.flatMap fun y => [32] ++ y) ++ rest) := by
  cases ts with
  | nil => exact h
  | cons x r => rw [List.flatMap_cons]; exact En.cons n32
mutual
theorem wr_t : ∀ t : TV, gdV t → ∀ rest ws, Writ rest ws → En rest → Writ (shV t ++ rest) (wkV t ++ ws)
  | .node (.call m b) k bs, h, rest, ws, hw, he => by
    rw [gdV] at h
    obtain ⟨⟨i, hi, rfl⟩, hb, _, _⟩ := h
    rw [shV, wkV, mdS_int]
    have := wr_sign (c := 42) (by decide) (by decide) (wr_name (shMo_nm hi) (sh_nolet b rest) (wr_num hb he hw))
    simpa [List.append_assoc] using this
  | .node (.put n k a) _ bs, h, rest, ws, hw, he => by
    rw [gdV] at h
    obtain ⟨h1, h2, _, _, h4⟩ := h
    have hb : Writ (shB (shVs bs) ++ rest) (brG bs (wkVs bs) ++ ws) ∧ En (shB (shVs bs) ++ rest) := by
      cases bs with
      | nil => rw [shVs, wkVs]; exact ⟨hw, he⟩
      | cons t r =>
        rw [gdVs] at h4
        have e41 : En (41 :: rest) := En.cons (by decide)
        have c1 := wr_sign (c := 41) (by decide) (by decide) hw
        have c2 := wr_ts r h4.2 _ _ c1 e41
        have c3 := wr_t t h4.1 _ _ c2 (en_tl _ e41)
        have c4 := wr_sign (c := 40) (by decide) (by decide) c3
        rw [shVs, wkVs]
        refine ⟨by simpa [shB, brG, gl, List.append_assoc] using c4, En.cons (by decide)⟩
    have := wr_put h1 k h2 hb.2 hb.1
    rw [shV, wkV]
    simpa [List.append_assoc, codes] using this
theorem wr_ts : ∀ ts : List TV, gdVs ts → ∀ rest ws, Writ rest ws → En rest → Writ (((shVs ts).flatMap fun y => [32] ++ y) ++ rest) (wkVs ts ++ ws)
  | [], _, rest, ws, hw, _ => by rw [shVs, wkVs]; exact hw
  | t :: r, h, rest, ws, hw, he => by
    rw [gdVs] at h
    have c2 := wr_ts r h.2 _ _ hw he
    have c3 := wr_t t h.1 _ _ c2 (en_tl _ he)
    have c4 := Writ.blank c3
    rw [shVs, wkVs]
    simpa [List.append_assoc] using c4
end
end K14
namespace K14
open PySem L2 K3 TM K9
abbrev MdD := Str × List TV
def unMo : List Nat → Nat
  | [a] => a - 97
  | [a, b] => (a - 97) * 26 + (b - 97)
  | _ => 0
theorem unMo_sh (i : Nat) : unMo (shMo i) = i := by
  unfold shMo
  split
  · show 97 + i - 97 = i; omega
  · show (97 + i / 26 - 97) * 26 + (97 + i % 26 - 97) = i; omega
theorem shMo_inj {i j : Nat} (h : shMo i = shMo j) : i = j := by rw [← unMo_sh i, h, unMo_sh]
def ruM (ks : List KdT) (i : Nat) (m : MdD) : List RuN := ((rowsK ks m.1).zip m.2).map fun x => ⟨shMo i, codes m.1, codes x.1.2.1, nmV x.2⟩
def ruD (ks : List KdT) : Nat → List MdD → List RuN
  | _, [] => []
  | i, m :: r => ruM ks i m ++ ruD ks (i + 1) r
def wkM (mo kind : List Nat) (zs : List (PNx × TV)) : List (List Nat) := zs.flatMap fun x => [59] :: (mo :: kind :: codes x.1.2.1 :: [58] :: wkV x.2)
def wkD (ks : List KdT) : Nat → List MdD → List (List Nat)
  | _, [] => []
  | i, m :: r => wkM (shMo i) (codes m.1) ((rowsK ks m.1).zip m.2) ++ wkD ks (i + 1) r
structure GdM (ks : List KdT) (m : MdD) : Prop where
  ln : m.2.length = (rowsK ks m.1).length
  ne : rowsK ks m.1 ≠ []
  gd : ∀ t ∈ m.2, gdV t ∧ lv t ≤ 9
  nk : Nm (codes m.1)
  nr : ∀ r ∈ rowsK ks m.1, Nm (codes r.2.1)
theorem RwL.app {a b : List RuN} {u v : List (List Nat)} (h : RwL a u) (k : RwL b v) : RwL (a ++ b) (u ++ v) := by
  induction h with
  | nil => exact k
  | @cons x rs a' b' h1 h2 ih =>
    have := RwL.cons h1 ih
    simpa [List.append_assoc] using this
theorem rw_m {mo kind : List Nat} (hm : Nm mo) (hk : Nm kind) : ∀ zs : List (PNx × TV), (∀ x ∈ zs, Nm (codes x.1.2.1) ∧ gdV x.2 ∧ lv x.2 ≤ 9) → RwL (zs.map fun x => ⟨mo, kind, codes x.1.2.1, nmV x.2⟩) (wkM mo kind zs)
  | [], _ => .nil
  | x :: r, h => by
    obtain ⟨h1, h2, h3⟩ := h x List.mem_cons_self
    have := RwL.cons (TkR.mk (d := 9) hm hk h1 (tk_nm x.2 h2) (by rw [lvN_nm _ h2]; exact h3)) (rw_m hm hk r fun y hy => h y (List.mem_cons_of_mem _ hy))
    simpa [wkM, List.flatMap_cons] using this
theorem zip_ok {ks : List KdT} {m : MdD} (h : GdM ks m) : ∀ x ∈ (rowsK ks m.1).zip m.2, Nm (codes x.1.2.1) ∧ gdV x.2 ∧ lv x.2 ≤ 9 := fun x hx => by
  have := List.of_mem_zip (a := x.1) (b := x.2) hx
  exact ⟨h.nr _ this.1, h.gd _ this.2⟩
theorem rw_all (ks : List KdT) : ∀ (D : List MdD) (i : Nat), i + D.length ≤ 676 → (∀ m ∈ D, GdM ks m) → RwL (ruD ks i D) (wkD ks i D)
  | [], _, _, _ => .nil
  | m :: r, i, hi, h => by
    rw [List.length_cons] at hi
    have hg := h m List.mem_cons_self
    exact (rw_m (shMo_nm (by omega)) hg.nk _ (zip_ok hg)).app (rw_all ks r (i + 1) (by omega) fun x hx => h x (List.mem_cons_of_mem _ hx))
theorem en59 (xs : List (List Nat)) {rest : List Nat} (h : En rest) : En ((xs.flatMap fun y => [59, 32] ++ y) ++ rest) := by
  cases xs with
  | nil => exact h
  | cons x r => rw [List.flatMap_cons]; exact En.cons (by decide)
theorem wr_m {mo kind : List Nat} (hm : Nm mo) (hk : Nm kind) {rest : List Nat} {ws : List (List Nat)} (hw : Writ rest ws) (he : En rest) : ∀ zs : List (PNx × TV), (∀ x ∈ zs, Nm (codes x.1.2.1) ∧ gdV x.2 ∧ lv x.2 ≤ 9) → Writ (((zs.map fun x => ruS mo kind (codes x.1.2.1) x.2).flatMap fun y => [59, 32] ++ y) ++ rest) (wkM mo kind zs ++ ws)
  | [], _ => hw
  | x :: r, h => by
    obtain ⟨h1, h2, h3⟩ := h x List.mem_cons_self
    have c1 := wr_m hm hk hw he r fun y hy => h y (List.mem_cons_of_mem _ hy)
    have c2 := wr_t x.2 h2 _ _ c1 (en59 _ he)
    have c3 := wr_name h1 (cons_nolet n32.1 _) (Writ.blank (wr_sign (c := 58) (by decide) (by decide) (Writ.blank c2)))
    have c4 := wr_name hk (cons_nolet n32.1 _) (Writ.blank c3)
    have c5 := wr_name hm (cons_nolet n32.1 _) (Writ.blank c4)
    have c6 := wr_sign (c := 59) (by decide) (by decide) (Writ.blank c5)
    simpa [wkM, ruS, List.flatMap_cons, List.append_assoc] using c6
theorem wr_all (ks : List KdT) {rest : List Nat} {ws : List (List Nat)} (hw : Writ rest ws) (he : En rest) : ∀ (D : List MdD) (i : Nat), i + D.length ≤ 676 → (∀ m ∈ D, GdM ks m) → Writ (((tuR ks i D).flatMap fun y => [59, 32] ++ y) ++ rest) (wkD ks i D ++ ws)
  | [], _, _, _ => hw
  | m :: r, i, hi, h => by
    rw [List.length_cons] at hi
    have hg := h m List.mem_cons_self
    have c1 := wr_all ks hw he r (i + 1) (by omega) fun x hx => h x (List.mem_cons_of_mem _ hx)
    have c2 := wr_m (shMo_nm (show i < 676 by omega)) hg.nk c1 (en59 _ he) _ (zip_ok hg)
    rw [tuR, wkD, List.flatMap_append, List.append_assoc, List.append_assoc]
    exact c2
theorem wr_tu (ks : List KdT) (st : TV) (D : List MdD) (hs : gdV st) (hD : D.length ≤ 676) (h : ∀ m ∈ D, GdM ks m) : Writ (tuS ks st D) (wkV st ++ wkD ks 0 D) := by
  have c1 := wr_all ks .nil En.nil D 0 (by omega) h
  have c2 := wr_t st hs _ _ c1 (en59 _ En.nil)
  unfold tuS gl
  simpa using c2
theorem om_app (rs l : List RuN) : omR (rs ++ l) = l.foldl (fun ms x => addM ms x.m) (omR rs) := by unfold omR; rw [List.foldl_append]
theorem om_one {mo : List Nat} : ∀ (l : List RuN) (ms : List (List Nat)), (∀ x ∈ l, x.m = mo) → l ≠ [] → l.foldl (fun ms x => addM ms x.m) ms = addM ms mo
  | [], _, _, h => absurd rfl h
  | [x], ms, h, _ => by rw [List.foldl_cons, List.foldl_nil, h x List.mem_cons_self]
  | x :: y :: r, ms, h, _ => by
    rw [List.foldl_cons, om_one (y :: r) _ (fun z hz => h z (List.mem_cons_of_mem _ hz)) (by simp), h x List.mem_cons_self]
    unfold addM
    split
    · rfl
    · rw [if_pos (List.mem_append_right _ List.mem_cons_self)]
theorem ruD_snoc (ks : List KdT) (m : MdD) : ∀ (D : List MdD) (i : Nat), ruD ks i (D ++ [m]) = ruD ks i D ++ ruM ks (i + D.length) m
  | [], i => by simp [ruD]
  | x :: r, i => by
    rw [List.cons_append, ruD, ruD, ruD_snoc ks m r (i + 1), List.append_assoc, List.length_cons]
    congr 3; omega
theorem ruM_m {ks : List KdT} {i : Nat} {m : MdD} {x : RuN} (h : x ∈ ruM ks i m) : x.m = shMo i ∧ x.k = codes m.1 ∧ ∃ (r : PNx) (t : TV), r ∈ rowsK ks m.1 ∧ t ∈ m.2 ∧ x.n = codes r.2.1 ∧ x.t = nmV t := by
  obtain ⟨y, hy, rfl⟩ := List.mem_map.mp h
  have := List.of_mem_zip (a := y.1) (b := y.2) hy
  exact ⟨rfl, rfl, y.1, y.2, this.1, this.2, rfl, rfl⟩
theorem ruM_len {ks : List KdT} {i : Nat} {m : MdD} (h : GdM ks m) : (ruM ks i m).length = (rowsK ks m.1).length := by
  unfold ruM; rw [List.length_map, List.length_zip, h.ln, Nat.min_self]
theorem om_all {ks : List KdT} (D : List MdD) (h : ∀ m ∈ D, GdM ks m) : omR (ruD ks 0 D) = (List.range D.length).map shMo := by
  revert h
  refine rev_ind (p := fun D => (∀ m ∈ D, GdM ks m) → omR (ruD ks 0 D) = (List.range D.length).map shMo) (fun _ => rfl) (fun D m ih h => ?_) D
  have hg := h m (List.mem_append_right _ List.mem_cons_self)
  rw [ruD_snoc, om_app, ih fun x hx => h x (List.mem_append_left _ hx), Nat.zero_add]
  rw [om_one (mo := shMo D.length) _ _ (fun x hx => (ruM_m hx).1) (fun z => hg.ne (List.length_eq_zero_iff.mp (by rw [← ruM_len (i := D.length) hg, z]; rfl)))]
  unfold addM
  rw [if_neg fun z => ?_]
  · rw [List.length_append, List.length_singleton, List.range_succ, List.map_append]; rfl
  · obtain ⟨j, hj, e⟩ := List.mem_map.mp z
    have := shMo_inj e
    rw [List.mem_range] at hj; omega
theorem rsR_app (a b : List RuN) (m : List Nat) : rsR (a ++ b) m = rsR a m ++ rsR b m := List.filter_append ..
theorem rsR_one (ks : List KdT) (i : Nat) (m : MdD) : rsR (ruM ks i m) (shMo i) = ruM ks i m := List.filter_eq_self.mpr fun x hx => decide_eq_true (ruM_m hx).1
theorem rsR_no {ks : List KdT} {i j : Nat} (hne : i ≠ j) (m : MdD) : rsR (ruM ks i m) (shMo j) = [] := List.filter_eq_nil_iff.mpr fun x hx z => hne (shMo_inj ((ruM_m hx).1.symm.trans (of_decide_eq_true z)))
theorem rs_low {ks : List KdT} : ∀ (D : List MdD) (i j : Nat), j < i → rsR (ruD ks i D) (shMo j) = []
  | [], _, _, _ => rfl
  | m :: r, i, j, h => by rw [ruD, rsR_app, rsR_no (by omega), rs_low r (i + 1) j (by omega)]; rfl
theorem rs_all {ks : List KdT} : ∀ (D : List MdD) (i j : Nat) (m : MdD), D[j]? = some m → rsR (ruD ks i D) (shMo (i + j)) = ruM ks (i + j) m
  | [], _, _, _, h => by simp at h
  | x :: r, i, 0, m, h => by
    have : x = m := by simpa using h
    subst this
    rw [ruD, rsR_app, Nat.add_zero, rsR_one, rs_low r (i + 1) i (by omega), List.append_nil]
  | x :: r, i, j + 1, m, h => by
    have h' : r[j]? = some m := by simpa using h
    rw [ruD, rsR_app, rsR_no (by omega), List.nil_append, show i + (j + 1) = i + 1 + j by omega]
    exact rs_all r (i + 1) j m h'
structure GdT (ks : List KdT) (k0 : Str) (st : TV) (D : List MdD) : Prop where
  sg : gdV st
  stl : lv st ≤ 9
  kp : kpV st = false
  n : D.length ≤ 200
  md : ∀ m ∈ D, GdM ks m
  n40 : (ruD ks 0 D).length ≤ 40
  n120 : sz st + szR (ruD ks 0 D) ≤ 120
  fit : ∀ m ∈ D, RuFit ks (D.map fun m => m.1) m.1 m.2
  fst : FitV (D.map fun m => m.1) [k0] st
def kdD (D : List MdD) (x : List Nat) : List Nat := codes ((D[unMo x]?.map fun m => m.1).getD (S []))
theorem kd_at {D : List MdD} {i : Nat} {m : MdD} (h : D[i]? = some m) : kdD D (shMo i) = codes m.1 := by unfold kdD; rw [unMo_sh, h]; rfl
section
variable {ks : List KdT} {k0 : Str} {st : TV} {D : List MdD}
theorem om_nd (h : GdT ks k0 st D) : ((List.range D.length).map shMo).Nodup := List.pairwise_map.mpr (List.nodup_range.imp fun hne e => hne (shMo_inj e))
theorem nix_sh (h : GdT ks k0 st D) {i : Nat} (hi : i < D.length) : nixV ((List.range D.length).map shMo) (.str (S (shMo i))) = .int (i : Int) := by
  have hl : i < ((List.range D.length).map shMo).length := by rw [List.length_map, List.length_range]; exact hi
  have e : ((List.range D.length).map shMo)[i] = shMo i := by rw [List.getElem_map, List.getElem_range]
  show V.int ((nixS _ (S (shMo i)) : Nat) : Int) = _
  rw [← e, nix_at (om_nd h) hl]
theorem fit_cl (h : GdT ks k0 st D) {t : TV} {k : List Str} (hf : FitV (D.map fun m => m.1) k t) : (∀ m b, (m, b) ∈ clV t → nixV ((List.range D.length).map shMo) (.str (S (mdS m))) = m) ∧ InM ((List.range D.length).map shMo) (vN (nmV t)) := by
  refine ⟨fun m b hm => ?_, fun m b hm => ?_⟩
  · obtain ⟨i, j, rfl, _, hi, _⟩ := hf m b hm
    rw [List.length_map] at hi
    rw [mdS_int]; exact nix_sh h hi
  · rw [cl_nm] at hm
    obtain ⟨c, hc, e⟩ := List.mem_map.mp hm
    obtain ⟨i, j, ei, _, hi, _⟩ := hf c.1 c.2 hc
    rw [List.length_map] at hi
    refine ⟨shMo i, List.mem_map_of_mem (List.mem_range.mpr hi), ?_⟩
    have e1 : V.str (S (mdS c.1)) = m := congrArg Prod.fst e
    rw [← e1, ei, mdS_int]
theorem ruD_mem : ∀ (D : List MdD) (i : Nat) {x : RuN}, x ∈ ruD ks i D → ∃ (j : Nat) (m : MdD), D[j]? = some m ∧ x ∈ ruM ks (i + j) m
  | [], _, x, h => by rw [ruD] at h; cases h
  | m :: r, i, x, h => by
    rw [ruD] at h
    rcases List.mem_append.mp h with h | h
    · exact ⟨0, m, rfl, h⟩
    · obtain ⟨j, m', e, h'⟩ := ruD_mem r (i + 1) h
      exact ⟨j + 1, m', by simpa using e, by rw [show i + (j + 1) = i + 1 + j by omega]; exact h'⟩
theorem ruM_nd (hO : WoodOk ks) {i : Nat} {m : MdD} (h : GdM ks m) : ((ruM ks i m).map fun r => S r.n).Nodup := by
  have e : ((ruM ks i m).map fun r => S r.n) = (rowsK ks m.1).map fun t => t.2.1 := by
    unfold ruM
    rw [List.map_map]
    refine List.ext_getElem (by rw [List.length_map, List.length_map, List.length_zip, h.ln, Nat.min_self]) fun i h1 h2 => ?_
    rw [List.getElem_map, List.getElem_map, List.getElem_zip]
    exact S_codes _
  rw [e]; exact (rowsK_ok hO m.1).nd
theorem ruM_at {i : Nat} {m : MdD} (h : GdM ks m) {j : Nat} (h1 : j < (rowsK ks m.1).length) (h2 : j < m.2.length) : ∃ hj : j < (ruM ks i m).length, (ruM ks i m)[j] = ⟨shMo i, codes m.1, codes (rowsK ks m.1)[j].2.1, nmV m.2[j]⟩ := by
  refine ⟨by rw [ruM_len h]; exact h1, ?_⟩
  unfold ruM
  rw [List.getElem_map, List.getElem_zip]
theorem sz_szs : ∀ {rs : List RuN} {x : RuN}, x ∈ rs → sz (vN x.t) ≤ szR rs
  | y :: r, x, h => by
    unfold szR
    rw [List.map_cons, List.sum_cons]
    rcases List.mem_cons.mp h with rfl | h
    · omega
    · have := sz_szs h
      unfold szR at this; omega
theorem tms_all (hO : WoodOk ks) (h : GdT ks k0 st D) {i : Nat} {m : MdD} (e : D[i]? = some m) : tmsR ks (ruD ks 0 D) (kdD D) (shMo i) = m.2 := by
  have hg := h.md m (List.mem_of_getElem? e)
  have hf := h.fit m (List.mem_of_getElem? e)
  unfold tmsR
  rw [kd_at e, S_codes, om_all D h.md]
  have ers := rs_all (ks := ks) D 0 i m e
  rw [Nat.zero_add] at ers
  rw [ers]
  refine List.ext_getElem (by rw [List.length_map, hg.ln]) fun j h1 h2 => ?_
  rw [List.length_map] at h1
  rw [List.getElem_map]
  obtain ⟨hj, ej⟩ := ruM_at (i := i) hg h1 h2
  have er : ruT (ruM ks i m) (rowsK ks m.1)[j].2.1 = vN (nmV m.2[j]) := by
    unfold ruT
    have e1 : S (ruM ks i m)[j].n = (rowsK ks m.1)[j].2.1 := by rw [ej]; exact S_codes _
    rw [← e1, find_nd (fun r : RuN => S r.n) (ruM ks i m) (ruM_nd hO hg) j hj, ej]; rfl
  rw [er]
  exact back_nm _ _ (hg.gd _ (List.getElem_mem h2)).1 (fit_cl h (hf.fit j h1 h2)).1
theorem st_back (h : GdT ks k0 st D) : mpV (nixV (omR (ruD ks 0 D))) (vN (nmV st)) = st := by
  rw [om_all D h.md]
  exact back_nm _ _ h.sg (fit_cl h h.fst).1
theorem kinds_all (h : GdT ks k0 st D) : ((omR (ruD ks 0 D)).map fun m => S (kdD D m)) = D.map fun m => m.1 := by
  rw [om_all D h.md, List.map_map]
  refine List.ext_getElem (by simp) fun i h1 h2 => ?_
  rw [List.length_map] at h2
  rw [List.getElem_map, List.getElem_map, List.getElem_range]
  show S (kdD D (shMo i)) = _
  rw [kd_at (List.getElem?_eq_getElem h2), S_codes]
theorem tu_all (hO : WoodOk ks) (h : GdT ks k0 st D) : TuR ks k0 (ruD ks 0 D) (vN (nmV st)) (kdD D) ∧ (omR (ruD ks 0 D)).map (fun m => (S (kdD D m), tmsR ks (ruD ks 0 D) (kdD D) m)) = D := by
  have hom := om_all D h.md
  have hmm : ∀ x ∈ omR (ruD ks 0 D), ∃ (i : Nat) (m : MdD), x = shMo i ∧ D[i]? = some m := fun x hx => by
    rw [hom] at hx
    obtain ⟨i, hi, rfl⟩ := List.mem_map.mp hx
    exact ⟨i, _, rfl, List.getElem?_eq_getElem (List.mem_range.mp hi)⟩
  have n120 := h.n120
  refine ⟨⟨fun x hx => ?_, fun x hx => ?_, ?_, ?_, ?_, h.n40, ?_, fun x hx => ?_, ?_⟩, ?_⟩
  · obtain ⟨i, m, rfl, e⟩ := hmm x hx
    have hg := h.md m (List.mem_of_getElem? e)
    have ers := rs_all (ks := ks) D 0 i m e
    rw [Nat.zero_add] at ers
    rw [ers, kd_at e]
    have h10 := (rowsK_ok hO m.1).len
    refine ⟨fun r hr => (ruM_m hr).2.1, fun r hr => ?_, ruM_nd hO hg, by rw [S_codes, ruM_len hg]; exact Nat.le_refl _, by rw [ruM_len hg]; omega⟩
    obtain ⟨_, _, rw, t, h1, h2, h3, _⟩ := ruM_m hr
    rw [S_codes, h3, S_codes]
    unfold rowK
    intro z
    rw [Option.map_eq_none_iff, List.find?_eq_none] at z
    exact z rw h1 (decide_eq_true rfl)
  · obtain ⟨j, m, e, hx'⟩ := ruD_mem D 0 hx
    obtain ⟨_, _, r, t, h1, h2, h3, h4⟩ := ruM_m hx'
    have hm := List.mem_of_getElem? e
    have hg := (h.md m hm).gd t h2
    have hs := sz_szs hx
    rw [h4] at hs ⊢
    obtain ⟨k, hk, rfl⟩ := List.mem_iff_getElem.mp h2
    have hkr : k < (rowsK ks m.1).length := by rw [← (h.md m hm).ln]; exact hk
    rw [hom]
    exact ⟨by rw [lv_nm _ hg.1]; exact hg.2, by omega, (fit_cl h ((h.fit m hm).fit k hkr hk)).2⟩
  · rw [hom]
    exact ⟨by rw [lv_nm _ h.sg]; exact h.stl, by rw [sz_nm _ h.sg]; omega, (fit_cl h h.fst).2⟩
  · rw [st_back h]; exact ⟨h.stl, by omega⟩
  · rw [st_back h]; exact h.kp
  · rw [sz_nm _ h.sg]; exact n120
  · obtain ⟨i, m, rfl, e⟩ := hmm x hx
    rw [kinds_all h, tms_all hO h e, kd_at e, S_codes]
    exact h.fit m (List.mem_of_getElem? e)
  · rw [kinds_all h, st_back h]; exact h.fst
  · rw [hom, List.map_map]
    refine List.ext_getElem (by simp) fun i h1 h2 => ?_
    rw [List.getElem_map, List.getElem_range]
    show (S (kdD D (shMo i)), tmsR ks (ruD ks 0 D) (kdD D) (shMo i)) = _
    rw [tms_all hO h (List.getElem?_eq_getElem h2), kd_at (List.getElem?_eq_getElem h2), S_codes]
end
end K14
namespace K14
open PySem L2 K3 TM K9
def vd : V → PyData
  | .int i => .int i
  | _ => .none
mutual
def tvd : TV → PyData
  | .node (.call m b) _ _ => .tuple [.str CALL, vd m, .int b]
  | .node (.put n k a) _ bs => .tuple [.str PUT, .str n, .bool k, .int a, .tuple (tvds bs)]
def tvds : List TV → List PyData
  | [] => []
  | t :: r => tvd t :: tvds r
end
mutual
theorem tv_rd {K : PySem.W.Frag} {H : Hp} : ∀ {v : V} {t : TV}, TvV K H v t → gdV t → RdV K H v (tvd t)
  | _, _, .call h, hg => by
    rw [gdV] at hg
    obtain ⟨⟨i, _, rfl⟩, _⟩ := hg
    rw [tvd]
    exact .tup h (.cons (.str _) (.cons (.int _) (.cons (.int _) .nil)))
  | _, _, .put h1 h2 h3 h4, hg => by
    rw [gdV] at hg
    rw [tvd]
    exact .tup h1 (.cons (.str _) (.cons (.str _) (.cons (.bl _) (.cons (.int _) (.cons (.tup h2 (tvs_rd h3 hg.2.2.2.2)) .nil)))))
theorem tvs_rd {K : PySem.W.Frag} {H : Hp} : ∀ {vs : List V} {ts : List TV}, TvAll K H vs ts → gdVs ts → RdAll K H vs (tvds ts)
  | _, _, .nil, _ => by rw [tvds]; exact .nil
  | _, _, .cons h r, hg => by
    rw [gdVs] at hg
    rw [tvds]; exact .cons (tv_rd h hg.1) (tvs_rd r hg.2)
end
theorem let_low : ∀ c ∈ letL, c < 128 := by decide
theorem ok_low {u : List Nat} (h : ∀ c ∈ u, c < 128) : PyData.strOk (S u) = true := by
  unfold PyData.strOk
  rw [Array.all_eq_true_iff_forall_mem]
  intro c hc
  have : c ∈ u := by simpa [S] using hc
  have := h c this
  simp; omega
theorem str_codes {x : Str} (h : Nm (codes x)) : PyData.strOk x = true := by
  rw [← S_codes x]; exact ok_low fun c hc => let_low c (h.all c hc)
theorem okCALL : PyData.strOk CALL = true := by decide +kernel
theorem okPUT : PyData.strOk PUT = true := by decide +kernel
mutual
theorem tv_lay : ∀ t : TV, gdV t → (tvd t).canLay0 = true ∧ (tvd t).depth ≤ 2 * lv t
  | .node (.call m b) _ bs, h => by
    rw [gdV] at h
    obtain ⟨⟨i, _, rfl⟩, _, _, rfl⟩ := h
    rw [tvd, lv, lvs]
    simp only [vd, PyData.canLay0, PyData.canLayAll0, PyData.depth, PyData.depthAll, okCALL, Bool.and_self, true_and]
    omega
  | .node (.put n k a) _ bs, h => by
    rw [gdV] at h
    obtain ⟨h1, _, _, _, h4⟩ := h
    obtain ⟨k1, k2⟩ := tvs_lay bs h4
    rw [tvd, lv]
    simp only [PyData.canLay0, PyData.canLayAll0, PyData.depth, PyData.depthAll, okPUT, str_codes h1, k1, Bool.and_self, true_and]
    omega
theorem tvs_lay : ∀ ts : List TV, gdVs ts → PyData.canLayAll0 (tvds ts) = true ∧ PyData.depthAll (tvds ts) ≤ 2 * lvs ts
  | [], _ => by rw [tvds, lvs]; simp [PyData.canLayAll0, PyData.depthAll]
  | t :: r, h => by
    rw [gdVs] at h
    obtain ⟨k1, k2⟩ := tv_lay t h.1
    obtain ⟨k3, k4⟩ := tvs_lay r h.2
    rw [tvds, lvs]
    simp only [PyData.canLayAll0, PyData.depthAll, k1, k3, Bool.and_self, true_and]
    omega
end
theorem gdVs_of : ∀ ts : List TV, (∀ t ∈ ts, gdV t) → gdVs ts
  | [], _ => by rw [gdVs]; trivial
  | t :: r, h => by rw [gdVs]; exact ⟨h t List.mem_cons_self, gdVs_of r fun u hu => h u (List.mem_cons_of_mem _ hu)⟩
theorem lvs_of {ts : List TV} {n : Nat} (h : ∀ t ∈ ts, lv t ≤ n) : lvs ts ≤ n := by
  induction ts with
  | nil => rw [lvs]; omega
  | cons t r ih =>
    rw [lvs]
    have := h t List.mem_cons_self
    have := ih fun u hu => h u (List.mem_cons_of_mem _ hu)
    omega
theorem lay_map {α : Type} (f : α → PyData) (n : Nat) : ∀ l : List α, (∀ x ∈ l, (f x).canLay0 = true ∧ (f x).depth ≤ n) → PyData.canLayAll0 (l.map f) = true ∧ PyData.depthAll (l.map f) ≤ n
  | [], _ => by simp [PyData.canLayAll0, PyData.depthAll]
  | x :: r, h => by
    obtain ⟨k1, k2⟩ := h x List.mem_cons_self
    obtain ⟨k3, k4⟩ := lay_map f n r fun y hy => h y (List.mem_cons_of_mem _ hy)
    simp only [List.map_cons, PyData.canLayAll0, PyData.depthAll, k1, k3, Bool.and_self, true_and]
    omega
theorem rd_map {K : PySem.W.Frag} {H : Hp} {α : Type} (v : α → V) (f : α → PyData) : ∀ l : List α, (∀ x ∈ l, RdV K H (v x) (f x)) → RdAll K H (l.map v) (l.map f)
  | [], _ => .nil
  | x :: r, h => .cons (h x List.mem_cons_self) (rd_map v f r fun y hy => h y (List.mem_cons_of_mem _ hy))
def rwD (t : PNx) : PyData := .tuple [.str t.2.1, .tuple (t.2.2.2.map PyData.str)]
def wkd (k : Str × List PNx) : PyData := .tuple [.str k.1, .list (k.2.map rwD)]
def wdD (d : List (Str × List PNx)) : PyData := .list (d.map wkd)
theorem rw_rd {K : PySem.W.Frag} {H : Hp} {t : PNx} (h : RowAt K H t) : RdV K H (.ref t.1) (rwD t) := .tup h.1 (.cons (.str _) (.cons (.tup h.2 (rd_map V.str PyData.str _ fun x _ => .str x)) .nil))
theorem wd_rd {K : PySem.W.Frag} {H : Hp} {w : Addr} {ks : List KdT} (h : WoodAt K H w ks) : RdV K H (.ref w) (wdD (dW ks)) := by
  unfold wdD dW
  rw [List.map_map]
  refine .lst h.1 (rd_map (fun k : KdT => V.ref k.1) (wkd ∘ fun k : KdT => (k.2.1, k.2.2.2)) ks fun k hk => ?_)
  exact .tup (h.2 k hk).1 (.cons (.str _) (.cons (.lst (h.2 k hk).2.1 (rd_map _ rwD _ fun t ht => rw_rd ((h.2 k hk).2.2 t ht))) .nil))
theorem wd_lay {ks : List KdT} (hO : WoodOk ks) (hk : ∀ k ∈ ks, PyData.strOk k.2.1 = true) : (wdD (dW ks)).canLay0 = true ∧ (wdD (dW ks)).depth ≤ 8 := by
  have h := lay_map (wkd ∘ fun k : KdT => (k.2.1, k.2.2.2)) 6 ks fun k hk' => by
    have h2 := lay_map rwD 3 k.2.2.2 fun t ht => by
      have h3 := lay_map PyData.str 0 t.2.2.2 fun x hx => ⟨by simp only [PyData.canLay0]; exact (hO.rows k hk').kn t ht x hx, by simp [PyData.depth]⟩
      simp only [rwD, PyData.canLay0, PyData.canLayAll0, PyData.depth, PyData.depthAll, (hO.rows k hk').nm t ht, h3.1, Bool.and_self, true_and]
      omega
    simp only [Function.comp, wkd, PyData.canLay0, PyData.canLayAll0, PyData.depth, PyData.depthAll, hk k hk', h2.1, Bool.and_self, true_and]
    omega
  unfold wdD dW
  rw [List.map_map]
  simp only [PyData.canLay0, PyData.depth, h.1, true_and]
  omega
def mdd (m : MdD) : PyData := .tuple [.str m.1, .list (tvds m.2)]
theorem md_rd {K : PySem.W.Frag} {H : Hp} {lm : Addr} {ms : List MvT} (h : ModesV K H lm ms) (hg : ∀ m ∈ dM ms, ∀ t ∈ m.2, gdV t) : RdV K H (.ref lm) (.list ((dM ms).map mdd)) := by
  unfold dM
  rw [List.map_map]
  refine .lst h.1 (rd_map (fun m : MvT => V.ref m.1) _ ms fun m hm => ?_)
  obtain ⟨h1, h2, h3⟩ := h.2 m hm
  exact .tup h1 (.cons (.str _) (.cons (.lst h2 (tvs_rd h3 (gdVs_of _ (hg _ (List.mem_map_of_mem (f := fun m : MvT => (m.2.1, m.2.2.2.2)) hm))))) .nil))
def tuD (ks : List KdT) (st : TV) (D : List MdD) : PyData := .tuple [wdD (dW ks), tvd st, .list (D.map mdd)]
theorem tu_lay {ks : List KdT} {st : TV} {D : List MdD} (hO : WoodOk ks) (hk : ∀ k ∈ ks, PyData.strOk k.2.1 = true) (hs : gdV st) (hl : lv st ≤ 9) (hD : ∀ m ∈ D, GdM ks m) : (tuD ks st D).canLay0 = true ∧ (tuD ks st D).depth ≤ 40 := by
  obtain ⟨a1, a2⟩ := wd_lay hO hk
  obtain ⟨b1, b2⟩ := tv_lay st hs
  have h := lay_map mdd 22 D fun m hm => by
    obtain ⟨c1, c2⟩ := tvs_lay m.2 (gdVs_of _ fun t ht => ((hD m hm).gd t ht).1)
    have c3 : lvs m.2 ≤ 9 := lvs_of fun t ht => ((hD m hm).gd t ht).2
    simp only [mdd, PyData.canLay0, PyData.canLayAll0, PyData.depth, PyData.depthAll, str_codes (hD m hm).nk, c1, Bool.and_self, true_and]
    omega
  unfold tuD
  simp only [PyData.canLay0, PyData.canLayAll0, PyData.depth, PyData.depthAll, a1, b1, h.1, Bool.and_self, true_and]
  omega
end K14
namespace L2
open PySem PySem.Spec PyProof.Rows
section
variable {prog : Program} {w : World} {A : Around} {E : Value → Shared → Prop} {s : Shared}
end
section
variable {X : Cx} {e : Expr} {te : TE} {p pos p2 pos2 : Pos}
end
end L2
namespace L2
open PySem PySem.Spec PyProof.Rows
section
variable {X : Cx}
theorem foldl_txt (z : List Nat) : ∀ (k : Nat) (acc : List Nat), List.foldl (fun x1 x2 => x1 ++ x2) acc.toArray (List.replicate k (S z).cps) = (acc ++ (List.replicate k z).flatten).toArray
  | 0, acc => by simp
  | k + 1, acc => by
    have e : acc.toArray ++ (S z).cps = (acc ++ z).toArray := by simp [S]
    rw [List.replicate_succ, List.foldl_cons, e, foldl_txt z k (acc ++ z), List.replicate_succ]
    simp
theorem op_mul_txt : OpR X (binaryOp .Mult) (fun x y H Q => ∃ (z : List Nat) (n : Nat), x = .str (S z) ∧ y = .int (n : Int) ∧ z ≠ [] ∧ z.length ≤ 100 ∧ n ≤ 1000 ∧ Q (.str (S (List.replicate n z).flatten)) H) := by
  intro pins s σ H x y v u Q I rx ry h
  obtain ⟨z, n, rfl, rfl, hz, h1, h2, q⟩ := h
  obtain ⟨t, rfl⟩ := rx
  obtain ⟨t', rfl⟩ := ry
  have hl : (S z).length = z.length := S_len _
  have hzl := List.length_pos_iff.mpr hz
  have hmul : z.length * n ≤ 100 * 1000 := Nat.mul_le_mul h1 h2
  refine P.mul_str ?_ (fun _ _ => ?_) (fun _ _ => ?_) ?_
  · rw [decide_eq_false (by omega), decide_eq_false (by omega)]; rfl
  · rename_i hp _
    rw [hl]
    have hn1 : (1 : Int) ≤ (n : Int) := by omega
    have : (z.length : Int) ≤ (2 ^ 63 - 1) / (n : Int) := (Int.le_ediv_iff_mul_le (by omega)).mpr (by
      have : (z.length : Int) * (n : Int) = ((z.length * n : Nat) : Int) := by simp
      rw [this]; omega)
    omega
  · rw [hl]
    unfold Builtin.Str.tooLong
    simp only [decide_eq_false_iff_not]
    rw [sizeLine_eq]
    show ¬ z.length * ((n : Int)).toNat > _
    rw [Int.toNat_natCast]
    omega
  · by_cases h0 : n = 0
    · subst h0
      rw [if_pos (by decide)]
      exact ⟨by decide, .str (S []), H, I.tok _, ⟨_, rfl⟩, q⟩
    · rw [if_neg (by omega)]
      by_cases hn : n = 1
      · subst hn
        rw [if_pos (by simp)]
        refine ⟨.str (S z), H, I, ⟨_, rfl⟩, ?_⟩
        simpa using q
      · rw [if_neg (by rw [hl]; simp [hz]; omega)]
        have e := foldl_txt z n []
        rw [List.nil_append] at e
        refine ⟨?_, .str _, H, I.tok _, ⟨_, rfl⟩, ?_⟩
        · rw [Int.toNat_natCast, e]; show ((List.replicate n z).flatten).toArray.size ≤ _
          rw [List.size_toArray, len_rep, sizeLine_eq, Nat.mul_comm]; omega
        · rw [Int.toNat_natCast, e]; exact q
end
end L2
namespace K14
open PySem L2 K3 TM K9
def spCell (K : PySem.W.Frag) : Sp := fun vs H Q _ => ∃ (a : Addr) (ns : List Int) (k : Nat), vs = [.ref a, .int k] ∧ SqL K H a (ns.map V.int) ∧ ∀ c : Int, Q (.int c) H
def spMark : Sp := fun vs H Q _ => ∃ (k : Bool) (a : Int), vs = [.bl k, .int a] ∧ a.natAbs < 10 ^ 60 ∧ Q (.str (S (kpS k ++ shM a))) H
section
variable {P : Program} {w : World} {K : PySem.W.Frag} {mg : Str → Option Value} {base : Heap} {f : Addr} {fd : FuncData}
theorem scCell : FnScope ["_law_script", "_law_k"] ["_law_script", "_law_k"] (defScope sCell) := ⟨rfl, rfl, rfl, by decide +kernel, rfl, by decide +kernel, by decide +kernel⟩
theorem ok_cell (F : Fun K "_law_cell_at" "_law_cell_at" sCell f fd) (G : Gm mg) : FnOk P w K mg base CX0 1 f fd ["_law_script", "_law_k"] (spCell K) := by
  refine F.ok scCell (fun vs H Q E h => ?_) (fun cdv A outer s H vs Q E hr h => ?_)
  · obtain ⟨a, ns, k, rfl, _⟩ := h
    rfl
  obtain ⟨a, ns, k, rfl, hS, q⟩ := h
  refine ⟨_, pss_cons (ps_if (pt_cmpR op_lt (pv 1) (pe_callB call_len_seq rfl G.len PySem.boot_len (pa_cons (pv 0) pa_nil)) (nomark _)) (pss_one (ps_ret (pe_ix ix_list (pv 0) (pv 1) (fun _ _ => rfl)))) pss_nil)
    (pss_one (ps_ret pe_int)), ?_⟩
  refine ⟨_, rfl, _, rfl, a, _, rfl, .inl hS, _, _, rfl, rfl, _, rfl, ite2 (fun c => ?_) (fun c => ?_)⟩
  · have c' : (k : Int) < (((ns.map V.int).length : Nat) : Int) := of_decide_eq_true c
    rw [List.length_map] at c'
    have hk : k < ns.length := by omega
    exact ⟨_, rfl, _, rfl, a, _, k, .int ns[k], rfl, rfl, hS, atI_nat (by rw [List.getElem?_map, List.getElem?_eq_getElem hk]; rfl), q _⟩
  · exact q 0
theorem scMode : FnScope ["_law_number", "_law_letters"] ["_law_number"] (defScope sMode) := ⟨rfl, rfl, rfl, by decide +kernel, rfl, by decide +kernel, by decide +kernel⟩
theorem ok_mode (F : Fun K "_law_mode" "_law_mode" sMode f fd) : FnOk P w K mg base CX0 1 f fd ["_law_number"] spShMo := by
  refine F.ok scMode (fun vs H Q E h => ?_) (fun cdv A outer s H vs Q E hr h => ?_)
  · obtain ⟨n, rfl, _⟩ := h
    rfl
  obtain ⟨n, rfl, hn, q⟩ := h
  refine ⟨_, (pss_cons (ps_set (i := 1) scMode.nd rfl (Or.inl rfl) pe_str)
    (pss_cons (ps_if (pt_cmpR op_lt (pv 0) pe_int (nomark _)) (pss_one (ps_ret (pe_ix ix_str (pv 1) (pv 0) (fun _ _ => rfl)))) pss_nil)
    (pss_one (ps_ret (pe_op op_add_str (pe_ix ix_str (pv 1) (pe_op op_fdiv (pv 0) pe_int) (fun _ _ => rfl)) (pe_ix ix_str (pv 1) (pe_op op_mod (pv 0) pe_int) (fun _ _ => rfl))))))), ?_⟩
  have hll : LETS.length = 26 := by decide +kernel
  have hat : ∀ k : Nat, k < 26 → atI LETS.cps.toList (k : Int) = some (97 + k) := fun k hk => by rw [let_eq]; exact atS (let_at k hk)
  have hS : ∀ c : Nat, (⟨#[c]⟩ : Str) = S [c] := fun c => rfl
  have hlz : LETS.length ≤ sizeLine := by rw [hll]; decide
  have ed : ((n : Int) / (26 : Int)) = ((n / 26 : Nat) : Int) := by omega
  have em : ((n : Int) % (26 : Int)) = ((n % 26 : Nat) : Int) := by omega
  refine ⟨_, rfl, _, _, rfl, rfl, _, rfl, ?_⟩
  unfold shMo at q
  by_cases c : n < 26
  · rw [if_pos c] at q
    exact iteP (by omega) ⟨_, rfl, _, rfl, LETS, _, 97 + n, rfl, rfl, hlz, hat n c, q⟩
  · rw [if_neg c] at q
    refine iteN (by omega) ⟨_, rfl, _, rfl, _, _, rfl, rfl, ⟨by decide, by decide⟩, LETS, _, 97 + n / 26, rfl, rfl, hlz, ?_, ?_⟩
    · rw [ed]; exact hat _ (by omega)
    refine ⟨_, rfl, _, rfl, _, _, rfl, rfl, (by show (0 : Int) < 26; decide), LETS, _, 97 + n % 26, rfl, rfl, hlz, ?_, ?_⟩
    · rw [em]; exact hat _ (by omega)
    rw [hS, hS]
    refine ⟨_, _, rfl, rfl, ?_, ?_⟩
    · rw [S_len, S_len]; exact line_of (by simp)
    rw [S_app]; exact q
theorem scMark : FnScope ["_law_kept", "_law_add"] ["_law_kept", "_law_add"] (defScope sMark) := ⟨rfl, rfl, rfl, by decide +kernel, rfl, by decide +kernel, by decide +kernel⟩
theorem ok_mark (F : Fun K "_law_mark" "_law_mark" sMark f fd) (G : Gm mg) : FnOk P w K mg base CX0 1 f fd ["_law_kept", "_law_add"] spMark := by
  refine F.ok scMark (fun vs H Q E h => ?_) (fun cdv A outer s H vs Q E hr h => ?_)
  · obtain ⟨k, a, rfl, _⟩ := h
    rfl
  obtain ⟨k, a, rfl, ha, q⟩ := h
  refine ⟨_, (pss_one (ps_ret (pe_op op_add_str (pe_op op_mul_txt pe_str (pe_callTy call_int1 rfl G.int PyProof.Rows.boot_int (pa_cons (pv 0) pa_nil))) (pe_op op_mul_txt (pe_callTy call_str_int rfl G.str PyProof.Rows.boot_str (pa_cons (pv 1) pa_nil)) (pe_callTy call_int1 rfl G.int PyProof.Rows.boot_int (pa_cons (pe_cmpR op_ne (pv 1) pe_int (nomark _)) pa_nil)))))), ?_⟩
  have e61 : Str.ofString "=" = S [61] := by decide +kernel
  have hsl := (sh_word ha).len
  have hs0 := (sh_word ha).ne
  refine ⟨_, rfl, .inr ⟨k, rfl, ?_⟩⟩
  rw [e61]
  have ek : (if k = true then (1 : Int) else 0) = ((if k = true then 1 else 0 : Nat) : Int) := by cases k <;> rfl
  refine ⟨[61], (if k = true then 1 else 0), rfl, (by rw [ek]), by decide, by decide, (by cases k <;> decide), ?_⟩
  refine ⟨_, rfl, a, rfl, log_sh ha, ?_⟩
  refine ⟨_, rfl, rfl, .inr ⟨_, rfl, ?_⟩⟩
  rw [str_sh]
  have eb : ∀ b : Bool, (if b = true then (1 : Int) else 0) = ((if b = true then 1 else 0 : Nat) : Int) := fun b => by cases b <;> rfl
  refine ⟨sh a, (if (!decide (V.int a = V.int 0)) = true then 1 else 0), rfl, (by rw [← eb]), hs0, by omega, (by split <;> decide), ?_⟩
  have e1 : (List.replicate (if k = true then 1 else 0) [61]).flatten = kpS k := by cases k <;> rfl
  have e2 : (List.replicate (if (!decide (V.int a = V.int 0)) = true then 1 else 0) (sh a)).flatten = shM a := by
    unfold shM
    by_cases c : a = 0
    · rw [if_pos c, c]; rfl
    · rw [if_neg c, if_pos (by rw [decide_eq_false fun z => c (V.int.inj z)]; rfl)]; simp
  rw [e1, e2]
  have hk : (kpS k).length ≤ 1 := by cases k <;> decide
  have hm : (shM a).length ≤ 61 := by unfold shM; split <;> simp [hsl]
  refine ⟨_, _, rfl, rfl, ?_, ?_⟩
  · rw [S_len, S_len]; exact line_of (by omega)
  rw [S_app]; exact q
end
end K14
namespace K14
open PySem L2 K3 TM K9
def leafV (kp : Bool) (nn : Int) : TV := .node (.put (S [101]) kp nn) 0 []
def ruleV (kp : Bool) (nn : Int) (k af : Nat) : TV := .node (.put (S [102]) (!kp) (k : Int)) 0 [.node (.call (.int (af : Int)) 0) 0 [], leafV kp nn]
def mdV (kp : Bool) (nn : Int) (k af : Nat) : MdD := (S [107], [leafV kp nn, ruleV kp nn k af])
def stV (add : Int) (fi : Nat) : TV := .node (.put (S [98]) false add) 0 [.node (.call (.int (fi : Int)) 0) 0 []]
structure Wd1 (ks : List KdT) : Prop where
  ex : ∃ a1 lr a2 a3 a4 a5 : Addr, ks = [(a1, S [107], lr, [(a2, S [110], a3, []), (a4, S [115], a5, [S [107]])])]
def PD (L : Nat) (D : List MdD) : Prop := ∀ (i : Nat) (m : MdD), D[i]? = some m → ∃ (kp : Bool) (nn : Int) (af : Nat), m = mdV kp nn i af ∧ nn.natAbs < 10 ^ 60 ∧ af < L
theorem PD.mem {L : Nat} {D : List MdD} (h : PD L D) {m : MdD} (hm : m ∈ D) : ∃ (kp : Bool) (nn : Int) (i af : Nat), i < D.length ∧ m = mdV kp nn i af ∧ nn.natAbs < 10 ^ 60 ∧ af < L := by
  obtain ⟨i, hi, rfl⟩ := List.mem_iff_getElem.mp hm
  obtain ⟨kp, nn, af, e, h1, h2⟩ := h i _ (List.getElem?_eq_getElem hi)
  exact ⟨kp, nn, i, af, hi, e, h1, h2⟩
theorem PD.snoc {L : Nat} {D : List MdD} (h : PD L D) {kp : Bool} {nn : Int} {af : Nat} (h1 : nn.natAbs < 10 ^ 60) (h2 : af < L) : PD L (D ++ [mdV kp nn D.length af]) := fun i m e => by
  rw [List.getElem?_append] at e
  split at e
  · exact h i m e
  · rename_i hn
    have hi : i - D.length = 0 := by
      rcases Nat.eq_zero_or_pos (i - D.length) with z | z
      · exact z
      · rw [List.getElem?_eq_none (by show 1 ≤ i - D.length; omega)] at e; cases e
    rw [hi] at e
    have ei : i = D.length := by omega
    subst ei
    have : mdV kp nn D.length af = m := by simpa using e
    exact ⟨kp, nn, af, this.symm, h1, h2⟩
section
variable {ks : List KdT} (hK : Wd1 ks)
include hK
theorem Wd1.rows : ∃ a2 a3 a4 a5 : Addr, rowsK ks (S [107]) = [(a2, S [110], a3, []), (a4, S [115], a5, [S [107]])] := by
  obtain ⟨a1, lr, a2, a3, a4, a5, rfl⟩ := hK.ex
  refine ⟨a2, a3, a4, a5, ?_⟩
  unfold rowsK
  rw [List.find?_cons, decide_eq_true rfl]; rfl
theorem Wd1.ok : WoodOk ks := by
  obtain ⟨a1, lr, a2, a3, a4, a5, rfl⟩ := hK.ex
  have o107 : PyData.strOk (S [107]) = true := by decide +kernel
  have o110 : PyData.strOk (S [110]) = true := by decide +kernel
  have o115 : PyData.strOk (S [115]) = true := by decide +kernel
  refine ⟨by simp, by simp, fun k hk => ?_⟩
  obtain rfl := List.mem_singleton.mp hk
  refine ⟨?_, by simp, fun r hr => ?_, fun r hr x hx => ?_, fun r hr => ?_⟩
  · show [S [110], S [115]].Nodup
    decide +kernel
  · rcases List.mem_cons.mp hr with rfl | hr
    · exact o110
    · obtain rfl := List.mem_singleton.mp hr; exact o115
  · rcases List.mem_cons.mp hr with rfl | hr
    · cases hx
    · obtain rfl := List.mem_singleton.mp hr
      obtain rfl := List.mem_singleton.mp hx; exact o107
  · rcases List.mem_cons.mp hr with rfl | hr
    · simp
    · obtain rfl := List.mem_singleton.mp hr; simp
theorem Wd1.str : ∀ k ∈ ks, PyData.strOk k.2.1 = true := by
  obtain ⟨a1, lr, a2, a3, a4, a5, rfl⟩ := hK.ex
  intro k hk
  have o107 : PyData.strOk (S [107]) = true := by decide +kernel
  obtain rfl := List.mem_singleton.mp hk; exact o107
theorem Wd1.k0 : ∃ k0 : KdT, ks[0]? = some k0 ∧ k0.2.1 = S [107] := by
  obtain ⟨a1, lr, a2, a3, a4, a5, rfl⟩ := hK.ex
  exact ⟨_, rfl, rfl⟩
end
theorem cdS (u : List Nat) : codes (S u) = u := S_list u
theorem nm1 {c : Nat} (h : c ∈ letL) : Nm [c] := ⟨by simp, by simp, fun x hx => by obtain rfl := List.mem_singleton.mp hx; exact h⟩
theorem gd_leaf {kp : Bool} {nn : Int} (h : nn.natAbs < 10 ^ 60) : gdV (leafV kp nn) := by
  unfold leafV
  rw [gdV, gdVs, cdS]
  exact ⟨nm1 (by decide), h, rfl, by decide, trivial⟩
theorem gd_call {i : Nat} (h : i < 676) : gdV (.node (.call (.int (i : Int)) 0) 0 []) := by
  rw [gdV]; exact ⟨⟨i, h, rfl⟩, by decide, rfl, rfl⟩
theorem gd_rule {kp : Bool} {nn : Int} {k af : Nat} (h : nn.natAbs < 10 ^ 60) (hk : k < 676) (ha : af < 676) : gdV (ruleV kp nn k af) := by
  unfold ruleV
  rw [gdV, gdVs, gdVs, gdVs, cdS]
  exact ⟨nm1 (by decide), by omega, rfl, by simp, gd_call ha, gd_leaf h, trivial⟩
theorem gd_st {add : Int} {fi : Nat} (h : add.natAbs < 10 ^ 60) (hf : fi < 676) : gdV (stV add fi) := by
  unfold stV
  rw [gdV, gdVs, gdVs, cdS]
  exact ⟨nm1 (by decide), h, rfl, by simp, gd_call hf, trivial⟩
theorem lv_leaf (kp : Bool) (nn : Int) : lv (leafV kp nn) = 1 := by simp [leafV, lv, lvs]
theorem lv_rule (kp : Bool) (nn : Int) (k af : Nat) : lv (ruleV kp nn k af) = 2 := by simp [ruleV, leafV, lv, lvs]
theorem lv_st (add : Int) (fi : Nat) : lv (stV add fi) = 2 := by simp [stV, lv, lvs]
theorem sz_leaf (kp : Bool) (nn : Int) : sz (leafV kp nn) = 1 := by simp [leafV, sz, szs]
theorem sz_rule (kp : Bool) (nn : Int) (k af : Nat) : sz (ruleV kp nn k af) = 3 := by simp [ruleV, leafV, sz, szs]
theorem sz_st (add : Int) (fi : Nat) : sz (stV add fi) = 2 := by simp [stV, sz, szs]
theorem sh0 : sh 0 = [48] := by decide
theorem sh_leaf (kp : Bool) (nn : Int) : shV (leafV kp nn) = [101] ++ (kpS kp ++ shM nn) := by
  simp [leafV, shV, shVs, shB, S]
theorem sh_rule (kp : Bool) (nn : Int) (k af : Nat) : shV (ruleV kp nn k af) = [102] ++ (kpS (!kp) ++ shM (k : Int)) ++ ([40, 42] ++ shMo af ++ [48, 32] ++ ([101] ++ (kpS kp ++ shM nn)) ++ [41]) := by
  unfold ruleV
  rw [shV, shVs, shVs, shVs, sh_leaf, shV, mdS_int, sh0]
  simp [shB, gl, S]
theorem sh_st (add : Int) (fi : Nat) : shV (stV add fi) = [98] ++ (kpS false ++ shM add) ++ [40, 42] ++ shMo fi ++ [48, 41] := by
  unfold stV
  rw [shV, shVs, shVs, shV, mdS_int, sh0]
  simp [shB, gl, S]
theorem kpS_len (k : Bool) : (kpS k).length ≤ 1 := by cases k <;> decide
theorem shM_len {a : Int} (h : a.natAbs < 10 ^ 60) : (shM a).length ≤ 61 := by
  have := (sh_word h).len
  unfold shM; split <;> simp [this]
theorem tm_leaf {kp : Bool} {nn : Int} (h : nn.natAbs < 10 ^ 60) : TmOk (leafV kp nn) := ⟨by rw [lv_leaf]; decide, gd_mb _ (gd_leaf h), by
  have := kpS_len kp
  have := shM_len h
  rw [sh_leaf]; simp only [List.length_append, List.length_cons, List.length_nil]; omega⟩
theorem rule_len {kp : Bool} {nn : Int} {k af : Nat} (h : nn.natAbs < 10 ^ 60) (hk : k < 676) : (shV (ruleV kp nn k af)).length ≤ 200 := by
  have := kpS_len kp
  have := kpS_len (!kp)
  have := shM_len h
  have := shM_len (a := (k : Int)) (by omega)
  have := shMo_len af
  rw [sh_rule]; simp only [List.length_append, List.length_cons, List.length_nil]; omega
theorem tm_rule {kp : Bool} {nn : Int} {k af : Nat} (h : nn.natAbs < 10 ^ 60) (hk : k < 676) (ha : af < 676) : TmOk (ruleV kp nn k af) := ⟨by rw [lv_rule]; decide, gd_mb _ (gd_rule h hk ha), by have := rule_len (kp := kp) (af := af) h hk; omega⟩
theorem tm_st {add : Int} {fi : Nat} (h : add.natAbs < 10 ^ 60) (hf : fi < 676) : TmOk (stV add fi) := ⟨by rw [lv_st]; decide, gd_mb _ (gd_st h hf), by
  have := shM_len h
  have := shMo_len fi
  rw [sh_st]; simp only [List.length_append, List.length_cons, List.length_nil, kpS]; simp; omega⟩
section
variable {ks : List KdT} (hK : Wd1 ks) {L : Nat} (hL : L ≤ 200) {add : Int} {fi : Nat} (hA : add.natAbs < 10 ^ 60) (hF : fi < L) {D : List MdD} (hP : PD L D) (hD : D.length ≤ L)
include hK hL hA hF hP hD
theorem sh_ok : ShOk ks (stV add fi) D := by
  obtain ⟨a2, a3, a4, a5, er⟩ := hK.rows
  refine ⟨tm_st hA (by omega), by omega, fun m hm => ?_, fun m hm => ?_, fun m hm t ht => ?_, fun m hm r hr => ?_⟩ <;> obtain ⟨kp, nn, i, af, hi, rfl, h1, h2⟩ := hP.mem hm
  · show (S [107]).length ≤ 8; rw [S_len]; decide
  · show _ = (rowsK ks (S [107])).length
    rw [er]; rfl
  · rcases List.mem_cons.mp ht with rfl | ht
    · exact tm_leaf h1
    · obtain rfl := List.mem_singleton.mp ht
      exact tm_rule h1 (by omega) (by omega)
  · have hr' : r ∈ rowsK ks (S [107]) := hr
    rw [er] at hr'
    rcases List.mem_cons.mp hr' with rfl | hr'
    · rw [S_len]; decide
    · obtain rfl := List.mem_singleton.mp hr'
      rw [S_len]; decide
theorem gd_ms : ∀ m ∈ D, GdM ks m := fun m hm => by
  obtain ⟨a2, a3, a4, a5, er⟩ := hK.rows
  obtain ⟨kp, nn, i, af, hi, rfl, h1, h2⟩ := hP.mem hm
  refine ⟨by show _ = (rowsK ks (S [107])).length; rw [er]; rfl, by show rowsK ks (S [107]) ≠ []; rw [er]; simp, fun t ht => ?_, by show Nm (codes (S [107])); rw [cdS]; exact nm1 (by decide), fun r hr => ?_⟩
  · rcases List.mem_cons.mp ht with rfl | ht
    · exact ⟨gd_leaf h1, by rw [lv_leaf]; decide⟩
    · obtain rfl := List.mem_singleton.mp ht
      exact ⟨gd_rule h1 (by omega) (by omega), by rw [lv_rule]; decide⟩
  · have hr' : r ∈ rowsK ks (S [107]) := hr
    rw [er] at hr'
    rcases List.mem_cons.mp hr' with rfl | hr'
    · rw [cdS]; exact nm1 (by decide)
    · obtain rfl := List.mem_singleton.mp hr'
      rw [cdS]; exact nm1 (by decide)
theorem tuS_snoc {kp : Bool} {nn : Int} {af : Nat} : tuS ks (stV add fi) (D ++ [mdV kp nn D.length af]) = tuS ks (stV add fi) D ++ ([59, 32] ++ shMo D.length ++ [32, 107, 32, 110, 32, 58, 32] ++ ([101] ++ (kpS kp ++ shM nn))) ++ ([59, 32] ++ shMo D.length ++ [32, 107, 32, 115, 32, 58, 32, 102] ++ (kpS (!kp) ++ shM (D.length : Int))) ++ ([40, 42] ++ shMo af ++ [48, 32] ++ ([101] ++ (kpS kp ++ shM nn)) ++ [41]) := by
  obtain ⟨a2, a3, a4, a5, er⟩ := hK.rows
  unfold tuS
  rw [tuR_snoc, Nat.zero_add]
  show gl _ (_ :: (_ ++ mdR (shMo D.length) (S [107]) (rowsK ks (S [107])) [leafV kp nn, ruleV kp nn D.length af])) = _
  rw [er]
  simp only [gl, mdR, List.zip_cons_cons, List.zip_nil_right, List.map_cons, List.map_nil, List.flatMap_append, List.flatMap_cons, List.flatMap_nil, ruS, cdS, sh_leaf, sh_rule]
  simp only [List.append_assoc, List.cons_append, List.nil_append, List.append_nil]
theorem gdT (hL20 : L ≤ 20) (hDL : D.length = L) : GdT ks (S [107]) (stV add fi) D := by
  obtain ⟨a2, a3, a4, a5, er⟩ := hK.rows
  have hall := gd_ms hK hL hA hF hP hD
  have hkin : ∀ i : Nat, i < L → (D.map fun m => m.1)[i]? = some (S [107]) := fun i hi => by
    rw [List.getElem?_map, List.getElem?_eq_getElem (by omega)]
    obtain ⟨kp, nn, af, e, _⟩ := hP i _ (List.getElem?_eq_getElem (show i < D.length by omega))
    rw [e]; rfl
  have hrl : ∀ (l : List MdD) (i : Nat), (∀ m ∈ l, ∃ (kp : Bool) (nn : Int) (i af : Nat), m = mdV kp nn i af ∧ nn.natAbs < 10 ^ 60 ∧ i < 676 ∧ af < 676) → (ruD ks i l).length = 2 * l.length ∧ szR (ruD ks i l) = 4 * l.length := fun l => by
    induction l with
    | nil => intro i _; exact ⟨rfl, rfl⟩
    | cons m r ih =>
      intro i h
      obtain ⟨kp, nn, j, af, rfl, h1, h2, h3⟩ := h m List.mem_cons_self
      obtain ⟨k1, k2⟩ := ih (i + 1) fun x hx => h x (List.mem_cons_of_mem _ hx)
      have e : ruM ks i (mdV kp nn j af) = [⟨shMo i, codes (S [107]), codes (S [110]), nmV (leafV kp nn)⟩, ⟨shMo i, codes (S [107]), codes (S [115]), nmV (ruleV kp nn j af)⟩] := by
        unfold ruM
        show ((rowsK ks (S [107])).zip [leafV kp nn, ruleV kp nn j af]).map _ = _
        rw [er]; rfl
      unfold szR at k2 ⊢
      rw [ruD, e, List.length_append, List.map_append, List.sum_append, k1, k2]
      simp only [List.map_cons, List.map_nil, List.sum_cons, List.sum_nil, List.length_cons, List.length_nil, sz_nm _ (gd_leaf h1), sz_nm _ (gd_rule h1 h2 h3), sz_leaf, sz_rule]
      omega
  obtain ⟨r1, r2⟩ := hrl D 0 fun m hm => by
    obtain ⟨kp, nn, i, af, hi, e, h1, h2⟩ := hP.mem hm
    exact ⟨kp, nn, i, af, e, h1, by omega, by omega⟩
  refine ⟨gd_st hA (by omega), by rw [lv_st]; decide, by simp [stV, kpV, kpVs], by omega, hall, by omega, by rw [sz_st, r2]; omega, fun m hm => ?_, fun m b hm => ?_⟩
  · obtain ⟨kp, nn, i, af, hi, rfl, h1, h2⟩ := hP.mem hm
    refine ⟨(hall _ hm).ne, (hall _ hm).ln, fun j h1 h2' => ?_, fun t ht => ?_⟩
    · have hj2 : j < ([(a2, S [110], a3, []), (a4, S [115], a5, [S [107]])] : List PNx).length := by
        have h' : j < (rowsK ks (S [107])).length := h1
        rw [er] at h'; exact h'
      have eg : (rowsK ks (mdV kp nn i af).1)[j] = ([(a2, S [110], a3, []), (a4, S [115], a5, [S [107]])] : List PNx)[j] := by
        have : ∀ (l1 l2 : List PNx) (e : l1 = l2) (x1 : j < l1.length) (x2 : j < l2.length), l1[j] = l2[j] := fun l1 l2 e x1 x2 => by subst e; rfl
        exact this _ _ er _ _
      rw [eg]
      match j, h2' with
      | 0, _ => intro m b hm; simp [mdV, leafV, clV, clVs] at hm
      | 1, _ =>
        intro m b hm
        have hm' : (m, b) ∈ clV (ruleV kp nn i af) := hm
        simp [ruleV, leafV, clV, clVs] at hm'
        obtain ⟨rfl, rfl⟩ := hm'
        exact ⟨af, 0, rfl, rfl, by rw [List.length_map]; omega, Nat.zero_lt_one, by rw [hkin af h2]; rfl⟩
      | j + 2, h => exact absurd h (by simp [mdV])
    · have := (hall _ hm).gd t ht
      rcases List.mem_cons.mp ht with rfl | ht
      · exact ⟨this.2, by rw [sz_leaf]; decide⟩
      · obtain rfl := List.mem_singleton.mp ht
        exact ⟨this.2, by rw [sz_rule]; decide⟩
  · simp [stV, clV, clVs] at hm
    obtain ⟨rfl, rfl⟩ := hm
    exact ⟨fi, 0, rfl, rfl, by rw [List.length_map]; omega, by decide, by rw [hkin fi hF]; rfl⟩
end
end K14
namespace L2
open PySem PySem.Spec PyProof.Rows
structure WS (X : Cx) (ss : List Stmt) (t : TS) : Prop where
  h : PSs X ss t
structure W1 (X : Cx) (st : Stmt) (t : TS) : Prop where
  h : PS X st t
structure WE (X : Cx) (e : Expr) (t : TE) : Prop where
  h : PE X e t
structure WA (X : Cx) (es : List Expr) (t : TA) : Prop where
  h : PA X es t
section
variable {X : Cx} {st : Stmt} {rest a b : List Stmt} {t u : TS} {e c : Expr} {es : List Expr} {te : TE} {ta : TA} {tc : TT} {pos : Pos}
theorem w_cons (h1 : W1 X st t) (h2 : WS X rest u) : WS X (st :: rest) (tSeq t u) := ⟨pss_cons h1.h h2.h⟩
theorem w_one (h1 : W1 X st t) : WS X [st] t := ⟨pss_one h1.h⟩
theorem w_st (h : PS X st t) : W1 X st t := ⟨h⟩
theorem w_e (h : PE X e te) : WE X e te := ⟨h⟩
theorem w_tup {x1 : Nat} (h : WA X es ta) : WE X (.Tuple es x1 pos) (tTup ta) := ⟨pe_tup h.h⟩
theorem w_lst (h : WA X es ta) : WE X (.List es pos) (tLst ta) := ⟨pe_lst h.h⟩
theorem wa_nil : WA X [] tNil := ⟨pa_nil⟩
theorem wa_cons (h : WE X e te) (k : WA X es ta) (hs : starEach (e :: es) X.env = (false, eval e X.env) :: starEach es X.env := by rfl) : WA X (e :: es) (tCons te ta) := ⟨pa_cons h.h k.h hs⟩
end
end L2
namespace L2
open PySem PySem.Spec PyProof.Rows
section
variable {X : Cx} {p0 p1 p2 p3 p4 p5 : Pos}
end
section
variable {X : Cx} {p0 p1 p2 p3 p4 : Pos} {e1 e2 e3 e4 : Expr} {t1 t2 t3 t4 : TE}
theorem w_set {i : Nat} {x : Str} {e : Expr} {te : TE} {pos pos' : Pos} (hN : X.N.Nodup) (hi : X.N[i]? = some x) (hx : Loc X.env.scope x) (he : WE X e te) (hs : swapsWith e (some (.Name x pos')) pos.line X.env = pure false := by rfl) (hf : X.fn x = true ∨ X.env.scope.names.lookup x = some .local := by first | exact .inl rfl | exact .inr rfl | assumption) :
    W1 X (.Assign [.Name x pos'] e pos) (tAsg te (gName i)) := ⟨ps_set hN hi hx he.h hs hf⟩
end
end L2
namespace K14
open PySem L2 K3 TM K9
section
variable {X : Cx}
theorem WS.read {ss : List Stmt} {t : TS} {R : TS → Prop} (h : WS X ss t) (k : R t) : ∃ t, PSs X ss t ∧ R t := ⟨t, h.h, k⟩
theorem w_op {a b : Expr} {ta tb : TE} {pos : Pos} {op : Operator} {r : R2} (ho : OpR X (binaryOp op) r) (ha : WE X a ta) (hb : WE X b tb) : WE X (.BinOp a op b pos) (tOp r ta tb) := ⟨pe_op ho ha.h hb.h⟩
theorem w_forN {X : Cx} {tg iter : Expr} {body : List Stmt} {wi : TI} {g : TG} {tb : TS} {pos : Pos} (hc : X.nox.calm = true) (hi : PI X.nox tg iter wi) (hg : PG X.nox tg g) (hb : WS X.nox body tb)
    (hs : ∀ x, foldedSetIterable iter X.nox.env x = pure x := by intro _; rfl) : W1 X.nox (.For tg iter body [] pos) (tFor wi g tb) := ⟨ps_for PassesOwn.never hc hi hg hb.h hs⟩
end
def MvN (K : PySem.W.Frag) (H : Hp) (lm : Addr) (m : MvT) : Prop := SqT K H m.1 [.str m.2.1, .ref m.2.2.1] ∧ H m.2.2.1 = some (.lst m.2.2.2.1) ∧ m.2.2.1 ≠ lm ∧ TvAll K H m.2.2.2.1 m.2.2.2.2
theorem big_line {n : Nat} (h : n ≤ 200000) : n ≤ sizeLine := Nat.le_trans h (by decide)
def spLaw (K : PySem.W.Frag) (T : Addr) : Sp := fun vs H Q _ => ∃ (a : Addr) (ns : List Int), vs = [.ref a] ∧ SqL K H a (ns.map V.int) ∧ ns.length ≤ 63 ∧ H T = some (.tbl #[]) ∧ ∀ H', Q (.bl true) H'
section
variable {P : Program} {w : World} {K : PySem.W.Frag} {mg : Str → Option Value} {base : Heap} {f : Addr} {fd : FuncData} {T : Addr}
theorem scLaw : FnScope ["_law_script", "_law_lots", "_law_first", "_law_add", "_law_wood", "_law_start", "_law_modes", "_law_text", "_law_k", "_law_number", "_law_kept", "_law_after", "_law_leaf", "_law_shown", "_law_found", "_law_again"] ["_law_script"] (defScope sLaw) := ⟨rfl, rfl, rfl, by decide +kernel, rfl, by decide +kernel, by decide +kernel⟩
theorem ok_law (F : Fun K "law" "law" sLaw f fd) (G : Gm mg) (RC : Fn P w K mg base 1 "_law_cell_at" ["_law_script", "_law_k"] (spCell K)) (RMo : Fn P w K mg base 1 "_law_mode" ["_law_number"] spShMo) (RM : Fn P w K mg base 1 "_law_mark" ["_law_kept", "_law_add"] spMark)
    (RS : Fn P w K mg base 12 "show_turning" ["turning"] (spShT K)) (RT : Fn P w K mg base 33 "read_turning" ["wood", "text"] (spReadT K T)) : FnOk P w K mg base CX0 34 f fd ["_law_script"] (spLaw K T) := by
  refine F.ok scLaw (fun vs H Q E h => ?_) (fun cdv A outer s H vs Q E hr h => ?_)
  · obtain ⟨a, ns, rfl, _⟩ := h
    rfl
  obtain ⟨a, ns, rfl, hS, h63, hT, q⟩ := h
  have room : ∀ n : Nat, n ≤ 100 → (A.deeper (PyProof.Rows.envOfC "law" (defScope sLaw) s.heap.objs.size f cdv)).units + n < cLine := fun n hn => by have := hr.un; omega
  refine WS.read (w_cons (w_st (ps_set (i := 1) scLaw.nd rfl (Or.inl rfl) (pe_op op_add pe_int (pe_op op_mod (pe_fn RC hr (pa_cons (pv 0) (pa_cons (pe_int) pa_nil))) pe_int))))
    (w_cons (w_st (ps_cut (ps_if (pt_cmpR op_eq (pe_op op_mod (pe_op op_fdiv (pe_fn RC hr (pa_cons (pv 0) (pa_cons (pe_int) pa_nil))) pe_int) pe_int) pe_int (nomark _)) (pss_one (ps_set (i := 1) scLaw.nd rfl (Or.inl rfl) (pe_op op_add pe_int (pe_op op_mod (pv 1) pe_int)))) pss_nil)))
    (w_cons (w_st (ps_set (i := 2) scLaw.nd rfl (Or.inl rfl) (pe_op op_mod (pe_fn RC hr (pa_cons (pv 0) (pa_cons (pe_int) pa_nil))) (pv 1))))
    (w_cons (w_st (ps_set (i := 3) scLaw.nd rfl (Or.inl rfl) (pe_op op_sub (pe_op op_mod (pe_fn RC hr (pa_cons (pv 0) (pa_cons (pe_int) pa_nil))) (pe_op op_pow pe_int pe_int)) (pe_op op_pow pe_int pe_int))))
    (w_cons (w_set (i := 4) scLaw.nd rfl (Or.inl rfl) ((w_lst (wa_cons ((w_tup (wa_cons (w_e pe_str) (wa_cons ((w_lst (wa_cons ((w_tup (wa_cons (w_e pe_str) (wa_cons (w_tup wa_nil) wa_nil)))) (wa_cons ((w_tup (wa_cons (w_e pe_str) (wa_cons ((w_tup (wa_cons (w_e pe_str) wa_nil))) wa_nil)))) wa_nil)))) wa_nil)))) wa_nil))))
    (w_cons (w_set (i := 5) scLaw.nd rfl (Or.inl rfl) ((w_tup (wa_cons (w_e pe_str) (wa_cons (w_e pe_str) (wa_cons (w_e pe_bl) (wa_cons (w_e (pv 3)) (wa_cons ((w_tup (wa_cons ((w_tup (wa_cons (w_e pe_str) (wa_cons (w_e (pv 2)) (wa_cons (w_e pe_int) wa_nil))))) wa_nil))) wa_nil))))))))
    (w_cons (w_st (ps_set (i := 6) scLaw.nd rfl (Or.inl rfl) (pe_lst pa_nil)))
    (w_cons (w_set (i := 7) scLaw.nd rfl (Or.inl rfl) (w_op op_add_str (w_op op_add_str (w_op op_add_str (w_op op_add_str (w_e pe_str) (w_e (pe_fn RM hr (pa_cons (pe_bl) (pa_cons (pv 3) pa_nil))))) (w_e pe_str)) (w_e (pe_fn RMo hr (pa_cons (pv 2) pa_nil)))) (w_e pe_str)))
    (w_cons (w_forN rfl (pi_range1 rfl G.rng (pa_cons (pv 1) pa_nil)) (pg_name (i := 8) scLaw.nd rfl (Or.inl rfl)) (w_cons (w_st (ps_cut (ps_set (i := 9) scLaw.nd rfl (Or.inl rfl) (pe_ifExp (pt_cmpR op_gt (pe_callB call_len_seq rfl G.len PySem.boot_len (pa_cons (pv 0) pa_nil)) pe_int (nomark _)) (pe_op op_mod (pe_ix ix_list (pv 0) (pe_op op_mod (pe_op op_add pe_int (pv 8)) (pe_callB call_len_seq rfl G.len PySem.boot_len (pa_cons (pv 0) pa_nil))) (fun _ _ => rfl)) (pe_op op_pow pe_int pe_int)) (pv 8)))))
    (w_cons (w_st (ps_set (i := 10) scLaw.nd rfl (Or.inl rfl) (pe_cmpR op_eq (pe_op op_mod (pv 9) pe_int) pe_int (nomark _))))
    (w_cons (w_st (ps_set (i := 11) scLaw.nd rfl (Or.inl rfl) (pe_op op_mod (pe_op op_add (pv 8) pe_int) (pv 1))))
    (w_cons (w_st (ps_cut (ps_if (pt_cmpR op_eq (pe_op op_mod (pv 9) pe_int) pe_int (nomark _)) (pss_one (ps_set (i := 11) scLaw.nd rfl (Or.inl rfl) (pe_op op_mod (pe_op op_fdiv (pv 9) pe_int) (pv 1)))) pss_nil)))
    (w_cons (w_set (i := 12) scLaw.nd rfl (Or.inl rfl) ((w_tup (wa_cons (w_e pe_str) (wa_cons (w_e pe_str) (wa_cons (w_e (pv 10)) (wa_cons (w_e (pe_op op_sub (pv 9) (pe_op op_pow pe_int pe_int))) (wa_cons (w_tup wa_nil) wa_nil))))))))
    (w_cons (w_st (ps_expr (pe_bm PySem.F.plainAttrs_list PySem.F.slot_list_append PySem.F.type_list_append mt_append (pv 6) (WA.h (wa_cons (w_tup (wa_cons (w_e pe_str) (wa_cons ((w_lst (wa_cons (w_e (pv 12)) (wa_cons ((w_tup (wa_cons (w_e pe_str) (wa_cons (w_e pe_str) (wa_cons (w_e (pe_not (pv 10))) (wa_cons (w_e (pv 8)) (wa_cons ((w_tup (wa_cons ((w_tup (wa_cons (w_e pe_str) (wa_cons (w_e (pv 11)) (wa_cons (w_e pe_int) wa_nil))))) (wa_cons (w_e (pv 12)) wa_nil)))) wa_nil))))))) wa_nil)))) wa_nil))) wa_nil)))))
    (w_cons (w_set (i := 13) scLaw.nd rfl (Or.inl rfl) (w_op op_add_str (w_e pe_str) (w_e (pe_fn RM hr (pa_cons (pv 10) (pa_cons (pe_op op_sub (pv 9) (pe_op op_pow pe_int pe_int)) pa_nil))))))
    (w_cons (w_set (i := 7) scLaw.nd rfl (Or.inl rfl) (w_op op_add_str (w_op op_add_str (w_op op_add_str (w_op op_add_str (w_e (pv 7)) (w_e pe_str)) (w_e (pe_fn RMo hr (pa_cons (pv 8) pa_nil)))) (w_e pe_str)) (w_e (pv 13))))
    (w_cons (w_set (i := 7) scLaw.nd rfl (Or.inl rfl) (w_op op_add_str (w_op op_add_str (w_op op_add_str (w_op op_add_str (w_e (pv 7)) (w_e pe_str)) (w_e (pe_fn RMo hr (pa_cons (pv 8) pa_nil)))) (w_e pe_str)) (w_e (pe_fn RM hr (pa_cons (pe_not (pv 10)) (pa_cons (pv 8) pa_nil))))))
    (w_one (w_set (i := 7) scLaw.nd rfl (Or.inl rfl) (w_op op_add_str (w_op op_add_str (w_op op_add_str (w_op op_add_str (w_op op_add_str (w_e (pv 7)) (w_e pe_str)) (w_e (pe_fn RMo hr (pa_cons (pv 11) pa_nil)))) (w_e pe_str)) (w_e (pv 13))) (w_e pe_str))))))))))))))
    (w_cons (w_set (i := 14) scLaw.nd rfl (Or.inl rfl) (w_e (pe_fn RS hr (WA.h (wa_cons (w_tup (wa_cons (w_e (pv 4)) (wa_cons (w_e (pv 5)) (wa_cons (w_e (pv 6)) wa_nil)))) wa_nil)))))
    (w_cons (w_st (ps_if (PW.pt (pw_or (pt_not (pt_val (pe_callB call_isinst rfl G.isi PyProof.Rows.boot_isinstance (pa_cons (pv 14) (pa_cons (pe_bltn (v := .ty "str") rfl G.str PyProof.Rows.boot_str rfl) pa_nil))))) (pw_or1 (pt_cmpR op_ne (pv 14) (pv 7) (nomark _))))) (pss_one (ps_ret pe_bl)) pss_nil))
    (w_cons (w_st (ps_if (PW.pt (pw_or (pt_cmpR op_gt (pv 1) pe_int (nomark _)) (pw_or1 (pt_cmpR op_gt (pe_callB call_len_str rfl G.len PySem.boot_len (pa_cons (pv 7) pa_nil)) pe_int (nomark _))))) (pss_one (ps_ret pe_bl)) pss_nil))
    (w_cons (w_st (ps_set (i := 15) scLaw.nd rfl (Or.inl rfl) (pe_fn RT hr (pa_cons (pv 4) (pa_cons (pv 14) pa_nil)))))
    (w_one (w_st (ps_ret (pe_and (pe_cmpR op_eqD (pv 15) (WE.h (w_tup (wa_cons (w_e (pv 4)) (wa_cons (w_e (pv 5)) (wa_cons (w_e (pv 6)) wa_nil))))) (nomark _)) (pe_one (pe_cmpR op_eq (pe_fn RS hr (pa_cons (pv 15) pa_nil)) (pv 7) (nomark _)))))))))))))))))))) ?_
  have p0 : ∀ c : Int, 0 ≤ c % 200 ∧ c % 200 < 200 := fun c => ⟨Int.emod_nonneg _ (by decide), Int.emod_lt_of_pos _ (by decide)⟩
  refine ⟨_, rfl, a, ns, 0, rfl, hS, fun c0 => ⟨_, _, rfl, rfl, (by show (0 : Int) < 200; decide), _, _, rfl, rfl, ?_⟩⟩
  refine ⟨fun σ' H' => H' = H ∧ ∃ L : Nat, 1 ≤ L ∧ L ≤ 200 ∧ σ' = [some (.ref a), some (.int (L : Int)), none, none, none, none, none, none, none, none, none, none, none, none, none, none], ?_, ?_⟩
  · refine ⟨_, rfl, a, ns, 0, rfl, hS, fun c1 => ⟨_, _, rfl, rfl, ⟨by decide, by decide⟩, _, _, rfl, rfl, (by show (0 : Int) < 2; decide), rfl, _, rfl, ite2 (fun c => ?_) (fun c => ?_)⟩⟩
    · refine ⟨_, rfl, _, _, rfl, rfl, (by show (0 : Int) < 20; decide), _, _, rfl, rfl, ?_⟩
      have h1 : 0 ≤ (1 + c0 % 200) % 20 := Int.emod_nonneg _ (by decide)
      have h2 : (1 + c0 % 200) % 20 < 20 := Int.emod_lt_of_pos _ (by decide)
      refine ⟨rfl, (1 + (1 + c0 % 200) % 20).toNat, by omega, by omega, ?_⟩
      rw [Int.toNat_of_nonneg (by omega)]; rfl
    · obtain ⟨h1, h2⟩ := p0 c0
      refine ⟨rfl, (1 + c0 % 200).toNat, by omega, by omega, ?_⟩
      rw [Int.toNat_of_nonneg (by omega)]; rfl
  rintro σ H' ⟨rfl, L, hL1, hL, rfl⟩
  refine ⟨_, rfl, a, ns, 1, rfl, hS, fun c2 => ⟨_, rfl, _, _, rfl, rfl, (by show (0 : Int) < (L : Int); omega), ?_⟩⟩
  dsimp only
  obtain ⟨fi, hfi, hfL⟩ : ∃ fi : Nat, c2 % (L : Int) = (fi : Int) ∧ fi < L := by
    have x0 : 0 ≤ c2 % (L : Int) := Int.emod_nonneg _ (by omega)
    have x1 : c2 % (L : Int) < (L : Int) := Int.emod_lt_of_pos _ (by omega)
    exact ⟨_, (Int.toNat_of_nonneg x0).symm, by omega⟩
  rw [hfi]
  refine ⟨_, rfl, a, ns, 2, rfl, hS, fun c3 => ⟨_, _, rfl, rfl, ⟨by decide, by decide, by decide⟩, _, _, rfl, rfl, (by show (0 : Int) < 10 ^ 60; decide), _, _, rfl, rfl, ⟨by decide, by decide, by decide⟩, _, _, rfl, rfl, ?_⟩⟩
  dsimp only
  obtain ⟨add, hadd, hA⟩ : ∃ add : Int, c3 % 10 ^ Int.toNat 60 - 10 ^ Int.toNat 59 = add ∧ add.natAbs < 10 ^ 60 := by
    have x0 : 0 ≤ c3 % 10 ^ 60 := Int.emod_nonneg _ (by decide)
    have x1 : c3 % 10 ^ 60 < 10 ^ 60 := Int.emod_lt_of_pos _ (by decide)
    refine ⟨_, rfl, ?_⟩
    show (c3 % 10 ^ 60 - 10 ^ 59).natAbs < 10 ^ 60
    omega
  rw [hadd]
  have ek : Str.ofString "k" = S [107] := by decide +kernel
  have en : Str.ofString "n" = S [110] := by decide +kernel
  have es : Str.ofString "s" = S [115] := by decide +kernel
  rw [ek, en, es]
  refine ⟨(by show 0 ≤ sizeLine; decide), fun a3 ha3 => ?_⟩
  generalize hX : upd _ a3 _ = X1
  have sX1 : Same H' X1 := by rw [← hX]; exact same_new ha3 _
  have b1 : X1 a3 = some (.tup []) := by rw [← hX]; exact upd_same
  clear hX
  refine ⟨(by show 2 ≤ sizeLine; decide), fun a2 ha2 => ?_⟩
  generalize hX : upd _ a2 _ = X2
  have sX2 : Same X1 X2 := by rw [← hX]; exact same_new ha2 _
  have b2 : X2 a2 = some (.tup [.str (S [110]), .ref a3]) := by rw [← hX]; exact upd_same
  clear hX
  refine ⟨(by show 1 ≤ sizeLine; decide), fun a5 ha5 => ?_⟩
  generalize hX : upd _ a5 _ = X3
  have sX3 : Same X2 X3 := by rw [← hX]; exact same_new ha5 _
  have b3 : X3 a5 = some (.tup [.str (S [107])]) := by rw [← hX]; exact upd_same
  clear hX
  refine ⟨(by show 2 ≤ sizeLine; decide), fun a4 ha4 => ?_⟩
  generalize hX : upd _ a4 _ = X4
  have sX4 : Same X3 X4 := by rw [← hX]; exact same_new ha4 _
  have b4 : X4 a4 = some (.tup [.str (S [115]), .ref a5]) := by rw [← hX]; exact upd_same
  clear hX
  refine ⟨(by show 2 ≤ sizeLine; decide), fun lr hlr => ?_⟩
  generalize hX : upd _ lr _ = X5
  have sX5 : Same X4 X5 := by rw [← hX]; exact same_new hlr _
  have b5 : X5 lr = some (.lst [.ref a2, .ref a4]) := by rw [← hX]; exact upd_same
  clear hX
  refine ⟨(by show 2 ≤ sizeLine; decide), fun a1 ha1 => ?_⟩
  generalize hX : upd _ a1 _ = X6
  have sX6 : Same X5 X6 := by rw [← hX]; exact same_new ha1 _
  have b6 : X6 a1 = some (.tup [.str (S [107]), .ref lr]) := by rw [← hX]; exact upd_same
  clear hX
  refine ⟨(by show 1 ≤ sizeLine; decide), fun lw hlw => ?_⟩
  generalize hX : upd _ lw _ = X7
  have sX7 : Same X6 X7 := by rw [← hX]; exact same_new hlw _
  have b7 : X7 lw = some (.lst [.ref a1]) := by rw [← hX]; exact upd_same
  clear hX
  have g7 : Same H' X7 := sX1.trans (sX2.trans (sX3.trans (sX4.trans (sX5.trans (sX6.trans sX7)))))
  have hW7 : WoodAt K X7 lw [(a1, S [107], lr, [(a2, S [110], a3, []), (a4, S [115], a5, [S [107]])])] := by
    refine ⟨SqL.of b7, fun k hk => ?_⟩
    obtain rfl := List.mem_singleton.mp hk
    refine ⟨SqT.of (sX7 _ _ b6), SqL.of (sX7 _ _ (sX6 _ _ b5)), fun t ht => ?_⟩
    rcases List.mem_cons.mp ht with rfl | ht
    · exact ⟨SqT.of (sX7 _ _ (sX6 _ _ (sX5 _ _ (sX4 _ _ (sX3 _ _ b2))))), SqT.of (sX7 _ _ (sX6 _ _ (sX5 _ _ (sX4 _ _ (sX3 _ _ (sX2 _ _ b1))))))⟩
    · obtain rfl := List.mem_singleton.mp ht
      exact ⟨SqT.of (sX7 _ _ (sX6 _ _ (sX5 _ _ b4))), SqT.of (sX7 _ _ (sX6 _ _ (sX5 _ _ (sX4 _ _ b3))))⟩
  have hK : Wd1 [(a1, S [107], lr, [(a2, S [110], a3, []), (a4, S [115], a5, [S [107]])])] := ⟨a1, lr, a2, a3, a4, a5, rfl⟩
  generalize [(a1, S [107], lr, [(a2, S [110], a3, []), (a4, S [115], a5, [S [107]])])] = ks at hW7 hK
  have hO := hK.ok
  clear b1 b2 b3 b4 b5 b6 b7 sX1 sX2 sX3 sX4 sX5 sX6 sX7 ha1 ha2 ha3 ha4 ha5 hlr
  have eb : Str.ofString "b" = S [98] := by decide +kernel
  have eo : Str.ofString "(*" = S [40, 42] := by decide +kernel
  have e0 : Str.ofString "0)" = S [48, 41] := by decide +kernel
  have es1 : Str.ofString "; " = S [59, 32] := by decide +kernel
  have ekn : Str.ofString " k n : " = S [32, 107, 32, 110, 32, 58, 32] := by decide +kernel
  have eks : Str.ofString " k s : f" = S [32, 107, 32, 115, 32, 58, 32, 102] := by decide +kernel
  have e00 : Str.ofString "0 " = S [48, 32] := by decide +kernel
  have ec : Str.ofString ")" = S [41] := by decide +kernel
  have ee : Str.ofString "e" = S [101] := by decide +kernel
  have ef : Str.ofString "f" = S [102] := by decide +kernel
  rw [eb, eo, e0, es1, ekn, eks, e00, ec, ee, ef]
  refine ⟨_, rfl, _, rfl, ?_⟩
  refine ⟨(by show 3 ≤ sizeLine; decide), fun d1 hd1 => ?_⟩
  generalize hX : upd _ d1 _ = Y1
  have sY1 : Same X7 Y1 := by rw [← hX]; exact same_new hd1 _
  have b1 : Y1 d1 = some (.tup [.str CALL, .int (fi : Int), .int 0]) := by rw [← hX]; exact upd_same
  clear hX
  refine ⟨(by show 1 ≤ sizeLine; decide), fun d2 hd2 => ?_⟩
  generalize hX : upd _ d2 _ = Y2
  have sY2 : Same Y1 Y2 := by rw [← hX]; exact same_new hd2 _
  have b2 : Y2 d2 = some (.tup [.ref d1]) := by rw [← hX]; exact upd_same
  clear hX
  refine ⟨(by show 5 ≤ sizeLine; decide), fun vs hvs => ?_⟩
  generalize hX : upd _ vs _ = Y3
  have sY3 : Same Y2 Y3 := by rw [← hX]; exact same_new hvs _
  have b3 : Y3 vs = some (.tup [.str PUT, .str (S [98]), .bl false, .int add, .ref d2]) := by rw [← hX]; exact upd_same
  clear hX
  have hv3 : TvV K Y3 (.ref vs) (stV add fi) := .put (SqT.of b3) (SqT.of (sY3 _ _ b2)) (.cons (.call (SqT.of (sY3 _ _ (sY2 _ _ b1)))) .nil) (by simp)
  have g37 : Same X7 Y3 := sY1.trans (sY2.trans sY3)
  have hW3 := hW7.same g37
  have g3 : Same H' Y3 := g7.trans g37
  clear b1 b2 b3 sY1 sY2 sY3 hd1 hd2 hvs g37 g7
  refine ⟨(by show 0 ≤ sizeLine; decide), fun lm hlm => ?_⟩
  generalize hX : upd _ lm _ = Z
  have sZ : Same Y3 Z := by rw [← hX]; exact same_new hlm _
  have b4 : Z lm = some (.lst []) := by rw [← hX]; exact upd_same
  clear hX
  have hmk0 := shM_len hA
  have hfi2 := shMo_len fi
  refine ⟨_, rfl, false, add, rfl, hA, _, _, rfl, rfl, ?_, ?_⟩
  · rw [S_len, S_len]; exact line_of (by simp only [List.length_append, List.length_cons, List.length_nil, kpS]; simp; omega)
  rw [S_app]
  refine ⟨_, _, rfl, rfl, ?_, ?_⟩
  · rw [S_len, S_len]; exact line_of (by simp only [List.length_append, List.length_cons, List.length_nil, kpS]; simp; omega)
  rw [S_app]
  refine ⟨_, rfl, fi, rfl, by omega, _, _, rfl, rfl, ?_, ?_⟩
  · rw [S_len, S_len]; exact line_of (by simp only [List.length_append, List.length_cons, List.length_nil, kpS]; simp; omega)
  rw [S_app]
  refine ⟨_, _, rfl, rfl, ?_, ?_⟩
  · rw [S_len, S_len]; exact line_of (by simp only [List.length_append, List.length_cons, List.length_nil, kpS]; simp; omega)
  rw [S_app, ← sh_st]
  have et0 : shV (stV add fi) = tuS ks (stV add fi) [] := by unfold tuS gl; rw [tuR]; simp
  have hl0 : (shV (stV add fi)).length ≤ 400 := by rw [sh_st]; simp only [List.length_append, List.length_cons, List.length_nil, kpS]; simp; omega
  rw [et0] at hl0 ⊢
  refine ⟨_, rfl, _, rfl, (by omega), (by omega), ?_⟩
  refine for_range (lo := 0) (n := L) (fun i σ Hc => ∃ (D : List MdD) (ms : List MvT) (c8 c9 c10 c11 c12 c13 : Option V), σ = [some (.ref a), some (.int (L : Int)), some (.int (fi : Int)), some (.int add), some (.ref lw), some (.ref vs), some (.ref lm), some (.str (S (tuS ks (stV add fi) D))), c8, c9, c10, c11, c12, c13, none, none] ∧ D.length = i ∧ PD L D ∧ dM ms = D ∧ (tuS ks (stV add fi) D).length ≤ 400 * (i + 1) ∧ Hc lm = some (.lst (ms.map fun m => V.ref m.1)) ∧ (∀ m ∈ ms, MvN K Hc lm m) ∧ Same Y3 Hc)
    ⟨[], [], none, none, none, none, none, none, rfl, rfl, fun i m e => by simp at e, rfl, hl0, b4, fun m hm => (nomatch hm), sZ⟩ ?_ ?_
  · rintro i σ H1 hi ⟨D, ms, c8, c9, c10, c11, c12, c13, rfl, hDl, hP, hdM, hln, hlm1, hms, g1⟩
    have ez : (0 : Int) + (i : Int) = (i : Int) := by omega
    rw [ez]
    have pw60 : CPow 10 60 := ⟨by decide, by decide, by decide⟩
    have pw30 : CPow 10 30 := ⟨by decide, by decide, by decide⟩
    have hS1 : SqL K H1 a (ns.map V.int) := (g3.trans g1).seq hS
    refine ⟨fun σ' Hc => Hc = H1 ∧ ∃ nu : Int, 0 ≤ nu ∧ nu < 10 ^ 60 ∧ σ' = [some (.ref a), some (.int (L : Int)), some (.int (fi : Int)), some (.int add), some (.ref lw), some (.ref vs), some (.ref lm), some (.str (S (tuS ks (stV add fi) D))), some (.int (i : Int)), some (.int nu), c10, c11, c12, c13, none, none], ?_, ?_⟩
    · refine ⟨_, rfl, a, _, rfl, .inl hS1, _, _, rfl, rfl, _, rfl, ite2 (fun c => ?_) (fun c => ?_)⟩
      · have c' : (((ns.map V.int).length : Nat) : Int) > 0 := of_decide_eq_true c
        rw [List.length_map] at c'
        obtain ⟨ix, hix, hxl⟩ : ∃ ix : Nat, (3 + (i : Int)) % (((ns.map V.int).length : Nat) : Int) = (ix : Int) ∧ ix < ns.length := by
          rw [List.length_map]
          have x0 : 0 ≤ (3 + (i : Int)) % (ns.length : Int) := Int.emod_nonneg _ (by omega)
          have x1 : (3 + (i : Int)) % (ns.length : Int) < (ns.length : Int) := Int.emod_lt_of_pos _ (by omega)
          exact ⟨_, (Int.toNat_of_nonneg x0).symm, by omega⟩
        refine ⟨_, rfl, _, rfl, _, _, rfl, rfl, _, rfl, a, _, rfl, .inl hS1, _, _, rfl, rfl, (by rw [List.length_map]; exact c'), a, _, _, .int ns[ix], rfl, rfl, hS1, ?_, _, _, rfl, rfl, pw60, _, _, rfl, rfl, (by show (0 : Int) < 10 ^ 60; decide), ?_⟩
        · rw [hix]; exact atI_nat (by rw [List.getElem?_map, List.getElem?_eq_getElem hxl]; rfl)
        · exact ⟨rfl, ns[ix] % 10 ^ 60, Int.emod_nonneg _ (by decide), Int.emod_lt_of_pos _ (by decide), rfl⟩
      · exact ⟨_, rfl, rfl, (i : Int), by omega, by omega, rfl⟩
    rintro σ Hc ⟨rfl, nu, hn0, hn1, rfl⟩
    refine ⟨_, rfl, _, _, rfl, rfl, (by show (0 : Int) < 2; decide), rfl, ?_⟩
    generalize decide (V.int (nu % 2) = V.int 0) = kp
    refine ⟨_, rfl, _, _, rfl, rfl, _, rfl, _, _, rfl, rfl, (by show (0 : Int) < (L : Int); omega), ?_⟩
    have af1 : ∀ x : Int, ∃ af : Nat, x % (L : Int) = (af : Int) ∧ af < L := fun x => by
      have x0 : 0 ≤ x % (L : Int) := Int.emod_nonneg _ (by omega)
      have x1 : x % (L : Int) < (L : Int) := Int.emod_lt_of_pos _ (by omega)
      exact ⟨_, (Int.toNat_of_nonneg x0).symm, by omega⟩
    refine ⟨fun σ' Hd => Hd = Hc ∧ ∃ af : Nat, af < L ∧ σ' = [some (.ref a), some (.int (L : Int)), some (.int (fi : Int)), some (.int add), some (.ref lw), some (.ref vs), some (.ref lm), some (.str (S (tuS ks (stV add fi) D))), some (.int (i : Int)), some (.int nu), some (.bl kp), some (.int (af : Int)), c12, c13, none, none], ?_, ?_⟩
    · refine ⟨_, rfl, _, _, rfl, rfl, (by show (0 : Int) < 3; decide), rfl, _, rfl, ite2 (fun c => ?_) (fun c => ?_)⟩
      · refine ⟨_, rfl, _, _, rfl, rfl, ⟨by decide, by decide⟩, _, rfl, _, _, rfl, rfl, (by show (0 : Int) < (L : Int); omega), ?_⟩
        obtain ⟨af, e, h⟩ := af1 (nu / 3)
        exact ⟨rfl, af, h, by rw [← e]; rfl⟩
      · obtain ⟨af, e, h⟩ := af1 ((i : Int) + 1)
        exact ⟨rfl, af, h, by rw [← e]; rfl⟩
    rintro σ Hd ⟨rfl, af, haf, rfl⟩
    have hnn : (nu - 10 ^ 30).natAbs < 10 ^ 60 := by omega
    refine ⟨_, rfl, _, rfl, _, _, rfl, rfl, pw30, _, _, rfl, rfl, ?_⟩
    refine ⟨(by show 0 ≤ sizeLine; decide), fun q0 hq0 => ?_⟩
    generalize hX : upd _ q0 _ = W1_
    have sW1_ : Same Hd W1_ := by rw [← hX]; exact same_new hq0 _
    have b1 : W1_ q0 = some (.tup []) := by rw [← hX]; exact upd_same
    clear hX
    refine ⟨(by show 5 ≤ sizeLine; decide), fun q1 hq1 => ?_⟩
    generalize hX : upd _ q1 _ = W2_
    have sW2_ : Same W1_ W2_ := by rw [← hX]; exact same_new hq1 _
    have b2 : W2_ q1 = some (.tup [.str PUT, .str (S [101]), .bl kp, .int (nu - 10 ^ 30), .ref q0]) := by rw [← hX]; exact upd_same
    clear hX
    have hlf : TvV K W2_ (.ref q1) (leafV kp (nu - 10 ^ 30)) := .put (SqT.of b2) (SqT.of (sW2_ _ _ b1)) .nil (by simp)
    generalize hgn : nu - 10 ^ 30 = nn at hnn hlf
    have sL := sW1_.trans sW2_
    refine ⟨_, rfl, .inl ⟨rfl, _, SqL.of (sL _ _ hlm1)⟩, _, rfl, _, rfl, _, rfl, _, rfl, _, rfl, ?_⟩
    refine ⟨(by show 3 ≤ sizeLine; decide), fun r1 hr1 => ?_⟩
    generalize hX : upd _ r1 _ = V1
    have sV1 : Same W2_ V1 := by rw [← hX]; exact same_new hr1 _
    have b3 : V1 r1 = some (.tup [.str CALL, .int (af : Int), .int 0]) := by rw [← hX]; exact upd_same
    clear hX
    refine ⟨_, rfl, ?_⟩
    refine ⟨(by show 2 ≤ sizeLine; decide), fun r2 hr2 => ?_⟩
    generalize hX : upd _ r2 _ = V2
    have sV2 : Same V1 V2 := by rw [← hX]; exact same_new hr2 _
    have b4 : V2 r2 = some (.tup [.ref r1, .ref q1]) := by rw [← hX]; exact upd_same
    clear hX
    refine ⟨(by show 5 ≤ sizeLine; decide), fun r3 hr3 => ?_⟩
    generalize hX : upd _ r3 _ = V3
    have sV3 : Same V2 V3 := by rw [← hX]; exact same_new hr3 _
    have b5 : V3 r3 = some (.tup [.str PUT, .str (S [102]), .bl (!kp), .int (i : Int), .ref r2]) := by rw [← hX]; exact upd_same
    clear hX
    refine ⟨(by show 2 ≤ sizeLine; decide), fun r4 hr4 => ?_⟩
    generalize hX : upd _ r4 _ = V4
    have sV4 : Same V3 V4 := by rw [← hX]; exact same_new hr4 _
    have b6 : V4 r4 = some (.lst [.ref q1, .ref r3]) := by rw [← hX]; exact upd_same
    clear hX
    refine ⟨(by show 2 ≤ sizeLine; decide), fun r5 hr5 => ?_⟩
    generalize hX : upd _ r5 _ = V5
    have sV5 : Same V4 V5 := by rw [← hX]; exact same_new hr5 _
    have b7 : V5 r5 = some (.tup [.str (S [107]), .ref r4]) := by rw [← hX]; exact upd_same
    clear hX
    have g24 : Same W2_ V4 := sV1.trans (sV2.trans (sV3.trans sV4))
    have g25 : Same W2_ V5 := g24.trans sV5
    have hlf5 : TvV K V5 (.ref q1) (leafV kp nn) := hlf.mono fun _ _ => g25.seqT
    have hru5 : TvV K V5 (.ref r3) (ruleV kp nn i af) := .put (SqT.of (sV5 _ _ (sV4 _ _ b5))) (SqT.of (sV5 _ _ (sV4 _ _ (sV3 _ _ b4)))) (.cons (.call (SqT.of (sV5 _ _ (sV4 _ _ (sV3 _ _ (sV2 _ _ b3)))))) (.cons hlf5 .nil)) (by simp)
    have hlm5 := g25 _ _ (sL _ _ hlm1)
    have hl45 := sV5 _ _ b6
    have n4 : r4 ≠ lm := fun z => by rw [z, sV3 _ _ (sV2 _ _ (sV1 _ _ (sL _ _ hlm1)))] at hr4; cases hr4
    have g15 : Same Hd V5 := sL.trans g25
    have hYl : Y3 lm = none := hlm
    have hml : ms.length = i := by rw [← hDl, ← hdM]; unfold dM; rw [List.length_map]
    refine ⟨lm, _, .ref r5, rfl, rfl, hlm5, (by rw [List.length_map]; exact Nat.lt_of_le_of_lt (show ms.length ≤ 200 by omega) (by decide)), ?_⟩
    generalize hX : upd V5 lm _ = V6
    have b8 : V6 lm = some (.lst ((ms ++ [((r5, S [107], r4, [.ref q1, .ref r3], [leafV kp nn, ruleV kp nn i af]) : MvT)]).map fun m => V.ref m.1)) := by rw [← hX, upd_same]; simp
    have up : ∀ x xs, SqT K V5 x xs → SqT K V6 x xs := fun x xs h => by rw [← hX]; exact sq_put h hlm5
    have b9 : V6 r4 = some (.lst [.ref q1, .ref r3]) := by rw [← hX, upd_ne n4]; exact hl45
    have g6 : Same Y3 V6 := fun b u e => by rw [← hX, upd_ne (ne_of_none e hYl)]; exact g15 _ _ (g1 _ _ e)
    have all6 : ∀ m ∈ ms ++ [((r5, S [107], r4, [.ref q1, .ref r3], [leafV kp nn, ruleV kp nn i af]) : MvT)], MvN K V6 lm m := fun m hm => by
      rcases List.mem_append.mp hm with hm | hm
      · obtain ⟨k1, k2, k3, k4⟩ := hms m hm
        exact ⟨up _ _ (g15.seqT k1), by rw [← hX, upd_ne k3]; exact g15 _ _ k2, k3, k4.mono fun _ _ h => up _ _ (g15.seqT h)⟩
      · obtain rfl := List.mem_singleton.mp hm
        exact ⟨up _ _ (SqT.of b7), b9, n4, .cons (hlf5.mono up) (.cons (hru5.mono up) .nil)⟩
    clear hX
    have t1 := kpS_len kp
    have t2 := kpS_len (!kp)
    have t3 := shM_len hnn
    have t4 := shM_len (a := (i : Int)) (by omega)
    have t5 := shMo_len i
    have t6 := shMo_len af
    have t7 : (tuS ks (stV add fi) D).length ≤ 90000 := by
      have : 400 * (i + 1) ≤ 400 * 201 := Nat.mul_le_mul_left _ (by omega)
      omega
    have esn := tuS_snoc hK hL hA hfL hP (by omega) (kp := kp) (nn := nn) (af := af)
    rw [hDl] at esn
    have hln2 : (tuS ks (stV add fi) (D ++ [mdV kp nn i af])).length ≤ 400 * (i + 1 + 1) := by
      rw [esn]; simp only [List.length_append, List.length_cons, List.length_nil]; omega
    generalize tuS ks (stV add fi) D = tx at *
    refine ⟨_, rfl, _, rfl, _, _, rfl, rfl, pw30, _, _, rfl, rfl, kp, nn, (by rw [← hgn]; rfl), hnn, _, _, rfl, rfl, ?_, ?_⟩
    · rw [S_len, S_len]; exact big_line (by simp only [List.length_append, List.length_cons, List.length_nil]; omega)
    rw [S_app]
    refine ⟨_, rfl, _, _, rfl, rfl, ?_, ?_⟩
    · rw [S_len, S_len]; exact big_line (by simp only [List.length_append, List.length_cons, List.length_nil]; omega)
    rw [S_app]
    refine ⟨_, rfl, i, rfl, by omega, _, _, rfl, rfl, ?_, ?_⟩
    · rw [S_len, S_len]; exact big_line (by simp only [List.length_append, List.length_cons, List.length_nil]; omega)
    rw [S_app]
    refine ⟨_, _, rfl, rfl, ?_, ?_⟩
    · rw [S_len, S_len]; exact big_line (by simp only [List.length_append, List.length_cons, List.length_nil]; omega)
    rw [S_app]
    refine ⟨_, rfl, _, _, rfl, rfl, ?_, ?_⟩
    · rw [S_len, S_len]; exact big_line (by simp only [List.length_append, List.length_cons, List.length_nil]; omega)
    rw [S_app]
    refine ⟨_, rfl, _, _, rfl, rfl, ?_, ?_⟩
    · rw [S_len, S_len]; exact big_line (by simp only [List.length_append, List.length_cons, List.length_nil]; omega)
    rw [S_app]
    refine ⟨_, rfl, i, rfl, by omega, _, _, rfl, rfl, ?_, ?_⟩
    · rw [S_len, S_len]; exact big_line (by simp only [List.length_append, List.length_cons, List.length_nil]; omega)
    rw [S_app]
    refine ⟨_, _, rfl, rfl, ?_, ?_⟩
    · rw [S_len, S_len]; exact big_line (by simp only [List.length_append, List.length_cons, List.length_nil]; omega)
    rw [S_app]
    refine ⟨_, rfl, _, rfl, _, rfl, !kp, (i : Int), rfl, by omega, _, _, rfl, rfl, ?_, ?_⟩
    · rw [S_len, S_len]; exact big_line (by simp only [List.length_append, List.length_cons, List.length_nil]; omega)
    rw [S_app]
    refine ⟨_, rfl, _, _, rfl, rfl, ?_, ?_⟩
    · rw [S_len, S_len]; exact big_line (by simp only [List.length_append, List.length_cons, List.length_nil]; omega)
    rw [S_app]
    refine ⟨_, rfl, af, rfl, by omega, _, _, rfl, rfl, ?_, ?_⟩
    · rw [S_len, S_len]; exact big_line (by simp only [List.length_append, List.length_cons, List.length_nil]; omega)
    rw [S_app]
    refine ⟨_, _, rfl, rfl, ?_, ?_⟩
    · rw [S_len, S_len]; exact big_line (by simp only [List.length_append, List.length_cons, List.length_nil]; omega)
    rw [S_app]
    refine ⟨_, rfl, _, _, rfl, rfl, ?_, ?_⟩
    · rw [S_len, S_len]; exact big_line (by simp only [List.length_append, List.length_cons, List.length_nil]; omega)
    rw [S_app]
    refine ⟨_, _, rfl, rfl, ?_, ?_⟩
    · rw [S_len, S_len]; exact big_line (by simp only [List.length_append, List.length_cons, List.length_nil]; omega)
    rw [S_app]
    have etx : tx ++ [59, 32] ++ shMo i ++ [32, 107, 32, 110, 32, 58, 32] ++ ([101] ++ (kpS kp ++ shM nn)) ++ [59, 32] ++ shMo i ++ [32, 107, 32, 115, 32, 58, 32, 102] ++ (kpS (!kp) ++ shM (i : Int)) ++ [40, 42] ++ shMo af ++ [48, 32] ++ ([101] ++ (kpS kp ++ shM nn)) ++ [41] = tuS ks (stV add fi) (D ++ [mdV kp nn i af]) := by rw [esn]; simp only [List.append_assoc]
    rw [etx]
    refine ⟨D ++ [mdV kp nn i af], _, _, _, _, _, _, _, rfl, by simp [hDl], ?_, ?_, hln2, b8, all6, g6⟩
    · rw [← hDl]; exact hP.snoc hnn haf
    · unfold dM at hdM ⊢
      rw [List.map_append, hdM]; rfl
  · rintro σ H1 ⟨D, ms, c8, c9, c10, c11, c12, c13, rfl, hDl, hP, hdM, hln, hlm1, hms, g1⟩
    have hPl : D.length ≤ L := by omega
    have hM1 : ModesV K H1 lm ms := ⟨SqL.of hlm1, fun m hm => ⟨(hms m hm).1, SqL.of (hms m hm).2.1, (hms m hm).2.2.2⟩⟩
    have hW1 := hW3.same g1
    have hv1 : TvV K H1 (.ref vs) (stV add fi) := hv3.mono fun _ _ => g1.seqT
    have hsh := sh_ok hK hL hA hfL hP hPl
    have hT1 : H1 T = some (.tbl #[]) := g1 _ _ (g3 _ _ hT)
    refine ⟨_, rfl, _, rfl, _, rfl, (by show 3 ≤ sizeLine; decide), fun tp htp => ?_⟩
    generalize hX : upd H1 tp _ = H2
    have s2 : Same H1 H2 := by rw [← hX]; exact same_new htp _
    have b2 : H2 tp = some (.tup [.ref lw, .ref vs, .ref lm]) := by rw [← hX]; exact upd_same
    clear hX
    refine ⟨tp, lw, lm, .ref vs, ks, stV add fi, ms, rfl, SqT.of b2, hW1.same s2, hO, hv1.mono fun _ _ => s2.seqT, hM1.same s2, by rw [hdM]; exact hsh, fun H3 s3 => ?_⟩
    rw [hdM]
    refine ⟨_, rfl, _, "str", _, true, rfl, .str _, rfl, _, rfl, iteF ⟨_, rfl, _, rfl, rfl, _, rfl, iteNS rfl ?_⟩⟩
    have hbig : (tuS ks (stV add fi) D).length ≤ 90000 := by
      have : 400 * (L + 1) ≤ 400 * 201 := Nat.mul_le_mul_left _ (by omega)
      omega
    refine ⟨_, rfl, _, _, rfl, rfl, _, rfl, ite2 (fun c => q _) (fun c => ?_)⟩
    have hL20 : L ≤ 20 := by
      have : ¬ ((L : Int) > 20) := fun z => c (decide_eq_true z)
      omega
    refine ⟨_, rfl, _, rfl, (by rw [S_len]; exact big_line (by omega)), _, _, rfl, rfl, _, rfl, ite2 (fun c => q _) (fun c => ?_)⟩
    have hz4 : (tuS ks (stV add fi) D).length ≤ 4000 := by
      rw [S_len] at c
      have : ¬ (((tuS ks (stV add fi) D).length : Int) > 4000) := fun z => c (decide_eq_true z)
      omega
    obtain ⟨k0, hk0, ek0⟩ := hK.k0
    have hGT := gdT hK hL hA hfL hP hPl hL20 hDl
    have hGM := gd_ms hK hL hA hfL hP hPl
    have hsg : gdV (stV add fi) := gd_st hA (by omega)
    obtain ⟨hTU, hTD⟩ := tu_all hO hGT
    have s13 := s2.trans s3
    have hT3 : H3 T = some (.tbl #[]) := s13 _ _ hT1
    refine ⟨_, rfl, _, rfl, lw, tuS ks (stV add fi) D, wkV (stV add fi) ++ wkD ks 0 D, wkV (stV add fi), wkD ks 0 D, nmV (stV add fi), ruD ks 0 D, ks, k0, kdD D, rfl, by omega, wr_tu ks _ D hsg (by omega) hGM, rfl, tk_nm _ hsg, by rw [lvN_nm _ hsg, lv_st]; decide, rw_all ks D 0 (by omega) hGM, hW1.same s13, hO, hk0, by rw [ek0]; exact hTU, .inl hT3, fun p lw2 lm2 v2 ks2 ms2 H4 x4 k1 k2 k3 k4 k5 k6 _ => ?_⟩
    rw [st_back hGT] at k4
    rw [hTD] at k6
    have h4 : Held K H3 H4 T := ⟨x4, fun _ _ h => sx_sqT hT3 (fun _ z => nomatch z) (fun _ _ z => nomatch z) x4 h, fun _ _ h => sx_sqL hT3 (fun _ z => nomatch z) (fun _ _ z => nomatch z) x4 h⟩
    have hW4 := h4.wood (hW1.same s13)
    have hM4 := h4.modes (hM1.same s13)
    have hv4 : TvV K H4 (.ref vs) (stV add fi) := hv1.mono fun _ _ h => h4.qt _ _ (s13.seqT h)
    obtain ⟨lay, dep⟩ := tu_lay hO hK.str hsg (by rw [lv_st]; decide) hGM
    have hgd : ∀ m ∈ D, ∀ t ∈ m.2, gdV t := fun m hm t ht => ((hGM m hm).gd t ht).1
    have rd1 : RdV K H4 (.ref p) (tuD ks (stV add fi) D) := by
      have := RdV.tup k1 (.cons (wd_rd k2.wood) (.cons (tv_rd k4 hsg) (.cons (md_rd k5.modes (by rw [k6]; exact hgd)) .nil)))
      rw [k3, k6] at this
      exact this
    refine ⟨_, rfl, _, rfl, _, rfl, _, rfl, (by show 3 ≤ sizeLine; decide), fun tq htq => ?_⟩
    generalize hX : upd H4 tq _ = H5
    have s5 : Same H4 H5 := by rw [← hX]; exact same_new htq _
    have b5 : H5 tq = some (.tup [.ref lw, .ref vs, .ref lm]) := by rw [← hX]; exact upd_same
    clear hX
    have rd2 : RdV K H5 (.ref tq) (tuD ks (stV add fi) D) := by
      have := RdV.tup (SqT.of b5) (.cons (wd_rd (hW4.same s5)) (.cons (tv_rd (hv4.mono fun _ _ => s5.seqT) hsg) (.cons (md_rd (hM4.same s5) (by rw [hdM]; exact hgd)) .nil)))
      rw [hdM] at this
      exact this
    have rd1' : RdV K H5 (.ref p) (tuD ks (stV add fi) D) := by
      have := RdV.tup (s5.seqT k1) (.cons (wd_rd (k2.wood.same s5)) (.cons (tv_rd (k4.mono fun _ _ => s5.seqT) hsg) (.cons (md_rd (k5.modes.same s5) (by rw [k6]; exact hgd)) .nil)))
      rw [k3, k6] at this
      exact this
    refine ⟨_, _, rd1', rd2, lay, lay, room _ (Nat.le_trans (Nat.min_le_left _ _) (by omega)), ?_⟩
    rw [if_neg Bool.false_ne_true, eqv_self _ lay]
    refine ⟨_, rfl, iteT ⟨_, rfl, p, lw2, lm2, v2, ks2, stV add fi, ms2, rfl, s5.seqT k1, k2.wood.same s5, K14.WoodOk.dW k3 hO, k4.mono fun _ _ => s5.seqT, k5.modes.same s5, ?_, fun H6 s6 => ?_⟩⟩
    · rw [k6]
      obtain ⟨f1, f2, f3, f4, f5, f6⟩ := hsh
      exact ⟨f1, f2, f3, fun m hm => by rw [rowsK_dW k3]; exact f4 m hm, f5, fun m hm => by rw [rowsK_dW k3]; exact f6 m hm⟩
    · rw [k6]
      have etu : tuS ks2 (stV add fi) D = tuS ks (stV add fi) D := by
        have : ∀ (l : List MdD) (i : Nat), tuR ks2 i l = tuR ks i l := fun l => by
          induction l with
          | nil => intro i; rw [tuR, tuR]
          | cons m r ih => intro i; rw [tuR, tuR, ih, rowsK_dW k3]
        unfold tuS; rw [this]
      rw [etu]
      refine ⟨_, rfl, rfl, ?_⟩
      show Q (.bl (decide (V.str (S (tuS ks (stV add fi) D)) = V.str (S (tuS ks (stV add fi) D))))) H6
      rw [decide_eq_true rfl]
      exact q _
end
end K14
namespace L2
open PySem PySem.Spec PyProof.Rows
theorem law_callT {P : Program} {w : World} {K : PySem.W.Frag} {mg mb : Str → Option Value} {k : Nat} {fa a : Addr} {fd : FuncData} {x : Str} {sp : Sp} {s₁ : Shared} {vs : List Value} {ns : List Int} {Ts : List Addr}
    (KX : K.In s₁.heap) (hns : s₁.heap.Ns mainGlobals mg) (hb : s₁.heap.Ns builtinsNs mb) (hbb : ∀ x : Str, x ≠ "__name__" → mb x = bootBuiltins x) (hlim : s₁.heap.NoLimit) (hg : s₁.gens = #[]) (hbt : BtAt mg s₁.heap)
    (hTs : ∀ T ∈ Ts, s₁.heap.get? T = some { cls := .none, data := .fields #[] } ∧ isCodeTable s₁.heap T ∧ K.lookup T = none)
    (ha : s₁.heap.get? a = some { cls := .type "list", data := .seq vs.toArray }) (hi : IntsAre vs ns) (hl : ns.length ≤ sizeLine) (hr : Room k callerA)
    (F : ∀ base : Heap, K.In base → base.Ns mainGlobals mg → BtAt mg base → FnOk P w K mg base CX0 k fa fd [x] sp) (hbind : ∀ (s : Shared) (u : Value), BindsTo s fd ⟨[u], []⟩ [(x, u)])
    (hsp : ∀ H : Hp, SqL K H a (ns.map V.int) → (∀ T ∈ Ts, H T = some (.tbl #[])) → sp [.ref a] H (fun v _ => v = .bl true) fun _ _ _ => False) :
    codeAny (model P w) callerA (.call (.ref fa) ⟨[.ref a], []⟩) (fun r s' => r = .ok (.ret (.bool true)) ∧ OldK s₁.heap s'.heap ∧ s'.os = s₁.os ∧ AllBare s'.gens) s₁ := by
  have rv := vals_ints hi
  have lenV := hi.length
  have core : ∀ H : Hp, (∀ b, H b = none ∨ (b = a ∧ K.lookup a = none ∧ ∃ o xs, H b = some (.frz o (.lst xs))) ∨ (b ∈ Ts ∧ H b = some (.tbl #[]))) → SqL K H a (ns.map V.int) → (∀ T ∈ Ts, H T = some (.tbl #[])) → HOk P w H s₁.heap →
      codeAny (model P w) callerA (.call (.ref fa) ⟨[.ref a], []⟩) (fun r s' => r = .ok (.ret (.bool true)) ∧ OldK s₁.heap s'.heap ∧ s'.os = s₁.os ∧ AllBare s'.gens) s₁ := by
    intro H hO hS hT hok
    have base_of : ∀ {b : Addr} {o : Obj}, s₁.heap.get? b = some o → H b = none → (hidT s₁.heap H).get? b = some o := fun e n => hidT_get e n
    have noA : ∀ {b : Addr} {o : Obj}, s₁.heap.get? b = some o → (∀ xs n, o.data ≠ .seq xs n) → (∀ xs, o.data ≠ .fields xs) → H b = none := fun {b o} e d1 d2 => by
      rcases hO b with z | ⟨rfl, _⟩ | ⟨z, _⟩
      · exact z
      · rw [ha] at e; cases e
        exact absurd rfl (d1 _ _)
      · rw [(hTs b z).1] at e; cases e
        exact absurd rfl (d2 _)
    have nsK : ∀ {b : Addr} {m : Str → Option Value}, s₁.heap.Ns b m → (hidT s₁.heap H).Ns b m := fun {b m} ⟨o, es, ep, e, d, r⟩ => ⟨o, es, ep, base_of e (noA e (fun _ _ z => by rw [d] at z; cases z) (fun _ z => by rw [d] at z; cases z)), d, r⟩
    have hKb : K.In (hidT s₁.heap H) := fun b o e => base_of (KX b o e) (by
      rcases hO b with z | ⟨rfl, hk, _⟩ | ⟨z, _⟩
      · exact z
      · rw [hk] at e; cases e
      · rw [(hTs b z).2.2] at e; cases e)
    have hBt : BtAt mg (hidT s₁.heap H) := by
      obtain ⟨bm, o, b1, b2, b3, b4, b5, b6, b7⟩ := hbt
      exact ⟨bm, o, b1, b2, b3, base_of b4 (noA b4 (fun _ _ z => by rw [b7] at z; cases z) (fun _ z => by rw [b7] at z; cases z)), b5, b6, b7⟩
    have hM : Mod K mg (hidT s₁.heap H) := ⟨hKb, nsK hns, ⟨mb, nsK hb, hbb⟩, let ⟨mc, h1, h2⟩ := hlim; ⟨mc, nsK h1, h2⟩⟩
    have e0 : Env0 P w K mg (hidT s₁.heap H) callerA [] s₁ H := ⟨rfl, hM, fun b o e => of_hidT e, Nat.le_of_eq (hidT_size _ _), trivial, fun b hb => absurd (show b ∈ ([] : List Addr) from hb) (by simp), hok, .of_eq hg⟩
    refine codeAny_mono ((F _ hKb (nsK hns) hBt).run callerA [] s₁ H ⟨[.ref a], []⟩ [.ref a] [.ref a] _ _ hr e0 (hbind s₁ (.ref a)) (.cons rfl .nil) (hsp H hS hT)) fun r s' h => ?_
    cases r with
    | error e => exact h.elim
    | ok fl =>
      cases fl with
      | next => exact False.elim h
      | brk => exact False.elim h
      | cont => exact False.elim h
      | ret u =>
        obtain ⟨v, H', os, bare, un, hok', r', q⟩ := h
        have q' : v = .bl true := q
        subst q'
        obtain rfl : u = Value.bool true := r'
        refine ⟨rfl, ⟨fun b o e => ?_, fun b o e => un.there b o e (by simp)⟩, os, bare⟩
        rcases hO b with z | ⟨rfl, _, ob, xs, z⟩ | ⟨zT, z⟩
        · exact .inl (un.keep b o e z (by intro z; exact absurd (show b ∈ ([] : List Addr) from z) (by simp)) (by simp))
        · have z2 := un.frzs b ob _ z
          obtain ⟨e1, _⟩ := hok b _ z
          obtain ⟨e2, _⟩ := hok' b _ z2
          rw [e] at e1; cases e1
          exact .inl e2
        · obtain ⟨more, z2⟩ := un.tbls b _ z
          have e2 : s'.heap.get? b = some { cls := .none, data := .fields (#[] ++ more) } := hok' b _ z2
          obtain ⟨t1, t2, _⟩ := hTs b zT
          rw [t1] at e; cases e
          exact .inr (.inl ⟨t2, rfl, #[], more, rfl, e2⟩)
  have haT : ∀ T ∈ Ts, T ≠ a := fun T hT z => by
    have := (hTs T hT).1
    rw [z, ha] at this; cases this
  cases hk : K.lookup a with
  | some o =>
    have e := KX a o hk
    rw [ha] at e
    cases e
    refine core (fun b => if b ∈ Ts then some (.tbl #[]) else none) (fun b => ?_) (.inr ⟨_, vs.toArray, _, hk, rfl, rfl, rfl, by rw [List.size_toArray, lenV]; exact hl, by simpa using rv⟩) (fun T hT => if_pos hT) (fun b u z => ?_)
    · by_cases hb : b ∈ Ts
      · exact .inr (.inr ⟨hb, if_pos hb⟩)
      · exact .inl (if_neg hb)
    · by_cases hb : b ∈ Ts
      · have z' := (if_pos hb).symm.trans z
        cases z'
        exact (hTs b hb).1
      · have z' := (if_neg hb).symm.trans z
        cases z'
  | none =>
    refine core (fun b => if b = a then some (.frz { cls := .type "list", data := .seq vs.toArray } (.lst (ns.map V.int))) else if b ∈ Ts then some (.tbl #[]) else none) (fun b => ?_) (.inl (.inr ⟨{ cls := .type "list", data := .seq vs.toArray }, if_pos rfl⟩)) (fun T hT => (if_neg (haT T hT)).trans (if_pos hT)) (fun b u z => ?_)
    · by_cases hb : b = a
      · exact .inr (.inl ⟨hb, hk, _, _, if_pos hb⟩)
      · by_cases hbT : b ∈ Ts
        · exact .inr (.inr ⟨hbT, (if_neg hb).trans (if_pos hbT)⟩)
        · exact .inl ((if_neg hb).trans (if_neg hbT))
    · by_cases hb : b = a
      · have z' := (if_pos hb).symm.trans z
        cases z'
        subst hb
        exact ⟨ha, by rw [List.length_map]; exact hl, vs, _, rv, ha⟩
      · have z1 := (if_neg hb).symm.trans z
        by_cases hbT : b ∈ Ts
        · have z' := (if_pos hbT).symm.trans z1
          cases z'
          exact (hTs b hbT).1
        · have z' := (if_neg hbT).symm.trans z1
          cases z'
structure TabAt (q : Program) (K : PySem.W.Frag) (x : Str) (c T : Addr) : Prop where
  fnd : ∃ d, (recsOf q).find? (fun e => e.name == x) = some d
  tab : PySem.W.tabIn K x = some (c, T)
  hd : PySem.W.codeHdIn K c T = true
  no : K.lookup T = none
theorem walk_ofT {l : PySem.W.OpenLaw} {n k : Nat} {q : Program} {loose : List Str} {XP : (Str → Option Value) → Heap → Prop} {YP : World → Heap → Prop} {d : DefRec} {K : Params → PySem.W.Frag} {sp : World → Sp} {x : Str} {tabs : List (Str × Addr × Addr)}
    (hn : l.most = some n) (hn2 : n ≤ sizeLine) (hdf : d.params.defaults = []) (hr : Room k callerA)
    (hY : ∀ (w : World) (h : Heap), YP w h → (K w.params).In h)
    (htab : ∀ (w : World), ∀ p ∈ tabs, TabAt q (K w.params) p.1 p.2.1 p.2.2)
    (F : ∀ (w : World) (mg : Str → Option Value) (fa : Addr) (h : Heap), (K w.params).In h → h.Ns mainGlobals mg → mg d.name = some (.ref fa) →
      ∃ fd : FuncData, (∀ (s : Shared) (u : Value), BindsTo s fd ⟨[u], []⟩ [(x, u)]) ∧
        ∀ base : Heap, (K w.params).In base → base.Ns mainGlobals mg → BtAt mg base → FnOk l.prog w (K w.params) mg base CX0 k fa fd [x] (sp w))
    (hsp : ∀ (w : World) (H : Hp) (a : Addr) (ns : List Int), ns.length ≤ n → SqL (K w.params) H a (ns.map V.int) → (∀ p ∈ tabs, H p.2.2 = some (.tbl #[])) → sp w [.ref a] H (fun v _ => v = .bl true) fun _ _ _ => False) :
    PySem.W.WalkO q loose XP YP l.row.toRowW d [] (fun f vs => PySem.call f vs) := by
  refine Att.attach_call hn hdf fun w s₀ s₁ mg mb fa o pm cd doc a vs ns G Y ho hd hcd hmg hobj hints hlen hg => ?_
  have KX := hY w _ Y
  obtain ⟨fd, hb, hF⟩ := F w mg fa _ KX G.T.g hmg
  have hbt : BtAt mg s₁.heap := by
    obtain ⟨bm, ob, b1, b2, b3, b4, b5, b6⟩ := G.T.bmain
    have hbG : bm ≠ mainGlobals := fun q => by
      obtain ⟨o, es, ep, e, hd, _⟩ := G.T.g
      rw [q, e] at b3; cases b3; rw [hd] at b6; cases b6
    exact ⟨bm, ob, b1, b2, hbG, b3, b4, b5, b6⟩
  refine law_callT (Ts := tabs.map fun p => p.2.2) KX G.T.g G.T.b G.T.builtins G.T.nolimit hg hbt (fun T hT => ?_) hobj hints (Nat.le_trans hlen hn2) hr hF hb (fun H hS hT => hsp w H a ns hlen hS fun p hp => hT _ (List.mem_map.mpr ⟨p, hp, rfl⟩))
  obtain ⟨p, hp, rfl⟩ := List.mem_map.mp hT
  obtain ⟨⟨dd, hrec⟩, ht, _, hno⟩ := htab w p hp
  obtain ⟨hc, h0⟩ := PySem.W.tab_of G.T KX hrec ht
  exact ⟨h0, (hc.tab h0).isCodeTable, hno⟩
end L2
namespace L2
theorem ln1 {α : Type} {us : List α} (h : us.length = 1) : ∃ a, us = [a] := List.length_eq_one_iff.mp h
theorem ln2 {α : Type} {us : List α} (h : us.length = 2) : ∃ a b, us = [a, b] := by
  match us, h with
  | [a, b], _ => exact ⟨a, b, rfl⟩
theorem ln3 {α : Type} {us : List α} (h : us.length = 3) : ∃ a b c, us = [a, b, c] := by
  match us, h with
  | [a, b, c], _ => exact ⟨a, b, c, rfl⟩
theorem ln4 {α : Type} {us : List α} (h : us.length = 4) : ∃ a b c d, us = [a, b, c, d] := by
  match us, h with
  | [a, b, c, d], _ => exact ⟨a, b, c, d, rfl⟩
end L2
namespace L2
open PySem
structure MethAt (K : PySem.W.Frag) (C : Addr) (m qual : Str) (st : Stmt) : Prop where
  ex : ∃ (f : Addr) (oc : Value) (od : Option Addr) (kV doc pm : Value) (an : Option Addr) (cdv ct : Value) (osl : Array (Option Value)),
    PySem.W.findIn K (.ref C) m = some (some (.ref f)) ∧ PySem.W.isFn K (.ref f) = true ∧ K.lookup f = some ⟨oc, od, .func (PySem.W.fnOf m qual (defArgs st) (defBody st) (defScope st) .none kV doc pm an cdv ct), osl⟩ ∧ PySem.W.codeIn K cdv qual = true ∧ PySem.W.keepIn K (.ref f) = true
theorem MethAt.mk' {K : PySem.W.Frag} {C : Addr} {m qual : Str} {st : Stmt} {f : Addr} {oc : Value} {od : Option Addr} {kV doc pm : Value} {an : Option Addr} {cdv ct : Value} {osl : Array (Option Value)}
    (a : PySem.W.findIn K (.ref C) m = some (some (.ref f))) (i : PySem.W.isFn K (.ref f) = true) (l : K.lookup f = some ⟨oc, od, .func (PySem.W.fnOf m qual (defArgs st) (defBody st) (defScope st) .none kV doc pm an cdv ct), osl⟩) (c : PySem.W.codeIn K cdv qual = true) (k : PySem.W.keepIn K (.ref f) = true) : MethAt K C m qual st :=
  ⟨f, oc, od, kV, doc, pm, an, cdv, ct, osl, a, i, l, c, k⟩
theorem MethAt.mt {P : Program} {w : World} {K : PySem.W.Frag} {mg : Str → Option Value} {C : Addr} {m qual : Str} {st : Stmt} {k : Nat} {ps : List Str} {sp : Sp} (M : MethAt K C m qual st) (ok : ∀ (g : Heap) (f : Addr) (fd : FuncData), Fun K m qual st f fd → FnOk P w K mg g CX0 k f fd ps sp) (bi : ∀ (f : Addr) (fd : FuncData), Fun K m qual st f fd → Binds K fd ps []) : ∀ g : Heap, Mt P w K mg g C k m ps sp := fun g => by
  obtain ⟨f, oc, od, kV, doc, pm, an, cdv, ct, osl, a, i, l, c, kp⟩ := M.ex
  have F := fun_mk (st := st) l c kp
  exact ⟨f, _, ⟨a, i, kp⟩, ok g _ _ F, bi _ _ F⟩
end L2
namespace K14
open PySem L2 K3
structure RdK (K : PySem.W.Frag) : Prop where
  ex : ∃ C : Addr, PySem.W.nsIn K mainGlobals "Reader" = some (some (.ref C)) ∧ Cls K C ∧ NoAttr K C "found" ∧ NoAttr K C "spot" ∧ PySem.W.makesIn K C = true ∧ PySem.W.keepIn K (.ref C) = true ∧
    MethAt K C "__init__" "Reader.__init__" sInit ∧ MethAt K C "ahead" "Reader.ahead" sAhead ∧ MethAt K C "at_name" "Reader.at_name" sAtName ∧ MethAt K C "at_number" "Reader.at_number" sAtNum ∧ MethAt K C "passed" "Reader.passed" sPassed ∧ MethAt K C "need" "Reader.need" sNeed ∧ MethAt K C "need_end" "Reader.need_end" sNeedEnd ∧ MethAt K C "take_name" "Reader.take_name" sTakeName ∧ MethAt K C "take_number" "Reader.take_number" sTakeNum ∧ MethAt K C "take_word" "Reader.take_word" sTakeWord ∧ MethAt K C "in_brackets" "Reader.in_brackets" sInB
theorem RdK.mk' {K : PySem.W.Frag} {C : Addr} (aC : PySem.W.nsIn K mainGlobals "Reader" = some (some (.ref C))) (pg : PySem.W.plainGet K C Str.empty = true) (hd : PySem.W.hasDictIn K C = true) (po : PySem.W.plainOver K C = true)
    (sa : PySem.W.findIn K (.ref C) "__setattr__" = some (some (.builtin "object.__setattr__"))) (n1 : PySem.W.findIn K (.ref C) "found" = some none) (n2 : PySem.W.findIn K (.ref C) "spot" = some none)
    (mk : PySem.W.makesIn K C = true) (kc : PySem.W.keepIn K (.ref C) = true) (m1 : MethAt K C "__init__" "Reader.__init__" sInit) (m2 : MethAt K C "ahead" "Reader.ahead" sAhead) (m3 : MethAt K C "at_name" "Reader.at_name" sAtName) (m4 : MethAt K C "at_number" "Reader.at_number" sAtNum) (m5 : MethAt K C "passed" "Reader.passed" sPassed) (m6 : MethAt K C "need" "Reader.need" sNeed) (m7 : MethAt K C "need_end" "Reader.need_end" sNeedEnd) (m8 : MethAt K C "take_name" "Reader.take_name" sTakeName) (m9 : MethAt K C "take_number" "Reader.take_number" sTakeNum) (m10 : MethAt K C "take_word" "Reader.take_word" sTakeWord) (m11 : MethAt K C "in_brackets" "Reader.in_brackets" sInB) : RdK K :=
  ⟨C, aC, ⟨pg, hd, po, sa⟩, n1, n2, mk, kc, m1, m2, m3, m4, m5, m6, m7, m8, m9, m10, m11⟩
theorem RdK.m {P : Program} {w : World} {K : PySem.W.Frag} {mg : Str → Option Value} {h : Heap} (S : RdK K) (X : K.In h) (N : h.Ns mainGlobals mg) (G : Gm mg) (RB : ∀ g : Heap, Fn P w K mg g 1 "begins_in" ["word", "signs"] spBeg) :
    ∃ C, RdT K mg C ∧ RdM P w K mg C ∧ ∀ g : Heap, Fn P w K mg g 5 "words" ["text"] spWords → ∃ (fI : Addr) (fdI : FuncData), Mk K C fI ∧ FnOk P w K mg g CX0 6 fI fdI ["self", "text"] (spInit C) ∧ Binds K fdI ["self", "text"] [] := by
  obtain ⟨C, aC, cl, n1, n2, mk, kc, m1, m2, m3, m4, m5, m6, m7, m8, m9, m10, m11⟩ := S.ex
  have T : RdT K mg C := ⟨cl, n1, n2, PySem.W.mg_of X N aC⟩
  have MA := m2.mt (P := P) (w := w) (mg := mg) (fun g f fd F => ok_ahead F G T) fun f fd F => F.binds fun _ _ _ _ _ _ us hl => by obtain ⟨a1, rfl⟩ := ln1 hl; rfl
  have MN := m3.mt (P := P) (w := w) (mg := mg) (fun g f fd F => ok_atName F G T (RB g) (MA g)) fun f fd F => F.binds fun _ _ _ _ _ _ us hl => by obtain ⟨a1, rfl⟩ := ln1 hl; rfl
  have MU := m4.mt (P := P) (w := w) (mg := mg) (fun g f fd F => ok_atNum F G T (RB g) (MA g)) fun f fd F => F.binds fun _ _ _ _ _ _ us hl => by obtain ⟨a1, rfl⟩ := ln1 hl; rfl
  have MP := m5.mt (P := P) (w := w) (mg := mg) (fun g f fd F => ok_passed F T (MA g)) fun f fd F => F.binds fun _ _ _ _ _ _ us hl => by obtain ⟨a1, a2, rfl⟩ := ln2 hl; rfl
  have MD := m6.mt (P := P) (w := w) (mg := mg) (fun g f fd F => ok_need F T (MP g)) fun f fd F => F.binds fun _ _ _ _ _ _ us hl => by obtain ⟨a1, a2, rfl⟩ := ln2 hl; rfl
  have ME := m7.mt (P := P) (w := w) (mg := mg) (fun g f fd F => ok_needEnd F T (MA g)) fun f fd F => F.binds fun _ _ _ _ _ _ us hl => by obtain ⟨a1, rfl⟩ := ln1 hl; rfl
  have MW := m10.mt (P := P) (w := w) (mg := mg) (fun g f fd F => ok_takeWord F T (MA g)) fun f fd F => F.binds fun _ _ _ _ _ _ us hl => by obtain ⟨a1, rfl⟩ := ln1 hl; rfl
  have MT := m8.mt (P := P) (w := w) (mg := mg) (fun g f fd F => ok_takeName F T (MN g) (MW g)) fun f fd F => F.binds fun _ _ _ _ _ _ us hl => by obtain ⟨a1, rfl⟩ := ln1 hl; rfl
  have MI := m9.mt (P := P) (w := w) (mg := mg) (fun g f fd F => ok_takeNum F G T (MU g) (MW g)) fun f fd F => F.binds fun _ _ _ _ _ _ us hl => by obtain ⟨a1, rfl⟩ := ln1 hl; rfl
  refine ⟨C, T, ⟨MP, MT, MU, MI, MD, ME, ?_⟩, fun g RW => ?_⟩
  · obtain ⟨f, oc, od, kV, doc, pm, an, cdv, ct, osl, a, i, l, c, kp⟩ := m11.ex
    have F := fun_mk (st := sInB) l c kp
    exact ⟨f, _, ⟨a, i, kp⟩, F.binds fun _ _ _ _ _ _ us hl => by obtain ⟨a1, a2, rfl⟩ := ln2 hl; rfl, fun T' ok k g => ok_inG (z1_ok T') (rpT K C [T']) F G T (MP g)⟩
  · obtain ⟨f, oc, od, kV, doc, pm, an, cdv, ct, osl, a, i, l, c, kp⟩ := m1.ex
    have F := fun_mk (st := sInit) l c kp
    exact ⟨f, _, ⟨mk, a, i, kc⟩, ok_init F T RW, F.binds fun _ _ _ _ _ _ us hl => by obtain ⟨a1, a2, rfl⟩ := ln2 hl; rfl⟩
end K14
namespace K14
open PySem L2
theorem all_mk {c1 T1 : Addr} {l : PySem.W.OpenLaw} {w : World} {K : PySem.W.Frag} {h : Heap} {mg : Str → Option Value} {fa : Addr} (X : K.In h) (N : h.Ns mainGlobals mg) (hfa : mg "law" = some (.ref fa))
    (d1 : DefAt K "words" sWords) (d2 : DefAt K "word_at" sWordAt) (d3 : DefAt K "name_at" sNameAt) (d4 : DefAt K "below_zero_at" sBelow) (d5 : DefAt K "figures_at" sFigures) (d6 : DefAt K "run_at" sRun) (d7 : DefAt K "begins_in" sBegins) (d8 : DefAt K "is_call" sIsCall) (d9 : DefAt K "term_size" sSize) (d10 : DefAt K "calls_of" sCalls) (d11 : DefAt K "keeps_mark" sKeeps) (d12 : DefAt K "with_modes" sWithM) (d13 : DefAt K "with_parts" sWithP) (d14 : DefAt K "show_mark" sShowM) (d15 : DefAt K "show_in_brackets" sShowB) (d16 : DefAt K "has_one_twice" sTwice) (d17 : DefAt K "own_wood" sOwnW) (d18 : DefAt K "rows_of" sRowsOf) (d19 : DefAt K "row_of" sRowOf) (d20 : DefAt K "is_sound" sSound) (d21 : DefAt K "rules_fit" sRulesF) (d22 : DefAt K "calls_fit" sCallsF) (d23 : DefAt K "call_fits" sCallF) (d24 : DefAt K "read_turning" sRead) (d25 : DefAt K "rule_from" sRuleF) (d26 : DefAt K "term_from" sTermF) (d27 : DefAt K "check_numbers" sChkN) (d28 : DefAt K "turning_of" sTurnO) (d29 : DefAt K "mode_of" sModeO) (d30 : DefAt K "check_mode" sChkM) (d31 : DefAt K "numbered" sNumd) (d32 : DefAt K "show_turning" sShowT) (d33 : DefAt K "show_rules" sShowR) (d34 : DefAt K "show_term" sShowTm) (d35 : DefAt K "show_mode" sShowMo) (d36 : DefAt K "_law_cell_at" sCell) (d37 : DefAt K "_law_mode" sMode) (d38 : DefAt K "_law_mark" sMark) (d39 : DefAt K "law" sLaw)
    (z1 : PySem.W.nsIn K mainGlobals "len" = some none) (z2 : PySem.W.nsIn K mainGlobals "isinstance" = some none) (z3 : PySem.W.nsIn K mainGlobals "str" = some none) (z4 : PySem.W.nsIn K mainGlobals "list" = some none) (z5 : PySem.W.nsIn K mainGlobals "range" = some none) (z6 : PySem.W.nsIn K mainGlobals "tuple" = some none) (z7 : PySem.W.nsIn K mainGlobals "int" = some none) (z8 : PySem.W.nsIn K mainGlobals "sum" = some none)   (ht1 : PySem.W.tabIn K "term_from" = some (c1, T1)) (hh1 : PySem.W.codeHdIn K c1 T1 = true)  {tA tB tC tD tE tF tG tH : Tok} (gA : PySem.W.nsIn K mainGlobals "LETTERS" = some (some (.str LETS tA))) (gB : PySem.W.nsIn K mainGlobals "FIGURES" = some (some (.str FIGS tB))) (gC : PySem.W.nsIn K mainGlobals "SIGNS" = some (some (.str SGNS tC))) (gD : PySem.W.nsIn K mainGlobals "MOST_LETTERS" = some (some (.int 8 tD))) (gE : PySem.W.nsIn K mainGlobals "MOST_FIGURES" = some (some (.int 60 tE))) (gF : PySem.W.nsIn K mainGlobals "MOST_BRACKETS" = some (some (.int 8 tF))) (gG : PySem.W.nsIn K mainGlobals "MOST_RULES" = some (some (.int 40 tG))) (gH : PySem.W.nsIn K mainGlobals "MOST_PUTS_AND_CALLS" = some (some (.int 120 tH))) (gI : PySem.W.nsIn K mainGlobals "any" = some none) (gJ : PySem.W.nsIn K mainGlobals "all" = some none) (gK : PySem.W.nsIn K mainGlobals "enumerate" = some none) (gL : PySem.W.nsIn K mainGlobals "dict" = some none) (gM : PySem.W.nsIn K mainGlobals "zip" = some none) (gN : PySem.W.nsIn K mainGlobals "set" = some none) (s1 : RdK K) :
    ∃ fd : FuncData, (∀ (s : Shared) (v : Value), BindsTo s fd ⟨[v], []⟩ [("_law_script", v)]) ∧ ∀ base : Heap, K.In base → base.Ns mainGlobals mg → BtAt mg base → FnOk l.prog w K mg base CX0 34 fa fd ["_law_script"] (spLaw K T1) := by
  have G : Gm mg := ⟨PySem.W.mg_none_of X N z1, PySem.W.mg_none_of X N z2, PySem.W.mg_none_of X N z3, PySem.W.mg_none_of X N z4, PySem.W.mg_none_of X N z5, PySem.W.mg_none_of X N z6, PySem.W.mg_none_of X N z7, PySem.W.mg_none_of X N z8, ⟨_, PySem.W.mg_of X N gA⟩, ⟨_, PySem.W.mg_of X N gB⟩, ⟨_, PySem.W.mg_of X N gC⟩, ⟨_, PySem.W.mg_of X N gD⟩, ⟨_, PySem.W.mg_of X N gE⟩⟩
  obtain ⟨f, oc, od, kV, doc, pm, an, cdv, ct, osl, a, lk, c, kp⟩ := d39.ex
  have e := hfa.symm.trans (PySem.W.mg_of X N a)
  cases e
  have F := fun_mk (st := sLaw) lk c kp
  refine ⟨PySem.W.fnOf "law" "law" (defArgs sLaw) (defBody sLaw) (defScope sLaw) .none kV doc pm an cdv ct, fun s v => .of_eq rfl, fun base _ _ hB => ?_⟩
  have hmb : ∃ t, mg "MOST_BRACKETS" = some (.int 8 t) := ⟨_, PySem.W.mg_of X N gF⟩
  have hmr : ∃ t, mg "MOST_RULES" = some (.int 40 t) := ⟨_, PySem.W.mg_of X N gG⟩
  have hmp : ∃ t, mg "MOST_PUTS_AND_CALLS" = some (.int 120 t) := ⟨_, PySem.W.mg_of X N gH⟩
  have GA : GmA mg := ⟨PySem.W.mg_none_of X N gI, PySem.W.mg_none_of X N gJ, PySem.W.mg_none_of X N gK, PySem.W.mg_none_of X N gL, PySem.W.mg_none_of X N gM, PySem.W.mg_none_of X N gN⟩
  have aB : ∀ g : Heap, Fn l.prog w K mg g 1 "begins_in" ["word", "signs"] spBeg := fun g => d7.fn X N (fun f fd F => ok_begins F) (fun _ _ _ _ _ _ us hl => by obtain ⟨a1, a2, rfl⟩ := ln2 hl; rfl)
  obtain ⟨C, TT, MM, II⟩ := s1.m (P := l.prog) (w := w) X N G aB
  have w1 : Fn l.prog w K mg base 1 "run_at" ["text", "start", "signs"] spRun := d6.fn X N (fun f fd F => ok_run F G) fun _ _ _ _ _ _ us hl => by obtain ⟨a1, a2, a3, rfl⟩ := ln3 hl; rfl
  have w2 : Fn l.prog w K mg base 2 "figures_at" ["text", "start"] spFig := d5.fn X N (fun f fd F => ok_fig F G w1) fun _ _ _ _ _ _ us hl => by obtain ⟨a1, a2, rfl⟩ := ln2 hl; rfl
  have w3 : Fn l.prog w K mg base 3 "below_zero_at" ["text", "start"] spBelow := d4.fn X N (fun f fd F => ok_below F w2) fun _ _ _ _ _ _ us hl => by obtain ⟨a1, a2, rfl⟩ := ln2 hl; rfl
  have w4 : Fn l.prog w K mg base 2 "name_at" ["text", "start"] spNameAt := d3.fn X N (fun f fd F => ok_nameAt F G w1) fun _ _ _ _ _ _ us hl => by obtain ⟨a1, a2, rfl⟩ := ln2 hl; rfl
  have w5 : Fn l.prog w K mg base 4 "word_at" ["text", "start"] spWordAt := d2.fn X N (fun f fd F => ok_wordAt F G w4 w2 w3) fun _ _ _ _ _ _ us hl => by obtain ⟨a1, a2, rfl⟩ := ln2 hl; rfl
  have w6 : Fn l.prog w K mg base 5 "words" ["text"] spWords := d1.fn X N (fun f fd F => ok_words F G w5) fun _ _ _ _ _ _ us hl => by obtain ⟨a1, rfl⟩ := ln1 hl; rfl
  have t1 : Fn l.prog w K mg base 1 "is_call" ["term"] (spIsCV K) := d8.fn X N (fun f fd F => ok_isC F) fun _ _ _ _ _ _ us hl => by obtain ⟨a1, rfl⟩ := ln1 hl; rfl
  have t2 : Fn l.prog w K mg base 10 "term_size" ["term"] (spTSV K 9) := by
    obtain ⟨f, oc, od, kV, doc, pm, an, cdv, ct, osl, a, lk, c, kp⟩ := d9.ex
    have F := fun_mk (st := sSize) lk c kp
    have hb : Binds K _ ["term"] [] := F.binds fun _ _ _ _ _ _ us hl => by obtain ⟨a1, rfl⟩ := ln1 hl; rfl
    exact ⟨f, _, all_ts F G t1 hb (PySem.W.mg_of X N a) 9, hb, kp, PySem.W.mg_of X N a⟩
  have t3 : Fn l.prog w K mg base 10 "calls_of" ["term"] (spCOV K 9) := by
    obtain ⟨f, oc, od, kV, doc, pm, an, cdv, ct, osl, a, lk, c, kp⟩ := d10.ex
    have F := fun_mk (st := sCalls) lk c kp
    have hb : Binds K _ ["term"] [] := F.binds fun _ _ _ _ _ _ us hl => by obtain ⟨a1, rfl⟩ := ln1 hl; rfl
    exact ⟨f, _, all_co F G t1 hb (PySem.W.mg_of X N a) 9, hb, kp, PySem.W.mg_of X N a⟩
  have t4 : Fn l.prog w K mg base 1 "with_parts" ["term", "parts"] (spWPV K) := d13.fn X N (fun f fd F => ok_wp F G) fun _ _ _ _ _ _ us hl => by obtain ⟨a1, a2, rfl⟩ := ln2 hl; rfl
  have t5 : Fn l.prog w K mg base 10 "with_modes" ["term", "numbers"] (spWM K 9) := by
    obtain ⟨f, oc, od, kV, doc, pm, an, cdv, ct, osl, a, lk, c, kp⟩ := d12.ex
    have F := fun_mk (st := sWithM) lk c kp
    have hb : Binds K _ ["term", "numbers"] [] := F.binds fun _ _ _ _ _ _ us hl => by obtain ⟨a1, a2, rfl⟩ := ln2 hl; rfl
    exact ⟨f, _, all_wm F G t1 t4 hb (PySem.W.mg_of X N a) 9, hb, kp, PySem.W.mg_of X N a⟩
  have t6 : Fn l.prog w K mg base 10 "keeps_mark" ["term"] (spKMV K 9) := by
    obtain ⟨f, oc, od, kV, doc, pm, an, cdv, ct, osl, a, lk, c, kp⟩ := d11.ex
    have F := fun_mk (st := sKeeps) lk c kp
    have hb : Binds K _ ["term"] [] := F.binds fun _ _ _ _ _ _ us hl => by obtain ⟨a1, rfl⟩ := ln1 hl; rfl
    exact ⟨f, _, all_km F GA t1 hb (PySem.W.mg_of X N a) 9, hb, kp, PySem.W.mg_of X N a⟩
  have x1 : Fn l.prog w K mg base 1 "show_mark" ["mark"] spSM := d14.fn X N (fun f fd F => ok_sm F G) fun _ _ _ _ _ _ us hl => by obtain ⟨a1, rfl⟩ := ln1 hl; rfl
  have x2 : Fn l.prog w K mg base 1 "show_in_brackets" ["texts"] (spSB K) := d15.fn X N (fun f fd F => ok_sb F G) fun _ _ _ _ _ _ us hl => by obtain ⟨a1, rfl⟩ := ln1 hl; rfl
  have x3 : Fn l.prog w K mg base 1 "show_mode" ["mode"] spShMo := d35.fn X N (fun f fd F => ok_shMo F G) fun _ _ _ _ _ _ us hl => by obtain ⟨a1, rfl⟩ := ln1 hl; rfl
  have x4 : Fn l.prog w K mg base 10 "show_term" ["term"] (spShTm K 9) := by
    obtain ⟨f, oc, od, kV, doc, pm, an, cdv, ct, osl, a, lk, c, kp⟩ := d34.ex
    have F := fun_mk (st := sShowTm) lk c kp
    have hb : Binds K _ ["term"] [] := F.binds fun _ _ _ _ _ _ us hl => by obtain ⟨a1, rfl⟩ := ln1 hl; rfl
    exact ⟨f, _, all_shTm F G t1 x3 x1 x2 hb (PySem.W.mg_of X N a) 9, hb, kp, PySem.W.mg_of X N a⟩
  have y1 : Fn l.prog w K mg base 1 "has_one_twice" ["names"] (spTwB K) := d16.fn X N (fun f fd F => ok_tw F G GA) fun _ _ _ _ _ _ us hl => by obtain ⟨a1, rfl⟩ := ln1 hl; rfl
  have y2 : Fn l.prog w K mg base 1 "own_wood" ["wood"] (spOwnW K) := d17.fn X N (fun f fd F => ok_ownW F G) fun _ _ _ _ _ _ us hl => by obtain ⟨a1, rfl⟩ := ln1 hl; rfl
  have y3 : Fn l.prog w K mg base 1 "rows_of" ["wood", "kind"] (spRowsOf K) := d18.fn X N (fun f fd F => ok_rowsOf F GA) fun _ _ _ _ _ _ us hl => by obtain ⟨a1, a2, rfl⟩ := ln2 hl; rfl
  have y4 : Fn l.prog w K mg base 2 "row_of" ["wood", "kind", "name"] (spRowOf K) := d19.fn X N (fun f fd F => ok_rowOf F GA y3) fun _ _ _ _ _ _ us hl => by obtain ⟨a1, a2, a3, rfl⟩ := ln3 hl; rfl
  have v1 : Fn l.prog w K mg base 1 "call_fits" ["modes", "mode", "branch", "kinds"] (spCFV K) := d23.fn X N (fun f fd F => ok_cf F G) fun _ _ _ _ _ _ us hl => by obtain ⟨a1, a2, a3, a4, rfl⟩ := ln4 hl; rfl
  have v2 : Fn l.prog w K mg base 11 "calls_fit" ["modes", "term", "kinds"] (spCsFV K) := d22.fn X N (fun f fd F => ok_csf F GA t3 v1) fun _ _ _ _ _ _ us hl => by obtain ⟨a1, a2, a3, rfl⟩ := ln3 hl; rfl
  have v3 : Fn l.prog w K mg base 12 "rules_fit" ["wood", "modes", "kind", "rules"] (spRFV K) := d21.fn X N (fun f fd F => ok_rf F G GA y3 v2) fun _ _ _ _ _ _ us hl => by obtain ⟨a1, a2, a3, a4, rfl⟩ := ln4 hl; rfl
  have v4 : Fn l.prog w K mg base 13 "is_sound" ["wood", "start", "modes"] (spISV K) := d20.fn X N (fun f fd F => ok_is F GA v3 t6 v2) fun _ _ _ _ _ _ us hl => by obtain ⟨a1, a2, a3, rfl⟩ := ln3 hl; rfl
  have n1 : Fn l.prog w K mg base 11 "numbered" ["term", "numbers"] (spNumd K) := d31.fn X N (fun f fd F => ok_numd F t3 t5) fun _ _ _ _ _ _ us hl => by obtain ⟨a1, a2, rfl⟩ := ln2 hl; rfl
  have n2 : Fn l.prog w K mg base 11 "check_numbers" ["start", "rules"] (spChkNu K) := d27.fn X N (fun f fd F => ok_chkNu F G hmr hmp t2) fun _ _ _ _ _ _ us hl => by obtain ⟨a1, a2, rfl⟩ := ln2 hl; rfl
  have n3 : Fn l.prog w K mg base 3 "check_mode" ["wood", "mode", "kind", "rules"] (spChkM K) := d30.fn X N (fun f fd F => ok_chkM F G y4 y1 y3) fun _ _ _ _ _ _ us hl => by obtain ⟨a1, a2, a3, a4, rfl⟩ := ln4 hl; rfl
  have n4 : Fn l.prog w K mg base 12 "mode_of" ["wood", "numbers", "rules"] (spModeO K) := d29.fn X N (fun f fd F => ok_modeO F GA n3 n1 y3) fun _ _ _ _ _ _ us hl => by obtain ⟨a1, a2, a3, rfl⟩ := ln3 hl; rfl
  have n5 : Fn l.prog w K mg base 14 "turning_of" ["wood", "start", "rules"] (spTurnO K) := d28.fn X N (fun f fd F => ok_turnO F GA y2 n4 n1 v4) fun _ _ _ _ _ _ us hl => by obtain ⟨a1, a2, a3, rfl⟩ := ln3 hl; rfl
  have r5 : Fn l.prog w K mg base 31 "term_from" ["reader", "room"] (spTermF K C T1 9) := by
    obtain ⟨f, oc, od, kV, doc, pm, an, cdv, ct, osl, a, lk, c, kp⟩ := d26.ex
    have F := fun_mk (st := sTermF) lk c kp
    have hb : Binds K _ ["reader", "room"] [] := F.binds fun _ _ _ _ _ _ us hl => by obtain ⟨a1, a2, rfl⟩ := ln2 hl; rfl
    exact ⟨f, _, all_termF F a ht1 hh1 TT MM hb (PySem.W.mg_of X N a) 9 base hB, hb, kp, PySem.W.mg_of X N a⟩
  have r7 : Fn l.prog w K mg base 32 "rule_from" ["reader"] (spRuleF K C T1) := d25.fn X N (fun f fd F => ok_ruleF F TT MM hmb r5) fun _ _ _ _ _ _ us hl => by obtain ⟨a1, rfl⟩ := ln1 hl; rfl
  obtain ⟨fI, fdI, mkI, FI, bI⟩ := II base w6
  have r6 : Fn l.prog w K mg base 33 "read_turning" ["wood", "text"] (spReadT K T1) := d24.fn X N (fun f fd F => ok_readT F TT MM hmb mkI FI bI r5 r7 n2 n5) fun _ _ _ _ _ _ us hl => by obtain ⟨a1, a2, rfl⟩ := ln2 hl; rfl
  have x5 : Fn l.prog w K mg base 11 "show_rules" ["mode", "kind", "rows", "rules"] (spShR K) := d33.fn X N (fun f fd F => ok_shR F GA x4) fun _ _ _ _ _ _ us hl => by obtain ⟨a1, a2, a3, a4, rfl⟩ := ln4 hl; rfl
  have x6 : Fn l.prog w K mg base 12 "show_turning" ["turning"] (spShT K) := d32.fn X N (fun f fd F => ok_shT F GA x4 x5 x3 y3) fun _ _ _ _ _ _ us hl => by obtain ⟨a1, rfl⟩ := ln1 hl; rfl
  have l1 : Fn l.prog w K mg base 1 "_law_cell_at" ["_law_script", "_law_k"] (spCell K) := d36.fn X N (fun f fd F => ok_cell F G) fun _ _ _ _ _ _ us hl => by obtain ⟨a1, a2, rfl⟩ := ln2 hl; rfl
  have l2 : Fn l.prog w K mg base 1 "_law_mode" ["_law_number"] spShMo := d37.fn X N (fun f fd F => ok_mode F) fun _ _ _ _ _ _ us hl => by obtain ⟨a1, rfl⟩ := ln1 hl; rfl
  have l3 : Fn l.prog w K mg base 1 "_law_mark" ["_law_kept", "_law_add"] spMark := d38.fn X N (fun f fd F => ok_mark F G) fun _ _ _ _ _ _ us hl => by obtain ⟨a1, a2, rfl⟩ := ln2 hl; rfl
  exact ok_law F G l1 l2 l3 x6 r6
theorem walk {c1 T1 : Addr} {l : PySem.W.OpenLaw} {q : Program} {loose : List Str} {XP : (Str → Option Value) → Heap → Prop} {YP : World → Heap → Prop} {d : DefRec} {K : Params → PySem.W.Frag} (hn : l.most = some 63) (hdf : d.params.defaults = [])
    (hY : ∀ (w : World) (h : Heap), YP w h → (K w.params).In h) (tb1 : ∀ w : World, TabAt q (K w.params) "term_from" c1 T1)
    (F : ∀ (w : World) (mg : Str → Option Value) (fa : Addr) (h : Heap), (K w.params).In h → h.Ns mainGlobals mg → mg d.name = some (.ref fa) →
      ∃ fd : FuncData, (∀ (s : Shared) (u : Value), BindsTo s fd ⟨[u], []⟩ [("_law_script", u)]) ∧ ∀ base : Heap, (K w.params).In base → base.Ns mainGlobals mg → BtAt mg base → FnOk l.prog w (K w.params) mg base CX0 34 fa fd ["_law_script"] (spLaw (K w.params) T1)) :
    PySem.W.WalkO q loose XP YP l.row.toRowW d [] (fun f vs => PySem.call f vs) :=
  L2.walk_ofT (n := 63) (k := 34) (x := "_law_script") (tabs := [("term_from", c1, T1)]) (sp := fun w => spLaw (K w.params) T1) hn (by decide) hdf ⟨rfl, by decide, by decide⟩ hY (fun w p hp => by
    simp only [List.mem_cons, List.not_mem_nil, or_false] at hp
    rcases hp with rfl
    · exact tb1 w) F (fun _ _ a ns hl hS hT => ⟨a, ns, rfl, hS, hl, hT ("term_from", c1, T1) (by simp), fun _ => rfl⟩)
end K14
section
open PySem
noncomputable def K14.vS (x : String) (n : Nat) : Value := .str (Str.ofString x) n
noncomputable def K14.vR (a : Nat) : Value := .ref a
noncomputable def K14.vI (i : Int) (n : Nat) : Value := .int i n
noncomputable def K14.hE (P : Params) (x : String) (n : Nat) (v : Value) : DictEntry := ⟨PyData.keyHash P (Str.ofString x), .str (Str.ofString x) n, v⟩
noncomputable def K14.vNo : Value := .none
noncomputable def K14.vF : Value := .type "function"
noncomputable def K14.vT : Value := .bool true
noncomputable def K14.i0 : Value := .int 0 0
noncomputable def K14.i3 : Value := .int 3 0
noncomputable def K14.i1 : Value := .int 181 0
noncomputable def K14.cP (k : Nat) : Value := .str (Str.ofString "/claim/cut.py") k
noncomputable def K14.oT (x : Array Value) : Obj := Obj.mk (Value.type "tuple") none (Data.seq x) #[]
noncomputable def K14.oC (x : Array Value) : Obj := Obj.mk (Value.type "code") none (Data.fields x) #[]
noncomputable def K14.oF (c : Value) (x y : String) (s : Stmt) (k : Nat) (pm cd : Value) : Obj := Obj.mk c none (Data.func (FuncData.mk (Str.ofString x) (Str.ofString y) (L2.defArgs s) (.stmts (L2.defBody s)) (L2.defScope s) k [] Value.none Value.none Value.none pm none cd Value.none 0)) #[]
open K14 in
noncomputable def K14.hp : Params → PySem.W.Frag := fun P => [ (2, Obj.mk vNo none (Data.dict #[]) #[])
, (3, Obj.mk (Value.type "dict") none (Data.dict #[hE P "__name__" 165 (vS "law_turnery_k14_many_modes_shown" 670), hE P "__doc__" 166 vNo, hE P "__package__" 167 vNo, hE P "__loader__" 168 (Value.builtin "__main__.__loader__#opaque"), hE P "__spec__" 169 vNo, hE P "__annotations__" 170 (vR 6), hE P "__builtins__" 171 (vR 4), hE P "__file__" 173 (cP 172), hE P "__cached__" 174 vNo, hE P "_wall" 193 (vR 21), hE P "TurnError" 213 (vR 31), hE P "NoText" 229 (vR 44), hE P "NoTurning" 245 (vR 56), hE P "LETTERS" 249 (vS "abcdefghijklmnopqrstuvwxyz" 248), hE P "FIGURES" 251 (vS "0123456789" 250), hE P "SIGNS" 253 (vS "();:=|*" 252), hE P "MOST_LETTERS" 255 (vI 8 254), hE P "MOST_FIGURES" 257 (vI 60 256), hE P "words" 267 (vR 65), hE P "word_at" 276 (vR 72), hE P "name_at" 285 (vR 79), hE P "below_zero_at" 294 (vR 86), hE P "figures_at" 303 (vR 93), hE P "run_at" 313 (vR 100), hE P "Reader" 430 (vR 194), hE P "begins_in" 438 (vR 205), hE P "is_call" 447 (vR 212), hE P "term_size" 453 (vR 217), hE P "calls_of" 462 (vR 224), hE P "keeps_mark" 468 (vR 229), hE P "with_modes" 474 (vR 234), hE P "with_parts" 482 (vR 241), hE P "show_mark" 491 (vR 248), hE P "show_in_brackets" 498 (vR 255), hE P "has_one_twice" 507 (vR 262), hE P "own_wood" 513 (vR 267), hE P "rows_of" 521 (vR 274), hE P "row_of" 530 (vR 281), hE P "is_sound" 538 (vR 286), hE P "rules_fit" 544 (vR 291), hE P "calls_fit" 550 (vR 296), hE P "call_fits" 560 (vR 303), hE P "MOST_RULES" 564 (vI 40 563), hE P "MOST_PUTS_AND_CALLS" 566 (vI 120 565), hE P "MOST_BRACKETS" 568 (vI 8 567), hE P "read_turning" 579 (vR 310), hE P "rule_from" 589 (vR 317), hE P "term_from" 603 (vR 324), hE P "check_numbers" 609 (vR 329), hE P "turning_of" 615 (vR 334), hE P "mode_of" 621 (vR 339), hE P "check_mode" 627 (vR 344), hE P "numbered" 637 (vR 351), hE P "show_turning" 647 (vR 358), hE P "show_rules" 653 (vR 363), hE P "show_term" 659 (vR 368), hE P "show_mode" 669 (vR 375), hE P "_law_cell_at" 679 (vR 382), hE P "_law_mode" 687 (vR 389), hE P "_law_mark" 695 (vR 396), hE P "law" 717 (vR 403)] 61) #[])
, (15, oT #[])
, (17, oT #[vS "k" 190])
, (18, oT #[])
, (20, oC #[vS "_wall" 187, vS "_wall" 188, cP 189, vI 1 0, vI 1 0, i0, i0, i3, vR 15, vT, i1, vR 16, vNo, vR 17, vR 18, vR 19, vI 191 0, vI 1 0, cP 192])
, (21, oF vF "_wall" "_wall" (top 0) 3 (vS "__main__" 164) (vR 20))
, (22, oT #[Value.type "ValueError"])
, (29, oT #[])
, (30, Obj.mk (Value.type "dict") none (Data.dict #[hE P "__module__" 203 (vS "turnery.errors" 194), hE P "__firstlineno__" 207 (vI 5 206), hE P "__static_attributes__" 208 (vR 29), hE P "__weakref__" 210 (vR 32), hE P "__doc__" 211 vNo] 3) #[])
, (31, Obj.mk (Value.type "type") none (Data.cls (ClassData.mk (Str.ofString "TurnError") [Value.type "ValueError"] [vR 31, Value.type "ValueError", Value.type "Exception", Value.type "BaseException", Value.type "object"] 30 (Str.ofString "TurnError") true [] [vR 44, vR 56] false none false)) #[some (vR 22), none, some (vS "TurnError" 196), some (vS "TurnError" 204), some (Value.builtin "ValueError.__new__"), some (Value.bool true)])
, (32, Obj.mk (Value.type "getset_descriptor") none (Data.fields #[vS "__weakref__" 209, vR 31, Value.builtin "ExceptionGroup.__weakref__", vNo]) #[])
, (35, oT #[vR 31])
, (42, oT #[])
, (43, Obj.mk (Value.type "dict") none (Data.dict #[hE P "__module__" 221 (vS "turnery.errors" 194), hE P "__firstlineno__" 225 (vI 7 224), hE P "__static_attributes__" 226 (vR 42), hE P "__doc__" 227 vNo] 2) #[])
, (44, Obj.mk (Value.type "type") none (Data.cls (ClassData.mk (Str.ofString "NoText") [vR 31] [vR 44, vR 31, Value.type "ValueError", Value.type "Exception", Value.type "BaseException", Value.type "object"] 43 (Str.ofString "NoText") true [] [] false none false)) #[some (vR 35), none, some (vS "NoText" 214), some (vS "NoText" 222), some (Value.builtin "ValueError.__new__"), some (Value.bool true)])
, (47, oT #[vR 31])
, (54, oT #[])
, (55, Obj.mk (Value.type "dict") none (Data.dict #[hE P "__module__" 237 (vS "turnery.errors" 194), hE P "__firstlineno__" 241 (vI 9 240), hE P "__static_attributes__" 242 (vR 54), hE P "__doc__" 243 vNo] 2) #[])
, (56, Obj.mk (Value.type "type") none (Data.cls (ClassData.mk (Str.ofString "NoTurning") [vR 31] [vR 56, vR 31, Value.type "ValueError", Value.type "Exception", Value.type "BaseException", Value.type "object"] 55 (Str.ofString "NoTurning") true [] [] false none false)) #[some (vR 47), none, some (vS "NoTurning" 230), some (vS "NoTurning" 238), some (Value.builtin "ValueError.__new__"), some (Value.bool true)])
, (59, oT #[])
, (61, oT #[vS "text" 261, vS "told" 262, vS "start" 263, vS "word" 264])
, (62, oT #[])
, (64, oC #[vS "words" 258, vS "words" 259, cP 260, vI 17 0, vI 1 0, i0, i0, i3, vR 59, vT, i1, vR 60, vNo, vR 61, vR 62, vR 63, vI 265 0, vI 17 0, cP 266])
, (65, oF vF "words" "words" (top 11) 3 (vS "turnery.words" 246) (vR 64))
, (66, oT #[])
, (68, oT #[vS "text" 271, vS "start" 272, vS "first" 273])
, (69, oT #[])
, (71, oC #[vS "word_at" 268, vS "word_at" 269, cP 270, vI 30 0, vI 2 0, i0, i0, i3, vR 66, vT, i1, vR 67, vNo, vR 68, vR 69, vR 70, vI 274 0, vI 30 0, cP 275])
, (72, oF vF "word_at" "word_at" (top 12) 3 (vS "turnery.words" 246) (vR 71))
, (73, oT #[])
, (75, oT #[vS "text" 280, vS "start" 281, vS "name" 282])
, (76, oT #[])
, (78, oC #[vS "name_at" 277, vS "name_at" 278, cP 279, vI 41 0, vI 2 0, i0, i0, i3, vR 73, vT, i1, vR 74, vNo, vR 75, vR 76, vR 77, vI 283 0, vI 41 0, cP 284])
, (79, oF vF "name_at" "name_at" (top 13) 3 (vS "turnery.words" 246) (vR 78))
, (80, oT #[])
, (82, oT #[vS "text" 289, vS "start" 290, vS "figures" 291])
, (83, oT #[])
, (85, oC #[vS "below_zero_at" 286, vS "below_zero_at" 287, cP 288, vI 46 0, vI 2 0, i0, i0, i3, vR 80, vT, i1, vR 81, vNo, vR 82, vR 83, vR 84, vI 292 0, vI 46 0, cP 293])
, (86, oF vF "below_zero_at" "below_zero_at" (top 14) 3 (vS "turnery.words" 246) (vR 85))
, (87, oT #[])
, (89, oT #[vS "text" 298, vS "start" 299, vS "figures" 300])
, (90, oT #[])
, (92, oC #[vS "figures_at" 295, vS "figures_at" 296, cP 297, vI 51 0, vI 2 0, i0, i0, i3, vR 87, vT, i1, vR 88, vNo, vR 89, vR 90, vR 91, vI 301 0, vI 51 0, cP 302])
, (93, oF vF "figures_at" "figures_at" (top 15) 3 (vS "turnery.words" 246) (vR 92))
, (94, oT #[])
, (96, oT #[vS "text" 307, vS "start" 308, vS "signs" 309, vS "end" 310])
, (97, oT #[])
, (99, oC #[vS "run_at" 304, vS "run_at" 305, cP 306, vI 60 0, vI 3 0, i0, i0, i3, vR 94, vT, i1, vR 95, vNo, vR 96, vR 97, vR 98, vI 311 0, vI 60 0, cP 312])
, (100, oF vF "run_at" "run_at" (top 16) 3 (vS "turnery.words" 246) (vR 99))
, (108, oT #[])
, (110, oT #[vS "self" 331, vS "text" 332])
, (111, oT #[])
, (113, oC #[vS "__init__" 328, vS "Reader.__init__" 329, cP 330, vI 68 0, vI 2 0, i0, i0, i3, vR 108, vT, i1, vR 109, vNo, vR 110, vR 111, vR 112, vI 333 0, vI 68 0, cP 334])
, (114, oF vF "__init__" "Reader.__init__" (L2.inClass (top 18) 0) 3 (vS "turnery.readers" 314) (vR 113))
, (115, oT #[])
, (117, oT #[vS "self" 339])
, (118, oT #[])
, (120, oC #[vS "ahead" 336, vS "Reader.ahead" 337, cP 338, vI 72 0, vI 1 0, i0, i0, i3, vR 115, vT, i1, vR 116, vNo, vR 117, vR 118, vR 119, vI 340 0, vI 72 0, cP 341])
, (121, oF vF "ahead" "Reader.ahead" (L2.inClass (top 18) 1) 3 (vS "turnery.readers" 314) (vR 120))
, (122, oT #[])
, (124, oT #[vS "self" 346])
, (125, oT #[])
, (127, oC #[vS "at_name" 343, vS "Reader.at_name" 344, cP 345, vI 77 0, vI 1 0, i0, i0, i3, vR 122, vT, i1, vR 123, vNo, vR 124, vR 125, vR 126, vI 347 0, vI 77 0, cP 348])
, (128, oF vF "at_name" "Reader.at_name" (L2.inClass (top 18) 2) 3 (vS "turnery.readers" 314) (vR 127))
, (129, oT #[])
, (131, oT #[vS "self" 353])
, (132, oT #[])
, (134, oC #[vS "at_number" 350, vS "Reader.at_number" 351, cP 352, vI 80 0, vI 1 0, i0, i0, i3, vR 129, vT, i1, vR 130, vNo, vR 131, vR 132, vR 133, vI 354 0, vI 80 0, cP 355])
, (135, oF vF "at_number" "Reader.at_number" (L2.inClass (top 18) 3) 3 (vS "turnery.readers" 314) (vR 134))
, (136, oT #[])
, (138, oT #[vS "self" 360, vS "sign" 361])
, (139, oT #[])
, (141, oC #[vS "passed" 357, vS "Reader.passed" 358, cP 359, vI 83 0, vI 2 0, i0, i0, i3, vR 136, vT, i1, vR 137, vNo, vR 138, vR 139, vR 140, vI 362 0, vI 83 0, cP 363])
, (142, oF vF "passed" "Reader.passed" (L2.inClass (top 18) 4) 3 (vS "turnery.readers" 314) (vR 141))
, (143, oT #[])
, (145, oT #[vS "self" 368, vS "sign" 369])
, (146, oT #[])
, (148, oC #[vS "need" 365, vS "Reader.need" 366, cP 367, vI 89 0, vI 2 0, i0, i0, i3, vR 143, vT, i1, vR 144, vNo, vR 145, vR 146, vR 147, vI 370 0, vI 89 0, cP 371])
, (149, oF vF "need" "Reader.need" (L2.inClass (top 18) 5) 3 (vS "turnery.readers" 314) (vR 148))
, (150, oT #[])
, (152, oT #[vS "self" 376, vS "word" 377])
, (153, oT #[])
, (155, oC #[vS "need_end" 373, vS "Reader.need_end" 374, cP 375, vI 93 0, vI 1 0, i0, i0, i3, vR 150, vT, i1, vR 151, vNo, vR 152, vR 153, vR 154, vI 378 0, vI 93 0, cP 379])
, (156, oF vF "need_end" "Reader.need_end" (L2.inClass (top 18) 6) 3 (vS "turnery.readers" 314) (vR 155))
, (157, oT #[])
, (159, oT #[vS "self" 384])
, (160, oT #[])
, (162, oC #[vS "take_name" 381, vS "Reader.take_name" 382, cP 383, vI 98 0, vI 1 0, i0, i0, i3, vR 157, vT, i1, vR 158, vNo, vR 159, vR 160, vR 161, vI 385 0, vI 98 0, cP 386])
, (163, oF vF "take_name" "Reader.take_name" (L2.inClass (top 18) 7) 3 (vS "turnery.readers" 314) (vR 162))
, (164, oT #[])
, (166, oT #[vS "self" 391])
, (167, oT #[])
, (169, oC #[vS "take_number" 388, vS "Reader.take_number" 389, cP 390, vI 103 0, vI 1 0, i0, i0, i3, vR 164, vT, i1, vR 165, vNo, vR 166, vR 167, vR 168, vI 392 0, vI 103 0, cP 393])
, (170, oF vF "take_number" "Reader.take_number" (L2.inClass (top 18) 8) 3 (vS "turnery.readers" 314) (vR 169))
, (171, oT #[])
, (173, oT #[vS "self" 398, vS "word" 399])
, (174, oT #[])
, (176, oC #[vS "take_word" 395, vS "Reader.take_word" 396, cP 397, vI 108 0, vI 1 0, i0, i0, i3, vR 171, vT, i1, vR 172, vNo, vR 173, vR 174, vR 175, vI 400 0, vI 108 0, cP 401])
, (177, oF vF "take_word" "Reader.take_word" (L2.inClass (top 18) 9) 3 (vS "turnery.readers" 314) (vR 176))
, (178, oT #[])
, (180, oT #[vS "self" 406, vS "take_one" 407, vS "taken" 408])
, (181, oT #[])
, (183, oC #[vS "in_brackets" 403, vS "Reader.in_brackets" 404, cP 405, vI 113 0, vI 2 0, i0, i0, i3, vR 178, vT, i1, vR 179, vNo, vR 180, vR 181, vR 182, vI 409 0, vI 113 0, cP 410])
, (184, oF vF "in_brackets" "Reader.in_brackets" (L2.inClass (top 18) 10) 3 (vS "turnery.readers" 314) (vR 183))
, (185, oT #[])
, (187, oT #[vS "self" 415, vS "sign" 416, vS "take_one" 417])
, (188, oT #[])
, (190, oC #[vS "parted_by" 412, vS "Reader.parted_by" 413, cP 414, vI 121 0, vI 3 0, i0, i0, i3, vR 185, vT, i1, vR 186, vNo, vR 187, vR 188, vR 189, vI 418 0, vI 121 0, cP 419])
, (191, oF vF "parted_by" "Reader.parted_by" (L2.inClass (top 18) 11) 3 (vS "turnery.readers" 314) (vR 190))
, (192, oT #[vS "found" 421, vS "spot" 422])
, (193, Obj.mk (Value.type "dict") none (Data.dict #[hE P "__module__" 323 (vS "turnery.readers" 314), hE P "__firstlineno__" 327 (vI 66 326), hE P "__init__" 335 (vR 114), hE P "ahead" 342 (vR 121), hE P "at_name" 349 (vR 128), hE P "at_number" 356 (vR 135), hE P "passed" 364 (vR 142), hE P "need" 372 (vR 149), hE P "need_end" 380 (vR 156), hE P "take_name" 387 (vR 163), hE P "take_number" 394 (vR 170), hE P "take_word" 402 (vR 177), hE P "in_brackets" 411 (vR 184), hE P "parted_by" 420 (vR 191), hE P "__static_attributes__" 423 (vR 192), hE P "__dict__" 425 (vR 195), hE P "__weakref__" 427 (vR 196), hE P "__doc__" 428 vNo] 4) #[])
, (194, Obj.mk (Value.type "type") none (Data.cls (ClassData.mk (Str.ofString "Reader") [Value.type "object"] [vR 194, Value.type "object"] 193 (Str.ofString "Reader") true [] [] false none false)) #[none, none, some (vS "Reader" 316), some (vS "Reader" 324), some (Value.builtin "object.__new__"), some (Value.bool true)])
, (195, Obj.mk (Value.type "getset_descriptor") none (Data.fields #[vS "__dict__" 424, vR 194, Value.builtin "function.__dict__", Value.builtin "function.__dict__#set"]) #[])
, (196, Obj.mk (Value.type "getset_descriptor") none (Data.fields #[vS "__weakref__" 426, vR 194, Value.builtin "ExceptionGroup.__weakref__", vNo]) #[])
, (199, oT #[])
, (201, oT #[vS "word" 434, vS "signs" 435])
, (202, oT #[])
, (204, oC #[vS "begins_in" 431, vS "begins_in" 432, cP 433, vI 123 0, vI 2 0, i0, i0, i3, vR 199, vT, i1, vR 200, vNo, vR 201, vR 202, vR 203, vI 436 0, vI 123 0, cP 437])
, (205, oF vF "begins_in" "begins_in" (top 19) 3 (vS "turnery.readers" 314) (vR 204))
, (206, oT #[])
, (208, oT #[vS "term" 444])
, (209, oT #[])
, (211, oC #[vS "is_call" 441, vS "is_call" 442, cP 443, vI 126 0, vI 1 0, i0, i0, i3, vR 206, vT, i1, vR 207, vNo, vR 208, vR 209, vR 210, vI 445 0, vI 126 0, cP 446])
, (212, oF vF "is_call" "is_call" (top 21) 3 (vS "turnery.terms" 439) (vR 211))
, (213, oT #[])
, (216, oC #[vS "term_size" 448, vS "term_size" 449, cP 450, vI 128 0, vI 1 0, i0, i0, i3, vR 213, vT, i1, vR 214, vNo, vNo, vNo, vR 215, vI 451 0, vI 128 0, cP 452])
, (217, oF vF "term_size" "term_size" (top 22) 3 (vS "turnery.terms" 439) (vR 216))
, (218, oT #[])
, (220, oT #[vS "term" 457, vS "told" 458, vS "part" 459])
, (221, oT #[])
, (223, oC #[vS "calls_of" 454, vS "calls_of" 455, cP 456, vI 132 0, vI 1 0, i0, i0, i3, vR 218, vT, i1, vR 219, vNo, vR 220, vR 221, vR 222, vI 460 0, vI 132 0, cP 461])
, (224, oF vF "calls_of" "calls_of" (top 23) 3 (vS "turnery.terms" 439) (vR 223))
, (225, oT #[])
, (228, oC #[vS "keeps_mark" 463, vS "keeps_mark" 464, cP 465, vI 139 0, vI 1 0, i0, i0, i3, vR 225, vT, i1, vR 226, vNo, vNo, vNo, vR 227, vI 466 0, vI 139 0, cP 467])
, (229, oF vF "keeps_mark" "keeps_mark" (top 24) 3 (vS "turnery.terms" 439) (vR 228))
, (230, oT #[])
, (233, oC #[vS "with_modes" 469, vS "with_modes" 470, cP 471, vI 143 0, vI 2 0, i0, i0, i3, vR 230, vT, i1, vR 231, vNo, vNo, vNo, vR 232, vI 472 0, vI 143 0, cP 473])
, (234, oF vF "with_modes" "with_modes" (top 25) 3 (vS "turnery.terms" 439) (vR 233))
, (235, oT #[])
, (237, oT #[vS "term" 478, vS "parts" 479])
, (238, oT #[])
, (240, oC #[vS "with_parts" 475, vS "with_parts" 476, cP 477, vI 147 0, vI 2 0, i0, i0, i3, vR 235, vT, i1, vR 236, vNo, vR 237, vR 238, vR 239, vI 480 0, vI 147 0, cP 481])
, (241, oF vF "with_parts" "with_parts" (top 26) 3 (vS "turnery.terms" 439) (vR 240))
, (242, oT #[])
, (244, oT #[vS "mark" 488])
, (245, oT #[])
, (247, oC #[vS "show_mark" 485, vS "show_mark" 486, cP 487, vI 150 0, vI 1 0, i0, i0, i3, vR 242, vT, i1, vR 243, vNo, vR 244, vR 245, vR 246, vI 489 0, vI 150 0, cP 490])
, (248, oF vF "show_mark" "show_mark" (top 28) 3 (vS "turnery.treetexts" 483) (vR 247))
, (249, oT #[])
, (251, oT #[vS "texts" 495])
, (252, oT #[])
, (254, oC #[vS "show_in_brackets" 492, vS "show_in_brackets" 493, cP 494, vI 152 0, vI 1 0, i0, i0, i3, vR 249, vT, i1, vR 250, vNo, vR 251, vR 252, vR 253, vI 496 0, vI 152 0, cP 497])
, (255, oF vF "show_in_brackets" "show_in_brackets" (top 29) 3 (vS "turnery.treetexts" 483) (vR 254))
, (256, oT #[])
, (258, oT #[vS "names" 504])
, (259, oT #[])
, (261, oC #[vS "has_one_twice" 501, vS "has_one_twice" 502, cP 503, vI 157 0, vI 1 0, i0, i0, i3, vR 256, vT, i1, vR 257, vNo, vR 258, vR 259, vR 260, vI 505 0, vI 157 0, cP 506])
, (262, oF vF "has_one_twice" "has_one_twice" (top 31) 3 (vS "turnery.woods" 499) (vR 261))
, (263, oT #[])
, (266, oC #[vS "own_wood" 508, vS "own_wood" 509, cP 510, vI 159 0, vI 1 0, i0, i0, i3, vR 263, vT, i1, vR 264, vNo, vNo, vNo, vR 265, vI 511 0, vI 159 0, cP 512])
, (267, oF vF "own_wood" "own_wood" (top 32) 3 (vS "turnery.woods" 499) (vR 266))
, (268, oT #[])
, (270, oT #[vS "wood" 517, vS "kind" 518])
, (271, oT #[])
, (273, oC #[vS "rows_of" 514, vS "rows_of" 515, cP 516, vI 161 0, vI 2 0, i0, i0, i3, vR 268, vT, i1, vR 269, vNo, vR 270, vR 271, vR 272, vI 519 0, vI 161 0, cP 520])
, (274, oF vF "rows_of" "rows_of" (top 33) 3 (vS "turnery.woods" 499) (vR 273))
, (275, oT #[])
, (277, oT #[vS "wood" 525, vS "kind" 526, vS "name" 527])
, (278, oT #[])
, (280, oC #[vS "row_of" 522, vS "row_of" 523, cP 524, vI 163 0, vI 3 0, i0, i0, i3, vR 275, vT, i1, vR 276, vNo, vR 277, vR 278, vR 279, vI 528 0, vI 163 0, cP 529])
, (281, oF vF "row_of" "row_of" (top 34) 3 (vS "turnery.woods" 499) (vR 280))
, (282, oT #[])
, (285, oC #[vS "is_sound" 533, vS "is_sound" 534, cP 535, vI 166 0, vI 3 0, i0, i0, i3, vR 282, vT, i1, vR 283, vNo, vNo, vNo, vR 284, vI 536 0, vI 166 0, cP 537])
, (286, oF vF "is_sound" "is_sound" (top 36) 3 (vS "turnery.turnings" 531) (vR 285))
, (287, oT #[])
, (290, oC #[vS "rules_fit" 539, vS "rules_fit" 540, cP 541, vI 170 0, vI 4 0, i0, i0, i3, vR 287, vT, i1, vR 288, vNo, vNo, vNo, vR 289, vI 542 0, vI 170 0, cP 543])
, (291, oF vF "rules_fit" "rules_fit" (top 37) 3 (vS "turnery.turnings" 531) (vR 290))
, (292, oT #[])
, (295, oC #[vS "calls_fit" 545, vS "calls_fit" 546, cP 547, vI 175 0, vI 3 0, i0, i0, i3, vR 292, vT, i1, vR 293, vNo, vNo, vNo, vR 294, vI 548 0, vI 175 0, cP 549])
, (296, oF vF "calls_fit" "calls_fit" (top 38) 3 (vS "turnery.turnings" 531) (vR 295))
, (297, oT #[])
, (299, oT #[vS "modes" 554, vS "mode" 555, vS "branch" 556, vS "kinds" 557])
, (300, oT #[])
, (302, oC #[vS "call_fits" 551, vS "call_fits" 552, cP 553, vI 177 0, vI 4 0, i0, i0, i3, vR 297, vT, i1, vR 298, vNo, vR 299, vR 300, vR 301, vI 558 0, vI 177 0, cP 559])
, (303, oF vF "call_fits" "call_fits" (top 39) 3 (vS "turnery.turnings" 531) (vR 302))
, (304, oT #[])
, (306, oT #[vS "wood" 572, vS "text" 573, vS "reader" 574, vS "start" 575, vS "rules" 576])
, (307, oT #[])
, (309, oC #[vS "read_turning" 569, vS "read_turning" 570, cP 571, vI 185 0, vI 2 0, i0, i0, i3, vR 304, vT, i1, vR 305, vNo, vR 306, vR 307, vR 308, vI 577 0, vI 185 0, cP 578])
, (310, oF vF "read_turning" "read_turning" (top 44) 3 (vS "turnery.turntexts" 561) (vR 309))
, (311, oT #[])
, (313, oT #[vS "reader" 583, vS "mode" 584, vS "kind" 585, vS "name" 586])
, (314, oT #[])
, (316, oC #[vS "rule_from" 580, vS "rule_from" 581, cP 582, vI 194 0, vI 1 0, i0, i0, i3, vR 311, vT, i1, vR 312, vNo, vR 313, vR 314, vR 315, vI 587 0, vI 194 0, cP 588])
, (317, oF vF "rule_from" "rule_from" (top 45) 3 (vS "turnery.turntexts" 561) (vR 316))
, (318, oT #[])
, (320, oT #[vS "reader" 593, vS "room" 594, vS "mode" 595, vS "name" 596, vS "kept" 597, vS "add" 598])
, (321, oT #[vS "reader" 599, vS "room" 600])
, (323, oC #[vS "term_from" 590, vS "term_from" 591, cP 592, vI 200 0, vI 2 0, i0, i0, i3, vR 318, vT, i1, vR 319, vNo, vR 320, vR 321, vR 322, vI 601 0, vI 200 0, cP 602])
, (324, oF vF "term_from" "term_from" (top 46) 3 (vS "turnery.turntexts" 561) (vR 323))
, (325, oT #[])
, (328, oC #[vS "check_numbers" 604, vS "check_numbers" 605, cP 606, vI 210 0, vI 2 0, i0, i0, i3, vR 325, vT, i1, vR 326, vNo, vNo, vNo, vR 327, vI 607 0, vI 210 0, cP 608])
, (329, oF vF "check_numbers" "check_numbers" (top 47) 3 (vS "turnery.turntexts" 561) (vR 328))
, (330, oT #[])
, (333, oC #[vS "turning_of" 610, vS "turning_of" 611, cP 612, vI 215 0, vI 3 0, i0, i0, i3, vR 330, vT, i1, vR 331, vNo, vNo, vNo, vR 332, vI 613 0, vI 215 0, cP 614])
, (334, oF vF "turning_of" "turning_of" (top 48) 3 (vS "turnery.turntexts" 561) (vR 333))
, (335, oT #[])
, (338, oC #[vS "mode_of" 616, vS "mode_of" 617, cP 618, vI 226 0, vI 3 0, i0, i0, i3, vR 335, vT, i1, vR 336, vNo, vNo, vNo, vR 337, vI 619 0, vI 226 0, cP 620])
, (339, oF vF "mode_of" "mode_of" (top 49) 3 (vS "turnery.turntexts" 561) (vR 338))
, (340, oT #[])
, (343, oC #[vS "check_mode" 622, vS "check_mode" 623, cP 624, vI 231 0, vI 4 0, i0, i0, i3, vR 340, vT, i1, vR 341, vNo, vNo, vNo, vR 342, vI 625 0, vI 231 0, cP 626])
, (344, oF vF "check_mode" "check_mode" (top 50) 3 (vS "turnery.turntexts" 561) (vR 343))
, (345, oT #[])
, (347, oT #[vS "term" 631, vS "numbers" 632, vS "mode" 633, vS "branch" 634])
, (348, oT #[])
, (350, oC #[vS "numbered" 628, vS "numbered" 629, cP 630, vI 243 0, vI 2 0, i0, i0, i3, vR 345, vT, i1, vR 346, vNo, vR 347, vR 348, vR 349, vI 635 0, vI 243 0, cP 636])
, (351, oF vF "numbered" "numbered" (top 51) 3 (vS "turnery.turntexts" 561) (vR 350))
, (352, oT #[])
, (354, oT #[vS "turning" 641, vS "shown" 642, vS "mode" 643, vS "told" 644])
, (355, oT #[])
, (357, oC #[vS "show_turning" 638, vS "show_turning" 639, cP 640, vI 248 0, vI 1 0, i0, i0, i3, vR 352, vT, i1, vR 353, vNo, vR 354, vR 355, vR 356, vI 645 0, vI 248 0, cP 646])
, (358, oF vF "show_turning" "show_turning" (top 52) 3 (vS "turnery.turntexts" 561) (vR 357))
, (359, oT #[])
, (362, oC #[vS "show_rules" 648, vS "show_rules" 649, cP 650, vI 253 0, vI 4 0, i0, i0, i3, vR 359, vT, i1, vR 360, vNo, vNo, vNo, vR 361, vI 651 0, vI 253 0, cP 652])
, (363, oF vF "show_rules" "show_rules" (top 53) 3 (vS "turnery.turntexts" 561) (vR 362))
, (364, oT #[])
, (367, oC #[vS "show_term" 654, vS "show_term" 655, cP 656, vI 256 0, vI 1 0, i0, i0, i3, vR 364, vT, i1, vR 365, vNo, vNo, vNo, vR 366, vI 657 0, vI 256 0, cP 658])
, (368, oF vF "show_term" "show_term" (top 54) 3 (vS "turnery.turntexts" 561) (vR 367))
, (369, oT #[])
, (371, oT #[vS "mode" 663, vS "base" 664, vS "shown" 665, vS "rest" 666])
, (372, oT #[])
, (374, oC #[vS "show_mode" 660, vS "show_mode" 661, cP 662, vI 261 0, vI 1 0, i0, i0, i3, vR 369, vT, i1, vR 370, vNo, vR 371, vR 372, vR 373, vI 667 0, vI 261 0, cP 668])
, (375, oF vF "show_mode" "show_mode" (top 55) 3 (vS "turnery.turntexts" 561) (vR 374))
, (376, oT #[])
, (378, oT #[vS "_law_script" 675, vS "_law_k" 676])
, (379, oT #[])
, (381, oC #[vS "_law_cell_at" 672, vS "_law_cell_at" 673, cP 674, vI 270 0, vI 2 0, i0, i0, i3, vR 376, vT, i1, vR 377, vNo, vR 378, vR 379, vR 380, vI 677 0, vI 270 0, cP 678])
, (382, oF vF "_law_cell_at" "_law_cell_at" (top 57) 3 (vS "law_turnery_k14_many_modes_shown" 670) (vR 381))
, (383, oT #[])
, (385, oT #[vS "_law_number" 683, vS "_law_letters" 684])
, (386, oT #[])
, (388, oC #[vS "_law_mode" 680, vS "_law_mode" 681, cP 682, vI 274 0, vI 1 0, i0, i0, i3, vR 383, vT, i1, vR 384, vNo, vR 385, vR 386, vR 387, vI 685 0, vI 274 0, cP 686])
, (389, oF vF "_law_mode" "_law_mode" (top 58) 3 (vS "law_turnery_k14_many_modes_shown" 670) (vR 388))
, (390, oT #[])
, (392, oT #[vS "_law_kept" 691, vS "_law_add" 692])
, (393, oT #[])
, (395, oC #[vS "_law_mark" 688, vS "_law_mark" 689, cP 690, vI 279 0, vI 2 0, i0, i0, i3, vR 390, vT, i1, vR 391, vNo, vR 392, vR 393, vR 394, vI 693 0, vI 279 0, cP 694])
, (396, oF vF "_law_mark" "_law_mark" (top 59) 3 (vS "law_turnery_k14_many_modes_shown" 670) (vR 395))
, (397, oT #[])
, (399, oT #[vS "_law_script" 699, vS "_law_lots" 700, vS "_law_first" 701, vS "_law_add" 702, vS "_law_wood" 703, vS "_law_start" 704, vS "_law_modes" 705, vS "_law_text" 706, vS "_law_k" 707, vS "_law_number" 708, vS "_law_kept" 709, vS "_law_after" 710, vS "_law_leaf" 711, vS "_law_shown" 712, vS "_law_found" 713, vS "_law_again" 714])
, (400, oT #[])
, (402, oC #[vS "law" 696, vS "law" 697, cP 698, vI 281 0, vI 1 0, i0, i0, i3, vR 397, vT, i1, vR 398, vNo, vR 399, vR 400, vR 401, vI 715 0, vI 281 0, cP 716])
, (403, oF vF "law" "law" (L2.inClass (top 18) 0) 3 (vS "law_turnery_k14_many_modes_shown" 670) (vR 402)) ]
end
noncomputable def PySem.W.Fast.tw14588898898359390898 : PySem.Params → PySem.W.Frag := K14.hp
theorem PySem.W.Fast.te14588898898359390898 : K14.hp = PySem.W.Fast.tw14588898898359390898 := rfl
namespace PySem.W.Fast
open PySem K14
noncomputable def tw17568593597080243419 : Params → Obj := fun P => oF vF "with_modes" "with_modes" (top 25) 3 (vS "turnery.terms" 439) (vR 233)
theorem te17568593597080243419 : tw17568593597080243419 = tw17568593597080243419 := rfl
noncomputable def tw8756830553451855753 : Params → Obj := fun P => oF vNo "need" "Reader.need" (L2.inClass (top 18) 5) 0 vNo vNo
theorem te8756830553451855753 : tw8756830553451855753 = tw8756830553451855753 := rfl
noncomputable def tw12567691079820425974 : Params → Obj := fun P => oF vNo "_law_mark" "_law_mark" (top 59) 0 vNo vNo
theorem te12567691079820425974 : tw12567691079820425974 = tw12567691079820425974 := rfl
noncomputable def tw6285988903999940660 : Params → Obj := fun P => oF vNo "at_name" "Reader.at_name" (L2.inClass (top 18) 2) 0 vNo vNo
theorem te6285988903999940660 : tw6285988903999940660 = tw6285988903999940660 := rfl
noncomputable def tw13270987565169418368 : Params → Obj := fun P => oF vNo "_law_cell_at" "_law_cell_at" (top 57) 0 vNo vNo
theorem te13270987565169418368 : tw13270987565169418368 = tw13270987565169418368 := rfl
noncomputable def tw4199511128988453265 : Params → Obj := fun P => oF vNo "take_number" "Reader.take_number" (L2.inClass (top 18) 8) 0 vNo vNo
theorem te4199511128988453265 : tw4199511128988453265 = tw4199511128988453265 := rfl
noncomputable def tw4473008792649306168 : Params → Obj := fun P => oF vNo "ahead" "Reader.ahead" (L2.inClass (top 18) 1) 0 vNo vNo
theorem te4473008792649306168 : tw4473008792649306168 = tw4473008792649306168 := rfl
noncomputable def tw14072959622896673497 : Params → Obj := fun P => oF vNo "turning_of" "turning_of" (top 48) 0 vNo vNo
theorem te14072959622896673497 : tw14072959622896673497 = tw14072959622896673497 := rfl
noncomputable def tw11361761306740425304 : Params → Obj := fun P => oF vF "show_turning" "show_turning" (top 52) 3 (vS "turnery.turntexts" 561) (vR 357)
theorem te11361761306740425304 : tw11361761306740425304 = tw11361761306740425304 := rfl
noncomputable def tw12829481189445336176 : Params → Obj := fun P => oF vF "numbered" "numbered" (top 51) 3 (vS "turnery.turntexts" 561) (vR 350)
theorem te12829481189445336176 : tw12829481189445336176 = tw12829481189445336176 := rfl
noncomputable def tw9320242945551335438 : Params → Obj := fun P => oF vF "rules_fit" "rules_fit" (top 37) 3 (vS "turnery.turnings" 531) (vR 290)
theorem te9320242945551335438 : tw9320242945551335438 = tw9320242945551335438 := rfl
noncomputable def tw13264624752083484199 : Params → Obj := fun P => oF vNo "read_turning" "read_turning" (top 44) 0 vNo vNo
theorem te13264624752083484199 : tw13264624752083484199 = tw13264624752083484199 := rfl
noncomputable def tw5138035626238614120 : Params → Obj := fun P => oF vNo "term_size" "term_size" (top 22) 0 vNo vNo
theorem te5138035626238614120 : tw5138035626238614120 = tw5138035626238614120 := rfl
noncomputable def tw14169690983222310044 : Params → Obj := fun P => oF vF "figures_at" "figures_at" (top 15) 3 (vS "turnery.words" 246) (vR 92)
theorem te14169690983222310044 : tw14169690983222310044 = tw14169690983222310044 := rfl
noncomputable def tw10376777104642327254 : Params → Obj := fun P => oF vF "take_name" "Reader.take_name" (L2.inClass (top 18) 7) 3 (vS "turnery.readers" 314) (vR 162)
theorem te10376777104642327254 : tw10376777104642327254 = tw10376777104642327254 := rfl
noncomputable def tw13773997256235590989 : Params → Obj := fun P => oF vF "need" "Reader.need" (L2.inClass (top 18) 5) 3 (vS "turnery.readers" 314) (vR 148)
theorem te13773997256235590989 : tw13773997256235590989 = tw13773997256235590989 := rfl
noncomputable def tw1574334381443485383 : Params → Obj := fun P => oF vF "term_size" "term_size" (top 22) 3 (vS "turnery.terms" 439) (vR 216)
theorem te1574334381443485383 : tw1574334381443485383 = tw1574334381443485383 := rfl
noncomputable def tw1494205101309497622 : Params → Obj := fun P => oF vF "calls_fit" "calls_fit" (top 38) 3 (vS "turnery.turnings" 531) (vR 295)
theorem te1494205101309497622 : tw1494205101309497622 = tw1494205101309497622 := rfl
noncomputable def tw8780243514853052246 : Params → Obj := fun P => oF vF "read_turning" "read_turning" (top 44) 3 (vS "turnery.turntexts" 561) (vR 309)
theorem te8780243514853052246 : tw8780243514853052246 = tw8780243514853052246 := rfl
noncomputable def tw6059449009796328358 : Params → Obj := fun P => oF vF "check_mode" "check_mode" (top 50) 3 (vS "turnery.turntexts" 561) (vR 343)
theorem te6059449009796328358 : tw6059449009796328358 = tw6059449009796328358 := rfl
noncomputable def tw1913469471631344272 : Params → Obj := fun P => oF vNo "row_of" "row_of" (top 34) 0 vNo vNo
theorem te1913469471631344272 : tw1913469471631344272 = tw1913469471631344272 := rfl
noncomputable def tw1372431704452763335 : Params → Obj := fun P => oF vNo "_law_mode" "_law_mode" (top 58) 0 vNo vNo
theorem te1372431704452763335 : tw1372431704452763335 = tw1372431704452763335 := rfl
noncomputable def tw473689092241611163 : Params → Obj := fun P => oF vNo "with_parts" "with_parts" (top 26) 0 vNo vNo
theorem te473689092241611163 : tw473689092241611163 = tw473689092241611163 := rfl
noncomputable def tw17267248428574285286 : Params → Obj := fun P => oF vNo "rows_of" "rows_of" (top 33) 0 vNo vNo
theorem te17267248428574285286 : tw17267248428574285286 = tw17267248428574285286 := rfl
noncomputable def tw4084365992924692316 : Params → Obj := fun P => oF vF "mode_of" "mode_of" (top 49) 3 (vS "turnery.turntexts" 561) (vR 338)
theorem te4084365992924692316 : tw4084365992924692316 = tw4084365992924692316 := rfl
noncomputable def tw16453179516151323621 : Params → Obj := fun P => oF vF "run_at" "run_at" (top 16) 3 (vS "turnery.words" 246) (vR 99)
theorem te16453179516151323621 : tw16453179516151323621 = tw16453179516151323621 := rfl
noncomputable def tw10769473258491813211 : Params → Obj := fun P => oF vF "show_in_brackets" "show_in_brackets" (top 29) 3 (vS "turnery.treetexts" 483) (vR 254)
theorem te10769473258491813211 : tw10769473258491813211 = tw10769473258491813211 := rfl
noncomputable def tw14990779957990953795 : Params → Obj := fun P => oF vF "own_wood" "own_wood" (top 32) 3 (vS "turnery.woods" 499) (vR 266)
theorem te14990779957990953795 : tw14990779957990953795 = tw14990779957990953795 := rfl
noncomputable def tw10445666301703259963 : Params → Obj := fun P => oF vF "need_end" "Reader.need_end" (L2.inClass (top 18) 6) 3 (vS "turnery.readers" 314) (vR 155)
theorem te10445666301703259963 : tw10445666301703259963 = tw10445666301703259963 := rfl
noncomputable def tw12377658431578907614 : Params → Obj := fun P => oF vNo "with_modes" "with_modes" (top 25) 0 vNo vNo
theorem te12377658431578907614 : tw12377658431578907614 = tw12377658431578907614 := rfl
noncomputable def tw9623948313701881729 : Params → Obj := fun P => oF vNo "below_zero_at" "below_zero_at" (top 14) 0 vNo vNo
theorem te9623948313701881729 : tw9623948313701881729 = tw9623948313701881729 := rfl
noncomputable def tw3699456335720245831 : Params → Obj := fun P => oF vNo "is_call" "is_call" (top 21) 0 vNo vNo
theorem te3699456335720245831 : tw3699456335720245831 = tw3699456335720245831 := rfl
noncomputable def tw9075381484799791662 : Params → Obj := fun P => oF vF "check_numbers" "check_numbers" (top 47) 3 (vS "turnery.turntexts" 561) (vR 328)
theorem te9075381484799791662 : tw9075381484799791662 = tw9075381484799791662 := rfl
noncomputable def tw13246743790275481339 : Params → Obj := fun P => oF vNo "at_number" "Reader.at_number" (L2.inClass (top 18) 3) 0 vNo vNo
theorem te13246743790275481339 : tw13246743790275481339 = tw13246743790275481339 := rfl
noncomputable def tw14375361611055674102 : Params → Obj := fun P => oF vNo "numbered" "numbered" (top 51) 0 vNo vNo
theorem te14375361611055674102 : tw14375361611055674102 = tw14375361611055674102 := rfl
noncomputable def tw8313038232909664293 : Params → Obj := fun P => oF vF "_law_mode" "_law_mode" (top 58) 3 (vS "law_turnery_k14_many_modes_shown" 670) (vR 388)
theorem te8313038232909664293 : tw8313038232909664293 = tw8313038232909664293 := rfl
noncomputable def tw15664317875975024641 : Params → Obj := fun P => oF vNo "call_fits" "call_fits" (top 39) 0 vNo vNo
theorem te15664317875975024641 : tw15664317875975024641 = tw15664317875975024641 := rfl
noncomputable def tw58580875176790744 : Params → Obj := fun P => oF vF "take_word" "Reader.take_word" (L2.inClass (top 18) 9) 3 (vS "turnery.readers" 314) (vR 176)
theorem te58580875176790744 : tw58580875176790744 = tw58580875176790744 := rfl
noncomputable def tw3189690788755720498 : Params → Obj := fun P => oF vNo "rules_fit" "rules_fit" (top 37) 0 vNo vNo
theorem te3189690788755720498 : tw3189690788755720498 = tw3189690788755720498 := rfl
noncomputable def tw12207280670673348796 : Params → Obj := fun P => oF vNo "take_name" "Reader.take_name" (L2.inClass (top 18) 7) 0 vNo vNo
theorem te12207280670673348796 : tw12207280670673348796 = tw12207280670673348796 := rfl
noncomputable def tw7602247876057461390 : Params → Obj := fun P => oF vNo "term_from" "term_from" (top 46) 0 vNo vNo
theorem te7602247876057461390 : tw7602247876057461390 = tw7602247876057461390 := rfl
noncomputable def tw2685459908043726264 : Params → Obj := fun P => oF vNo "take_word" "Reader.take_word" (L2.inClass (top 18) 9) 0 vNo vNo
theorem te2685459908043726264 : tw2685459908043726264 = tw2685459908043726264 := rfl
noncomputable def tw225554889552257703 : Params → Obj := fun P => oF vF "keeps_mark" "keeps_mark" (top 24) 3 (vS "turnery.terms" 439) (vR 228)
theorem te225554889552257703 : tw225554889552257703 = tw225554889552257703 := rfl
noncomputable def tw14654479056083787780 : Params → Obj := fun P => oF vF "row_of" "row_of" (top 34) 3 (vS "turnery.woods" 499) (vR 280)
theorem te14654479056083787780 : tw14654479056083787780 = tw14654479056083787780 := rfl
noncomputable def tw132366798256791463 : Params → Obj := fun P => oF vF "name_at" "name_at" (top 13) 3 (vS "turnery.words" 246) (vR 78)
theorem te132366798256791463 : tw132366798256791463 = tw132366798256791463 := rfl
noncomputable def tw18044527649095111519 : Params → Obj := fun P => oF vNo "has_one_twice" "has_one_twice" (top 31) 0 vNo vNo
theorem te18044527649095111519 : tw18044527649095111519 = tw18044527649095111519 := rfl
noncomputable def tw11301287995127024968 : Params → Obj := fun P => oF vF "calls_of" "calls_of" (top 23) 3 (vS "turnery.terms" 439) (vR 223)
theorem te11301287995127024968 : tw11301287995127024968 = tw11301287995127024968 := rfl
noncomputable def tw11386034793441672476 : Params → Obj := fun P => oF vF "begins_in" "begins_in" (top 19) 3 (vS "turnery.readers" 314) (vR 204)
theorem te11386034793441672476 : tw11386034793441672476 = tw11386034793441672476 := rfl
noncomputable def tw16460040935791547917 : Params → Obj := fun P => oF vNo "parted_by" "Reader.parted_by" (L2.inClass (top 18) 11) 0 vNo vNo
theorem te16460040935791547917 : tw16460040935791547917 = tw16460040935791547917 := rfl
noncomputable def tw10600133261130154912 : Params → Obj := fun P => oF vF "_law_cell_at" "_law_cell_at" (top 57) 3 (vS "law_turnery_k14_many_modes_shown" 670) (vR 381)
theorem te10600133261130154912 : tw10600133261130154912 = tw10600133261130154912 := rfl
noncomputable def tw13368854450625271685 : Params → Obj := fun P => oF vNo "in_brackets" "Reader.in_brackets" (L2.inClass (top 18) 10) 0 vNo vNo
theorem te13368854450625271685 : tw13368854450625271685 = tw13368854450625271685 := rfl
noncomputable def tw9865491032571765001 : Params → Obj := fun P => oF vNo "word_at" "word_at" (top 12) 0 vNo vNo
theorem te9865491032571765001 : tw9865491032571765001 = tw9865491032571765001 := rfl
noncomputable def tw829861092177422291 : Params → Obj := fun P => oF vNo "check_mode" "check_mode" (top 50) 0 vNo vNo
theorem te829861092177422291 : tw829861092177422291 = tw829861092177422291 := rfl
noncomputable def tw12796290980154958209 : Params → Obj := fun P => oF vF "rows_of" "rows_of" (top 33) 3 (vS "turnery.woods" 499) (vR 273)
theorem te12796290980154958209 : tw12796290980154958209 = tw12796290980154958209 := rfl
noncomputable def tw1768682511543809177 : Params → Obj := fun P => oF vNo "own_wood" "own_wood" (top 32) 0 vNo vNo
theorem te1768682511543809177 : tw1768682511543809177 = tw1768682511543809177 := rfl
noncomputable def tw15180801083255385579 : Params → Obj := fun P => oF vF "parted_by" "Reader.parted_by" (L2.inClass (top 18) 11) 3 (vS "turnery.readers" 314) (vR 190)
theorem te15180801083255385579 : tw15180801083255385579 = tw15180801083255385579 := rfl
noncomputable def tw1530252117201781167 : Params → Obj := fun P => oF vNo "show_turning" "show_turning" (top 52) 0 vNo vNo
theorem te1530252117201781167 : tw1530252117201781167 = tw1530252117201781167 := rfl
noncomputable def tw16635258615848391245 : Params → Obj := fun P => oF vF "call_fits" "call_fits" (top 39) 3 (vS "turnery.turnings" 531) (vR 302)
theorem te16635258615848391245 : tw16635258615848391245 = tw16635258615848391245 := rfl
noncomputable def tw544909439871237832 : Params → Obj := fun P => oF vF "take_number" "Reader.take_number" (L2.inClass (top 18) 8) 3 (vS "turnery.readers" 314) (vR 169)
theorem te544909439871237832 : tw544909439871237832 = tw544909439871237832 := rfl
noncomputable def tw17463179480623716013 : Params → Obj := fun P => oF vF "at_name" "Reader.at_name" (L2.inClass (top 18) 2) 3 (vS "turnery.readers" 314) (vR 127)
theorem te17463179480623716013 : tw17463179480623716013 = tw17463179480623716013 := rfl
noncomputable def tw4372388332956567284 : Params → Obj := fun P => oF vF "at_number" "Reader.at_number" (L2.inClass (top 18) 3) 3 (vS "turnery.readers" 314) (vR 134)
theorem te4372388332956567284 : tw4372388332956567284 = tw4372388332956567284 := rfl
noncomputable def tw10093821412016128970 : Params → Obj := fun P => oF vNo "_wall" "_wall" (top 0) 0 vNo vNo
theorem te10093821412016128970 : tw10093821412016128970 = tw10093821412016128970 := rfl
noncomputable def tw2591906274743897344 : Params → Obj := fun P => oF vNo "show_rules" "show_rules" (top 53) 0 vNo vNo
theorem te2591906274743897344 : tw2591906274743897344 = tw2591906274743897344 := rfl
noncomputable def tw251483348992658402 : Params → Obj := fun P => oF vF "in_brackets" "Reader.in_brackets" (L2.inClass (top 18) 10) 3 (vS "turnery.readers" 314) (vR 183)
theorem te251483348992658402 : tw251483348992658402 = tw251483348992658402 := rfl
noncomputable def tw165202958819307192 : Params → Obj := fun P => oF vNo "law" "law" (L2.inClass (top 18) 0) 0 vNo vNo
theorem te165202958819307192 : tw165202958819307192 = tw165202958819307192 := rfl
noncomputable def tw15498712305617005845 : Params → Obj := fun P => oF vF "is_sound" "is_sound" (top 36) 3 (vS "turnery.turnings" 531) (vR 285)
theorem te15498712305617005845 : tw15498712305617005845 = tw15498712305617005845 := rfl
noncomputable def tw1886437056649237602 : Params → Obj := fun P => oF vNo "figures_at" "figures_at" (top 15) 0 vNo vNo
theorem te1886437056649237602 : tw1886437056649237602 = tw1886437056649237602 := rfl
noncomputable def tw15919886042381273147 : Params → Obj := fun P => oF vNo "need_end" "Reader.need_end" (L2.inClass (top 18) 6) 0 vNo vNo
theorem te15919886042381273147 : tw15919886042381273147 = tw15919886042381273147 := rfl
noncomputable def tw6442112451514759203 : Params → Obj := fun P => oF vNo "mode_of" "mode_of" (top 49) 0 vNo vNo
theorem te6442112451514759203 : tw6442112451514759203 = tw6442112451514759203 := rfl
noncomputable def tw16688986546540787803 : Params → Obj := fun P => oF vF "law" "law" (L2.inClass (top 18) 0) 3 (vS "law_turnery_k14_many_modes_shown" 670) (vR 402)
theorem te16688986546540787803 : tw16688986546540787803 = tw16688986546540787803 := rfl
noncomputable def tw4505747205463277159 : Params → Obj := fun P => oF vNo "show_mark" "show_mark" (top 28) 0 vNo vNo
theorem te4505747205463277159 : tw4505747205463277159 = tw4505747205463277159 := rfl
noncomputable def tw86004786669747335 : Params → Obj := fun P => oF vF "show_mode" "show_mode" (top 55) 3 (vS "turnery.turntexts" 561) (vR 374)
theorem te86004786669747335 : tw86004786669747335 = tw86004786669747335 := rfl
noncomputable def tw15183534070127048263 : Params → Obj := fun P => oF vF "has_one_twice" "has_one_twice" (top 31) 3 (vS "turnery.woods" 499) (vR 261)
theorem te15183534070127048263 : tw15183534070127048263 = tw15183534070127048263 := rfl
noncomputable def tw6355402098144741130 : Params → Obj := fun P => oF vNo "run_at" "run_at" (top 16) 0 vNo vNo
theorem te6355402098144741130 : tw6355402098144741130 = tw6355402098144741130 := rfl
noncomputable def tw8746608302417353042 : Params → Obj := fun P => oF vF "with_parts" "with_parts" (top 26) 3 (vS "turnery.terms" 439) (vR 240)
theorem te8746608302417353042 : tw8746608302417353042 = tw8746608302417353042 := rfl
noncomputable def tw4979248301620613904 : Params → Obj := fun P => oF vNo "show_mode" "show_mode" (top 55) 0 vNo vNo
theorem te4979248301620613904 : tw4979248301620613904 = tw4979248301620613904 := rfl
noncomputable def tw7759013483567509902 : Params → Obj := fun P => oF vNo "begins_in" "begins_in" (top 19) 0 vNo vNo
theorem te7759013483567509902 : tw7759013483567509902 = tw7759013483567509902 := rfl
noncomputable def tw4230754970493194752 : Params → Obj := fun P => oF vF "below_zero_at" "below_zero_at" (top 14) 3 (vS "turnery.words" 246) (vR 85)
theorem te4230754970493194752 : tw4230754970493194752 = tw4230754970493194752 := rfl
noncomputable def tw12058545902748414910 : Params → Obj := fun P => oF vF "passed" "Reader.passed" (L2.inClass (top 18) 4) 3 (vS "turnery.readers" 314) (vR 141)
theorem te12058545902748414910 : tw12058545902748414910 = tw12058545902748414910 := rfl
noncomputable def tw5376346650262130317 : Params → Obj := fun P => oF vNo "show_in_brackets" "show_in_brackets" (top 29) 0 vNo vNo
theorem te5376346650262130317 : tw5376346650262130317 = tw5376346650262130317 := rfl
noncomputable def tw13196124165458495553 : Params → Obj := fun P => oF vNo "words" "words" (top 11) 0 vNo vNo
theorem te13196124165458495553 : tw13196124165458495553 = tw13196124165458495553 := rfl
noncomputable def tw5029956417548742634 : Params → Obj := fun P => oF vF "__init__" "Reader.__init__" (L2.inClass (top 18) 0) 3 (vS "turnery.readers" 314) (vR 113)
theorem te5029956417548742634 : tw5029956417548742634 = tw5029956417548742634 := rfl
noncomputable def tw13351137858975522534 : Params → Obj := fun P => oF vNo "calls_of" "calls_of" (top 23) 0 vNo vNo
theorem te13351137858975522534 : tw13351137858975522534 = tw13351137858975522534 := rfl
noncomputable def tw11838044826830963598 : Params → Obj := fun P => oF vF "words" "words" (top 11) 3 (vS "turnery.words" 246) (vR 64)
theorem te11838044826830963598 : tw11838044826830963598 = tw11838044826830963598 := rfl
noncomputable def tw3474212283043853824 : Params → Obj := fun P => oF vF "_law_mark" "_law_mark" (top 59) 3 (vS "law_turnery_k14_many_modes_shown" 670) (vR 395)
theorem te3474212283043853824 : tw3474212283043853824 = tw3474212283043853824 := rfl
noncomputable def tw12002768704324877118 : Params → Obj := fun P => oF vNo "keeps_mark" "keeps_mark" (top 24) 0 vNo vNo
theorem te12002768704324877118 : tw12002768704324877118 = tw12002768704324877118 := rfl
noncomputable def tw11896901267395250614 : Params → Obj := fun P => oF vF "word_at" "word_at" (top 12) 3 (vS "turnery.words" 246) (vR 71)
theorem te11896901267395250614 : tw11896901267395250614 = tw11896901267395250614 := rfl
noncomputable def tw8016927523683613541 : Params → Obj := fun P => oF vNo "check_numbers" "check_numbers" (top 47) 0 vNo vNo
theorem te8016927523683613541 : tw8016927523683613541 = tw8016927523683613541 := rfl
noncomputable def tw14411078792369733369 : Params → Obj := fun P => oF vF "show_mark" "show_mark" (top 28) 3 (vS "turnery.treetexts" 483) (vR 247)
theorem te14411078792369733369 : tw14411078792369733369 = tw14411078792369733369 := rfl
noncomputable def tw4032862322497226396 : Params → Obj := fun P => oF vF "is_call" "is_call" (top 21) 3 (vS "turnery.terms" 439) (vR 211)
theorem te4032862322497226396 : tw4032862322497226396 = tw4032862322497226396 := rfl
noncomputable def tw8931276962352918472 : Params → Obj := fun P => oF vNo "passed" "Reader.passed" (L2.inClass (top 18) 4) 0 vNo vNo
theorem te8931276962352918472 : tw8931276962352918472 = tw8931276962352918472 := rfl
noncomputable def tw2062105263794331863 : Params → Obj := fun P => oF vF "rule_from" "rule_from" (top 45) 3 (vS "turnery.turntexts" 561) (vR 316)
theorem te2062105263794331863 : tw2062105263794331863 = tw2062105263794331863 := rfl
noncomputable def tw16392281859201977004 : Params → Obj := fun P => oF vNo "__init__" "Reader.__init__" (L2.inClass (top 18) 0) 0 vNo vNo
theorem te16392281859201977004 : tw16392281859201977004 = tw16392281859201977004 := rfl
noncomputable def tw12731072861071185455 : Params → Obj := fun P => oF vF "_wall" "_wall" (top 0) 3 (vS "__main__" 164) (vR 20)
theorem te12731072861071185455 : tw12731072861071185455 = tw12731072861071185455 := rfl
noncomputable def tw14349814593687278116 : Params → Obj := fun P => oF vNo "rule_from" "rule_from" (top 45) 0 vNo vNo
theorem te14349814593687278116 : tw14349814593687278116 = tw14349814593687278116 := rfl
noncomputable def tw6026232309733446354 : Params → Obj := fun P => oF vNo "show_term" "show_term" (top 54) 0 vNo vNo
theorem te6026232309733446354 : tw6026232309733446354 = tw6026232309733446354 := rfl
noncomputable def tw9497521779065692490 : Params → Obj := fun P => oF vF "show_term" "show_term" (top 54) 3 (vS "turnery.turntexts" 561) (vR 367)
theorem te9497521779065692490 : tw9497521779065692490 = tw9497521779065692490 := rfl
noncomputable def tw5318066844921064385 : Params → Obj := fun P => oF vNo "calls_fit" "calls_fit" (top 38) 0 vNo vNo
theorem te5318066844921064385 : tw5318066844921064385 = tw5318066844921064385 := rfl
noncomputable def tw5269286552717840860 : Params → Obj := fun P => oF vNo "is_sound" "is_sound" (top 36) 0 vNo vNo
theorem te5269286552717840860 : tw5269286552717840860 = tw5269286552717840860 := rfl
noncomputable def tw7194493160006987321 : Params → Obj := fun P => oF vF "show_rules" "show_rules" (top 53) 3 (vS "turnery.turntexts" 561) (vR 362)
theorem te7194493160006987321 : tw7194493160006987321 = tw7194493160006987321 := rfl
noncomputable def tw6264886889794281350 : Params → Obj := fun P => oF vF "term_from" "term_from" (top 46) 3 (vS "turnery.turntexts" 561) (vR 323)
theorem te6264886889794281350 : tw6264886889794281350 = tw6264886889794281350 := rfl
noncomputable def tw2842289930380475258 : Params → Obj := fun P => oF vF "turning_of" "turning_of" (top 48) 3 (vS "turnery.turntexts" 561) (vR 333)
theorem te2842289930380475258 : tw2842289930380475258 = tw2842289930380475258 := rfl
noncomputable def tw16940802745328323583 : Params → Obj := fun P => oF vNo "name_at" "name_at" (top 13) 0 vNo vNo
theorem te16940802745328323583 : tw16940802745328323583 = tw16940802745328323583 := rfl
noncomputable def tw6988816815173377673 : Params → Obj := fun P => oF vF "ahead" "Reader.ahead" (L2.inClass (top 18) 1) 3 (vS "turnery.readers" 314) (vR 120)
theorem te6988816815173377673 : tw6988816815173377673 = tw6988816815173377673 := rfl
end PySem.W.Fast
noncomputable def PySem.W.Fast.tw17654289710519924862 : PySem.Program := PySem.Challenge.pw_turnery_k14_many_modes_shown
theorem PySem.W.Fast.te17654289710519924862 : (PySem.Challenge.pw_turnery_k14_many_modes_shown : PySem.Program) = PySem.W.Fast.tw17654289710519924862 := rfl
noncomputable def PySem.W.Fast.tw14095195463587573751 : PySem.Program := { PySem.Challenge.pw_turnery_k14_many_modes_shown with main := { PySem.Challenge.pw_turnery_k14_many_modes_shown.main with body := [K14.top 0, K14.top 2, K14.top 3, K14.top 4, K14.top 6, K14.top 7, K14.top 8, K14.top 9, K14.top 10, K14.top 11, K14.top 12, K14.top 13, K14.top 14, K14.top 15, K14.top 16, K14.top 18, K14.top 19, K14.top 21, K14.top 22, K14.top 23, K14.top 24, K14.top 25, K14.top 26, K14.top 28, K14.top 29, K14.top 31, K14.top 32, K14.top 33, K14.top 34, K14.top 36, K14.top 37, K14.top 38, K14.top 39, K14.top 41, K14.top 42, K14.top 43, K14.top 44, K14.top 45, K14.top 46, K14.top 47, K14.top 48, K14.top 49, K14.top 50, K14.top 51, K14.top 52, K14.top 53, K14.top 54, K14.top 55, K14.top 57, K14.top 58, K14.top 59, K14.top 60] } }
theorem PySem.W.Fast.te14095195463587573751 : ({ PySem.Challenge.pw_turnery_k14_many_modes_shown with main := { PySem.Challenge.pw_turnery_k14_many_modes_shown.main with body := [K14.top 0, K14.top 2, K14.top 3, K14.top 4, K14.top 6, K14.top 7, K14.top 8, K14.top 9, K14.top 10, K14.top 11, K14.top 12, K14.top 13, K14.top 14, K14.top 15, K14.top 16, K14.top 18, K14.top 19, K14.top 21, K14.top 22, K14.top 23, K14.top 24, K14.top 25, K14.top 26, K14.top 28, K14.top 29, K14.top 31, K14.top 32, K14.top 33, K14.top 34, K14.top 36, K14.top 37, K14.top 38, K14.top 39, K14.top 41, K14.top 42, K14.top 43, K14.top 44, K14.top 45, K14.top 46, K14.top 47, K14.top 48, K14.top 49, K14.top 50, K14.top 51, K14.top 52, K14.top 53, K14.top 54, K14.top 55, K14.top 57, K14.top 58, K14.top 59, K14.top 60] } } : PySem.Program) = PySem.W.Fast.tw14095195463587573751 := rfl
noncomputable def PySem.W.Fast.tw14781153251431076251 : List PySem.Stmt := (PySem.Challenge.pw_turnery_k14_many_modes_shown.main.body.drop 0).take 3
theorem PySem.W.Fast.te14781153251431076251 : ((PySem.Challenge.pw_turnery_k14_many_modes_shown.main.body.drop 0).take 3 : List PySem.Stmt) = PySem.W.Fast.tw14781153251431076251 := rfl
noncomputable def PySem.W.Fast.tw11437326835415199555 : List PySem.Stmt := (PySem.Challenge.pw_turnery_k14_many_modes_shown.main.body.drop 3).take 1
theorem PySem.W.Fast.te11437326835415199555 : ((PySem.Challenge.pw_turnery_k14_many_modes_shown.main.body.drop 3).take 1 : List PySem.Stmt) = PySem.W.Fast.tw11437326835415199555 := rfl
noncomputable def PySem.W.Fast.tw14777164419649841142 : List PySem.Stmt := (PySem.Challenge.pw_turnery_k14_many_modes_shown.main.body.drop 4).take 11
theorem PySem.W.Fast.te14777164419649841142 : ((PySem.Challenge.pw_turnery_k14_many_modes_shown.main.body.drop 4).take 11 : List PySem.Stmt) = PySem.W.Fast.tw14777164419649841142 := rfl
noncomputable def PySem.W.Fast.tw14818841444856720588 : List PySem.Stmt := (PySem.Challenge.pw_turnery_k14_many_modes_shown.main.body.drop 15).take 3
theorem PySem.W.Fast.te14818841444856720588 : ((PySem.Challenge.pw_turnery_k14_many_modes_shown.main.body.drop 15).take 3 : List PySem.Stmt) = PySem.W.Fast.tw14818841444856720588 := rfl
noncomputable def PySem.W.Fast.tw14780426510977613336 : List PySem.Stmt := (PySem.Challenge.pw_turnery_k14_many_modes_shown.main.body.drop 18).take 1
theorem PySem.W.Fast.te14780426510977613336 : ((PySem.Challenge.pw_turnery_k14_many_modes_shown.main.body.drop 18).take 1 : List PySem.Stmt) = PySem.W.Fast.tw14780426510977613336 := rfl
noncomputable def PySem.W.Fast.tw8587127566466327 : List PySem.Stmt := (PySem.Challenge.pw_turnery_k14_many_modes_shown.main.body.drop 19).take 16
theorem PySem.W.Fast.te8587127566466327 : ((PySem.Challenge.pw_turnery_k14_many_modes_shown.main.body.drop 19).take 16 : List PySem.Stmt) = PySem.W.Fast.tw8587127566466327 := rfl
noncomputable def PySem.W.Fast.tw2607910646846315387 : List PySem.Stmt := (PySem.Challenge.pw_turnery_k14_many_modes_shown.main.body.drop 35).take 17
theorem PySem.W.Fast.te2607910646846315387 : ((PySem.Challenge.pw_turnery_k14_many_modes_shown.main.body.drop 35).take 17 : List PySem.Stmt) = PySem.W.Fast.tw2607910646846315387 := rfl
noncomputable def PySem.W.Fast.tw5122334090406247308 : List PySem.Stmt := (PySem.Challenge.pw_turnery_k14_many_modes_shown.main.body.drop 52).take 9
theorem PySem.W.Fast.te5122334090406247308 : ((PySem.Challenge.pw_turnery_k14_many_modes_shown.main.body.drop 52).take 9 : List PySem.Stmt) = PySem.W.Fast.tw5122334090406247308 := rfl
open PySem PySem.W PyProof.Rows
set_option maxRecDepth 100000 in
set_option maxHeartbeats 0 in
theorem PySem.Challenge.cw_turnery_k14_many_modes_shown_holds : PySem.Challenge.rw_turnery_k14_many_modes_shown.Holds := by
  w_on; o_law; k_head; (case hw => w_witness2)
  k_fill
  refine K14.walk (c1 := 323) (T1 := 319) (l := PySem.Challenge.rw_turnery_k14_many_modes_shown) rfl rfl (fun w h Y => PySem.W.km_in_of Y) ?tb1 ?F
  case tb1 =>
    intro w
    refine' L2.TabAt.mk ⟨_, ?a⟩ ?b ?c ?d; (case a => exact rfl); (case b => kernel_rfl); (case c => kernel_rfl); (case d => kernel_rfl)
  case F =>
    intro w mg fa h KX G hmg
    refine' K14.all_mk (c1 := 323) (T1 := 319) KX G hmg ?d1 ?d2 ?d3 ?d4 ?d5 ?d6 ?d7 ?d8 ?d9 ?d10 ?d11 ?d12 ?d13 ?d14 ?d15 ?d16 ?d17 ?d18 ?d19 ?d20 ?d21 ?d22 ?d23 ?d24 ?d25 ?d26 ?d27 ?d28 ?d29 ?d30 ?d31 ?d32 ?d33 ?d34 ?d35 ?d36 ?d37 ?d38 ?d39 ?z1 ?z2 ?z3 ?z4 ?z5 ?z6 ?z7 ?z8 ?ht1 ?hh1 ?gA ?gB ?gC ?gD ?gE ?gF ?gG ?gH ?gI ?gJ ?gK ?gL ?gM ?gN ?s1
    (case ht1 => kernel_rfl); (case hh1 => kernel_rfl)
    (case d1 => refine' L2.DefAt.mk' ?a ?l ?c ?k; (case a => k_is); (case l => k_is); (case c => k_is); (case k => k_is))
    (case d2 => refine' L2.DefAt.mk' ?a ?l ?c ?k; (case a => k_is); (case l => k_is); (case c => k_is); (case k => k_is))
    (case d3 => refine' L2.DefAt.mk' ?a ?l ?c ?k; (case a => k_is); (case l => k_is); (case c => k_is); (case k => k_is))
    (case d4 => refine' L2.DefAt.mk' ?a ?l ?c ?k; (case a => k_is); (case l => k_is); (case c => k_is); (case k => k_is))
    (case d5 => refine' L2.DefAt.mk' ?a ?l ?c ?k; (case a => k_is); (case l => k_is); (case c => k_is); (case k => k_is))
    (case d6 => refine' L2.DefAt.mk' ?a ?l ?c ?k; (case a => k_is); (case l => k_is); (case c => k_is); (case k => k_is))
    (case d7 => refine' L2.DefAt.mk' ?a ?l ?c ?k; (case a => k_is); (case l => k_is); (case c => k_is); (case k => k_is))
    (case d8 => refine' L2.DefAt.mk' ?a ?l ?c ?k; (case a => k_is); (case l => k_is); (case c => k_is); (case k => k_is))
    (case d9 => refine' L2.DefAt.mk' ?a ?l ?c ?k; (case a => k_is); (case l => k_is); (case c => k_is); (case k => k_is))
    (case d10 => refine' L2.DefAt.mk' ?a ?l ?c ?k; (case a => k_is); (case l => k_is); (case c => k_is); (case k => k_is))
    (case d11 => refine' L2.DefAt.mk' ?a ?l ?c ?k; (case a => k_is); (case l => k_is); (case c => k_is); (case k => k_is))
    (case d12 => refine' L2.DefAt.mk' ?a ?l ?c ?k; (case a => k_is); (case l => k_is); (case c => k_is); (case k => k_is))
    (case d13 => refine' L2.DefAt.mk' ?a ?l ?c ?k; (case a => k_is); (case l => k_is); (case c => k_is); (case k => k_is))
    (case d14 => refine' L2.DefAt.mk' ?a ?l ?c ?k; (case a => k_is); (case l => k_is); (case c => k_is); (case k => k_is))
    (case d15 => refine' L2.DefAt.mk' ?a ?l ?c ?k; (case a => k_is); (case l => k_is); (case c => k_is); (case k => k_is))
    (case d16 => refine' L2.DefAt.mk' ?a ?l ?c ?k; (case a => k_is); (case l => k_is); (case c => k_is); (case k => k_is))
    (case d17 => refine' L2.DefAt.mk' ?a ?l ?c ?k; (case a => k_is); (case l => k_is); (case c => k_is); (case k => k_is))
    (case d18 => refine' L2.DefAt.mk' ?a ?l ?c ?k; (case a => k_is); (case l => k_is); (case c => k_is); (case k => k_is))
    (case d19 => refine' L2.DefAt.mk' ?a ?l ?c ?k; (case a => k_is); (case l => k_is); (case c => k_is); (case k => k_is))
    (case d20 => refine' L2.DefAt.mk' ?a ?l ?c ?k; (case a => k_is); (case l => k_is); (case c => k_is); (case k => k_is))
    (case d21 => refine' L2.DefAt.mk' ?a ?l ?c ?k; (case a => k_is); (case l => k_is); (case c => k_is); (case k => k_is))
    (case d22 => refine' L2.DefAt.mk' ?a ?l ?c ?k; (case a => k_is); (case l => k_is); (case c => k_is); (case k => k_is))
    (case d23 => refine' L2.DefAt.mk' ?a ?l ?c ?k; (case a => k_is); (case l => k_is); (case c => k_is); (case k => k_is))
    (case d24 => refine' L2.DefAt.mk' ?a ?l ?c ?k; (case a => k_is); (case l => k_is); (case c => k_is); (case k => k_is))
    (case d25 => refine' L2.DefAt.mk' ?a ?l ?c ?k; (case a => k_is); (case l => k_is); (case c => k_is); (case k => k_is))
    (case d26 => refine' L2.DefAt.mk' ?a ?l ?c ?k; (case a => k_is); (case l => k_is); (case c => k_is); (case k => k_is))
    (case d27 => refine' L2.DefAt.mk' ?a ?l ?c ?k; (case a => k_is); (case l => k_is); (case c => k_is); (case k => k_is))
    (case d28 => refine' L2.DefAt.mk' ?a ?l ?c ?k; (case a => k_is); (case l => k_is); (case c => k_is); (case k => k_is))
    (case d29 => refine' L2.DefAt.mk' ?a ?l ?c ?k; (case a => k_is); (case l => k_is); (case c => k_is); (case k => k_is))
    (case d30 => refine' L2.DefAt.mk' ?a ?l ?c ?k; (case a => k_is); (case l => k_is); (case c => k_is); (case k => k_is))
    (case d31 => refine' L2.DefAt.mk' ?a ?l ?c ?k; (case a => k_is); (case l => k_is); (case c => k_is); (case k => k_is))
    (case d32 => refine' L2.DefAt.mk' ?a ?l ?c ?k; (case a => k_is); (case l => k_is); (case c => k_is); (case k => k_is))
    (case d33 => refine' L2.DefAt.mk' ?a ?l ?c ?k; (case a => k_is); (case l => k_is); (case c => k_is); (case k => k_is))
    (case d34 => refine' L2.DefAt.mk' ?a ?l ?c ?k; (case a => k_is); (case l => k_is); (case c => k_is); (case k => k_is))
    (case d35 => refine' L2.DefAt.mk' ?a ?l ?c ?k; (case a => k_is); (case l => k_is); (case c => k_is); (case k => k_is))
    (case d36 => refine' L2.DefAt.mk' ?a ?l ?c ?k; (case a => k_is); (case l => k_is); (case c => k_is); (case k => k_is))
    (case d37 => refine' L2.DefAt.mk' ?a ?l ?c ?k; (case a => k_is); (case l => k_is); (case c => k_is); (case k => k_is))
    (case d38 => refine' L2.DefAt.mk' ?a ?l ?c ?k; (case a => k_is); (case l => k_is); (case c => k_is); (case k => k_is))
    (case d39 => refine' L2.DefAt.mk' ?a ?l ?c ?k; (case a => k_is); (case l => k_is); (case c => k_is); (case k => k_is))
    (case z1 => k_is); (case z2 => k_is); (case z3 => k_is); (case z4 => k_is); (case z5 => k_is); (case z6 => k_is); (case z7 => k_is); (case z8 => k_is)
    (case gA => k_is)
    (case gB => k_is)
    (case gC => k_is)
    (case gD => k_is)
    (case gE => k_is)
    (case gF => k_is)
    (case gG => k_is)
    (case gH => k_is)
    (case gI => k_is)
    (case gJ => k_is)
    (case gK => k_is)
    (case gL => k_is)
    (case gM => k_is)
    (case gN => k_is)
    case s1 =>
      refine' K14.RdK.mk' ?aC ?pg ?hd ?po ?sa ?n1 ?n2 ?mk ?kc ?m1 ?m2 ?m3 ?m4 ?m5 ?m6 ?m7 ?m8 ?m9 ?m10 ?m11
      (case aC => k_is); (case pg => k_is); (case hd => k_is); (case po => k_is); (case sa => k_is); (case n1 => k_is); (case n2 => k_is); (case mk => k_is); (case kc => k_is)
      (case m1 => refine' L2.MethAt.mk' ?a ?i ?l ?c ?k; (case a => k_is); (case i => k_is); (case l => k_is); (case c => k_is); (case k => k_is))
      (case m2 => refine' L2.MethAt.mk' ?a ?i ?l ?c ?k; (case a => k_is); (case i => k_is); (case l => k_is); (case c => k_is); (case k => k_is))
      (case m3 => refine' L2.MethAt.mk' ?a ?i ?l ?c ?k; (case a => k_is); (case i => k_is); (case l => k_is); (case c => k_is); (case k => k_is))
      (case m4 => refine' L2.MethAt.mk' ?a ?i ?l ?c ?k; (case a => k_is); (case i => k_is); (case l => k_is); (case c => k_is); (case k => k_is))
      (case m5 => refine' L2.MethAt.mk' ?a ?i ?l ?c ?k; (case a => k_is); (case i => k_is); (case l => k_is); (case c => k_is); (case k => k_is))
      (case m6 => refine' L2.MethAt.mk' ?a ?i ?l ?c ?k; (case a => k_is); (case i => k_is); (case l => k_is); (case c => k_is); (case k => k_is))
      (case m7 => refine' L2.MethAt.mk' ?a ?i ?l ?c ?k; (case a => k_is); (case i => k_is); (case l => k_is); (case c => k_is); (case k => k_is))
      (case m8 => refine' L2.MethAt.mk' ?a ?i ?l ?c ?k; (case a => k_is); (case i => k_is); (case l => k_is); (case c => k_is); (case k => k_is))
      (case m9 => refine' L2.MethAt.mk' ?a ?i ?l ?c ?k; (case a => k_is); (case i => k_is); (case l => k_is); (case c => k_is); (case k => k_is))
      (case m10 => refine' L2.MethAt.mk' ?a ?i ?l ?c ?k; (case a => k_is); (case i => k_is); (case l => k_is); (case c => k_is); (case k => k_is))
      (case m11 => refine' L2.MethAt.mk' ?a ?i ?l ?c ?k; (case a => k_is); (case i => k_is); (case l => k_is); (case c => k_is); (case k => k_is))
