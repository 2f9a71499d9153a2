import PyProof.Rows.All
import Wide.All
import OpenK.AllK
import Wide.FinOn
import Lean
import PyProof.EqAt
import PyProof.EqKinds
import PyProof.TupleCall
import KE.KLam
import KE.KNestM
import KE.KTryDeep
import KE.KTryOn
import OpenK.KOwn
import PyProof.FString
import PyProof.PureStr
import PyProof.RulesAs
import PyProof.NsDelKeeps
import KE.KIsAll
import KE.KTryMore
import KE.KRevIter
import KE.KSortTup
import PySem.Challenge.RW_turnery_k04_no_words
noncomputable section
set_option Elab.async false
set_option linter.all false
set_option maxRecDepth 100000
namespace L2
open PySem PySem.Spec PyProof.Rows
abbrev Key := Sum Int Str
def keyIs : Key → Value → Bool
  | .inl k, v => Value.isInt k v
  | .inr x, v => Value.isStrOf x v
def keyH (w : World) : Key → Int
  | .inl k => hashInt k
  | .inr x => hashStr w x
theorem keyIs_shape : ∀ {k : Key} {v : Value}, keyIs k v = true → (∃ i t, k = Sum.inl i ∧ v = Value.int i t) ∨ (∃ x t, k = Sum.inr x ∧ v = Value.str x t)
  | .inl i, v, h => by
    obtain ⟨t, e⟩ := Value.isInt_shape (k := i) (v := v) h
    exact .inl ⟨i, t, rfl, e⟩
  | .inr x, v, h => by
    obtain ⟨t, e⟩ := Value.isStrOf_shape (x := x) (v := v) h
    exact .inr ⟨x, t, rfl, e⟩
theorem keyIs_int (i : Int) (t : Tok) : keyIs (.inl i) (.int i t) = true := by simp [keyIs, Value.isInt]
theorem keyIs_str (x : Str) (t : Tok) : keyIs (.inr x) (.str x t) = true := by simp [keyIs, Value.isStrOf]
theorem key_ll (a b : Int) : decide ((Sum.inl a : Key) = Sum.inl b) = (a == b) := by
  by_cases e : a = b
  · subst e; simp
  · have h : ¬ (Sum.inl a : Key) = Sum.inl b := fun q => e (Sum.inl.inj q)
    rw [decide_eq_false h]
    exact (beq_eq_false_iff_ne.mpr e).symm
theorem key_rr (a b : Str) : decide ((Sum.inr a : Key) = Sum.inr b) = decide (a = b) := by
  by_cases e : a = b
  · subst e; simp
  · have h : ¬ (Sum.inr a : Key) = Sum.inr b := fun q => e (Sum.inr.inj q)
    rw [decide_eq_false h, decide_eq_false e]
theorem key_lr (a : Int) (b : Str) : decide ((Sum.inl a : Key) = Sum.inr b) = false := decide_eq_false (fun q => nomatch q)
theorem key_rl (a : Str) (b : Int) : decide ((Sum.inr a : Key) = Sum.inl b) = false := decide_eq_false (fun q => nomatch q)
def mixKind (prog : Program) (w : World) : PySem.KeyKind prog w Key where
  is := keyIs
  hash := keyH w
  inj := fun v a b ha hb => by
    rcases keyIs_shape ha with ⟨i, t, rfl, rfl⟩ | ⟨x, t, rfl, rfl⟩
    · rcases keyIs_shape hb with ⟨j, u, rfl, e⟩ | ⟨y, u, rfl, e⟩
      · injection e with e1 _; rw [e1]
      · exact nomatch e
    · rcases keyIs_shape hb with ⟨j, u, rfl, e⟩ | ⟨y, u, rfl, e⟩
      · exact nomatch e
      · injection e with e1 _; rw [e1]
  byValue := fun k v h => by
    rcases keyIs_shape h with ⟨i, t, rfl, rfl⟩ | ⟨x, t, rfl, rfl⟩ <;> rfl
  pyHash := fun hv h => by
    rcases keyIs_shape hv with ⟨i, t, rfl, rfl⟩ | ⟨x, t, rfl, rfl⟩
    · exact wpAny_pyHash_int h
    · exact wpAny_pyHash_str h
  eqBool := fun hu hv h => by
    rcases keyIs_shape hu with ⟨i, t, rfl, rfl⟩ | ⟨x, t, rfl, rfl⟩
    · rcases keyIs_shape hv with ⟨j, u, rfl, rfl⟩ | ⟨y, u, rfl, rfl⟩
      · rw [key_ll] at h; exact wpAny_eqBool_int h
      · rw [key_lr] at h; exact SeqAt.EqAt.int_str i t y u _ _ _ _ h
    · rcases keyIs_shape hv with ⟨j, u, rfl, rfl⟩ | ⟨y, u, rfl, rfl⟩
      · rw [key_rl] at h; exact SeqAt.EqAt.str_int x t j u _ _ _ _ h
      · rw [key_rr] at h; exact wpAny_eqBool_str h
  «strs» := fun k x t v h => by
    rcases keyIs_shape h with ⟨i, u, rfl, e⟩ | ⟨y, u, rfl, e⟩
    · exact nomatch e
    · injection e with e1 _
      subst e1
      cases v <;> rfl
theorem mixKind_int (prog : Program) (w : World) (i : Int) (t : Tok) : (mixKind prog w).is (.inl i) (.int i t) = true := keyIs_int i t
theorem mixKind_str (prog : Program) (w : World) (x : Str) (t : Tok) : (mixKind prog w).is (.inr x) (.str x t) = true := keyIs_str x t
end L2
namespace L2
open PySem PySem.Spec PyProof.Rows
inductive V where
  | non | bl (b : Bool) | int (i : Int) | str (x : Str) | byt (b : Array UInt8) | flt (b : UInt64) | ref (a : Addr) | ty (n : String)
  deriving DecidableEq
def RelV : V → Value → Prop
  | .non, u => u = Value.none
  | .bl b, u => u = Value.bool b
  | .int i, u => ∃ t, u = Value.int i t
  | .str x, u => ∃ t, u = Value.str x t
  | .byt b, u => ∃ t, u = Value.bytes b t
  | .flt b, u => ∃ t, u = Value.float b t
  | .ref a, u => u = Value.ref a
  | .ty n, u => u = Value.type n
abbrev Vals : List V → List Value → Prop := Paired RelV
theorem Vals.length {xs : List V} {us : List Value} (r : Vals xs us) : xs.length = us.length := Paired.length r
theorem Vals.get : ∀ {xs : List V} {us : List Value} {i : Nat} {x : V}, Vals xs us → xs[i]? = some x → ∃ u, us[i]? = some u ∧ RelV x u
  | _, _, _, _, .nil, e => by simp at e
  | _, _, 0, _, .cons r _, e => by simp at e; subst e; exact ⟨_, rfl, r⟩
  | _, _, i + 1, x, .cons _ t, e => by
    obtain ⟨u, h1, h2⟩ := Vals.get (i := i) (x := x) t (by simpa using e)
    exact ⟨u, by simpa using h1, h2⟩
theorem Vals.append : ∀ {xs ys : List V} {us ws : List Value}, Vals xs us → Vals ys ws → Vals (xs ++ ys) (us ++ ws)
  | _, _, _, _, .nil, s => s
  | _, _, _, _, .cons r t, s => .cons r (Vals.append t s)
theorem Vals.take : ∀ {xs : List V} {us : List Value} (n : Nat), Vals xs us → Vals (xs.take n) (us.take n)
  | _, _, 0, _ => .nil
  | _, _, _ + 1, .nil => .nil
  | _, _, n + 1, .cons r t => .cons r (Vals.take n t)
theorem Vals.drop : ∀ {xs : List V} {us : List Value} (n : Nat), Vals xs us → Vals (xs.drop n) (us.drop n)
  | _, _, 0, r => r
  | _, _, _ + 1, .nil => .nil
  | _, _, n + 1, .cons _ t => Vals.drop n t
def RelO : Option V → Option Value → Prop
  | some v, some u => RelV v u
  | none, none => True
  | _, _ => False
def KV {κ : Type} : List (κ × V) → List (κ × Value) → Prop := Paired fun (p : κ × V) (q : κ × Value) => p.1 = q.1 ∧ RelV p.2 q.2
def kV : Key → V
  | .inl i => .int i
  | .inr x => .str x
inductive HO where
  /-- a list -/
  | lst (xs : List V)
  /-- a tuple (never changes) -/
  | tup (xs : List V)
  /-- a dict whose keys are ints and texts; one whose keys are tuples of ints and texts (the empty one is both) -/
  | dK (kvs : List (Key × V)) | dT (kvs : List (List Key × V))
  /-- a set of ints: its members, its size -/
  | set (S : Int → Bool) (n : Nat)
  /-- an instance of the class at C, its dict at dx, its attributes -/
  | ins (C dx : Addr) (fs : List (Str × V))
  /-- the dict of the instance at x -/
  | own (x : Addr)
  /-- the dict of an exception -/
  | xd (fs : List (Str × V))
  /-- a bound method, f of x -/
  | met (f x : Addr)
  /-- a range object lo, lo + 1, .. below hi -/
  | rng (lo hi : Int)
  /-- a thing that is known to the object (the script; a dict while a loop walks it): read, never written while it is so -/
  | frz (o : Obj) (u : HO)
  /-- a code object's table -/
  | tbl (ps : Array Value)
  /-- any other thing, by what is true of its one object (a def of one's own: SetO a S n := HO.ext fun h => ..) -/
  | ext (φ : Heap → Prop)
abbrev Hp := Addr → Option HO
def upd (H : Hp) (a : Addr) (o : HO) : Hp := fun b => if b = a then some o else H b
theorem upd_same {H : Hp} {a : Addr} {o : HO} : upd H a o a = some o := by unfold upd; rw [if_pos rfl]
theorem upd_ne {H : Hp} {a b : Addr} {o : HO} (h : b ≠ a) : upd H a o b = H b := by unfold upd; rw [if_neg h]
theorem ne_of_none {H : Hp} {a b : Addr} {o : HO} (h : H a = some o) (h' : H b = none) : a ≠ b := by
  intro e; subst e; rw [h] at h'; cases h'
section
variable (P : Program) (w : World)
def ObjOk (H : Hp) (h : Heap) (a : Addr) : HO → Prop
  | .lst xs => xs.length ≤ sizeLine ∧ ∃ (its : List Value) (n : Nat), Vals xs its ∧ h.get? a = some { cls := .type "list", data := .seq its.toArray n }
  | .tup xs => xs.length ≤ sizeLine ∧ ∃ its : List Value, Vals xs its ∧ IsTup h a its.toArray
  | .dK kvs => kvs.length ≤ sizeLine ∧ (a == sysModules) = false ∧ ∃ vs, KV kvs vs ∧ h.DictOf (mixKind P w) a vs
  | .dT kvs => kvs.length ≤ sizeLine ∧ (a == sysModules) = false ∧ ∃ xs : List (List Key × Addr × Value),
      Paired (fun (p : List Key × V) (q : List Key × Addr × Value) => p.1 = q.1 ∧ H q.2.1 = some (.tup (p.1.map kV)) ∧ RelV p.2 q.2.2) kvs xs ∧
      ∃ o es ep, h.get? a = some o ∧ o.ExactDict ∧ o.data = .dict es ep ∧ es.toList = xs.map (entryOfKey (tupleKind (mixKind P w))) ∧ (xs.map (·.1)).Nodup
  | .set S n => h.SetOf (intKind P w) a S n
  | .ins C dx fs => H dx = some (.own a) ∧ fs.length ≤ 1000 ∧ dx ≠ a ∧ h.get? a = some (PySem.W.instObj C dx) ∧
      ∃ mA, h.Ns1 dx mA ∧ (∀ f, RelO (fs.lookup f) (mA f)) ∧ PySem.Within mA (fs.map (·.1))
  | .own _ => ∃ o, h.get? a = some o
  | .xd fs => ∃ mA, h.Ns1 a mA ∧ ∀ f, RelO (fs.lookup f) (mA f)
  | .rng lo hi => ∃ t u v, h.get? a = some { cls := .type "range", data := .fields #[.int lo t, .int hi u, .int 1 v] }
  | .frz o u => h.get? a = some o ∧ ObjOk H h a u
  | .tbl ps => h.get? a = some { cls := .none, data := .fields ps }
  | .met f x => h.get? a = some (PySem.W.methodObj (.ref f) (.ref x))
  | .ext φ => φ h ∧ (∃ o, h.get? a = some o) ∧ ∀ h1 h2 : Heap, φ h1 → (∀ o, h1.get? a = some o → h2.get? a = some o) → φ h2
def HOk (H : Hp) (h : Heap) : Prop := ∀ a o, H a = some o → ObjOk P w H h a o
end
section
variable {P : Program} {w : World} {H H' : Hp} {h h' : Heap} {a : Addr} {o : HO}
theorem ObjOk.lt (x : ObjOk P w H h a o) : a < h.objs.size := by
  cases o with
  | lst xs => obtain ⟨_, _, _, _, e⟩ := x; exact Heap.lt_size e
  | tup xs => obtain ⟨_, _, _, p⟩ := x; exact p.lt
  | dK kvs => obtain ⟨_, _, _, _, o, _, _, e, _⟩ := x; exact Heap.lt_size e
  | dT kvs => obtain ⟨_, _, _, _, o, _, _, e, _⟩ := x; exact Heap.lt_size e
  | set S n => obtain ⟨o, _, _, _, e, _⟩ := x; exact Heap.lt_size e
  | ins C dx fs => obtain ⟨_, _, _, e, _⟩ := x; exact Heap.lt_size e
  | own y => obtain ⟨_, e⟩ := x; exact Heap.lt_size e
  | xd fs => obtain ⟨_, ⟨_, _, _, e, _⟩, _⟩ := x; exact Heap.lt_size e
  | rng lo hi => obtain ⟨_, _, _, e⟩ := x; exact Heap.lt_size e
  | frz ob u => obtain ⟨e, _⟩ := x; exact Heap.lt_size e
  | tbl ps => exact Heap.lt_size (show h.get? a = some _ from x)
  | met f y => exact Heap.lt_size (show h.get? a = some _ from x)
  | ext φ => obtain ⟨_, ⟨_, e⟩, _⟩ := x; exact Heap.lt_size e
theorem Paired.mapP {α β : Type} {F G : α → β → Prop} : ∀ {l₁ : List α} {l₂ : List β}, Paired F l₁ l₂ → (∀ a b, F a b → G a b) → Paired G l₁ l₂
  | _, _, .nil, _ => .nil
  | _, _, .cons r t, f => .cons (f _ _ r) (Paired.mapP t f)
theorem ObjOk.stay (x : ObjOk P w H h a o) (k : ∀ b u, (b = a ∨ H b = some (.own a)) → h.get? b = some u → h'.get? b = some u)
    (ho : ∀ b, H b = some (.own a) → H' b = some (.own a)) (ht : ∀ b xs, H b = some (.tup xs) → H' b = some (.tup xs)) : ObjOk P w H' h' a o := by
  induction o with
  | lst xs => obtain ⟨z, its, n, r, e⟩ := x; exact ⟨z, its, n, r, k _ _ (.inl rfl) e⟩
  | tup xs => obtain ⟨z, its, r, ob, e, c⟩ := x; exact ⟨z, its, r, ob, k _ _ (.inl rfl) e, c⟩
  | dK kvs => obtain ⟨z, y, vs, r, ob, es, ep, e, c⟩ := x; exact ⟨z, y, vs, r, ob, es, ep, k _ _ (.inl rfl) e, c⟩
  | dT kvs =>
    obtain ⟨z, y, xs, r, ob, es, ep, e, c⟩ := x
    exact ⟨z, y, xs, Paired.mapP r fun p q z => ⟨z.1, ht _ _ z.2.1, z.2.2⟩, ob, es, ep, k _ _ (.inl rfl) e, c⟩
  | set S n => obtain ⟨ob, es, ep, t, e, c⟩ := x; exact ⟨ob, es, ep, t, k _ _ (.inl rfl) e, c⟩
  | ins C dx fs =>
    obtain ⟨d, z, ne, e, mA, ⟨od, es, ep, e2, c⟩, r⟩ := x
    exact ⟨ho _ d, z, ne, k _ _ (.inl rfl) e, mA, ⟨od, es, ep, k _ _ (.inr d) e2, c⟩, r⟩
  | own y => obtain ⟨ob, e⟩ := x; exact ⟨ob, k _ _ (.inl rfl) e⟩
  | xd fs => obtain ⟨mA, ⟨od, es, ep, e, c⟩, r⟩ := x; exact ⟨mA, ⟨od, es, ep, k _ _ (.inl rfl) e, c⟩, r⟩
  | rng lo hi => obtain ⟨t, u, v, e⟩ := x; exact ⟨t, u, v, k _ _ (.inl rfl) e⟩
  | frz ob u ih => obtain ⟨e, q⟩ := x; exact ⟨k _ _ (.inl rfl) e, ih q⟩
  | tbl ps =>
    have e : h.get? a = some { cls := .none, data := .fields ps } := x
    show h'.get? a = some { cls := .none, data := .fields ps }
    exact k a _ (.inl rfl) e
  | met f y =>
    have e : h.get? a = some (PySem.W.methodObj (.ref f) (.ref y)) := x
    show h'.get? a = some (PySem.W.methodObj (.ref f) (.ref y))
    exact k a _ (.inl rfl) e
  | ext φ => obtain ⟨p, ⟨o, e⟩, st⟩ := x; exact ⟨st _ _ p fun o q => k _ _ (.inl rfl) q, ⟨o, k _ _ (.inl rfl) e⟩, st⟩
theorem HOk.lt (x : HOk P w H h) (e : H a = some o) : a < h.objs.size := (x a o e).lt
theorem HOk.fresh (x : HOk P w H h) (e : h.objs.size ≤ a) : H a = none := by
  cases q : H a with
  | none => rfl
  | some u => exact absurd (Nat.lt_of_lt_of_le (x.lt q) e) (Nat.lt_irrefl _)
theorem HOk.kept (x : HOk P w H h) (k : ∀ b u, h.get? b = some u → h'.get? b = some u) : HOk P w H h' := fun a o e =>
  (x a o e).stay (fun b u _ q => k b u q) (fun _ q => q) fun _ _ q => q
theorem HOk.laid (x : HOk P w H h) (k : ∀ b u, h.get? b = some u → h'.get? b = some u) (hp : h.objs.size ≤ a) (new : ObjOk P w (upd H a o) h' a o) : HOk P w (upd H a o) h' := fun b u e => by
  have hn := x.fresh hp
  by_cases hb : b = a
  · subst hb; rw [upd_same] at e; cases e; exact new
  · rw [upd_ne hb] at e
    exact (x b u e).stay (fun c v _ q => k c v q) (fun c q => by rw [upd_ne (ne_of_none q hn)]; exact q) fun c xs q => by rw [upd_ne (ne_of_none q hn)]; exact q
end
def Rd (H : Hp) (a : Addr) (u : HO) : Prop := H a = some u ∨ ∃ o, H a = some (.frz o u)
theorem Rd.ok {P : Program} {w : World} {H : Hp} {h : Heap} {a : Addr} {u : HO} (r : Rd H a u) (x : HOk P w H h) : ObjOk P w H h a u := by
  rcases r with r | ⟨o, r⟩
  · exact x a u r
  · obtain ⟨_, q⟩ := x a _ r
    exact q
def Mut : Option HO → Prop
  | some (.lst _) => True
  | some (.dK _) => True
  | some (.dT _) => True
  | some (.set _ _) => True
  | some (.ins _ _ _) => True
  | some (.ext _) => True
  | _ => False
section
variable {P : Program} {w : World} {H : Hp} {h h' : Heap} {x e : Addr} {o' : HO}
theorem HOk.write (ok : HOk P w H h) (mu : Mut (H x)) (he : e = x ∨ H e = some (.own x)) (k : ∀ b u, b ≠ e → h.get? b = some u → h'.get? b = some u) (heo : ∃ u, h'.get? e = some u)
    (new : ObjOk P w (upd H x o') h' x o') : HOk P w (upd H x o') h' := fun b u q => by
  have nown : ∀ c y, H c = some (.own y) → c ≠ x := fun c y r z => by subst z; rw [r] at mu; exact mu
  have ntup : ∀ c xs, H c = some (.tup xs) → c ≠ x := fun c xs r z => by subst z; rw [r] at mu; exact mu
  by_cases hb : b = x
  · subst hb; rw [upd_same] at q; cases q; exact new
  · rw [upd_ne hb] at q
    by_cases hbe : b = e
    · have q' : H b = some (.own x) := by
        rcases he with z | z
        · exact absurd (hbe.trans z) hb
        · rw [hbe]; exact z
      rw [q] at q'; cases q'
      obtain ⟨v, hv⟩ := heo
      exact ⟨v, by rw [hbe]; exact hv⟩
    · refine (ok b u q).stay (fun c v hc r => k c v ?_ r) (fun c r => by rw [upd_ne (nown c b r)]; exact r) fun c xs r => by rw [upd_ne (ntup c xs r)]; exact r
      rcases hc with rfl | hc
      · exact hbe
      · rintro rfl
        rcases he with z | z
        · exact nown c b hc z
        · rw [hc] at z; cases z; exact hb rfl
end
structure Un (fs ex : List Addr) (H H' : Hp) (h h' : Heap) : Prop where
  keep : ∀ b o, h.get? b = some o → H b = none → b ∉ fs → b ∉ ex → h'.get? b = some o
  slot : ∀ b o, h.get? b = some o → H b = none → b ∈ fs → b ∉ ex → ∃ sl, h'.get? b = some { o with slots := sl }
  free : ∀ b o, h.get? b = some o → H b = none → b ∉ ex → H' b = none
  there : ∀ b o, h.get? b = some o → b ∉ ex → ∃ o', h'.get? b = some o'
  tups : ∀ b xs, H b = some (.tup xs) → H' b = some (.tup xs)
  frzs : ∀ b o u, H b = some (.frz o u) → H' b = some (.frz o u)
  tbls : ∀ b ps, H b = some (.tbl ps) → ∃ more, H' b = some (.tbl (ps ++ more))
section
variable {fs fs' ex ex' : List Addr} {H H1 H2 : Hp} {h h1 h2 h' : Heap} {a x e : Addr} {o : HO}
theorem Un.any (u : Un fs ex H H1 h h1) {b : Addr} {ob : Obj} (q : h.get? b = some ob) (n : H b = none) (hx : b ∉ ex) : ∃ sl, h1.get? b = some { ob with slots := sl } := by
  by_cases hb : b ∈ fs
  · exact u.slot b ob q n hb hx
  · exact ⟨ob.slots, u.keep b ob q n hb hx⟩
theorem Un.kept (k : ∀ b u, h.get? b = some u → h'.get? b = some u) : Un fs ex H H h h' :=
  ⟨fun b ob q _ _ _ => k b ob q, fun b ob q _ _ _ => ⟨ob.slots, k b ob q⟩, fun _ _ _ n _ => n, fun b ob q _ => ⟨ob, k b ob q⟩, fun _ _ q => q, fun _ _ _ q => q, fun _ ps q => ⟨#[], by rw [q]; simp⟩⟩
theorem Un.refl : Un fs ex H H h h := Un.kept fun _ _ q => q
theorem Un.laid (k : ∀ b u, h.get? b = some u → h'.get? b = some u) (hp : h.objs.size ≤ a) (hn : H a = none) : Un fs ex H (upd H a o) h h' where
  keep := fun b u q _ _ _ => k b u q
  slot := fun b u q _ _ _ => ⟨u.slots, k b u q⟩
  free := fun b u q n _ => by rw [upd_ne (Nat.ne_of_lt (Nat.lt_of_lt_of_le (Heap.lt_size q) hp))]; exact n
  there := fun b u q _ => ⟨u, k b u q⟩
  tups := fun b xs q => by rw [upd_ne (ne_of_none q hn)]; exact q
  frzs := fun b u xs q => by rw [upd_ne (ne_of_none q hn)]; exact q
  tbls := fun b ps q => ⟨#[], by rw [upd_ne (ne_of_none q hn), q]; simp⟩
theorem Un.write (mu : Mut (H x)) (he : e = x ∨ H e = some (.own x)) (k : ∀ b u, b ≠ e → h.get? b = some u → h'.get? b = some u) (heo : ∃ u, h'.get? e = some u) : Un fs ex H (upd H x o) h h' := by
  have hx : ∀ b, H b = none → b ≠ x := fun b n z => by subst z; rw [n] at mu; exact mu
  have hb : ∀ b, H b = none → b ≠ e := fun b n z => by
    subst z
    rcases he with r | r
    · exact hx b n r
    · rw [n] at r; cases r
  have hm : ∀ b u, H b = some u → ¬ Mut (some u) → b ≠ x := fun b u q nm z => by subst z; rw [q] at mu; exact nm mu
  refine ⟨fun b u q n _ _ => k b u (hb b n) q, fun b u q n _ _ => ⟨u.slots, k b u (hb b n) q⟩, fun b u q n _ => by rw [upd_ne (hx b n)]; exact n, fun b u q _ => ?_,
    fun b xs q => by rw [upd_ne (hm b _ q fun z => z)]; exact q, fun b u xs q => by rw [upd_ne (hm b _ q fun z => z)]; exact q, fun b ps q => ⟨#[], by rw [upd_ne (hm b _ q fun z => z), q]; simp⟩⟩
  by_cases hbe : b = e
  · subst hbe; exact heo
  · exact ⟨u, k b u hbe q⟩
end
def trk (h : Heap) (H : Hp) : List Addr := (List.range h.objs.size).filter fun a => (H a).isSome
def hidT (h : Heap) (H : Hp) : Heap := PySem.W.hideAll h (trk h H)
theorem hidT_size (h : Heap) (H : Hp) : (hidT h H).objs.size = h.objs.size := PySem.W.hideAll_size _ _
theorem hidT_get {h : Heap} {H : Hp} {b : Addr} {o : Obj} (e : h.get? b = some o) (n : H b = none) : (hidT h H).get? b = some o :=
  PySem.W.hideAll_get _ e fun hm => by
    have q : (H b).isSome = true := (List.mem_filter.mp hm).2
    rw [n] at q; simp at q
theorem of_hidT {h : Heap} {H : Hp} {b : Addr} {o : Obj} (e : (hidT h H).get? b = some o) : h.get? b = some o ∧ H b = none := by
  have e' : h.get? b = some o := PySem.W.of_hideAll (trk h H) e
  refine ⟨e', ?_⟩
  cases q : H b with
  | none => rfl
  | some x =>
    have hm : b ∈ trk h H := List.mem_filter.mpr ⟨List.mem_range.mpr (Heap.lt_size e'), by simp [q]⟩
    have z : (hidT h H).get? b = none := PySem.W.hideAll_none (trk h H) hm
    rw [z] at e; cases e
def allNews (g h : Heap) (L : Addr) : List (Addr × Obj) := (List.range h.objs.size).filterMap fun a => if a = L ∨ (g.get? a).isSome = true then none else (h.get? a).map fun o => (a, o)
def rest (g h : Heap) (L d : Addr) : List (Addr × Obj) := (allNews g h L).filter fun p => decide (p.1 ≠ d)
end L2
namespace L2
open PySem PySem.Spec PyProof.Rows
structure Mod (K : PySem.W.Frag) (mg : Str → Option Value) (base : Heap) : Prop where
  kin : K.In base
  glob : base.Ns mainGlobals mg
  blt : ∃ mb, base.Ns builtinsNs mb ∧ ∀ x : Str, x ≠ "__name__" → mb x = bootBuiltins x
  nolimit : base.NoLimit
structure Cx where
  prog : Program
  w : World
  K : PySem.W.Frag
  mg : Str → Option Value
  base : Heap
  A : Around
  N : List Str
  s₀ : Shared
  H₀ : Hp
  env : Env
  outer : List Env
  stack : List Env
  ex : List Addr
  fn : Str → Bool
  calm : Bool
  pn : List (Addr × Obj)
  xe : Value → Shared → Prop
def frs (l : List Env) : List Addr := l.filterMap (·.frame)
abbrev Cx.fs (X : Cx) : List Addr := frs X.outer
def Vis (sc : Scope) (x : Str) : Prop := sc.names.lookup x = some .local ∨ sc.names.lookup x = some .cell ∨ sc.names.lookup x = some .free
def Loc (sc : Scope) (x : Str) : Prop := sc.names.lookup x = some .local ∨ sc.names.lookup x = some .cell
def Look (env : Env) (h : Heap) (m : Str → Option Value) (x : Str) (u : Value) : Prop :=
  (env.kindOf x = some .local ∧ m x = some u) ∨ ((env.kindOf x = some .cell ∨ env.kindOf x = some .free) ∧ ∃ c, env.cells.lookup x = some c ∧ h.IsCell c (some u))
structure Cx.Ok (X : Cx) : Prop where
  mod : Mod X.K X.mg X.base
  kind : X.env.scope.kind = .function
  glob : X.env.globals = mainGlobals
  blt : X.env.builtins = builtinsNs
  above : X.s₀.heap.objs.size ≤ X.env.locals
  inj : ∀ x y c, X.env.cells.lookup x = some c → X.env.cells.lookup y = some c → x = y
  has : ∀ x, (X.env.kindOf x = some .cell ∨ X.env.kindOf x = some .free) → ∃ c, X.env.cells.lookup x = some c
  cab : ∀ x c, X.fn x = true → X.env.cells.lookup x = some c → X.s₀.heap.objs.size ≤ c
  hd : X.calm = true → X.A.handled = none
  frames : X.A.frames = some X.stack
  stk : X.stack = X.outer ∨ (X.stack = X.env :: X.outer ∧ X.env.frame = some X.env.locals)
  exf : ∀ b ∈ X.ex, b ≠ X.env.locals ∧ ∀ x c, X.env.cells.lookup x = some c → c ≠ b
  bs : ∀ b o, X.base.get? b = some o → X.s₀.heap.get? b = some o ∧ X.H₀ b = none
  bsz : X.base.objs.size ≤ X.s₀.heap.objs.size
  noex : ∀ b o, X.base.get? b = some o → b ∉ X.ex
  exfs : ∀ b ∈ X.ex, b ∉ X.fs
  funs : X.s₀.heap.FunFrames X.base X.outer
  frf : ∀ b ∈ X.fs, X.H₀ b = none
structure Inv (X : Cx) (pins : List (Addr × Obj)) (σ : List (Option V)) (H : Hp) (s : Shared) : Prop where
  ok : X.Ok
  os : s.os = X.s₀.os
  bare : AllBare s.gens
  base : Un X.fs X.ex X.H₀ H X.s₀.heap s.heap
  loc : ∃ m, s.heap.Ns X.env.locals m ∧ ∀ (i : Nat) (x : Str) (v : V), X.N[i]? = some x → σ[i]? = some (some v) → Vis X.env.scope x → ∃ u, RelV v u ∧ Look X.env s.heap m x u
  cell : ∀ x c, X.env.cells.lookup x = some c → ∃ v, s.heap.IsCell c v
  free : H X.env.locals = none
  freeC : ∀ x c, X.env.cells.lookup x = some c → H c = none
  pin : ∀ p ∈ X.pn ++ pins, s.heap.get? p.1 = some p.2 ∧ H p.1 = none ∧ p.1 ≠ X.env.locals ∧ p.1 ∉ X.fs ∧ ∀ v, p.2.data ≠ .cell v
  hok : HOk X.prog X.w H s.heap
  len : σ.length = X.N.length
section
variable {X : Cx} {pins : List (Addr × Obj)} {σ : List (Option V)} {H H' : Hp} {s : Shared} {h' : Heap}
theorem Cx.Ok.nofr (ok : X.Ok) {b : Addr} {o : Obj} (e : X.base.get? b = some o) : b ∉ X.fs := fun hb => by
  have := (ok.funs.mem hb).1
  rw [e] at this; cases this
theorem Inv.bs (I : Inv X pins σ H s) : ∀ b o, X.base.get? b = some o → s.heap.get? b = some o ∧ H b = none := fun b o e =>
  ⟨I.base.keep b o (I.ok.bs b o e).1 (I.ok.bs b o e).2 (I.ok.nofr e) (I.ok.noex b o e), I.base.free b o (I.ok.bs b o e).1 (I.ok.bs b o e).2 (I.ok.noex b o e)⟩
theorem Inv.bk (I : Inv X pins σ H s) : ∀ b o, X.base.get? b = some o → s.heap.get? b = some o := fun b o e => (I.bs b o e).1
theorem Inv.mod (I : Inv X pins σ H s) : Mod X.K X.mg X.base := I.ok.mod
theorem Inv.kIn (I : Inv X pins σ H s) : X.K.In s.heap := I.ok.mod.kin.keeps I.bk
theorem Inv.lt (I : Inv X pins σ H s) : X.env.locals < s.heap.objs.size := let ⟨_, hn, _⟩ := I.loc; hn.lt
theorem Inv.sz (I : Inv X pins σ H s) : X.s₀.heap.objs.size ≤ s.heap.objs.size := Nat.le_trans I.ok.above (Nat.le_of_lt I.lt)
theorem Inv.nofs (I : Inv X pins σ H s) {a : Addr} (h : s.heap.objs.size ≤ a) : a ∉ X.fs := fun hb => by
  obtain ⟨_, o, ho, _⟩ := I.ok.funs.mem hb
  exact absurd (Nat.lt_of_lt_of_le (Heap.lt_size ho) (Nat.le_trans I.sz h)) (Nat.lt_irrefl _)
theorem Inv.cne (I : Inv X pins σ H s) : ∀ x c, X.env.cells.lookup x = some c → c ≠ X.env.locals := fun x c e z => by
  obtain ⟨v, o, ho, hd⟩ := I.cell x c e
  obtain ⟨m, ⟨o', es, ep, ho', hd', _⟩, _⟩ := I.loc
  rw [z, ho'] at ho; cases ho; rw [hd'] at hd; cases hd
theorem Inv.funs (I : Inv X pins σ H s) : s.heap.FunFrames X.base X.outer := by
  have all : ∀ (l : List Env), (∀ b ∈ frs l, b ∈ X.fs) → X.s₀.heap.FunFrames X.base l → s.heap.FunFrames X.base l := by
    intro l
    induction l with
    | nil => intro _ _; trivial
    | cons env r ih =>
      intro hs hl
      obtain ⟨hk, ⟨L, o, hf, hn, ho, hd⟩, hr⟩ := hl
      have hL : L ∈ X.fs := hs L (by unfold frs; rw [List.filterMap_cons, hf]; exact List.mem_cons_self)
      obtain ⟨sl, e⟩ := I.base.slot L o ho (I.ok.frf L hL) hL fun z => I.ok.exfs L z hL
      exact ⟨hk, ⟨L, _, hf, hn, e, hd⟩, ih (fun b hb => hs b (by unfold frs; rw [List.filterMap_cons, hf]; exact List.mem_cons_of_mem _ hb)) hr⟩
  exact all X.outer (fun _ hb => hb) I.ok.funs
theorem Inv.stack (I : Inv X pins σ H s) : s.heap.FunFrames X.base X.stack := by
  rcases I.ok.stk with e | ⟨e, hf⟩
  · rw [e]; exact I.funs
  · rw [e]
    obtain ⟨m, hn, _⟩ := I.loc
    refine .cons (by rw [I.ok.kind]; decide) hf hn ?_ I.funs
    exact Heap.get?_none_of_le (Nat.le_trans I.ok.bsz I.ok.above)
theorem Inv.stkSub (I : Inv X pins σ H s) : ∀ b ∈ frs X.stack, b ∈ X.env.locals :: X.fs := fun b hb => by
  rcases I.ok.stk with e | ⟨e, hf⟩
  · rw [e] at hb; exact List.mem_cons_of_mem _ hb
  · rw [e] at hb
    unfold frs at hb
    rw [List.filterMap_cons, hf] at hb
    exact hb
theorem Inv.stkFree (I : Inv X pins σ H s) : ∀ b ∈ frs X.stack, H b = none := fun b hb => by
  rcases List.mem_cons.mp (I.stkSub b hb) with e | hb
  · rw [e]; exact I.free
  · obtain ⟨_, o, ho, _⟩ := I.ok.funs.mem hb
    exact I.base.free b o ho (I.ok.frf b hb) fun z => I.ok.exfs b z hb
theorem Inv.step {g' : Array GenState} {t' : Nat} {d' : Drawn} {ch : List Addr} (I : Inv X pins σ H s)
    (hch : ∀ b ∈ ch, (b ∈ X.ex ∨ X.s₀.heap.objs.size ≤ b) ∧ b ≠ X.env.locals ∧ (∀ x c, X.env.cells.lookup x = some c → c ≠ b) ∧ ∀ p ∈ X.pn ++ pins, p.1 ≠ b)
    (keep : ∀ b o, b ≠ X.env.locals → b ∉ X.fs → b ∉ ch → s.heap.get? b = some o → H b = none → h'.get? b = some o)
    (slot : ∀ b o, b ≠ X.env.locals → b ∈ X.fs → b ∉ ch → s.heap.get? b = some o → H b = none → ∃ sl, h'.get? b = some { o with slots := sl }) (free : ∀ b o, b ∉ ch → s.heap.get? b = some o → H b = none → H' b = none)
    (there : ∀ b o, b ∉ ch → s.heap.get? b = some o → ∃ o', h'.get? b = some o')
    (tups : ∀ b xs, H b = some (.tup xs) → H' b = some (.tup xs)) (frzs : ∀ b o u, H b = some (.frz o u) → H' b = some (.frz o u)) (tbls : ∀ b ps, H b = some (.tbl ps) → ∃ more, H' b = some (.tbl (ps ++ more)))
    (ns : ∀ m, s.heap.Ns X.env.locals m → h'.Ns X.env.locals m) (hok : HOk X.prog X.w H' h') (hg : AllBare g') :
    Inv X pins σ H' { s with heap := h', gens := g', drawn := d', toks := t' } := by
  have neL : ∀ b o, X.s₀.heap.get? b = some o → b ≠ X.env.locals := fun b o e => Nat.ne_of_lt (Nat.lt_of_lt_of_le (Heap.lt_size e) I.ok.above)
  have neC : ∀ b o, X.s₀.heap.get? b = some o → b ∉ X.ex → b ∉ ch := fun b o e hx hb => by
    rcases (hch b hb).1 with z | z
    · exact hx z
    · exact absurd (Nat.lt_of_lt_of_le (Heap.lt_size e) z) (Nat.lt_irrefl _)
  have cellK : ∀ x c, X.env.cells.lookup x = some c → ∀ v, s.heap.IsCell c v → h'.IsCell c v := fun x c e v ⟨o, ho, hd⟩ => by
    have nch : c ∉ ch := fun z => (hch c z).2.2.1 x c e rfl
    by_cases hc : c ∈ X.fs
    · obtain ⟨sl, q⟩ := slot c o (I.cne x c e) hc nch ho (I.freeC x c e)
      exact ⟨_, q, hd⟩
    · exact ⟨o, keep c o (I.cne x c e) hc nch ho (I.freeC x c e), hd⟩
  refine ⟨I.ok, I.os, hg, ⟨fun b o e n hb hx => ?_, fun b o e n hb hx => ?_, fun b o e n hx => ?_, fun b o e hx => ?_, fun b xs e => tups b xs (I.base.tups b xs e), fun b o xs e => frzs b o xs (I.base.frzs b o xs e), fun b ps e => ?_⟩, ?_, fun x c e => ?_, ?_, fun x c e => ?_, fun p hp => ?_, hok, I.len⟩
  · exact keep b o (neL b o e) hb (neC b o e hx) (I.base.keep b o e n hb hx) (I.base.free b o e n hx)
  · obtain ⟨sl, e1⟩ := I.base.slot b o e n hb hx
    obtain ⟨sl', e2⟩ := slot b _ (neL b o e) hb (neC b o e hx) e1 (I.base.free b o e n hx)
    exact ⟨sl', e2⟩
  · obtain ⟨o', e1⟩ := I.base.there b o e hx
    exact free b o' (neC b o e hx) e1 (I.base.free b o e n hx)
  · obtain ⟨o', e1⟩ := I.base.there b o e hx
    exact there b o' (neC b o e hx) e1
  · obtain ⟨m1, e1⟩ := I.base.tbls b ps e
    obtain ⟨m2, e2⟩ := tbls b _ e1
    exact ⟨m1 ++ m2, by rw [e2, Array.append_assoc]⟩
  · obtain ⟨m, hn, hl⟩ := I.loc
    refine ⟨m, ns m hn, fun i x v e1 e2 e3 => ?_⟩
    obtain ⟨u, r, l⟩ := hl i x v e1 e2 e3
    refine ⟨u, r, ?_⟩
    rcases l with l | ⟨k, c, e, z⟩
    · exact .inl l
    · exact .inr ⟨k, c, e, cellK x c e _ z⟩
  · obtain ⟨v, z⟩ := I.cell x c e
    exact ⟨v, cellK x c e v z⟩
  · obtain ⟨m, ⟨o, _, _, ho, _⟩, _⟩ := I.loc
    exact free _ o (fun z => (hch _ z).2.1 rfl) ho I.free
  · obtain ⟨v, o, ho, hd⟩ := I.cell x c e
    exact free c o (fun z => (hch c z).2.2.1 x c e rfl) ho (I.freeC x c e)
  · obtain ⟨e, n, ne, nf, d⟩ := I.pin p hp
    have nch : p.1 ∉ ch := fun z => (hch p.1 z).2.2.2 p hp rfl
    exact ⟨keep p.1 p.2 ne nf nch e n, free p.1 p.2 nch e n, ne, nf, d⟩
theorem Inv.un {t' : Nat} (I : Inv X pins σ H s) (u : Un X.fs [] H H' s.heap h') (hok : HOk X.prog X.w H' h') : Inv X pins σ H' { s with heap := h', toks := t' } := by
  obtain ⟨m, ⟨o, es, ep, ho, r⟩, _⟩ := id I.loc
  obtain ⟨sl, hL⟩ := u.any ho I.free (by simp)
  exact I.step (g' := s.gens) (d' := s.drawn) (ch := []) (fun _ z => nomatch z) (fun b o _ hb _ e n => u.keep b o e n hb (by simp)) (fun b o _ hb _ e n => u.slot b o e n hb (by simp)) (fun b o _ e n => u.free b o e n (by simp)) (fun b o _ e => u.there b o e (by simp)) u.tups u.frzs u.tbls (fun m' hm => by
    obtain ⟨o', es', ep', ho', r'⟩ := hm
    rw [ho] at ho'; cases ho'
    exact ⟨_, es', ep', hL, r'⟩) hok I.bare
theorem Inv.call {g' : Array GenState} {t' : Nat} {d' : Drawn} {ch : List Addr} (I : Inv X pins σ H s) (u : Un (frs X.stack) ch H H' s.heap h') (hok : HOk X.prog X.w H' h') (hg : AllBare g')
    (hch : ∀ b ∈ ch, (b ∈ X.ex ∨ X.s₀.heap.objs.size ≤ b) ∧ b ≠ X.env.locals ∧ (∀ x c, X.env.cells.lookup x = some c → c ≠ b) ∧ ∀ p ∈ X.pn ++ pins, p.1 ≠ b) :
    Inv X pins σ H' { s with heap := h', gens := g', drawn := d', toks := t' } := by
  obtain ⟨m, ⟨o, es, ep, ho, r⟩, _⟩ := id I.loc
  obtain ⟨sl, hL⟩ := u.any ho I.free fun z => (hch _ z).2.1 rfl
  exact I.step (ch := ch) hch (fun b o hL hb hc e n => u.keep b o e n (fun z => (List.mem_cons.mp (I.stkSub b z)).elim hL hb) hc) (fun b o _ _ hc e n => u.any e n hc) (fun b o hc e n => u.free b o e n hc) (fun b o hc e => u.there b o e hc) u.tups u.frzs u.tbls (fun m' hm => by
    obtain ⟨o', es', ep', ho', r'⟩ := hm
    rw [ho] at ho'; cases ho'
    exact ⟨_, es', ep', hL, r'⟩) hok hg
theorem Inv.turned {t' : Nat} {it : Addr} (I : Inv X pins σ H s) (k : ∀ b o, b ≠ it → s.heap.get? b = some o → h'.get? b = some o) (hn : H it = none) (hL : it ≠ X.env.locals)
    (h1 : it ∈ X.ex ∨ X.s₀.heap.objs.size ≤ it) (h2 : ∀ x c, X.env.cells.lookup x = some c → c ≠ it) (h3 : ∀ p ∈ X.pn ++ pins, p.1 ≠ it) : Inv X pins σ H { s with heap := h', toks := t' } := by
  have nit : ∀ b u, H b = some u → b ≠ it := fun b u e z => by rw [z, hn] at e; cases e
  refine I.step (g' := s.gens) (d' := s.drawn) (ch := [it]) (fun b hb => ?_) (fun b o _ _ hc e _ => k b o (fun z => hc (by simp [z])) e) (fun b o _ _ hc e _ => ⟨o.slots, k b o (fun z => hc (by simp [z])) e⟩) (fun _ _ _ _ n => n)
    (fun b o hc e => ⟨o, k b o (fun z => hc (by simp [z])) e⟩) (fun _ _ e => e) (fun _ _ _ e => e) (fun b ps e => ⟨#[], by rw [e]; simp⟩) (fun m hm => ?_) (fun b u e => ?_) I.bare
  · have e : b = it := by simpa using hb
    subst e
    exact ⟨h1, hL, h2, h3⟩
  · obtain ⟨o, es, ep, ho, r⟩ := hm
    exact ⟨o, es, ep, k _ o (Ne.symm hL) ho, r⟩
  · refine (I.hok b u e).stay (fun c v hc q => k c v ?_ q) (fun _ q => q) fun _ _ q => q
    rcases hc with z | z
    · rw [z]; exact nit b u e
    · exact nit c _ z
theorem Inv.tok (I : Inv X pins σ H s) (t : Nat) : Inv X pins σ H { s with toks := t } := I.un (h' := s.heap) (t' := t) Un.refl I.hok
theorem Inv.kept {t' : Nat} (I : Inv X pins σ H s) (k : ∀ b u, s.heap.get? b = some u → h'.get? b = some u) : Inv X pins σ H { s with heap := h', toks := t' } := I.un (Un.kept k) (I.hok.kept k)
theorem Inv.laid {a : Addr} {o : HO} {t' : Nat} (I : Inv X pins σ H s) (k : ∀ b u, s.heap.get? b = some u → h'.get? b = some u) (hp : s.heap.objs.size ≤ a) (new : ObjOk X.prog X.w (upd H a o) h' a o) :
    Inv X pins σ (upd H a o) { s with heap := h', toks := t' } := I.un (Un.laid k hp (I.hok.fresh hp)) (I.hok.laid k hp new)
theorem Inv.write {x e : Addr} {o : HO} {t' : Nat} (I : Inv X pins σ H s) (mu : Mut (H x)) (he : e = x ∨ H e = some (.own x)) (k : ∀ b u, b ≠ e → s.heap.get? b = some u → h'.get? b = some u) (heo : ∃ u, h'.get? e = some u)
    (new : ObjOk X.prog X.w (upd H x o) h' x o) : Inv X pins σ (upd H x o) { s with heap := h', toks := t' } := I.un (Un.write mu he k heo) (I.hok.write mu he k heo new)
theorem Inv.pins_of {pins' : List (Addr × Obj)} (I : Inv X pins σ H s) (h : ∀ p ∈ pins', s.heap.get? p.1 = some p.2 ∧ H p.1 = none ∧ p.1 ≠ X.env.locals ∧ p.1 ∉ X.fs ∧ ∀ v, p.2.data ≠ .cell v) : Inv X pins' σ H s :=
  ⟨I.ok, I.os, I.bare, I.base, I.loc, I.cell, I.free, I.freeC, fun p hp => (List.mem_append.mp hp).elim (fun z => I.pin p (List.mem_append_left _ z)) (h p), I.hok, I.len⟩
theorem nodup_ix {N : List Str} (hN : N.Nodup) {i j : Nat} {x : Str} (a : N[i]? = some x) (b : N[j]? = some x) : i = j := by
  obtain ⟨h1, e1⟩ := List.getElem?_eq_some_iff.mp a
  obtain ⟨h2, e2⟩ := List.getElem?_eq_some_iff.mp b
  exact (List.getElem_inj hN).mp (e1.trans e2.symm)
theorem store_ok2 {M : Model} {A : Around} {E : Value → Shared → Prop} {i : Nat} {x : Str} {v : V} {u : Value} {Q : Unit → Shared → Prop} (I : Inv X pins σ H s) (hN : X.N.Nodup) (hi : X.N[i]? = some x) (hx : Loc X.env.scope x) (r : RelV v u)
    (h : ∀ s', Inv X pins (σ.set i (some v)) H s' → (∃ a, Heap.SameBut a s.heap s'.heap ∧ (a = X.env.locals ∨ X.env.cells.lookup x = some a)) → Q () s') (hf : X.fn x = true ∨ X.env.scope.names.lookup x = some .local := by first | exact .inl rfl | exact .inr rfl | assumption) : wpAny M A (storeName X.env x u) Q E s := by
  obtain ⟨m, hn, hl⟩ := id I.loc
  have hcls : (X.env.scope.kind == .class || (X.env.scope.kind == .module && X.env.locals != X.env.globals)) = false := by rw [I.ok.kind]; rfl
  have hiσ : i < σ.length := by rw [I.len]; exact (List.getElem?_eq_some_iff.mp hi).1
  have cne := I.cne
  have tracked : ∀ {a : Addr} {h' : Heap}, (∃ o, s.heap.get? a = some o ∧ H a = none) → Heap.SameBut a s.heap h' → HOk X.prog X.w H h' := fun {a h'} ha hs b ob e => by
    obtain ⟨_, _, hfree⟩ := ha
    refine (I.hok b ob e).stay (fun c w' hc q => (hs.2 c ?_).trans q) (fun _ q => q) fun _ _ q => q
    rintro rfl
    rcases hc with rfl | hc
    · rw [hfree] at e; cases e
    · rw [hfree] at hc; cases hc
  rcases hx with hk | hk
  · refine wpAny_storeName_local hk hn (fun h' hn' hs => ?_) hcls
    obtain ⟨oL, _, _, hoL, _⟩ := id hn
    refine h _ ⟨I.ok, I.os, I.bare, ⟨fun b o e n hb hx => ?_, fun b o e n hb hx => ?_, I.base.free, fun b o e hx => ?_, I.base.tups, I.base.frzs, I.base.tbls⟩, ⟨_, hn', fun j y v' e1 e2 e3 => ?_⟩, fun y c e => ?_, I.free, I.freeC, fun p hp => ?_, tracked ⟨oL, hoL, I.free⟩ hs, by simpa using I.len⟩ ⟨_, hs, .inl rfl⟩
    · exact (hs.2 b (Nat.ne_of_lt (Nat.lt_of_lt_of_le (Heap.lt_size e) I.ok.above))).trans (I.base.keep b o e n hb hx)
    · obtain ⟨sl, e1⟩ := I.base.slot b o e n hb hx
      exact ⟨sl, (hs.2 b (Nat.ne_of_lt (Nat.lt_of_lt_of_le (Heap.lt_size e) I.ok.above))).trans e1⟩
    · obtain ⟨o', e1⟩ := I.base.there b o e hx
      exact ⟨o', (hs.2 b (Nat.ne_of_lt (Nat.lt_of_lt_of_le (Heap.lt_size e) I.ok.above))).trans e1⟩
    · by_cases hj : j = i
      · subst hj
        rw [hi] at e1; cases e1
        rw [List.getElem?_set_self hiσ] at e2
        cases e2
        exact ⟨u, r, .inl ⟨hk, by simp⟩⟩
      · rw [List.getElem?_set_ne (Ne.symm hj)] at e2
        obtain ⟨u', r', q⟩ := hl j y v' e1 e2 e3
        refine ⟨u', r', ?_⟩
        rcases q with ⟨k, e⟩ | ⟨k, c, e, z⟩
        · refine .inl ⟨k, ?_⟩
          have : y ≠ x := fun e => hj (nodup_ix hN e1 (e ▸ hi))
          simp [this, e]
        · exact .inr ⟨k, c, e, z.sameBut hs (cne y c e)⟩
    · obtain ⟨w', z⟩ := I.cell y c e
      exact ⟨w', z.sameBut hs (cne y c e)⟩
    · obtain ⟨e, n, ne, nf, d⟩ := I.pin p hp
      exact ⟨(hs.2 p.1 ne).trans e, n, ne, nf, d⟩
  · have hfn : X.fn x = true := by
      rcases hf with z | z
      · exact z
      · rw [z] at hk; cases hk
    obtain ⟨c, hc⟩ := I.ok.has x (.inl hk)
    obtain ⟨w', z⟩ := I.cell x c hc
    refine wpAny_storeName_cell I.ok.kind hk hc z (fun h' hc' hs => ?_)
    obtain ⟨oc, hoc, hocd⟩ := id z
    refine h { s with heap := h' } ⟨I.ok, I.os, I.bare, ⟨fun b o e n hb hx => ?_, fun b o e n hb hx => ?_, I.base.free, fun b o e hx => ?_, I.base.tups, I.base.frzs, I.base.tbls⟩, ⟨m, hn.sameBut hs (Ne.symm (cne x c hc)), fun j y v' e1 e2 e3 => ?_⟩, fun y c' e => ?_, I.free, I.freeC, fun p hp => ?_, tracked ⟨oc, hoc, I.freeC x c hc⟩ hs, by simpa using I.len⟩ ⟨c, hs, .inr hc⟩
    · exact (hs.2 b (Nat.ne_of_lt (Nat.lt_of_lt_of_le (Heap.lt_size e) (I.ok.cab x c hfn hc)))).trans (I.base.keep b o e n hb hx)
    · obtain ⟨sl, e1⟩ := I.base.slot b o e n hb hx
      exact ⟨sl, (hs.2 b (Nat.ne_of_lt (Nat.lt_of_lt_of_le (Heap.lt_size e) (I.ok.cab x c hfn hc)))).trans e1⟩
    · obtain ⟨o', e1⟩ := I.base.there b o e hx
      exact ⟨o', (hs.2 b (Nat.ne_of_lt (Nat.lt_of_lt_of_le (Heap.lt_size e) (I.ok.cab x c hfn hc)))).trans e1⟩
    · by_cases hj : j = i
      · subst hj
        rw [hi] at e1; cases e1
        rw [List.getElem?_set_self hiσ] at e2
        cases e2
        exact ⟨u, r, .inr ⟨.inl hk, c, hc, hc'⟩⟩
      · rw [List.getElem?_set_ne (Ne.symm hj)] at e2
        obtain ⟨u', r', q⟩ := hl j y v' e1 e2 e3
        refine ⟨u', r', ?_⟩
        rcases q with q | ⟨k, c', e, z'⟩
        · exact .inl q
        · refine .inr ⟨k, c', e, z'.sameBut hs ?_⟩
          rintro rfl
          exact hj (nodup_ix hN e1 (I.ok.inj _ _ _ e hc ▸ hi))
    · by_cases hcc : c' = c
      · subst hcc; exact ⟨_, hc'⟩
      · obtain ⟨w2, z2⟩ := I.cell y c' e
        exact ⟨w2, z2.sameBut hs hcc⟩
    · obtain ⟨e, n, ne, nf, d⟩ := I.pin p hp
      refine ⟨(hs.2 p.1 ?_).trans e, n, ne, nf, d⟩
      intro q
      rw [q, hoc] at e
      have q' : oc = p.2 := Option.some.inj e
      exact d w' (by rw [← q']; exact hocd)
theorem store_ok {M : Model} {A : Around} {E : Value → Shared → Prop} {i : Nat} {x : Str} {v : V} {u : Value} {Q : Unit → Shared → Prop} (I : Inv X pins σ H s) (hN : X.N.Nodup) (hi : X.N[i]? = some x) (hx : Loc X.env.scope x) (r : RelV v u)
    (h : ∀ s', Inv X pins (σ.set i (some v)) H s' → Q () s') (hf : X.fn x = true ∨ X.env.scope.names.lookup x = some .local := by first | exact .inl rfl | exact .inr rfl | assumption) : wpAny M A (storeName X.env x u) Q E s :=
  store_ok2 I hN hi hx r (fun s' I' _ => h s' I') hf
theorem Inv.call' {s' : Shared} {ch : List Addr} (I : Inv X pins σ H s) (ho : s'.os = s.os) (u : Un (frs X.stack) ch H H' s.heap s'.heap) (hok : HOk X.prog X.w H' s'.heap) (hg : AllBare s'.gens)
    (hch : ∀ b ∈ ch, (b ∈ X.ex ∨ X.s₀.heap.objs.size ≤ b) ∧ b ≠ X.env.locals ∧ (∀ x c, X.env.cells.lookup x = some c → c ≠ b) ∧ ∀ p ∈ X.pn ++ pins, p.1 ≠ b) : Inv X pins σ H' s' := by
  obtain ⟨h', g', d', t', o'⟩ := s'
  have e : o' = s.os := ho
  subst e
  exact I.call (g' := g') (t' := t') (d' := d') u hok hg hch
end
abbrev XK := Value → Option Addr → Hp → Prop
abbrev St := List (Option V)
abbrev VK := V → Hp → Prop
abbrev TE := St → Hp → VK → Prop
abbrev TT := St → Hp → (Bool → Hp → Prop) → Prop
abbrev TA := St → Hp → (List V → Hp → Prop) → Prop
structure Ends where
  nx : St → Hp → Prop
  rt : VK
  bk : St → Hp → Prop := fun _ _ => False
  ct : St → Hp → Prop := fun _ _ => False
abbrev TS := Ends → St → Hp → Prop
def EP (X : Cx) (pins : List (Addr × Obj)) (σ : St) (Q : VK) (u : Value) (s' : Shared) : Prop := ∃ v H', Inv X pins σ H' s' ∧ RelV v u ∧ Q v H'
def TP (X : Cx) (pins : List (Addr × Obj)) (σ : St) (Q : Bool → Hp → Prop) (b : Bool) (s' : Shared) : Prop := ∃ H', Inv X pins σ H' s' ∧ Q b H'
def AP (X : Cx) (pins : List (Addr × Obj)) (σ : St) (Q : List V → Hp → Prop) (us : List Value) (s' : Shared) : Prop := ∃ vs H', Inv X pins σ H' s' ∧ Vals vs us ∧ Q vs H'
def SP (X : Cx) (pins : List (Addr × Obj)) (D : Ends) (f : Flow) (s' : Shared) : Prop :=
  match f with
  | .next => ∃ σ' H', Inv X pins σ' H' s' ∧ D.nx σ' H'
  | .brk => ∃ σ' H', Inv X pins σ' H' s' ∧ D.bk σ' H'
  | .cont => ∃ σ' H', Inv X pins σ' H' s' ∧ D.ct σ' H'
  | .ret u => ∃ v σ' H', Inv X pins σ' H' s' ∧ RelV v u ∧ D.rt v H'
def PE (X : Cx) (e : Expr) (t : TE) : Prop :=
  ∀ (pins : List (Addr × Obj)) (s : Shared) (σ : St) (H : Hp) (Q : VK), Inv X pins σ H s → t σ H Q → wpAny (model X.prog X.w) X.A (eval e X.env) (EP X pins σ Q) X.xe s
def PT (X : Cx) (e : Expr) (t : TT) : Prop :=
  ∀ (pins : List (Addr × Obj)) (s : Shared) (σ : St) (H : Hp) (Q : Bool → Hp → Prop), Inv X pins σ H s → t σ H Q → wpAny (model X.prog X.w) X.A (isTrue e X.env (eval e X.env)) (TP X pins σ Q) X.xe s
def PW (X : Cx) (e : Expr) (t : TT) : Prop :=
  ∀ (whole : Sem Value) (pins : List (Addr × Obj)) (s : Shared) (σ : St) (H : Hp) (Q : Bool → Hp → Prop), Inv X pins σ H s → t σ H Q → wpAny (model X.prog X.w) X.A (isTrue e X.env whole) (TP X pins σ Q) X.xe s
theorem PW.pt {X : Cx} {e : Expr} {t : TT} (h : PW X e t) : PT X e t := h _
def PA (X : Cx) (es : List Expr) (t : TA) : Prop :=
  ∀ (pos : Pos) (pins : List (Addr × Obj)) (s : Shared) (σ : St) (H : Hp) (Q : List V → Hp → Prop), Inv X pins σ H s → t σ H Q → wpAny (model X.prog X.w) X.A (spliced (backTo pos (starEach es X.env))) (AP X pins σ Q) X.xe s
def PS (X : Cx) (st : Stmt) (t : TS) : Prop :=
  ∀ (pins : List (Addr × Obj)) (s : Shared) (σ : St) (H : Hp) (D : Ends), Inv X pins σ H s → t D σ H → wpAny (model X.prog X.w) X.A (exec st X.env) (SP X pins D) X.xe s
def PSs (X : Cx) (st : List Stmt) (t : TS) : Prop :=
  ∀ (pins : List (Addr × Obj)) (s : Shared) (σ : St) (H : Hp) (D : Ends), Inv X pins σ H s → t D σ H → wpAny (model X.prog X.w) X.A (execs st X.env) (SP X pins D) X.xe s
theorem thn {α : Type} {t : Sem α} {Q Q' : α → Shared → Prop} {M : Model} {A : Around} {E : Value → Shared → Prop} {s : Shared} (h : wpAny M A t Q E s) (hQ : ∀ a s, Q a s → Q' a s) : wpAny M A t Q' E s := wpAny_mono h hQ fun _ _ x => x
end L2
namespace L2
open PySem PySem.Spec PyProof.Rows
section
variable {X : Cx}
def tVar (i : Nat) : TE := fun σ H Q => ∃ v, σ[i]? = some (some v) ∧ Q v H
def tC (v : V) : TE := fun _ H Q => Q v H
theorem pe_var {i : Nat} {x : Str} {pos : Pos} (hN : X.N[i]? = some x) (hv : Vis X.env.scope x) (hd : (x == ("__debug__" : Str)) = false := by decide) (hcd : (x == ("__classdict__" : Str)) = false := by decide) : PE X (.Name x pos) (tVar i) := by
  intro pins s σ H Q I h
  obtain ⟨v, e, h⟩ := h
  obtain ⟨m, hn, hl⟩ := I.loc
  obtain ⟨u, r, l⟩ := hl i x v hN e hv
  have fin : EP X pins σ Q u s := ⟨v, H, I, r, h⟩
  rcases l with ⟨hk, hm⟩ | ⟨hk, c, hc, hcell⟩
  · exact wpAny_Name (wpAny_loadName_local I.ok.kind hk hn hm fin) hd
  · rcases hk with hk | hk
    · exact wpAny_Name (wpAny_loadName_cell I.ok.kind hk hc hcell fin) hd
    · exact wpAny_Name (wpAny_loadName_free I.ok.kind hk hc hcell fin hcd) hd
theorem pe_int {i j pos} : PE X (.Constant (.int i) j pos) (tC (.int i)) := fun _ _ _ H _ I h => wpAny_Constant_int ⟨.int i, H, I.tok _, ⟨_, rfl⟩, h⟩
theorem pe_bl {b j pos} : PE X (.Constant (.bool b) j pos) (tC (.bl b)) := fun _ _ _ H _ I h => Constant_bool ⟨.bl b, H, I, rfl, h⟩
theorem pe_non {j pos} : PE X (.Constant .none j pos) (tC .non) := fun _ _ _ H _ I h => Constant_none ⟨.non, H, I, rfl, h⟩
theorem pe_str {x j pos} : PE X (.Constant (.str x) j pos) (tC (.str x)) := fun _ _ _ H _ I h => Calls.Constant_str ⟨.str x, H, I.tok _, ⟨_, rfl⟩, h⟩
def Gl (X : Cx) (x : Str) : Prop := X.env.kindOf x = some .globalImplicit
theorem ld_glob {E : Value → Shared → Prop} {pins : List (Addr × Obj)} {s : Shared} {σ : St} {H : Hp} {x : Str} {u : Value} {pos : Pos} {Q : Value → Shared → Prop} (I : Inv X pins σ H s) (hg : Gl X x) (hm : X.mg x = some u) (h : Q u s)
    (hd : (x == ("__debug__" : Str)) = false := by decide) : wpAny (model X.prog X.w) X.A (eval (.Name x pos) X.env) Q E s :=
  Calls.Name_function_global I.ok.kind hg (Calls.loadGlobal_global (by rw [I.ok.glob]; exact I.mod.glob.keeps I.bk) hm h) hd
theorem ld_blt {E : Value → Shared → Prop} {pins : List (Addr × Obj)} {s : Shared} {σ : St} {H : Hp} {x : Str} {u : Value} {pos : Pos} {Q : Value → Shared → Prop} (I : Inv X pins σ H s) (hg : Gl X x) (hm : X.mg x = none) (hv : bootBuiltins x = some u) (h : Q u s)
    (hn : x ≠ "__name__" := by decide) (hd : (x == ("__debug__" : Str)) = false := by decide) : wpAny (model X.prog X.w) X.A (eval (.Name x pos) X.env) Q E s := by
  obtain ⟨mb, h1, h2⟩ := I.mod.blt
  exact Calls.Name_function_global I.ok.kind hg (Calls.loadGlobal_builtin (by rw [I.ok.glob]; exact I.mod.glob.keeps I.bk) hm (by rw [I.ok.blt]; exact h1.keeps I.bk) ((h2 x hn).trans hv) h) hd
theorem pe_glob {x : Str} {v : V} {u : Value} {pos : Pos} (hg : Gl X x) (hm : X.mg x = some u) (r : RelV v u) (hd : (x == ("__debug__" : Str)) = false := by decide) : PE X (.Name x pos) (tC v) :=
  fun _ _ _ H _ I h => ld_glob I hg hm ⟨v, H, I, r, h⟩ hd
theorem pe_bltn {x : Str} {v : V} {u : Value} {pos : Pos} (hg : Gl X x) (hm : X.mg x = none) (hv : bootBuiltins x = some u) (r : RelV v u) (hn : x ≠ "__name__" := by decide) (hd : (x == ("__debug__" : Str)) = false := by decide) : PE X (.Name x pos) (tC v) :=
  fun _ _ _ H _ I h => ld_blt I hg hm hv ⟨v, H, I, r, h⟩ hn hd
variable {a b : Expr} {ta tb : TE} {pos : Pos}
def tB (t : TE) : TT := fun σ H Q => t σ H fun x H1 => ∃ c, x = .bl c ∧ Q c H1
theorem pt_val {e : Expr} {t : TE} (h : PE X e t) (he : ∀ whole, isTrue e X.env whole = (do let v ← whole; standAt e.pos; holding [v] (truthy v)) := by intro _; rfl) : PT X e (tB t) := by
  intro pins s σ H Q I hw
  refine isTrue_plain (thn (h pins s σ H _ I hw) fun v s1 ⟨x, H1, I1, r1, q1⟩ => ?_) (he _)
  obtain ⟨d, rfl, q⟩ := q1
  cases r1
  exact wpAny_truthy_bool ⟨H1, I1, q⟩
variable {tA tB' : TT} {rest : List Expr}
def tAnd (t u : TT) : TT := fun σ H Q => t σ H fun c H1 => if c = true then u σ H1 Q else Q false H1
def tOr (t u : TT) : TT := fun σ H Q => t σ H fun c H1 => if c = true then Q true H1 else u σ H1 Q
def tNot (t : TT) : TT := fun σ H Q => t σ H fun c H1 => Q (!c) H1
theorem pw_and1 (ha : PT X a tA) : PW X (.BoolOp .And [a] pos) tA := by
  intro wh pins s σ H Q I h
  refine isTrue_and (thn (ha pins s σ H Q I h) fun c s1 e => ?_)
  cases c with
  | true => exact isTrue_and_nil e
  | false => exact e
theorem pw_or1 (ha : PT X a tA) : PW X (.BoolOp .Or [a] pos) tA := by
  intro wh pins s σ H Q I h
  refine isTrue_or (thn (ha pins s σ H Q I h) fun c s1 e => ?_)
  cases c with
  | false => exact isTrue_or_nil e
  | true => exact e
theorem pw_and (ha : PT X a tA) (hb : PW X (.BoolOp .And (b :: rest) pos) tB') : PW X (.BoolOp .And (a :: b :: rest) pos) (tAnd tA tB') := by
  intro wh pins s σ H Q I h
  refine isTrue_and (thn (ha pins s σ H _ I h) fun c s1 ⟨H1, I1, q1⟩ => ?_)
  cases c with
  | true => exact hb wh pins s1 σ H1 Q I1 q1
  | false => exact ⟨H1, I1, q1⟩
theorem pw_or (ha : PT X a tA) (hb : PW X (.BoolOp .Or (b :: rest) pos) tB') : PW X (.BoolOp .Or (a :: b :: rest) pos) (tOr tA tB') := by
  intro wh pins s σ H Q I h
  refine isTrue_or (thn (ha pins s σ H _ I h) fun c s1 ⟨H1, I1, q1⟩ => ?_)
  cases c with
  | true => exact ⟨H1, I1, q1⟩
  | false => exact hb wh pins s1 σ H1 Q I1 q1
theorem pt_not (ha : PT X a tA) : PT X (.UnaryOp .Not a pos) (tNot tA) := by
  intro pins s σ H Q I h
  exact isTrue_not (ha pins s σ H (fun c H1 => Q (!c) H1) I h)
def tAndV (ta tb : TE) : TE := fun σ H Q => ta σ H fun x H1 => ∃ c, x = .bl c ∧ if c = true then tb σ H1 Q else Q (.bl false) H1
def tNotV (ta : TE) : TE := fun σ H Q => ta σ H fun x H1 => ∃ c, x = .bl c ∧ Q (.bl (!c)) H1
theorem pe_one {op} {t : TE} (h : PE X a t) : PE X (.BoolOp op [a] pos) t := fun pins s σ H Q I hw => BoolOp_one (h pins s σ H Q I hw)
theorem pe_and (ha : PE X a ta) (hb : PE X (.BoolOp .And (b :: rest) pos) tb) : PE X (.BoolOp .And (a :: b :: rest) pos) (tAndV ta tb) := by
  intro pins s σ H Q I h
  refine BoolOp_and (thn (ha pins s σ H _ I h) fun v s1 ⟨x, H1, I1, r1, q1⟩ => ?_)
  obtain ⟨c, rfl, q1⟩ := q1
  cases r1
  refine wpAny_truthy_bool ?_
  cases c with
  | true => exact hb pins s1 σ H1 Q I1 q1
  | false => exact ⟨.bl false, H1, I1, rfl, q1⟩
theorem pe_not (ha : PE X a ta) : PE X (.UnaryOp .Not a pos) (tNotV ta) := by
  intro pins s σ H Q I h
  refine UnaryOp_ (thn (ha pins s σ H _ I h) fun v s1 ⟨x, H1, I1, r1, q1⟩ => ?_)
  obtain ⟨c, rfl, q1⟩ := q1
  cases r1
  exact not_of (wpAny_truthy_bool ⟨.bl (!c), H1, I1, rfl, q1⟩)
end
end L2
namespace L2
open PySem PySem.Spec PyProof.Rows
def SqL (K : PySem.W.Frag) (H : Hp) (a : Addr) (xs : List V) : Prop :=
  Rd H a (.lst xs) ∨
    ∃ (o : Obj) (its : Array Value) (n : Nat), K.lookup a = some o ∧ o.cls = .type "list" ∧ o.dict = none ∧ o.data = .seq its n ∧ its.size ≤ sizeLine ∧ Vals xs its.toList
def SqT (K : PySem.W.Frag) (H : Hp) (a : Addr) (xs : List V) : Prop :=
  Rd H a (.tup xs) ∨
    ∃ (o : Obj) (its : Array Value) (n : Nat), K.lookup a = some o ∧ o.cls = .type "tuple" ∧ o.data = .seq its n ∧ its.size ≤ sizeLine ∧ Vals xs its.toList
def absV : Value → Option V
  | .none => some .non
  | .bool b => some (.bl b)
  | .int i _ => some (.int i)
  | .str x _ => some (.str x)
  | .bytes b _ => some (.byt b)
  | .float b _ => some (.flt b)
  | .ref a => some (.ref a)
  | .type n => some (.ty n)
  | _ => none
theorem RelV.abs {x : V} {u : Value} (r : RelV x u) : absV u = some x := by
  cases x with
  | non => cases r; rfl
  | bl _ => cases r; rfl
  | int _ => obtain ⟨t, rfl⟩ := r; rfl
  | str _ => obtain ⟨t, rfl⟩ := r; rfl
  | byt _ => obtain ⟨t, rfl⟩ := r; rfl
  | flt _ => obtain ⟨t, rfl⟩ := r; rfl
  | ref _ => cases r; rfl
  | ty _ => cases r; rfl
theorem RelV.inj {x y : V} {u : Value} (r : RelV x u) (q : RelV y u) : x = y := Option.some.inj (r.abs.symm.trans q.abs)
theorem Vals.inj : ∀ {xs ys : List V} {us : List Value}, Vals xs us → Vals ys us → xs = ys
  | _, _, _, .nil, .nil => rfl
  | _, _, _, .cons r t, .cons r' t' => by rw [r.inj r', Vals.inj t t']
section
variable {X : Cx} {pins : List (Addr × Obj)} {σ : St} {H : Hp} {s : Shared} {a : Addr} {xs ys : List V}
theorem SqL.of {K : PySem.W.Frag} (h : H a = some (.lst xs)) : SqL K H a xs := .inl (.inl h)
theorem Inv.list (I : Inv X pins σ H s) (h : SqL X.K H a xs) : ∃ its : List Value, Vals xs its ∧ PlainL s.heap a its.toArray ∧ xs.length ≤ sizeLine := by
  rcases h with h | ⟨o, its, n, hk, hc, hd, hs, hz, r⟩
  · obtain ⟨z, its, n, r, e⟩ := h.ok I.hok
    exact ⟨its, r, ⟨_, n, e, rfl, rfl, rfl⟩, z⟩
  · refine ⟨its.toList, r, ⟨o, n, I.kIn a o hk, hc, hd, by simpa using hs⟩, ?_⟩
    have e := r.length
    simp only [Array.length_toList] at e
    omega
theorem Inv.tuple (I : Inv X pins σ H s) (h : SqT X.K H a xs) : ∃ its : List Value, Vals xs its ∧ IsTup s.heap a its.toArray ∧ xs.length ≤ sizeLine := by
  rcases h with h | ⟨o, its, n, hk, hc, hs, hz, r⟩
  · obtain ⟨z, its, r, p⟩ := h.ok I.hok
    exact ⟨its, r, p, z⟩
  · refine ⟨its.toList, r, ⟨o, I.kIn a o hk, hc, n, by simpa using hs⟩, ?_⟩
    have e := r.length
    simp only [Array.length_toList] at e
    omega
theorem Inv.list_inj (I : Inv X pins σ H s) (h : SqL X.K H a xs) (h' : SqL X.K H a ys) : xs = ys := by
  obtain ⟨its, r, ⟨o, n, e, _, _, d⟩, _⟩ := I.list h
  obtain ⟨its', r', ⟨o', n', e', _, _, d'⟩, _⟩ := I.list h'
  rw [e] at e'; cases e'
  rw [d] at d'
  injection d' with d1 _
  have : its = its' := by simpa using congrArg Array.toList d1
  subst this
  exact r.inj r'
end
abbrev Cx.wish (X : Cx) (E : Value → Shared → Prop) : Cx := { X with xe := E }
abbrev Cx.nox (X : Cx) : Cx := X.wish fun _ _ => False
theorem Cx.Ok.wish {X : Cx} (ok : X.Ok) (E : Value → Shared → Prop) : (X.wish E).Ok :=
  ⟨ok.mod, ok.kind, ok.glob, ok.blt, ok.above, ok.inj, ok.has, ok.cab, ok.hd, ok.frames, ok.stk, ok.exf, ok.bs, ok.bsz, ok.noex, ok.exfs, ok.funs, ok.frf⟩
theorem Cx.Ok.unwish {X : Cx} {E : Value → Shared → Prop} (ok : (X.wish E).Ok) : X.Ok :=
  ⟨ok.mod, ok.kind, ok.glob, ok.blt, ok.above, ok.inj, ok.has, ok.cab, ok.hd, ok.frames, ok.stk, ok.exf, ok.bs, ok.bsz, ok.noex, ok.exfs, ok.funs, ok.frf⟩
section
variable {X : Cx} {pins : List (Addr × Obj)} {σ : St} {H : Hp} {s : Shared} {E : Value → Shared → Prop}
theorem Inv.wish (I : Inv X pins σ H s) (E : Value → Shared → Prop) : Inv (X.wish E) pins σ H s := ⟨I.ok.wish E, I.os, I.bare, I.base, I.loc, I.cell, I.free, I.freeC, I.pin, I.hok, I.len⟩
theorem Inv.unwish (I : Inv (X.wish E) pins σ H s) : Inv X pins σ H s := ⟨I.ok.unwish, I.os, I.bare, I.base, I.loc, I.cell, I.free, I.freeC, I.pin, I.hok, I.len⟩
theorem SP.unwish {D : Ends} {f : Flow} {s' : Shared} (h : SP (X.wish E) pins D f s') : SP X pins D f s' := by
  cases f with
  | next => obtain ⟨σ', H', I, q⟩ := h; exact ⟨σ', H', I.unwish, q⟩
  | brk => obtain ⟨σ', H', I, q⟩ := h; exact ⟨σ', H', I.unwish, q⟩
  | cont => obtain ⟨σ', H', I, q⟩ := h; exact ⟨σ', H', I.unwish, q⟩
  | ret u => obtain ⟨v, σ', H', I, r, q⟩ := h; exact ⟨v, σ', H', I.unwish, r, q⟩
theorem PSs.nox {st : List Stmt} {t : TS} (h : PSs X.nox st t) : PSs X st t := fun pins s σ H D I hw =>
  wpAny_mono (h pins s σ H D (I.wish _) hw) (fun _ _ q => q.unwish) fun _ _ z => False.elim z
end
section
variable {X : Cx} {st : Stmt} {rest : List Stmt} {t u : TS} {e : Expr} {te : TE} {pos : Pos}
def tNext : TS := fun D σ H => D.nx σ H
def tSeq (t u : TS) : TS := fun D σ H => t { D with nx := u D } σ H
theorem pss_nil : PSs X [] tNext := fun _ _ σ H _ I h => wpAny_execs_nil ⟨σ, H, I, h⟩
theorem pss_cons (h1 : PS X st t) (h2 : PSs X rest u) : PSs X (st :: rest) (tSeq t u) := by
  intro pins s σ H D I h
  refine wpAny_execs_cons (thn (h1 pins s σ H { D with nx := u D } I h) fun f s1 q => ?_)
  cases f with
  | next =>
    obtain ⟨σ', H', I', q⟩ := q
    exact h2 pins s1 σ' H' D I' q
  | ret v => exact q
  | brk => exact q
  | cont => exact q
theorem pss_one (h1 : PS X st t) : PSs X [st] t := by
  intro pins s σ H D I h
  refine wpAny_execs_cons (thn (h1 pins s σ H D I h) fun f s1 q => ?_)
  cases f with
  | next => exact wpAny_execs_nil q
  | ret v => exact q
  | brk => exact q
  | cont => exact q
theorem Inv.quiet {pins : List (Addr × Obj)} {σ : St} {H : Hp} {s : Shared} (I : Inv X pins σ H s) : interactive X.env = false := by simp [interactive, I.ok.kind]
def tDrop (te : TE) : TS := fun D σ H => te σ H fun _ H1 => D.nx σ H1
theorem ps_expr (he : PE X e te) (hs : swapsWith e none pos.line X.env = pure false := by rfl) : PS X (.Expr e pos) (tDrop te) := by
  intro pins s σ H D I h
  exact wpAny_Expr_any (thn (he pins s σ H _ I h) fun v s1 ⟨x, H1, I1, r1, q1⟩ => ⟨σ, H1, I1, q1⟩) I.quiet hs
def tRet (te : TE) : TS := fun D σ H => te σ H D.rt
theorem ps_ret (he : PE X e te) : PS X (.Return (some e) pos) (tRet te) := by
  intro pins s σ H D I h
  exact wpAny_Return_some (thn (he pins s σ H _ I h) fun v s1 ⟨x, H1, I1, r1, q1⟩ => ⟨x, σ, H1, I1, r1, q1⟩)
def tIfS (c : TT) (t u : TS) : TS := fun D σ H => c σ H fun b H1 => if b = true then t D σ H1 else u D σ H1
theorem ps_if {c : Expr} {a b : List Stmt} {tc : TT} (hc : PT X c tc) (ha : PSs X a t) (hb : PSs X b u) : PS X (.If c a b pos) (tIfS tc t u) := by
  intro pins s σ H D I h
  refine wpAny_If (thn (hc pins s σ H _ I h) fun d s1 ⟨H1, I1, q1⟩ => ?_)
  cases d with
  | true => exact ha pins s1 σ H1 D I1 q1
  | false => exact hb pins s1 σ H1 D I1 q1
def tNever : TS := fun _ _ _ => False
theorem pss_never {sts : List Stmt} : PSs X sts tNever := fun _ _ _ _ _ _ h => h.elim
end
abbrev TG := V → St → Hp → (St → Hp → Prop) → Prop
def PG (X : Cx) (target : Expr) (t : TG) : Prop :=
  ∀ (pins : List (Addr × Obj)) (s : Shared) (σ : St) (H : Hp) (v : V) (u : Value) (Q : St → Hp → Prop), Inv X pins σ H s → RelV v u → t v σ H Q →
    wpAny (model X.prog X.w) X.A (assign target X.env u) (fun _ s' => ∃ σ' H', Inv X pins σ' H' s' ∧ Q σ' H') X.xe s
abbrev TIp := V → V → Hp → VK → Prop
def PIp (X : Cx) (op : Operator) (t : TIp) : Prop :=
  ∀ (pins : List (Addr × Obj)) (s : Shared) (σ : St) (H : Hp) (x y : V) (v u : Value) (Q : VK), Inv X pins σ H s → RelV x v → RelV y u → t x y H Q →
    wpAny (model X.prog X.w) X.A (inplaceOp op v u) (EP X pins σ Q) X.xe s
section
variable {X : Cx} {pos : Pos}
def gName (i : Nat) : TG := fun v σ H Q => Q (σ.set i (some v)) H
theorem pg_name {i : Nat} {x : Str} (hN : X.N.Nodup) (hi : X.N[i]? = some x) (hx : Loc X.env.scope x) (hf : X.fn x = true ∨ X.env.scope.names.lookup x = some .local := by first | exact .inl rfl | exact .inr rfl | assumption) : PG X (.Name x pos) (gName i) := by
  intro pins s σ H v u Q I r h
  exact wpAny_assign_Name (store_ok I hN hi hx r (fun s' I' => ⟨_, H, I', h⟩) hf)
def tAsg (te : TE) (g : TG) : TS := fun D σ H => te σ H fun x H1 => g x σ H1 D.nx
theorem ps_set {i : Nat} {x : Str} {e : Expr} {te : TE} {pos' : Pos} (hN : X.N.Nodup) (hi : X.N[i]? = some x) (hx : Loc X.env.scope x) (he : PE X e te) (hs : swapsWith e (some (.Name x pos')) pos.line X.env = pure false := by rfl) (hf : X.fn x = true ∨ X.env.scope.names.lookup x = some .local := by first | exact .inl rfl | exact .inr rfl | assumption) :
    PS X (.Assign [.Name x pos'] e pos) (tAsg te (gName i)) := by
  intro pins s σ H D I h
  refine wpAny_Assign_Name (thn (he pins s σ H _ I h) fun v s1 ⟨y, H1, I1, r1, q1⟩ => ?_) hs
  exact store_ok I1 hN hi hx r1 (fun s2 I2 => ⟨_, H1, I2, q1⟩) hf
def tAug (i : Nat) (te : TE) (ti : TIp) : TS := fun D σ H => ∃ x, σ[i]? = some (some x) ∧ te σ H fun y H1 => ti x y H1 fun z H2 => D.nx (σ.set i (some z)) H2
theorem ps_aug {i : Nat} {x : Str} {e : Expr} {te : TE} {op : Operator} {ti : TIp} {pos' : Pos} (hN : X.N.Nodup) (hi : X.N[i]? = some x) (hx : Loc X.env.scope x) (he : PE X e te) (ho : PIp X op ti) (hf : X.fn x = true ∨ X.env.scope.names.lookup x = some .local := by first | exact .inl rfl | exact .inr rfl | assumption) :
    PS X (.AugAssign (.Name x pos') op e pos) (tAug i te ti) := by
  intro pins s σ H D I h
  obtain ⟨v, e1, h⟩ := h
  obtain ⟨m, hn, hl⟩ := I.loc
  have vis : Vis X.env.scope x := by rcases hx with k | k; exact .inl k; exact .inr (.inl k)
  obtain ⟨u, r, l⟩ := hl i x v hi e1 vis
  refine wpAny_AugAssign_Name ?_
  have go : wpAny (model X.prog X.w) X.A (eval e X.env) (fun w s₂ => wpAny (model X.prog X.w) X.A (inplaceOp op u w) (fun r s₃ => wpAny (model X.prog X.w) X.A (storeName X.env x r) (fun _ => SP X pins D .next) X.xe s₃) X.xe s₂) X.xe s := by
    refine thn (he pins s σ H _ I h) fun w s1 ⟨y, H1, I1, r1, q1⟩ => ?_
    refine thn (ho pins s1 σ H1 v y u w _ I1 r r1 q1) fun z s2 ⟨zv, H2, I2, r2, q2⟩ => ?_
    exact store_ok I2 hN hi hx r2 (fun s3 I3 => ⟨_, H2, I3, q2⟩) hf
  rcases l with ⟨hk, hm⟩ | ⟨hk, c, hc, hcell⟩
  · exact wpAny_loadName_local I.ok.kind hk hn hm go
  · rcases hk with hk | hk
    · exact wpAny_loadName_cell I.ok.kind hk hc hcell go
    · rcases hx with k | k
      · have : X.env.scope.names.lookup x = some .free := hk
        rw [k] at this; cases this
      · have : X.env.scope.names.lookup x = some .free := hk
        rw [k] at this; cases this
def ipI (f : Int → Int → Int) : TIp := fun x y H Q => ∃ i j, x = .int i ∧ y = .int j ∧ Q (.int (f i j)) H
theorem ip_add : PIp X .Add (ipI fun i j => i + j) := by
  intro pins s σ H x y v u Q I r1 r2 h
  obtain ⟨i, j, e1, e2, q⟩ := h
  subst e1; subst e2
  obtain ⟨t, rfl⟩ := r1
  obtain ⟨t', rfl⟩ := r2
  exact iadd_int ⟨.int _, H, I.tok _, ⟨_, rfl⟩, q⟩
end
section
variable {X : Cx} {pos : Pos}
def tWhile (c : TT) (tb : TS) : TS := fun D σ H => ∃ W : Nat → St → Hp → Prop, (∃ m, W m σ H) ∧ ∀ m σ H, W m σ H →
  c σ H fun b H1 => if b = true then ∃ N : St → Hp → Prop, (∀ σ' H', N σ' H' → ∃ m', m' < m ∧ W m' σ' H') ∧ tb { D with nx := N, ct := N, bk := D.nx } σ H1 else D.nx σ H1
theorem ps_while {c : Expr} {body : List Stmt} {tc : TT} {tb : TS} (hp : PassesOwn (model X.prog X.w) X.A X.env X.xe) (hc : PT X c tc) (hb : PSs X body tb) : PS X (.While c body [] pos) (tWhile tc tb) := by
  intro pins s σ H D I h
  obtain ⟨W, ⟨m0, w0⟩, turn⟩ := h
  refine wpAny_While (codeAny_whileLoop (fun n s' => ∃ σ' H', Inv X pins σ' H' s' ∧ W n σ' H') ?_ m0 ⟨σ, H, I, w0⟩)
  rintro n s1 ⟨σ1, H1, I1, w1⟩
  refine wpAny_passesOwn hp (thn (hc pins s1 σ1 H1 _ I1 (turn n σ1 H1 w1)) fun b s2 ⟨H2, I2, q2⟩ => ?_)
  cases b with
  | true =>
    obtain ⟨N, hN, q2⟩ := q2
    rw [if_pos rfl]
    refine wpAny_passesOwn hp (thn (hb pins s2 σ1 H2 _ I2 q2) fun f s3 q3 => ?_)
    cases f with
    | next =>
      obtain ⟨σ3, H3, I3, n3⟩ := q3
      obtain ⟨m', hm, w3⟩ := hN σ3 H3 n3
      exact ⟨m', hm, σ3, H3, I3, w3⟩
    | cont =>
      obtain ⟨σ3, H3, I3, n3⟩ := q3
      obtain ⟨m', hm, w3⟩ := hN σ3 H3 n3
      exact ⟨m', hm, σ3, H3, I3, w3⟩
    | brk => exact q3
    | ret v => exact q3
  | false =>
    rw [if_neg Bool.false_ne_true]
    exact wpAny_execs_nil ⟨σ1, H2, I2, q2⟩
end
structure It where
  go : Nat → Hp → Prop
  yld : Nat → Hp → V → Hp → Prop
  stop : Nat → Hp → Prop
def FpOk (X : Cx) (pins : List (Addr × Obj)) (H : Hp) (b : Addr) : Prop :=
  H b = none ∧ b ≠ X.env.locals ∧ b ∉ X.fs ∧ (b ∈ X.ex ∨ X.s₀.heap.objs.size ≤ b) ∧ (∀ x c, X.env.cells.lookup x = some c → c ≠ b) ∧ ∀ p ∈ X.pn ++ pins, p.1 ≠ b
theorem Inv.fpOk {X : Cx} {pins : List (Addr × Obj)} {σ : St} {H H' : Hp} {s : Shared} {b : Addr} (I : Inv X pins σ H s) (hb : s.heap.objs.size ≤ b) (hn : H' b = none) : FpOk X pins H' b := by
  refine ⟨hn, Nat.ne_of_gt (Nat.lt_of_lt_of_le I.lt hb), I.nofs hb, .inr (Nat.le_trans I.sz hb), fun x c e z => ?_, fun p hp z => ?_⟩
  · obtain ⟨v, q⟩ := I.cell x c e
    exact absurd (Nat.lt_of_lt_of_le q.lt (by rw [z]; exact hb)) (Nat.lt_irrefl _)
  · exact absurd (Nat.lt_of_lt_of_le (Heap.lt_size (I.pin p hp).1) (by rw [z]; exact hb)) (Nat.lt_irrefl _)
structure Turn (P : Program) (w : World) (K : PySem.W.Frag) (tg : Expr) (J : It) (fp : List Addr) (it : Addr) (tn : Nat → Heap → Prop) : Prop where
  mem : it ∈ fp
  obj : ∀ i h, tn i h → ∀ b ∈ fp, ∃ o, h.get? b = some o ∧ ∀ v, o.data ≠ .cell v
  keep : ∀ i h h', tn i h → (∀ b ∈ fp, ∀ o, h.get? b = some o → h'.get? b = some o) → tn i h'
  item : ∀ (X : Cx), X.prog = P → X.w = w → X.K = K → X.calm = true → ∀ (i : Nat) (pins : List (Addr × Obj)) (s : Shared) (σ : St) (H : Hp) (E : Value → Shared → Prop), Inv X pins σ H s → (∀ b ∈ fp, FpOk X pins H b) → tn i s.heap → J.go i H →
    wpAny (model P w) X.A (pyNext (.ref it)) (fun r s1 => ∃ u, r = some u ∧
      wpAny (model P w) X.A (letOwnedTupleGo tg (.ref it) u) (fun _ s2 => ∃ x H', Inv X pins σ H' s2 ∧ RelV x u ∧ J.yld i H x H' ∧ tn (i + 1) s2.heap ∧ ∀ b ∈ fp, H' b = none) E s1) E s
  done : ∀ (X : Cx), X.prog = P → X.w = w → X.K = K → X.calm = true → ∀ (i : Nat) (pins : List (Addr × Obj)) (s : Shared) (σ : St) (H : Hp) (E : Value → Shared → Prop), Inv X pins σ H s → (∀ b ∈ fp, FpOk X pins H b) → tn i s.heap → J.stop i H →
    wpAny (model P w) X.A (pyNext (.ref it)) (fun r s1 => r = none ∧ Inv X pins σ H s1) E s
  self : ∀ (A : Around) (i : Nat) (s : Shared) (Q : Value → Shared → Prop) (E : Value → Shared → Prop), tn i s.heap → Q (.ref it) s → wpAny (model P w) A (pyIter (.ref it)) Q E s
abbrev TI := St → Hp → (It → Hp → Prop) → Prop
def PIE (X : Cx) (pins : List (Addr × Obj)) (σ : St) (tg : Expr) (R : It → Hp → Prop) (itv : Value) (s2 : Shared) : Prop :=
  ∃ (it : Addr) (fp : List Addr) (tn : Nat → Heap → Prop) (J : It) (H' : Hp), itv = .ref it ∧ Inv X pins σ H' s2 ∧ Turn X.prog X.w X.K tg J fp it tn ∧ tn 0 s2.heap ∧ (∀ b ∈ fp, FpOk X pins H' b) ∧ R J H'
def PI (X : Cx) (tg iter : Expr) (wi : TI) : Prop :=
  ∀ (pins : List (Addr × Obj)) (s : Shared) (σ : St) (H : Hp) (R : It → Hp → Prop), Inv X pins σ H s → wi σ H R →
    wpAny (model X.prog X.w) X.A (eval iter X.env) (fun v s1 => wpAny (model X.prog X.w) X.A (pyIter v) (PIE X pins σ tg R) X.xe s1) X.xe s
theorem go_of {M : Model} {A : Around} {E : Value → Shared → Prop} {s : Shared} {tg : Expr} {it : Addr} {u : Value} {o : Obj} {n : String} {vs : Array Value} {Q : Unit → Shared → Prop} (ho : s.heap.get? it = some o) (hc : o.cls = .type n) (hd : o.data = .fields vs)
    (hn : ["enumerate", "zip", "dict_itemiterator", "dict_reverseitemiterator", "odict_iterator", "itertools.zip_longest", "itertools.pairwise"].contains n = false) (hQ : Q () s) : wpAny M A (letOwnedTupleGo tg (.ref it) u) Q E s := by
  unfold letOwnedTupleGo
  cases tg <;> first
    | exact wpAny_pure hQ
    | (cases u <;> first
        | exact wpAny_pure hQ
        | (refine wpAny_bind (wpAny_load ho ?_)
           rw [hc, hd]
           show wpAny M A (if (["enumerate", "zip", "dict_itemiterator", "dict_reverseitemiterator", "odict_iterator", "itertools.zip_longest", "itertools.pairwise"].contains n && vs[0]? == some (rawInt _)) = true then _ else _) Q E s
           rw [if_neg (by intro h; rw [hn, Bool.false_and] at h; cases h)]
           exact wpAny_pure hQ))
def Itl (K : PySem.W.Frag) (a : Addr) : It :=
  ⟨fun i H => ∃ xs x, SqL K H a xs ∧ xs[i]? = some x, fun i H x H' => H' = H ∧ ∀ xs, SqL K H a xs → xs[i]? = some x, fun i H => ∃ xs, SqL K H a xs ∧ xs.length ≤ i⟩
def Itr (lo : Int) (n : Nat) : It := ⟨fun i _ => i < n, fun i H x H' => H' = H ∧ x = .int (lo + i), fun i _ => n ≤ i⟩
theorem turn_list {P : Program} {w : World} {K : PySem.W.Frag} {tg : Expr} (a it : Addr) : Turn P w K tg (Itl K a) [it] it (fun i h => h.IsListIter it a i) where
  mem := by simp
  obj := fun i h st b hb => by
    have e : b = it := by simpa using hb
    subst e
    obtain ⟨o, e, c, d⟩ := st
    exact ⟨o, e, fun v z => by rw [d] at z; cases z⟩
  keep := fun i h h' st k => st.at fun o e => k it (by simp) o e
  item := by
    intro X hP hw hK hc i pins s σ H E I hf st hg
    subst hP hw hK
    obtain ⟨xs, x, hq, hx⟩ := hg
    obtain ⟨its, rv, p, hz⟩ := I.list hq
    obtain ⟨u, hu, ru⟩ := rv.get hx
    obtain ⟨f0, f1, f2, f3, f4, f5⟩ := hf it (by simp)
    refine wpAny_pyNext_list_item st p.isList (x := u) (by simpa using hu) fun h' st' sb => ?_
    have I1 : Inv X pins σ H { s with heap := h' } := I.turned (t' := s.toks) (fun b o hb e => (sb.2 b hb).trans e) f0 f1 f3 f4 f5
    obtain ⟨o, e, c, d⟩ := id st'
    exact ⟨u, rfl, go_of (s := { s with heap := h' }) e c d (by decide) ⟨x, H, I1, ru, ⟨rfl, fun ys hy => by rw [I.list_inj hy hq]; exact hx⟩, st', fun b hb => (hf b hb).1⟩⟩
  done := by
    intro X hP hw hK hc i pins s σ H E I hf st hg
    subst hP hw hK
    obtain ⟨xs, hq, hx⟩ := hg
    obtain ⟨its, rv, p, hz⟩ := I.list hq
    obtain ⟨f0, f1, f2, f3, f4, f5⟩ := hf it (by simp)
    have hl := rv.length
    exact wpAny_pyNext_list_end (I.ok.hd hc) st p.isList (by simp; omega) fun h' eb => ⟨rfl, I.turned (t' := s.toks) (fun b o hb e => eb b o hb e) f0 f1 f3 f4 f5⟩
  self := fun _ _ _ _ _ st h => wpAny_pyIter_listiter st h
theorem turn_range {P : Program} {w : World} {K : PySem.W.Frag} {tg : Expr} (it : Addr) (lo : Int) (n : Nat) : Turn P w K tg (Itr lo n) [it] it (fun i h => IsRangeIter h it (lo + (i : Nat) * 1) ((n : Int) - (i : Nat)) 1) where
  mem := by simp
  obj := fun i h st b hb => by
    have e : b = it := by simpa using hb
    subst e
    exact ⟨_, st, fun v z => by
      have z' : Data.fields _ = Data.cell v := z
      cases z'⟩
  keep := fun i h h' st k => k it (by simp) _ st
  item := by
    intro X hP hw hK hc i pins s σ H E I hf st hg
    subst hP hw hK
    obtain ⟨f0, f1, f2, f3, f4, f5⟩ := hf it (by simp)
    have W := Walks.range (prog := X.prog) (w := X.w) (I.ok.hd hc) it lo 1 n
    refine W.item i s _ _ hg st fun v h' tk hv st' kk => ?_
    obtain ⟨t, rfl⟩ := hv
    have I1 : Inv X pins σ H { s with heap := h', toks := tk } := I.turned (fun b o hb e => kk b o (by simpa using hb) e) f0 f1 f3 f4 f5
    refine ⟨_, rfl, go_of (s := { s with heap := h', toks := tk }) (n := "range_iterator") st' rfl rfl (by decide) ⟨.int (lo + i), H, I1, ⟨t, ?_⟩, ⟨rfl, rfl⟩, st', fun b hb => (hf b hb).1⟩⟩
    rw [Int.mul_one]
  done := by
    intro X hP hw hK hc i pins s σ H E I hf st hg
    subst hP hw hK
    obtain ⟨f0, f1, f2, f3, f4, f5⟩ := hf it (by simp)
    exact wpAny_pyNext_range_end (I.ok.hd hc) st (by have : n ≤ i := hg; omega) fun h' eb => ⟨rfl, I.turned (t' := s.toks) (fun b o hb e => eb b o hb e) f0 f1 f3 f4 f5⟩
  self := fun _ _ _ _ _ st h => wpAny_pyIter_rangeiter st h
end L2
namespace L2
open PySem PySem.Spec PyProof.Rows
section
variable {X : Cx} {tg : Expr}
def iList (K : PySem.W.Frag) (tl : TE) : TI := fun σ H R => tl σ H fun x H1 => ∃ a, x = .ref a ∧ (∃ xs, SqL K H1 a xs) ∧ R (Itl K a) H1
theorem pi_list {l : Expr} {tl : TE} (hl : PE X l tl) : PI X tg l (iList X.K tl) := by
  intro pins s σ H R I h
  refine thn (hl pins s σ H _ I h) fun v s1 ⟨x, H1, I1, r1, q1⟩ => ?_
  obtain ⟨a, e, ⟨xs, hq⟩, q⟩ := q1
  subst e
  cases r1
  obtain ⟨its, rv, p, hz⟩ := I1.list hq
  refine wpAny_pyIter_list p.isList ?_
  refine ⟨s1.heap.objs.size, [s1.heap.objs.size], _, _, H1, rfl, I1.kept (t' := s1.toks) fun b o e => Heap.get?_push_of_some _ e, turn_list a _, ⟨_, Heap.get?_push_size _ rfl, rfl, rfl⟩, fun b hb => ?_, q⟩
  have e : b = s1.heap.objs.size := by simpa using hb
  subst e
  exact I1.fpOk (Nat.le_refl _) (I1.hok.fresh (Nat.le_refl _))
theorem range_it {pins : List (Addr × Obj)} {σ : St} {H : Hp} {s : Shared} {R : It → Hp → Prop} {E : Value → Shared → Prop} {lo hi : Int} {t u v : Tok} {tk : Nat} (I : Inv X pins σ H s) (h1 : -(2 ^ 62) ≤ lo) (h2 : lo < 2 ^ 62) (h3 : -(2 ^ 62) ≤ hi) (h4 : hi < 2 ^ 62)
    (q : R (Itr lo (hi - lo).toNat) H) : wpAny (model X.prog X.w) X.A (pyIter (.ref s.heap.objs.size)) (PIE X pins σ tg R) E { s with heap := s.heap.push { cls := .type "range", data := .fields #[.int lo t, .int hi u, .int 1 v] }, toks := tk } := by
  refine wpAny_pyIter_range (IsRange.new ..) (small_one h1 h2 h3 h4) ?_
  have I1 : Inv X pins σ H { s with heap := s.heap.push { cls := .type "range", data := .fields #[.int lo t, .int hi u, .int 1 v] }, toks := tk } := I.kept fun b o e => Heap.get?_push_of_some _ e
  refine ⟨(s.heap.push { cls := .type "range", data := .fields #[.int lo t, .int hi u, .int 1 v] }).objs.size, [(s.heap.push { cls := .type "range", data := .fields #[.int lo t, .int hi u, .int 1 v] }).objs.size], _, _, H, rfl,
    I1.kept (t' := tk) fun b o e => Heap.get?_push_of_some _ e, turn_range _ lo (hi - lo).toNat, ?_, fun b hb => ?_, q⟩
  · have e1 : lo + ((0 : Nat) : Int) * 1 = lo := by simp
    have e2 : (((hi - lo).toNat : Nat) : Int) - ((0 : Nat) : Int) = Builtin.Range.rangeSize lo hi 1 := by rw [rangeSize_one]; split <;> omega
    show IsRangeIter _ _ (lo + ((0 : Nat) : Int) * 1) ((((hi - lo).toNat : Nat) : Int) - ((0 : Nat) : Int)) 1
    rw [e1, e2]
    exact Heap.get?_push_size _ rfl
  · have e : b = (s.heap.push { cls := .type "range", data := .fields #[.int lo t, .int hi u, .int 1 v] }).objs.size := by simpa using hb
    subst e
    exact I1.fpOk (Nat.le_refl _) (I1.hok.fresh (Nat.le_refl _))
def iRng1 (ta : TA) : TI := fun σ H R => ta σ H fun vs H1 => ∃ j : Int, vs = [.int j] ∧ -(2 ^ 62) ≤ j ∧ j < 2 ^ 62 ∧ R (Itr 0 j.toNat) H1
theorem pi_range1 {a : Expr} {ta : TA} {p pos : Pos} (hg : Gl X "range") (hm : X.mg "range" = none) (ha : PA X [a] ta) (hs : starEach [a] X.env = [(false, eval a X.env)] := by rfl) : PI X tg (.Call (.Name "range" p) [a] [] pos) (iRng1 ta) := by
  intro pins s σ H R I h
  refine Call_ (ld_blt I hg hm boot_range (PyProof.Rows.callWith_type1 (thn (ha pos pins s σ H _ I h) fun us s1 ⟨vs, H1, I1, r1, q1⟩ => ?_) hs rfl))
  obtain ⟨j, e, q1, q2, q⟩ := q1
  subst e
  cases r1 with
  | cons r rr =>
    cases rr
    obtain ⟨t, rfl⟩ := r
    exact call_range_1 (range_it I1 (by omega) (by omega) q1 q2 (by simpa using q))
def tFor (wi : TI) (g : TG) (tb : TS) : TS := fun D σ H => wi σ H fun J H1 => ∃ W : Nat → Nat → St → Hp → Prop, (∃ m, W 0 m σ H1) ∧ ∀ i m σ H, W i m σ H →
  (J.stop i H ∧ D.nx σ H) ∨ (J.go i H ∧ ∃ N : St → Hp → Prop, (∀ σ' H', N σ' H' → ∃ m', m' < m ∧ W (i + 1) m' σ' H') ∧ ∀ x H', J.yld i H x H' → g x σ H' fun σ2 H2 => tb { D with nx := N, ct := N, bk := D.nx } σ2 H2)
def pinsAt (fp : List Addr) (h : Heap) : List (Addr × Obj) := fp.filterMap fun b => (h.get? b).map fun o => (b, o)
theorem mem_pinsAt {fp : List Addr} {h : Heap} {b : Addr} {o : Obj} (hb : b ∈ fp) (e : h.get? b = some o) : (b, o) ∈ pinsAt fp h := List.mem_filterMap.mpr ⟨b, hb, by rw [e]; rfl⟩
theorem of_pinsAt {fp : List Addr} {h : Heap} {p : Addr × Obj} (hp : p ∈ pinsAt fp h) : p.1 ∈ fp ∧ h.get? p.1 = some p.2 := by
  obtain ⟨b, hb, e⟩ := List.mem_filterMap.mp hp
  cases q : h.get? b with
  | none => rw [q] at e; cases e
  | some o =>
    rw [q] at e
    have e' : (b, o) = p := Option.some.inj e
    subst e'
    exact ⟨hb, q⟩
theorem Inv.pinned {pins : List (Addr × Obj)} {σ : St} {H : Hp} {s : Shared} {fp : List Addr} (I : Inv X pins σ H s) (hf : ∀ b ∈ fp, FpOk X pins H b) (ho : ∀ b ∈ fp, ∃ o, s.heap.get? b = some o ∧ ∀ v, o.data ≠ .cell v) : Inv X (pins ++ pinsAt fp s.heap) σ H s :=
  I.pins_of fun p hp => (List.mem_append.mp hp).elim (fun z => I.pin p (List.mem_append_right _ z)) fun z => by
    obtain ⟨hb, e⟩ := of_pinsAt z
    obtain ⟨f0, f1, f2, _⟩ := hf p.1 hb
    obtain ⟨o, e', d⟩ := ho p.1 hb
    rw [e] at e'; cases e'
    exact ⟨e, f0, f1, f2, d⟩
theorem Inv.unpinned {pins pl : List (Addr × Obj)} {σ : St} {H : Hp} {s : Shared} (I : Inv X (pins ++ pl) σ H s) : Inv X pins σ H s := I.pins_of fun p hp => I.pin p (List.mem_append_right _ (List.mem_append_left _ hp))
theorem ps_for {iter : Expr} {body : List Stmt} {wi : TI} {g : TG} {tb : TS} {pos : Pos} (hp : PassesOwn (model X.prog X.w) X.A X.env X.xe) (hc : X.calm = true) (hi : PI X tg iter wi) (hg : PG X tg g) (hb : PSs X body tb)
    (hs : ∀ x, foldedSetIterable iter X.env x = pure x := by intro _; rfl) : PS X (.For tg iter body [] pos) (tFor wi g tb) := by
  intro pins s σ H D I h
  refine wpAny_For (thn (hi pins s σ H _ I h) fun v s1 h1 => thn h1 fun itv s2 h2 => ?_) hs
  obtain ⟨it, fp, tn, J, H2, e, I2, T, st2, f2, W, ⟨m0, w0⟩, turn⟩ := h2
  subst e
  have stat : ∀ {H' : Hp}, (∀ b ∈ fp, H' b = none) → ∀ b ∈ fp, FpOk X pins H' b := fun hn b hb => ⟨hn b hb, (f2 b hb).2⟩
  refine codeAny_forLoop_any (fun n s' => ∃ i σ' H', Inv X pins σ' H' s' ∧ tn i s'.heap ∧ (∀ b ∈ fp, H' b = none) ∧ W i n σ' H') ?_ m0 ⟨0, σ, H2, I2, st2, fun b hb => (f2 b hb).1, w0⟩
  rintro n s3 ⟨i, σ3, H3, I3, st3, fr3, w3⟩
  rcases turn i n σ3 H3 w3 with ⟨stop, qn⟩ | ⟨go, N, hN, step⟩
  · refine wpAny_passesOwn hp (thn (T.done X rfl rfl rfl hc i pins s3 σ3 H3 X.xe I3 (stat fr3) st3 stop) fun r s4 ⟨hr, I4⟩ => ?_)
    subst hr
    exact wpAny_execs_nil ⟨σ3, H3, I4, qn⟩
  · refine wpAny_passesOwn hp (thn (T.item X rfl rfl rfl hc i pins s3 σ3 H3 X.xe I3 (stat fr3) st3 go) fun r s4 ⟨u, hr, h4⟩ => ?_)
    subst hr
    refine wpAny_passesOwn hp (thn h4 fun _ s5 ⟨x, H5, I5, r5, y5, st5, fr5⟩ => ?_)
    have I5' := I5.pinned (stat fr5) (T.obj _ _ st5)
    refine wpAny_passesOwn hp (thn (hg _ s5 σ3 H5 x u _ I5' r5 (step x H5 y5)) fun _ s6 ⟨σ6, H6, I6, q6⟩ => ?_)
    refine wpAny_passesOwn hp (thn (hb _ s6 σ6 H6 _ I6 q6) fun f s7 q7 => ?_)
    have again : ∀ {σ7 : St} {H7 : Hp}, Inv X (pins ++ pinsAt fp s5.heap) σ7 H7 s7 → N σ7 H7 → ∃ m, m < n ∧ ∃ i σ' H', Inv X pins σ' H' s7 ∧ tn i s7.heap ∧ (∀ b ∈ fp, H' b = none) ∧ W i m σ' H' := fun {σ7 H7} I7 n7 => by
      obtain ⟨m', hm, w7⟩ := hN σ7 H7 n7
      refine ⟨m', hm, i + 1, σ7, H7, I7.unpinned, T.keep _ _ _ st5 fun b hb o e => (I7.pin (b, o) (List.mem_append_right _ (List.mem_append_right _ (mem_pinsAt hb e)))).1, fun b hb => ?_, w7⟩
      obtain ⟨o, e, d⟩ := T.obj _ _ st5 b hb
      exact (I7.pin (b, o) (List.mem_append_right _ (List.mem_append_right _ (mem_pinsAt hb e)))).2.1
    cases f with
    | next => obtain ⟨σ7, H7, I7, n7⟩ := q7; exact again I7 n7
    | cont => obtain ⟨σ7, H7, I7, n7⟩ := q7; exact again I7 n7
    | brk => obtain ⟨σ7, H7, I7, q7⟩ := q7; exact ⟨σ7, H7, I7.unpinned, q7⟩
    | ret v => obtain ⟨x7, σ7, H7, I7, r7, q7⟩ := q7; exact ⟨x7, σ7, H7, I7.unpinned, r7, q7⟩
end
theorem for_range {lo : Int} {n : Nat} {g : TG} {tb : TS} {D : Ends} {σ : St} {H : Hp} (Pv : Nat → St → Hp → Prop) (h0 : Pv 0 σ H)
    (hs : ∀ i σ H, i < n → Pv i σ H → g (.int (lo + i)) σ H fun σ2 H2 => tb { D with nx := Pv (i + 1), ct := Pv (i + 1), bk := D.nx } σ2 H2) (hd : ∀ σ H, Pv n σ H → D.nx σ H) :
    ∃ W : Nat → Nat → St → Hp → Prop, (∃ m, W 0 m σ H) ∧ ∀ i m σ H, W i m σ H →
      ((Itr lo n).stop i H ∧ D.nx σ H) ∨ ((Itr lo n).go i H ∧ ∃ N : St → Hp → Prop, (∀ σ' H', N σ' H' → ∃ m', m' < m ∧ W (i + 1) m' σ' H') ∧ ∀ x H', (Itr lo n).yld i H x H' → g x σ H' fun σ2 H2 => tb { D with nx := N, ct := N, bk := D.nx } σ2 H2) := by
  refine ⟨fun i m σ H => m = n - i ∧ i ≤ n ∧ Pv i σ H, ⟨n, by simp, Nat.zero_le _, h0⟩, ?_⟩
  rintro i m σ H ⟨rfl, hi, p⟩
  by_cases hlt : i < n
  · refine .inr ⟨hlt, Pv (i + 1), fun σ' H' p' => ⟨n - (i + 1), by omega, rfl, hlt, p'⟩, fun x H' y => ?_⟩
    obtain ⟨e, y⟩ := y
    subst e y
    exact hs i σ _ hlt p
  · have e : i = n := by omega
    subst e
    exact .inl ⟨Nat.le_refl _, hd σ H p⟩
end L2
namespace L2
open PySem PySem.Spec PyProof.Rows
abbrev R2 := V → V → Hp → VK → Prop
def OpR (X : Cx) (f : Value → Value → Sem Value) (r : R2) : Prop :=
  ∀ (pins : List (Addr × Obj)) (s : Shared) (σ : St) (H : Hp) (x y : V) (v u : Value) (Q : VK), Inv X pins σ H s → RelV x v → RelV y u → r x y H Q →
    wpAny (model X.prog X.w) X.A (f v u) (EP X pins σ Q) X.xe s
def CallR (X : Cx) (f : Value) (r : List V → Hp → VK → Prop) : Prop :=
  ∀ (pins : List (Addr × Obj)) (s : Shared) (σ : St) (H : Hp) (xs : List V) (us : List Value) (Q : VK), Inv X pins σ H s → Vals xs us → r xs H Q →
    wpAny (model X.prog X.w) X.A (call f us) (EP X pins σ Q) X.xe s
def tOp (r : R2) (ta tb : TE) : TE := fun σ H Q => ta σ H fun x H1 => tb σ H1 fun y H2 => r x y H2 Q
def rI (C : Int → Int → Prop) (g : Int → Int → V) : R2 := fun x y H Q => ∃ i j, x = .int i ∧ y = .int j ∧ C i j ∧ Q (g i j) H
def rI0 (g : Int → Int → V) : R2 := fun x y H Q => ∃ i j, x = .int i ∧ y = .int j ∧ Q (g i j) H
section
variable {X : Cx} {a b c : Expr} {ta tb tc : TE} {pos : Pos}
theorem binT (ha : PE X a ta) (hb : PE X b tb) {pins : List (Addr × Obj)} {s : Shared} {σ : St} {H : Hp} {R : V → V → Hp → Prop} (I : Inv X pins σ H s)
    (h : ta σ H fun x H1 => tb σ H1 fun y H2 => R x y H2) {Q : Value → Shared → Prop} {f : Value → Value → Sem Value}
    (hf : ∀ v u s2 x y H2, Inv X pins σ H2 s2 → RelV x v → RelV y u → R x y H2 → wpAny (model X.prog X.w) X.A (f v u) Q X.xe s2) :
    wpAny (model X.prog X.w) X.A (eval a X.env) (fun v s₁ => wpAny (model X.prog X.w) X.A (eval b X.env) (fun u s₂ => wpAny (model X.prog X.w) X.A (f v u) Q X.xe s₂) X.xe s₁) X.xe s := by
  refine thn (ha pins s σ H _ I h) fun v s1 ⟨x, H1, I1, r1, q1⟩ => ?_
  refine thn (hb pins s1 σ H1 _ I1 q1) fun u s2 ⟨y, H2, I2, r2, q2⟩ => ?_
  exact hf v u s2 x y H2 I2 r1 r2 q2
theorem pe_op {op : Operator} {r : R2} (ho : OpR X (binaryOp op) r) (ha : PE X a ta) (hb : PE X b tb) : PE X (.BinOp a op b pos) (tOp r ta tb) := by
  intro pins s σ H Q I h
  exact wpAny_BinOp (binT ha hb I h fun v u s2 x y H2 I2 rx ry q => ho pins s2 σ H2 x y v u Q I2 rx ry q)
theorem opI {f : Value → Value → Sem Value} {C : Int → Int → Prop} {g : Int → Int → Int}
    (rule : ∀ (i j : Int) (t u : Tok) (s : Shared) (Q : Value → Shared → Prop) (E : Value → Shared → Prop), C i j → Q (.int (g i j) s.toks) { s with toks := s.toks + 1 } → wpAny (model X.prog X.w) X.A (f (.int i t) (.int j u)) Q E s) :
    OpR X f (rI C fun i j => .int (g i j)) := by
  intro pins s σ H x y v u Q I rx ry h
  obtain ⟨i, j, rfl, rfl, hc, q⟩ := h
  obtain ⟨t, rfl⟩ := rx
  obtain ⟨t', rfl⟩ := ry
  exact rule i j t t' s _ _ hc ⟨.int (g i j), H, I.tok _, ⟨_, rfl⟩, q⟩
theorem opI0 {f : Value → Value → Sem Value} {g : Int → Int → Int}
    (rule : ∀ (i j : Int) (t u : Tok) (s : Shared) (Q : Value → Shared → Prop) (E : Value → Shared → Prop), Q (.int (g i j) s.toks) { s with toks := s.toks + 1 } → wpAny (model X.prog X.w) X.A (f (.int i t) (.int j u)) Q E s) :
    OpR X f (rI0 fun i j => .int (g i j)) := by
  intro pins s σ H x y v u Q I rx ry h
  obtain ⟨i, j, rfl, rfl, q⟩ := h
  obtain ⟨t, rfl⟩ := rx
  obtain ⟨t', rfl⟩ := ry
  exact rule i j t t' s _ _ ⟨.int (g i j), H, I.tok _, ⟨_, rfl⟩, q⟩
theorem opB0 {f : Value → Value → Sem Value} {g : Int → Int → Bool}
    (rule : ∀ (i j : Int) (t u : Tok) (s : Shared) (Q : Value → Shared → Prop) (E : Value → Shared → Prop), Q (.bool (g i j)) s → wpAny (model X.prog X.w) X.A (f (.int i t) (.int j u)) Q E s) :
    OpR X f (rI0 fun i j => .bl (g i j)) := by
  intro pins s σ H x y v u Q I rx ry h
  obtain ⟨i, j, rfl, rfl, q⟩ := h
  obtain ⟨t, rfl⟩ := rx
  obtain ⟨t', rfl⟩ := ry
  exact rule i j t t' s _ _ ⟨.bl (g i j), H, I, rfl, q⟩
def CDiv (i j : Int) : Prop := 0 < j ∧ j < 1073741824
def CPow (i j : Int) : Prop := 0 ≤ j ∧ j ≤ 1000000 ∧ i.natAbs < 2 ^ 64
def CMul (i j : Int) : Prop := (-(2 ^ 64) < i ∧ i < 2 ^ 64) ∨ (-(2 ^ 64) < j ∧ j < 2 ^ 64)
theorem CMul.ok {i j : Int} (h : CMul i j) : IntMulOk i j := by
  rcases h with ⟨h1, h2⟩ | ⟨h1, h2⟩
  · exact .of_left (intBits_le_64 h1 h2)
  · exact .of_right (intBits_le_64 h1 h2)
theorem op_add : OpR X (binaryOp .Add) (rI0 fun i j => .int (i + j)) := opI0 fun _ _ _ _ _ _ _ q => add_int q
theorem op_sub : OpR X (binaryOp .Sub) (rI0 fun i j => .int (i - j)) := opI0 fun _ _ _ _ _ _ _ q => sub_int q
theorem op_mul : OpR X (binaryOp .Mult) (rI CMul fun i j => .int (i * j)) := opI fun _ _ _ _ _ _ _ hc q => mul_int q hc.ok
theorem op_fdiv : OpR X (binaryOp .FloorDiv) (rI CDiv fun i j => .int (i / j)) := opI fun i j _ _ _ _ _ hc q => by
  have h1 : (0 : Int) < j := hc.1
  have h2 : j < 1073741824 := hc.2
  exact floordiv_int (by omega) (by rw [Int.fdiv_eq_ediv_of_nonneg i (by omega)]; exact q) (.inl (PyProof.noPylong_small (by omega)))
theorem op_mod : OpR X (binaryOp .Mod) (rI (fun _ j => 0 < j) fun i j => .int (i % j)) := opI fun i j _ _ _ _ _ hc q => by
  have h1 : (0 : Int) < j := hc
  exact mod_int' (by omega) (by rw [Int.fmod_eq_emod_of_nonneg i (by omega)]; exact q)
theorem op_pow : OpR X (binaryOp .Pow) (rI CPow fun i j => .int (i ^ j.toNat)) := opI fun _ _ _ _ _ _ _ hc q => pow_int_small hc.1 hc.2.1 hc.2.2 q
end
def scal : V → V → Bool
  | .non, .non => true | .non, .int _ => true | .int _, .non => true | .non, .bl _ => true | .bl _, .non => true | .non, .str _ => true | .str _, .non => true
  | .int _, .int _ => true | .bl _, .bl _ => true | .str _, .str _ => true | .byt _, .byt _ => true
  | .int _, .str _ => true | .str _, .int _ => true | .bl _, .str _ => true | .str _, .bl _ => true
  | _, _ => false
def rEq : R2 := fun x y H Q => scal x y = true ∧ Q (.bl (decide (x = y))) H
theorem dec_int {i j : Int} : decide (V.int i = V.int j) = (i == j) := by
  rw [Bool.eq_iff_iff]
  simp
theorem dec_bl {i j : Bool} : decide (V.bl i = V.bl j) = (i == j) := by
  rw [Bool.eq_iff_iff]
  simp
theorem dec_str {i j : Str} : decide (V.str i = V.str j) = (i == j) := by
  rw [Bool.eq_iff_iff]
  simp
theorem dec_byt {i j : Array UInt8} : decide (V.byt i = V.byt j) = (i.toList == j.toList) := by
  rw [Bool.eq_iff_iff]
  cases i
  cases j
  simp
section
variable {X : Cx} {a b c : Expr} {ta tb tc : TE} {pos : Pos}
theorem fin_bl {pins : List (Addr × Obj)} {σ : St} {H : Hp} {s : Shared} {Q : VK} {k k' : Bool} (I : Inv X pins σ H s) (q : Q (.bl k) H) (e : k = k') : EP X pins σ Q (.bool k') s := by
  subst e
  exact ⟨.bl k, H, I, rfl, q⟩
theorem op_eq : OpR X (compareOp .Eq) rEq := by
  intro pins s σ H x y v u Q I rx ry h
  obtain ⟨hs, q⟩ := h
  cases x with
  | non =>
    cases rx
    cases y with
    | non => cases ry; exact PySem.EqNone.eq_none_none (fin_bl I q (by simp))
    | bl j => cases ry; exact PySem.EqNone.eq_none_bool (fin_bl I q (by simp))
    | int j => obtain ⟨t', rfl⟩ := ry; exact PySem.EqNone.eq_none_int (fin_bl I q (by simp))
    | str j => obtain ⟨t', rfl⟩ := ry; exact PySem.EqNone.eq_none_str (fin_bl I q (by simp))
    | _ => exact absurd (show false = true from hs) Bool.false_ne_true
  | bl i =>
    cases rx
    cases y with
    | non => cases ry; exact PySem.EqNone.eq_bool_none (fin_bl I q (by simp))
    | bl j => cases ry; exact eq_bool (fin_bl I q dec_bl)
    | str j => obtain ⟨t', rfl⟩ := ry; exact PySem.EqMixed.eq_bool_str (fin_bl I q (by simp))
    | _ => exact absurd (show false = true from hs) Bool.false_ne_true
  | int i =>
    obtain ⟨t, rfl⟩ := rx
    cases y with
    | non => cases ry; exact PySem.EqNone.eq_int_none (fin_bl I q (by simp))
    | int j => obtain ⟨t', rfl⟩ := ry; exact eq_int (fin_bl I q dec_int)
    | str j => obtain ⟨t', rfl⟩ := ry; exact PySem.EqMixed.eq_int_str (fin_bl I q (by simp))
    | _ => exact absurd (show false = true from hs) Bool.false_ne_true
  | str i =>
    obtain ⟨t, rfl⟩ := rx
    cases y with
    | non => cases ry; exact PySem.EqNone.eq_str_none (fin_bl I q (by simp))
    | bl j => cases ry; exact PySem.EqMixed.eq_str_bool (fin_bl I q (by simp))
    | int j => obtain ⟨t', rfl⟩ := ry; exact PySem.EqMixed.eq_str_int (fin_bl I q (by simp))
    | str j => obtain ⟨t', rfl⟩ := ry; exact eq_str (fin_bl I q dec_str)
    | _ => exact absurd (show false = true from hs) Bool.false_ne_true
  | byt i =>
    obtain ⟨t, rfl⟩ := rx
    cases y with
    | byt j => obtain ⟨t', rfl⟩ := ry; exact PySem.W.eq_bytes (fin_bl I q dec_byt)
    | _ => exact absurd (show false = true from hs) Bool.false_ne_true
  | _ => cases y <;> exact absurd (show false = true from hs) Bool.false_ne_true
theorem op_lt : OpR X (compareOp .Lt) (rI0 fun i j => .bl (decide (i < j))) := opB0 fun _ _ _ _ _ _ _ q => lt_int q
theorem op_gt : OpR X (compareOp .Gt) (rI0 fun i j => .bl (decide (j < i))) := opB0 fun _ _ _ _ _ _ _ q => gt_int q
theorem op_in_str : OpR X (compareOp .In) (fun x y H Q => ∃ i j, x = .str i ∧ y = .str j ∧ Q (.bl (!(Builtin.Str.occurrences j i 0 j.length 1).isEmpty)) H) := by
  intro pins s σ H x y v u Q I rx ry h
  obtain ⟨i, j, rfl, rfl, q⟩ := h
  obtain ⟨t, rfl⟩ := rx
  obtain ⟨t', rfl⟩ := ry
  exact in_str (fin_bl I q rfl)
theorem nomark (b : Expr) {op : CmpOp} (h : op ≠ .In := by decide) (h2 : op ≠ .NotIn := by decide) : behindInMarks op b = false := by
  have e1 : (op == CmpOp.In) = false := by cases op <;> first | rfl | exact absurd rfl h
  have e2 : (op == CmpOp.NotIn) = false := by cases op <;> first | rfl | exact absurd rfl h2
  cases b <;> simp [behindInMarks, e1, e2]
theorem pe_cmpR {op : CmpOp} {r : R2} (ho : OpR X (compareOp op) r) (ha : PE X a ta) (hb : PE X b tb) (hm : behindInMarks op b = false) : PE X (.Compare a [op] [b] pos) (tOp r ta tb) := by
  intro pins s σ H Q I h
  exact wpAny_Compare1 (binT ha hb I h fun v u s2 x y H2 I2 rx ry q => ho pins s2 σ H2 x y v u Q I2 rx ry q) hm
def tTest (t : TE) : TT := fun σ H Q => t σ H fun x H' => ∃ k, x = .bl k ∧ Q k H'
theorem pt_cmpR {op : CmpOp} {r : R2} (ho : OpR X (compareOp op) r) (ha : PE X a ta) (hb : PE X b tb) (hm : behindInMarks op b = false) : PT X (.Compare a [op] [b] pos) (tTest (tOp r ta tb)) := by
  intro pins s σ H Q I h
  refine wpAny_isTrue_Compare1 (thn (ha pins s σ H _ I h) fun v s1 ⟨x, H1, I1, r1, q1⟩ => thn (hb pins s1 σ H1 _ I1 q1) fun u s2 ⟨y, H2, I2, r2, q2⟩ =>
    thn (ho pins s2 σ H2 x y v u _ I2 r1 r2 q2) fun c s3 ⟨z, H3, I3, r3, k, e, q3⟩ => ?_) hm
  subst e
  cases r3
  exact wpAny_truthy_bool ⟨H3, I3, q3⟩
theorem line63 : (sizeLine : Nat) < 2 ^ 63 := by rw [sizeLine_eq]; decide
theorem op_add_str : OpR X (binaryOp .Add) (fun x y H Q => ∃ i j, x = .str i ∧ y = .str j ∧ i.length + j.length ≤ sizeLine ∧ Q (.str (i ++ j)) H) := by
  intro pins s σ H x y v u Q I rx ry h
  obtain ⟨i, j, rfl, rfl, hz, q⟩ := h
  obtain ⟨t, rfl⟩ := rx
  obtain ⟨t', rfl⟩ := ry
  exact add_str (fun t' tk => ⟨.str (i ++ j), H, I.tok _, ⟨_, rfl⟩, q⟩) hz
theorem vals1 {x : V} {us : List Value} (r : Vals [x] us) : ∃ u, us = [u] ∧ RelV x u := by
  cases r with
  | cons r1 r2 => cases r2; exact ⟨_, rfl, r1⟩
theorem vals2 {x y : V} {us : List Value} (r : Vals [x, y] us) : ∃ u w', us = [u, w'] ∧ RelV x u ∧ RelV y w' := by
  cases r with
  | cons r1 r2 =>
    cases r2 with
    | cons r3 r4 => cases r4; exact ⟨_, _, rfl, r1, r3⟩
theorem call_str_int : CallR X (.type "str") (fun xs H Q => ∃ i, xs = [.int i] ∧ i.natAbs.log2 < 1920 ∧ Q (.str (toString i)) H) := by
  intro pins s σ H xs us Q I r h
  obtain ⟨i, rfl, hz, q⟩ := h
  obtain ⟨u, rfl, t, rfl⟩ := vals1 r
  exact PySem.P.str_of_int hz ⟨.str _, H, I.tok _, ⟨_, rfl⟩, q⟩
end
end L2
namespace L2
open PySem PySem.Spec PyProof.Rows
structure ObjM (h : Heap) (x dx C : Addr) (mA : Str → Option Value) : Prop where
  obj : h.get? x = some (PySem.W.instObj C dx)
  ns : h.Ns1 dx mA
  ne : dx ≠ x
theorem lookIn_ns {h : Heap} {dx : Addr} {mA : Str → Option Value} (n : h.Ns1 dx mA) : ∃ od, h.get? dx = some od ∧ ∀ name, PySem.W.lookIn name od = some (mA name) := by
  obtain ⟨o, es, ep, ho, hd, hk, _, hm⟩ := n
  refine ⟨o, ho, fun name => ?_⟩
  have e := hm name
  unfold nsFind findBy at e
  rw [← Array.find?_toList] at e
  unfold PySem.W.lookIn
  rw [hd]
  dsimp only
  split
  · rename_i y q
    rw [q] at e
    exact congrArg some e
  · rename_i q
    rw [q] at e
    have a : es.toList.any (·.refKey) = false := by
      rw [List.any_eq_false]
      intro y hy
      obtain ⟨z, t, hkey⟩ := hk y (Array.mem_toList_iff.mp hy)
      simp [DictEntry.refKey, hkey]
    have a' : ¬ es.toList.any (·.refKey) = true := by rw [a]; exact Bool.false_ne_true
    rw [if_neg a']
    exact congrArg some e
theorem ObjM.look {h : Heap} {x dx C : Addr} {mA : Str → Option Value} (I : ObjM h x dx C mA) : ∃ od, PySem.W.InstAt h x (PySem.W.instObj C dx) C (some od) ∧ ∀ name, PySem.W.lookIn name od = some (mA name) :=
  let ⟨od, ho, hl⟩ := lookIn_ns I.ns
  ⟨od, ⟨I.obj, rfl, rfl, ho⟩, hl⟩
section
variable {prog : Program} {w : World} {A : Around} {E : Value → Shared → Prop} {s : Shared} {K : PySem.W.Frag} {x dx C f : Addr} {mA : Str → Option Value} {name : Str} {v : Value}
theorem set_map {ns : List Str} {Q : Unit → Shared → Prop} (X : K.In s.heap) (I : ObjM s.heap x dx C mA)
    (hs : PySem.W.findIn K (.ref C) "__setattr__" = some (some (.builtin "object.__setattr__"))) (hp : PySem.W.plainOver K C = true) (ht : PySem.W.takerIn K C name = some none) (hh : PySem.W.hasDictIn K C = true)
    (hw : PySem.Within mA ns) (hsz : ns.length ≤ sizeLine)
    (h : ∀ h', ObjM h' x dx C (fun y => if y = name then some v else mA y) → Heap.SameBut dx s.heap h' → Q () { s with heap := h', toks := s.toks + 2 }) :
    wpAny (model prog w) A (setAttr (.ref x) name v) Q E s := by
  obtain ⟨od, J, hl⟩ := I.look
  refine PySem.W.set_plain X J hs (PySem.W.osa_open (s := { s with toks := s.toks + 1 }) (r := none) X J hp ht fun b => ?_)
  obtain ⟨cd, hc, hd'⟩ := PySem.W.any_some hh
  have hx : s.heap.get? x = some ⟨.ref C, some dx, .plain, #[]⟩ := I.obj
  refine wpAny_bind (wpAny_pure (wpAny_bind (wpAny_bind (wpAny_loadPart hx (wpAny_bind (PySem.W.Looks.here (s := { s with toks := s.toks + 1 }) (PySem.W.looks_clsIn X hc) ?_))))))
  rw [hd']
  refine wpAny_pure (a := some dx) (wpAny_bind (wpAny_pure (wpAny_bind ?_)))
  refine wpAny_nsSet1 (s := { s with toks := s.toks + 1 }) I.ns fun h' hn2 hs2 => ?_
  obtain ⟨oD, esD, epD, hoD, hdD, hcD⟩ := hn2.count (PySem.Within.cons name v hw)
  refine wpAny_bind (wpAny_lookBehind hoD (by rw [hdD]; exact pastItsLine_dict (Nat.le_trans hcD (by rw [List.length_cons]; omega))) ?_)
  exact wpAny_pure (h _ ⟨(hs2.2 _ (Ne.symm I.ne)).trans I.obj, hn2, I.ne⟩ hs2)
theorem make_map {R : Result → Shared → Prop} {vs : List Value} {kw : List (Str × Value)} (X : K.In s.heap) (hm : PySem.W.makesIn K C = true)
    (hi : PySem.W.findIn K (.ref C) "__init__" = some (some (.ref f))) (hf : PySem.W.typeIn K (.ref f) = some (.type "function"))
    (h : codeAny (model prog w) (A.under (.builtin "type.__call__" ⟨.ref C :: vs, kw⟩)) (.call (.ref f) ⟨.ref (s.heap.objs.size + 1) :: vs, kw⟩) (PySem.W.InitBack (s.heap.objs.size + 1) R)
      { s with heap := (s.heap.push PySem.W.emptyDict).push (PySem.W.instObj C s.heap.objs.size) }) :
    codeAny (model prog w) A (.call (.ref C) ⟨vs, kw⟩) R s := by
  obtain ⟨hh, g, d, t, os⟩ := s
  exact PySem.W.make_core (PySem.W.makes_of X hm) (PySem.W.looks_findIn X hi) (fun self => PySem.W.bind_fn X self hf) (.inl rfl) h
end
def putF (f : Str) (v : V) : List (Str × V) → List (Str × V)
  | [] => [(f, v)]
  | (g, x) :: r => if g = f then (g, v) :: r else (g, x) :: putF f v r
theorem lookup_putF (f g : Str) (v : V) : ∀ fs : List (Str × V), (putF f v fs).lookup g = if g = f then some v else fs.lookup g
  | [] => by
    show List.lookup g [(f, v)] = _
    by_cases h : g = f
    · have hb : (g == f) = true := beq_iff_eq.mpr h
      simp only [List.lookup, hb, if_pos h]
    · have hb : (g == f) = false := beq_eq_false_iff_ne.mpr h
      simp only [List.lookup, hb, if_neg h]
  | (k, x) :: r => by
    have ih := lookup_putF f g v r
    rw [show putF f v ((k, x) :: r) = (if k = f then (k, v) :: r else (k, x) :: putF f v r) from rfl]
    by_cases hk : k = f
    · rw [if_pos hk]
      by_cases h : g = k
      · have hb : (g == k) = true := beq_iff_eq.mpr h
        simp only [List.lookup, hb, if_pos (h.trans hk)]
      · have hb : (g == k) = false := beq_eq_false_iff_ne.mpr h
        simp only [List.lookup, hb, if_neg (fun e : g = f => h (e.trans hk.symm))]
    · rw [if_neg hk]
      by_cases h : g = k
      · have hb : (g == k) = true := beq_iff_eq.mpr h
        simp only [List.lookup, hb, if_neg (fun e : g = f => hk (h.symm.trans e))]
      · have hb : (g == k) = false := beq_eq_false_iff_ne.mpr h
        simp only [List.lookup, hb]
        exact ih
theorem keys_putF (f : Str) (v : V) : ∀ fs : List (Str × V), f ∈ (putF f v fs).map (·.1) ∧ ∀ g, g ∈ fs.map (·.1) → g ∈ (putF f v fs).map (·.1)
  | [] => ⟨by simp [putF], fun g h => by simp at h⟩
  | (k, x) :: r => by
    obtain ⟨i1, i2⟩ := keys_putF f v r
    rw [show putF f v ((k, x) :: r) = (if k = f then (k, v) :: r else (k, x) :: putF f v r) from rfl]
    by_cases hk : k = f
    · rw [if_pos hk]
      subst hk
      exact ⟨by simp, fun g h => by simpa using h⟩
    · rw [if_neg hk]
      refine ⟨?_, fun g h => ?_⟩
      · rw [List.map_cons]
        exact List.mem_cons_of_mem _ i1
      · rw [List.map_cons] at h ⊢
        rcases List.mem_cons.mp h with e | e
        · exact List.mem_cons.mpr (.inl e)
        · exact List.mem_cons_of_mem _ (i2 g e)
theorem length_putF (f : Str) (v : V) : ∀ fs : List (Str × V), (putF f v fs).length ≤ fs.length + 1
  | [] => by simp [putF]
  | (k, x) :: r => by
    have ih := length_putF f v r
    rw [show putF f v ((k, x) :: r) = (if k = f then (k, v) :: r else (k, x) :: putF f v r) from rfl]
    by_cases hk : k = f
    · rw [if_pos hk, List.length_cons, List.length_cons]; omega
    · rw [if_neg hk, List.length_cons, List.length_cons]; omega
section
variable {P : Program} {w : World} {H H' : Hp} {h h' : Heap} {a C dx : Addr} {fs fs' : List (Str × V)}
theorem ins_get (hok : HOk P w H h) (e : H a = some (.ins C dx fs)) : ∃ mA, ObjM h a dx C mA ∧ (∀ f, RelO (fs.lookup f) (mA f)) ∧ PySem.Within mA (fs.map (·.1)) ∧ fs.length ≤ 1000 ∧ H dx = some (.own a) := by
  obtain ⟨d, z, ne, ob, mA, n, r, q⟩ := (show ObjOk P w H h a (.ins C dx fs) from hok a _ e)
  exact ⟨mA, ⟨ob, n, ne⟩, r, q, z, d⟩
end
structure Cls (K : PySem.W.Frag) (C : Addr) : Prop where
  pg : PySem.W.plainGet K C Str.empty = true
  hd : PySem.W.hasDictIn K C = true
  po : PySem.W.plainOver K C = true
  sa : PySem.W.findIn K (.ref C) "__setattr__" = some (some (.builtin "object.__setattr__"))
theorem Cls.get {K : PySem.W.Frag} {C : Addr} (c : Cls K C) (f : Str) : PySem.W.plainGet K C f = true := c.pg
def NoAttr (K : PySem.W.Frag) (C : Addr) (f : Str) : Prop := PySem.W.findIn K (.ref C) f = some none
theorem NoAttr.taker {K : PySem.W.Frag} {C : Addr} {f : Str} (n : NoAttr K C f) : PySem.W.takerIn K C f = some none := by
  unfold PySem.W.takerIn
  rw [show PySem.W.findIn K (.ref C) f = some none from n]
  rfl
section
variable {X : Cx} {pins : List (Addr × Obj)} {σ : St} {H : Hp} {s : Shared} {a C dx : Addr} {fs : List (Str × V)} {f : Str} {v : V} {A : Around} {E : Value → Shared → Prop}
theorem setattr_ok {y : V} {u : Value} {Q : Unit → Shared → Prop} (I : Inv X pins σ H s) (e : H a = some (.ins C dx fs)) (c : Cls X.K C) (n : NoAttr X.K C f) (hl : fs.length < 1000) (ry : RelV y u)
    (h : ∀ s', Inv X pins σ (upd H a (.ins C dx (putF f y fs))) s' → Q () s') : wpAny (model X.prog X.w) A (setAttr (.ref a) f u) Q E s := by
  obtain ⟨mA, O, r, wi, _, ho⟩ := ins_get I.hok e
  have hz : (fs.map (·.1)).length ≤ sizeLine := by rw [List.length_map, sizeLine_eq]; omega
  refine set_map I.kIn O c.sa c.po n.taker c.hd wi hz fun h' O' sb => h _ ?_
  have hd : ∃ o, h'.get? dx = some o := let ⟨o, _, _, e', _⟩ := O'.ns; ⟨o, e'⟩
  refine I.write (x := a) (e := dx) (by rw [e]; exact True.intro) (.inr ho) (fun b q hb z => (sb.2 b hb).trans z) hd ?_
  refine ⟨by rw [upd_ne O.ne]; exact ho, ?_, O.ne, O'.obj, _, O'.ns, fun g => ?_, fun g hg => ?_⟩
  · have := length_putF f y fs; omega
  · show RelO ((putF f y fs).lookup g) (if g = f then some u else mA g)
    rw [lookup_putF]
    by_cases q : g = f
    · rw [if_pos q, if_pos q]; exact ry
    · rw [if_neg q, if_neg q]; exact r g
  · by_cases q : g = f
    · rw [q]; exact (keys_putF f y fs).1
    · refine (keys_putF f y fs).2 g (wi g fun z => hg ?_)
      show (if g = f then some u else mA g) = none
      rw [if_neg q]; exact z
theorem Inv.made (I : Inv X pins σ H s) : Inv X pins σ (upd (upd H s.heap.objs.size (.own (s.heap.objs.size + 1))) (s.heap.objs.size + 1) (.ins C s.heap.objs.size []))
    { s with heap := (s.heap.push PySem.W.emptyDict).push (PySem.W.instObj C s.heap.objs.size) } := by
  have e1 : (s.heap.push PySem.W.emptyDict).get? s.heap.objs.size = some PySem.W.emptyDict := Heap.get?_push_size s.heap rfl
  have e2 : ((s.heap.push PySem.W.emptyDict).push (PySem.W.instObj C s.heap.objs.size)).get? (s.heap.objs.size + 1) = some (PySem.W.instObj C s.heap.objs.size) := by
    have := Heap.get?_push_size (s.heap.push PySem.W.emptyDict) (o := PySem.W.instObj C s.heap.objs.size) rfl
    rwa [Heap.size_push] at this
  have e3 : (s.heap.push PySem.W.emptyDict).Ns s.heap.objs.size (fun _ => none) := ⟨PySem.W.emptyDict, #[], _, e1, rfl, (fun e he => absurd he (by simp)), fun _ => rfl⟩
  have I1 := I.laid (a := s.heap.objs.size) (o := .own (s.heap.objs.size + 1)) (h' := s.heap.push PySem.W.emptyDict) (t' := s.toks) (fun b u q => Heap.get?_push_of_some _ q) (Nat.le_refl _) ⟨_, e1⟩
  refine I1.laid (a := s.heap.objs.size + 1) (o := .ins C s.heap.objs.size []) (t' := s.toks) (fun b u q => Heap.get?_push_of_some _ q) (Nat.le_of_eq (Heap.size_push _ _)) ?_
  have ne : s.heap.objs.size ≠ s.heap.objs.size + 1 := Nat.ne_of_lt (Nat.lt_succ_self _)
  refine ⟨by rw [upd_ne ne, upd_same], Nat.zero_le _, ne, e2, fun _ => none, (Heap.Ns1.of_empty e3).at fun o q => Heap.get?_push_of_some _ q, fun _ => True.intro, fun y hy => absurd rfl hy⟩
end
def sFld (K : PySem.W.Frag) (ta tv : TE) (f : Str) : TS := fun D σ H => tv σ H fun y H1 => ta σ H1 fun x H2 => ∃ a C dx fs, x = .ref a ∧ H2 a = some (.ins C dx fs) ∧ Cls K C ∧ NoAttr K C f ∧ fs.length < 1000 ∧
  D.nx σ (upd H2 a (.ins C dx (putF f y fs)))
section
variable {X : Cx} {o e value : Expr} {f : Str} {pos pos' tpos : Pos} {ta tv : TE}
theorem ps_fld (ha : PE X o ta) (hv : PE X value tv) (hs : swapsWith value (some (.Attribute o f pos')) pos.line X.env = pure false) : PS X (.Assign [.Attribute o f pos'] value pos) (sFld X.K ta tv f) := by
  intro pins s σ H D I h
  refine plainObj_wpAny_Assign_Attribute (thn (hv pins s σ H _ I h) fun u s1 ⟨y, H1, I1, ry, q⟩ => thn (ha pins s1 σ H1 _ I1 q) fun ov s2 ⟨x, H2, I2, rx, a, C, dx, fs, ex, ea, c, n, l, q2⟩ => ?_) hs
  subst ex
  obtain rfl : ov = Value.ref a := rx
  exact setattr_ok I2 ea c n l ry fun s3 I3 => ⟨σ, _, I3, q2⟩
end
section
variable {X : Cx} {pins : List (Addr × Obj)} {σ : St} {H : Hp} {s : Shared} {A : Around} {E : Value → Shared → Prop} {Q : Value → Shared → Prop} {c : Value} {b : Bool}
inductive TyOf (K : PySem.W.Frag) (H : Hp) : V → Value → Prop where
  | non : TyOf K H .non (.type "NoneType")
  | bl (x : Bool) : TyOf K H (.bl x) (.type "bool")
  | int (i : Int) : TyOf K H (.int i) (.type "int")
  | str (x : Str) : TyOf K H (.str x) (.type "str")
  | flt (x : UInt64) : TyOf K H (.flt x) (.type "float")
  | lst {a : Addr} {xs : List V} (e : H a = some (.lst xs)) : TyOf K H (.ref a) (.type "list")
  | frz {a : Addr} {o : Obj} {xs : List V} (e : H a = some (.frz o (.lst xs))) : TyOf K H (.ref a) (.type "list")
  | tup {a : Addr} {xs : List V} (e : H a = some (.tup xs)) : TyOf K H (.ref a) (.type "tuple")
  | dK {a : Addr} {kvs : List (Key × V)} (e : H a = some (.dK kvs)) : TyOf K H (.ref a) (.type "dict")
  | dT {a : Addr} {kvs : List (List Key × V)} (e : H a = some (.dT kvs)) : TyOf K H (.ref a) (.type "dict")
  | ins {a C dx : Addr} {fs : List (Str × V)} (e : H a = some (.ins C dx fs)) (cl : Cls K C) (ha : PySem.W.findIn K (.ref C) "__class__" = some (some (.builtin "object.__class__")))
      (hn : PySem.W.specialIn K (.builtin "object.__class__") "__get__" = some (some (.builtin "getset_descriptor.__get__"))) (htk : PySem.W.takesIn K (.builtin "object.__class__") = some true)
      (hm : PySem.W.mroIn K C (.type "object") = some true) : TyOf K H (.ref a) (.ref C)
theorem isinst_ok {x : V} {u t : Value} (I : Inv X pins σ H s) (rx : RelV x u) (ty : TyOf X.K H x t) (e : PySem.W.kitOne X.K t c = some b) (h : ∀ tk, Q (.bool b) { s with toks := tk }) :
    wpAny (model X.prog X.w) A (call (.builtin "isinstance") [u, c]) Q E s := by
  cases ty with
  | non => cases (show u = Value.none from rx); exact PySem.W.kia_one PySem.W.kitx_none I.kIn True.intro e (fun z => nomatch z) h
  | bl y => cases (show u = Value.bool y from rx); exact PySem.W.kia_one PySem.W.kitx_bool I.kIn True.intro e (fun z => nomatch z) h
  | int i => obtain ⟨t, q⟩ := (show ∃ t, u = Value.int i t from rx); cases q; exact PySem.W.kia_one PySem.W.kitx_int I.kIn True.intro e (fun z => nomatch z) h
  | str y => obtain ⟨t, q⟩ := (show ∃ t, u = Value.str y t from rx); cases q; exact PySem.W.kia_one PySem.W.kitx_str I.kIn True.intro e (fun z => nomatch z) h
  | flt y => obtain ⟨t, q⟩ := (show ∃ t, u = Value.float y t from rx); cases q; exact PySem.W.kia_one PySem.W.kitx_float I.kIn True.intro e (fun z => nomatch z) h
  | @lst a xs ea =>
    cases (show u = Value.ref a from rx)
    obtain ⟨_, _, n, _, h1⟩ := (show ObjOk X.prog X.w H s.heap a (.lst xs) from I.hok a _ ea)
    exact PySem.W.kia_one PySem.W.kitx_list I.kIn ⟨_, h1, rfl⟩ e (fun z => nomatch z) h
  | @frz a ob xs ea =>
    cases (show u = Value.ref a from rx)
    obtain ⟨_, _, _, n, _, h1⟩ := (show ObjOk X.prog X.w H s.heap a (.frz ob (.lst xs)) from I.hok a _ ea)
    exact PySem.W.kia_one PySem.W.kitx_list I.kIn ⟨_, h1, rfl⟩ e (fun z => nomatch z) h
  | @tup a xs ea =>
    cases (show u = Value.ref a from rx)
    obtain ⟨_, _, _, p⟩ := (show ObjOk X.prog X.w H s.heap a (.tup xs) from I.hok a _ ea)
    obtain ⟨o, h1, h2, _⟩ := p
    exact PySem.W.kia_one PySem.W.kitx_tuple I.kIn ⟨o, h1, h2⟩ e (fun z => nomatch z) h
  | @dK a kvs ea =>
    cases (show u = Value.ref a from rx)
    obtain ⟨_, _, vs, _, p⟩ := (show ObjOk X.prog X.w H s.heap a (.dK kvs) from I.hok a _ ea)
    obtain ⟨o, es, ep, h1, h2, _⟩ := p
    exact PySem.W.kia_one PySem.W.kitx_dict I.kIn ⟨o, h1, h2.1⟩ e (fun z => nomatch z) h
  | @dT a kvs ea =>
    cases (show u = Value.ref a from rx)
    obtain ⟨_, _, xs, _, o, es, ep, h1, h2, _⟩ := (show ObjOk X.prog X.w H s.heap a (.dT kvs) from I.hok a _ ea)
    exact PySem.W.kia_one PySem.W.kitx_dict I.kIn ⟨o, h1, h2.1⟩ e (fun z => nomatch z) h
  | @ins a C dx fs ea cl ha hn htk hm =>
    cases (show u = Value.ref a from rx)
    obtain ⟨mA, O, _⟩ := ins_get I.hok ea
    obtain ⟨od, J, _⟩ := O.look
    exact PySem.W.kia_one (PySem.W.kitx_own (cl.get _) cl.hd ha hn htk hm) I.kIn J e (fun z => nomatch z) h
end
end L2
namespace L2
open PySem PySem.Spec PyProof.Rows
structure Room (k : Nat) (A : Around) : Prop where
  hd : A.handled = none
  dp : A.depth + 3 * k + 5 < recursionLimit
  un : A.units + 16 * k + 200 < cLine
theorem Room.mono {j k : Nat} {A : Around} (r : Room k A) (h : j ≤ k) : Room j A := ⟨r.hd, by have := r.dp; omega, by have := r.un; omega⟩
theorem Room.deeper {k : Nat} {A : Around} (r : Room (k + 1) A) (env : Env) : Room k (A.deeper env) :=
  ⟨r.hd, by have := r.dp; show A.depth + 1 + 3 * k + 5 < _; omega, by have := r.un; show A.units + 3 + 16 * k + 200 < _; omega⟩
theorem make_depth {A : Around} {C : Addr} {us : List Value} {kw : List (Str × Value)} : (A.under (.builtin "type.__call__" ⟨.ref C :: us, kw⟩)).depth = A.depth + 1 := by
  first | rfl | simp [Around.under, Code.weight, Code.isCreation, Code.isGuard, Code.isCaller, Code.frames, Code.isFrame, guardIds]
theorem make_units {A : Around} {C : Addr} {us : List Value} {kw : List (Str × Value)} : (A.under (.builtin "type.__call__" ⟨.ref C :: us, kw⟩)).units = A.units + 1 := by
  first | rfl | simp [Around.under, Code.cUnits, Code.frames, Code.isFrame]
theorem Room.make {k : Nat} {A : Around} (r : Room (k + 1) A) (C : Addr) (us : List Value) (kw : List (Str × Value)) : Room k (A.under (.builtin "type.__call__" ⟨.ref C :: us, kw⟩)) :=
  ⟨r.hd, by have := r.dp; rw [make_depth]; omega, by have := r.un; rw [make_units]; omega⟩
theorem Room.depth {k : Nat} {A : Around} (r : Room k A) : A.depth < recursionLimit := by have := r.dp; omega
def tNil : TA := fun _ H Q => Q [] H
def tCons (ta : TE) (tr : TA) : TA := fun σ H Q => ta σ H fun x H1 => tr σ H1 fun xs H2 => Q (x :: xs) H2
section
variable {X : Cx} {e : Expr} {es : List Expr} {te : TE} {t : TA} {pos : Pos}
theorem pa_nil : PA X [] tNil := fun _ _ _ _ H Q I h => Calls.spliced_nil ⟨[], H, I, .nil, h⟩
theorem pa_cons (ha : PE X e te) (hr : PA X es t) (hs : starEach (e :: es) X.env = (false, eval e X.env) :: starEach es X.env := by rfl) : PA X (e :: es) (tCons te t) := by
  intro pos pins s σ H Q I h
  rw [hs]
  show wpAny _ _ (spliced ((false, eval e X.env) :: backTo pos (starEach es X.env))) _ _ s
  refine Calls.spliced_cons (thn (ha pins s σ H _ I h) fun u s1 ⟨x, H1, I1, r1, q1⟩ => ?_)
  exact thn (hr pos pins s1 σ H1 _ I1 q1) fun us s2 ⟨xs, H2, I2, r2, q2⟩ => ⟨x :: xs, H2, I2, .cons r1 r2, q2⟩
def tTup (t : TA) : TE := fun σ H Q => t σ H fun xs H1 => xs.length ≤ sizeLine ∧ ∀ p, H1 p = none → Q (.ref p) (upd H1 p (.tup xs))
def tLst (t : TA) : TE := fun σ H Q => t σ H fun xs H1 => xs.length ≤ sizeLine ∧ ∀ p, H1 p = none → Q (.ref p) (upd H1 p (.lst xs))
theorem pe_tup {x1} (h : PA X es t) : PE X (.Tuple es x1 pos) (tTup t) := by
  intro pins s σ H Q I hq
  refine wpAny_Tuple_spliced (thn (h pos pins s σ H _ I hq) fun us s1 ⟨xs, H1, I1, r, z, q⟩ => ⟨by rw [← r.length]; exact z, ?_⟩)
  have hf : H1 s1.heap.objs.size = none := I1.hok.fresh (Nat.le_refl _)
  refine ⟨.ref s1.heap.objs.size, upd H1 s1.heap.objs.size (.tup xs), I1.laid (t' := s1.toks) (fun b u e => Heap.get?_push_of_some _ e) (Nat.le_refl _) ?_, rfl, q _ hf⟩
  exact ⟨z, us, r, ⟨_, Heap.get?_push_size _ rfl, rfl, _, rfl⟩⟩
theorem pe_lst (h : PA X es t) : PE X (.List es pos) (tLst t) := by
  intro pins s σ H Q I hq
  refine wpAny_List_spliced (thn (h pos pins s σ H _ I hq) fun us s1 ⟨xs, H1, I1, r, z, q⟩ => ⟨by rw [← r.length]; exact z, ?_⟩)
  have hf : H1 s1.heap.objs.size = none := I1.hok.fresh (Nat.le_refl _)
  refine ⟨.ref s1.heap.objs.size, upd H1 s1.heap.objs.size (.lst xs), I1.laid (t' := s1.toks) (fun b u e => Heap.get?_push_of_some _ e) (Nat.le_refl _) ?_, rfl, q _ hf⟩
  exact ⟨z, us, 0, r, Heap.get?_push_size _ rfl⟩
end
abbrev Sp := List V → Hp → VK → XK → Prop
abbrev CXT := List Env → Hp → Shared → XK → Value → Shared → Prop
structure Env0 (P : Program) (w : World) (K : PySem.W.Frag) (mg : Str → Option Value) (base : Heap) (A : Around) (outer : List Env) (s : Shared) (H : Hp) : Prop where
  frames : A.frames = some outer
  mod : Mod K mg base
  bs : ∀ b o, base.get? b = some o → s.heap.get? b = some o ∧ H b = none
  bsz : base.objs.size ≤ s.heap.objs.size
  funs : s.heap.FunFrames base outer
  frf : ∀ b ∈ frs outer, H b = none
  hok : HOk P w H s.heap
  bare : AllBare s.gens
def CE (outer : List Env) (P : Program) (w : World) (H : Hp) (s : Shared) (Q : VK) (u : Value) (s' : Shared) : Prop :=
  ∃ v H', s'.os = s.os ∧ AllBare s'.gens ∧ Un (frs outer) [] H H' s.heap s'.heap ∧ HOk P w H' s'.heap ∧ RelV v u ∧ Q v H'
def CR (CX : CXT) (outer : List Env) (P : Program) (w : World) (H : Hp) (s : Shared) (Q : VK) (E : XK) (r : Result) (s' : Shared) : Prop :=
  match r with
  | .ok (.ret u) => CE outer P w H s Q u s'
  | .ok _ => False
  | .error e => CX outer H s E e s'
structure FnOk (P : Program) (w : World) (K : PySem.W.Frag) (mg : Str → Option Value) (base : Heap) (CX : CXT) (k : Nat) (f : Addr) (fd : FuncData) (ps : List Str) (sp : Sp) : Prop where
  len : ∀ vs H Q E, sp vs H Q E → vs.length = ps.length
  run : ∀ (A : Around) (outer : List Env) (s : Shared) (H : Hp) (args : Args) (us : List Value) (vs : List V) (Q : VK) (E : XK), Room k A → Env0 P w K mg base A outer s H → BindsTo s fd args (ps.zip us) → Vals vs us → sp vs H Q E →
    codeAny (model P w) A (.call (.ref f) args) (CR CX outer P w H s Q E) s
theorem Env0.make {P : Program} {w : World} {K : PySem.W.Frag} {mg : Str → Option Value} {base : Heap} {A : Around} {outer : List Env} {s : Shared} {H : Hp} (e : Env0 P w K mg base A outer s H) (C : Addr) (us : List Value) (kw : List (Str × Value)) :
    Env0 P w K mg base (A.under (.builtin "type.__call__" ⟨.ref C :: us, kw⟩)) outer s H := ⟨by first | exact e.frames | (simpa [Around.under, Code.envs, Code.isFrame, pushEnvs] using e.frames), e.mod, e.bs, e.bsz, e.funs, e.frf, e.hok, e.bare⟩
section
variable {X : Cx} {pins : List (Addr × Obj)} {σ : St} {H : Hp} {s s' : Shared}
theorem Inv.env0 (I : Inv X pins σ H s) : Env0 X.prog X.w X.K X.mg X.base X.A X.stack s H :=
  ⟨I.ok.frames, I.ok.mod, I.bs, Nat.le_trans I.ok.bsz I.sz, I.stack, I.stkFree, I.hok, I.bare⟩
theorem Inv.after {Q : VK} {u : Value} (I : Inv X pins σ H s) (h : CE X.stack X.prog X.w H s Q u s') : EP X pins σ Q u s' := by
  obtain ⟨v, H', os, bare, un, hok, r, q⟩ := h
  obtain ⟨hh, g, d, t, os'⟩ := s'
  obtain rfl : os' = s.os := os
  exact ⟨v, H', I.call (h' := hh) (g' := g) (d' := d) (t' := t) (ch := []) un hok bare (fun b z => absurd z (by simp)), r, q⟩
end
def tCall (sp : Sp) (dvs : List V) (E : XK) (t : TA) : TE := fun σ H Q => t σ H fun vs H1 => sp (vs ++ dvs) H1 Q E
def tMake (C : Addr) (sp : Sp) (dvs : List V) (E : XK) (t : TA) : TE := fun σ H Q => t σ H fun vs H1 => ∀ x dx, H1 x = none → H1 dx = none → dx ≠ x →
  sp (.ref x :: (vs ++ dvs)) (upd (upd H1 dx (.own x)) x (.ins C dx [])) (fun v H2 => v = .non ∧ Q (.ref x) H2) E
def Binds (K : PySem.W.Frag) (fd : FuncData) (ps : List Str) (ds : List Value) : Prop :=
  ∀ (s : Shared) (us : List Value), K.In s.heap → (us ++ ds).length = ps.length → BindsTo s fd ⟨us, []⟩ (ps.zip (us ++ ds))
theorem Binds.all {K : PySem.W.Frag} {fd : FuncData} {ps : List Str} (h : ∀ us : List Value, us.length = ps.length → bindArgs fd ⟨us, []⟩ = pure (ps.zip us)) : Binds K fd ps [] := fun s us _ hl => by
  rw [List.append_nil] at hl ⊢
  exact .of_eq (h us hl)
def Passes (CX : CXT) (X : Cx) (E : XK) : Prop := ∀ (pins : List (Addr × Obj)) (σ : St) (H : Hp) (s : Shared) (e : Value) (s' : Shared), Inv X pins σ H s → CX X.stack H s E e s' → X.xe e s'
section
variable {X : Cx} {CX : CXT} {k : Nat} {f C : Addr} {fd : FuncData} {ps : List Str} {sp : Sp} {dvs : List V} {ds : List Value} {E : XK} {x m : Str} {p pos apos : Pos} {e o : Expr} {es : List Expr} {ta : TE} {t : TA}
theorem run_fn {pins : List (Addr × Obj)} {σ : St} {H : Hp} {s : Shared} {Q : VK} {us : List Value} {vs : List V} (F : FnOk X.prog X.w X.K X.mg X.base CX k f fd ps sp) (hr : Room k X.A) (hb : Binds X.K fd ps ds) (hd : Vals dvs ds) (hx : Passes CX X E)
    (I : Inv X pins σ H s) (r : Vals vs us) (h : sp (vs ++ dvs) H Q E) : wpAny (model X.prog X.w) X.A (call (.ref f) us) (EP X pins σ Q) X.xe s := by
  have r2 : Vals (vs ++ dvs) (us ++ ds) := r.append hd
  have hl : (us ++ ds).length = ps.length := by rw [← r2.length]; exact F.len _ _ _ _ h
  refine wpAny_call (codeAny_mono (F.run X.A X.stack s H ⟨us, []⟩ (us ++ ds) (vs ++ dvs) Q E hr I.env0 (hb s us I.kIn hl) r2 h) fun r s' hq => ?_)
  cases r with
  | error e => exact hx pins σ H s e s' I hq
  | ok fl =>
    cases fl with
    | ret u => exact I.after hq
    | next => exact False.elim hq
    | brk => exact False.elim hq
    | cont => exact False.elim hq
theorem pe_call (F : FnOk X.prog X.w X.K X.mg X.base CX k f fd ps sp) (hr : Room k X.A) (hg : Gl X x) (hm : X.mg x = some (.ref f)) (hk : PySem.W.keepIn X.K (.ref f) = true) (hb : Binds X.K fd ps ds) (hd : Vals dvs ds) (hx : Passes CX X E)
    (ha : PA X (e :: es) t) (hdb : (x == ("__debug__" : Str)) = false := by decide) (he : starEach (e :: es) X.env = (false, eval e X.env) :: starEach es X.env := by rfl) (hpl : (backTo pos (starEach es X.env)).any (·.1) = false := by rfl) :
    PE X (.Call (.Name x p) (e :: es) [] pos) (tCall sp dvs E t) := by
  intro pins s σ H Q I h
  refine wpAny_Call_Name_kw (ld_glob I hg hm ?_ hdb)
  refine PySem.W.callWith_K (h₀ := X.base) I.ok.mod.kin hk (thn (ha pos pins s σ H _ I h) fun us s1 ⟨vs, H1, I1, r, q⟩ => ⟨I1.kIn, ?_⟩) he hpl
  exact run_fn F hr hb hd hx I1 r q
structure Mk (K : PySem.W.Frag) (C f : Addr) : Prop where
  makes : PySem.W.makesIn K C = true
  init : PySem.W.findIn K (.ref C) "__init__" = some (some (.ref f))
  fn : PySem.W.isFn K (.ref f) = true
  kp : PySem.W.keepIn K (.ref C) = true
theorem run_make {pins : List (Addr × Obj)} {σ : St} {H : Hp} {s : Shared} {Q : VK} {us : List Value} {vs : List V} (M : Mk X.K C f) (F : FnOk X.prog X.w X.K X.mg X.base CX k f fd ps sp) (hr : Room (k + 1) X.A) (hb : Binds X.K fd ps ds) (hd : Vals dvs ds)
    (hx : Passes CX X E) (I : Inv X pins σ H s) (r : Vals vs us)
    (h : ∀ x dx, H x = none → H dx = none → dx ≠ x → sp (.ref x :: (vs ++ dvs)) (upd (upd H dx (.own x)) x (.ins C dx [])) (fun v H2 => v = .non ∧ Q (.ref x) H2) E) :
    wpAny (model X.prog X.w) X.A (call (.ref C) us) (EP X pins σ Q) X.xe s := by
  have hq := h (s.heap.objs.size + 1) s.heap.objs.size (I.hok.fresh (Nat.le_succ _)) (I.hok.fresh (Nat.le_refl _)) (Nat.ne_of_lt (Nat.lt_succ_self _))
  have I2 := Inv.made (C := C) I
  have r2 : Vals (V.ref (s.heap.objs.size + 1) :: (vs ++ dvs)) (Value.ref (s.heap.objs.size + 1) :: (us ++ ds)) := .cons rfl (r.append hd)
  have hl : (Value.ref (s.heap.objs.size + 1) :: us ++ ds).length = ps.length := by
    have e := r2.length
    rw [F.len _ _ _ _ hq] at e
    exact e.symm
  refine wpAny_call (make_map (f := f) I.kIn M.makes M.init (beq_iff_eq.mp M.fn) (codeAny_mono (F.run _ X.stack _ _ ⟨Value.ref (s.heap.objs.size + 1) :: us, []⟩ (Value.ref (s.heap.objs.size + 1) :: (us ++ ds)) _ _ E (hr.make C us [])
    (I2.env0.make C us []) (hb _ (Value.ref (s.heap.objs.size + 1) :: us) I2.kIn hl) r2 hq) fun r s' hq' => ?_))
  cases r with
  | error e => exact hx pins σ _ _ e s' I2 hq'
  | ok fl =>
    cases fl with
    | ret u =>
      obtain ⟨v, H', I3, rv, ev, q3⟩ := I2.after hq'
      subst ev
      exact ⟨rv, ⟨V.ref (s.heap.objs.size + 1), H', I3, rfl, q3⟩⟩
    | next => exact False.elim hq'
    | brk => exact False.elim hq'
    | cont => exact False.elim hq'
theorem pe_make (M : Mk X.K C f) (F : FnOk X.prog X.w X.K X.mg X.base CX k f fd ps sp) (hr : Room (k + 1) X.A) (hg : Gl X x) (hm : X.mg x = some (.ref C)) (hb : Binds X.K fd ps ds) (hd : Vals dvs ds) (hx : Passes CX X E)
    (ha : PA X (e :: es) t) (hdb : (x == ("__debug__" : Str)) = false := by decide) (he : starEach (e :: es) X.env = (false, eval e X.env) :: starEach es X.env := by rfl) (hpl : (backTo pos (starEach es X.env)).any (·.1) = false := by rfl) :
    PE X (.Call (.Name x p) (e :: es) [] pos) (tMake C sp dvs E t) := by
  intro pins s σ H Q I h
  refine wpAny_Call_Name_kw (ld_glob I hg hm ?_ hdb)
  refine PySem.W.callWith_K (h₀ := X.base) I.ok.mod.kin M.kp (thn (ha pos pins s σ H _ I h) fun us s1 ⟨vs, H1, I1, r, q⟩ => ⟨I1.kIn, ?_⟩) he hpl
  exact run_make M F hr hb hd hx I1 r q
end
section
variable {X : Cx} {CX : CXT} {k : Nat} {f C : Addr} {fd : FuncData} {ps ks : List Str} {sp : Sp} {E : XK} {x m : Str} {p pos apos kpos : Pos} {e o : Expr} {es : List Expr} {kws : List Keyword} {te ta : TE} {t tk : TA} {nm : Option Str}
variable {g : List Value → List Value → List Value} {gV : List V → List V → List V}
end
structure FnScope (N P : List Str) (sc : Scope) : Prop where
  kind : sc.kind = .function
  co : sc.isCoroutine = false
  gen : sc.isGenerator = false
  nd : N.Nodup
  pre : N.take P.length = P
  par : ∀ x ∈ P, sc.names.lookup x = some .local ∨ sc.names.lookup x = some .cell
  nofree : ∀ y ∈ sc.names, y.2 ≠ .free
theorem bindL_out {kindOf : Str → Option NameKind} {x : Str} : ∀ {binds : List (Str × Value)} {m : Str → Option Value}, (∀ v, (x, v) ∉ binds) → bindL kindOf binds m x = m x
  | [], _, _ => rfl
  | (n, v) :: r, m, h => by
    unfold bindL
    rw [bindL_out fun w hw => h w (List.mem_cons_of_mem _ hw)]
    split
    · have : x ≠ n := by rintro rfl; exact h v List.mem_cons_self
      simp [this]
    · rfl
theorem bindC_out {kindOf : Str → Option NameKind} {x : Str} : ∀ {binds : List (Str × Value)} {m : Str → Option Value}, (∀ v, (x, v) ∉ binds) → bindC kindOf binds m x = m x
  | [], _, _ => rfl
  | (n, v) :: r, m, h => by
    unfold bindC
    rw [bindC_out fun w hw => h w (List.mem_cons_of_mem _ hw)]
    split
    · rfl
    · have : x ≠ n := by rintro rfl; exact h v List.mem_cons_self
      simp [this]
theorem bindL_get {kindOf : Str → Option NameKind} {x : Str} {v : Value} : ∀ {P : List Str} {vs : List Value} {i : Nat} {m : Str → Option Value}, P.Nodup → P[i]? = some x → vs[i]? = some v → kindOf x = some .local →
    bindL kindOf (P.zip vs) m x = some v
  | [], _, _, _, _, h, _, _ => by simp at h
  | _ :: _, [], _, _, _, _, h, _ => by simp at h
  | p :: P, w :: vs, 0, m, nd, h1, h2, hk => by
    simp at h1 h2; subst h1; subst h2
    show bindL kindOf ((p, w) :: P.zip vs) m p = _
    unfold bindL
    rw [bindL_out fun v hv => (List.nodup_cons.mp nd).1 (List.of_mem_zip hv).1, if_pos hk]
    simp
  | p :: P, w :: vs, i + 1, m, nd, h1, h2, hk => by
    show bindL kindOf ((p, w) :: P.zip vs) m x = _
    unfold bindL
    exact bindL_get (i := i) (List.nodup_cons.mp nd).2 (by simpa using h1) (by simpa using h2) hk
theorem bindC_get {kindOf : Str → Option NameKind} {x : Str} {v : Value} : ∀ {P : List Str} {vs : List Value} {i : Nat} {m : Str → Option Value}, P.Nodup → P[i]? = some x → vs[i]? = some v → kindOf x ≠ some .local →
    bindC kindOf (P.zip vs) m x = some v
  | [], _, _, _, _, h, _, _ => by simp at h
  | _ :: _, [], _, _, _, _, h, _ => by simp at h
  | p :: P, w :: vs, 0, m, nd, h1, h2, hk => by
    simp at h1 h2; subst h1; subst h2
    show bindC kindOf ((p, w) :: P.zip vs) m p = _
    unfold bindC
    rw [bindC_out fun v hv => (List.nodup_cons.mp nd).1 (List.of_mem_zip hv).1, if_neg hk]
    simp
  | p :: P, w :: vs, i + 1, m, nd, h1, h2, hk => by
    show bindC kindOf ((p, w) :: P.zip vs) m x = _
    unfold bindC
    exact bindC_get (i := i) (List.nodup_cons.mp nd).2 (by simpa using h1) (by simpa using h2) hk
def start (N : List Str) (vs : List V) : St := vs.map some ++ List.replicate (N.length - vs.length) none
def cxOf (CX : CXT) (P : Program) (w : World) (K : PySem.W.Frag) (mg : Str → Option Value) (base : Heap) (N : List Str) (qual : Str) (scope : Scope) (f : Addr) (cd : Value) (A : Around) (outer : List Env) (s : Shared) (H : Hp) (E : XK) : Cx where
  prog := P
  w := w
  K := K
  mg := mg
  base := base
  A := A.deeper (envOfC qual scope s.heap.objs.size f cd)
  N := N
  s₀ := s
  H₀ := H
  env := envOfC qual scope s.heap.objs.size f cd
  outer := outer
  stack := envOfC qual scope s.heap.objs.size f cd :: outer
  ex := []
  calm := true
  fn := fun _ => true
  pn := []
  xe := fun e s' => wpAny (model P w) (A.deeper (envOfC qual scope s.heap.objs.size f cd)) (leaving (envOfC qual scope s.heap.objs.size f cd) e) (fun _ s'' => CX outer H s E e s'') (fun e' s'' => CX outer H s E e' s'') s'
theorem cell_has {sc : Scope} {n : Nat} {x : Str} (h : sc.names.lookup x = some .cell) : ∃ c, (cellsFrom n sc.names []).lookup x = some c := by
  have q := PySem.W.cellsFrom_some sc.names n [] (.inl h)
  exact Option.isSome_iff_exists.mp q
theorem inv_start {CX : CXT} {P : Program} {w : World} {K : PySem.W.Frag} {mg : Str → Option Value} {base : Heap} {N ps : List Str} {qual : Str} {scope : Scope} {f : Addr} {cd : Value} {A : Around} {outer : List Env} {s s1 : Shared} {H : Hp} {E : XK} {us : List Value} {vs : List V}
    (S : FnScope N ps scope) (hd : A.handled = none) (e0 : Env0 P w K mg base A outer s H) (hl : vs.length = ps.length) (r : Vals vs us)
    (x : InCallC s s.heap.objs.size (bindL (envOfC qual scope s.heap.objs.size f cd).kindOf (ps.zip us) fun _ => none) (cellsFrom (s.heap.objs.size + 1) scope.names []) (bindC (envOfC qual scope s.heap.objs.size f cd).kindOf (ps.zip us) fun _ => none) s1) :
    Inv (cxOf CX P w K mg base N qual scope f cd A outer s H E) [] (start N vs) H s1 := by
  have hpl : ps.length ≤ N.length := by have := congrArg List.length S.pre; rw [List.length_take] at this; omega
  obtain ⟨h1, tk, rfl, hk⟩ := x.done
  have noA : ∀ b : Addr, b ∉ (cxOf CX P w K mg base N qual scope f cd A outer s H E).ex := fun b z => absurd (show b ∈ ([] : List Addr) from z) (by simp)
  refine ⟨⟨e0.mod, S.kind, rfl, rfl, Nat.le_refl _, fun y z c h1 h2 => ?_, fun y hy => ?_, fun y c _ h => ?_, fun _ => hd, Around.frames_deeper e0.frames, .inr ⟨rfl, rfl⟩, fun b z => absurd z (noA b), e0.bs, e0.bsz, fun b _ _ => noA b, fun b z => absurd z (noA b), e0.funs, e0.frf⟩,
    rfl, e0.bare, Un.kept hk, ⟨_, x.toInCall.ns, fun i y v h1 h2 h3 => ?_⟩, fun y c h => ⟨_, x.cell y c h⟩, e0.hok.fresh (Nat.le_refl _), fun y c h => ?_, fun p hp => absurd (show p ∈ ([] : List (Addr × Obj)) from hp) (by simp), e0.hok.kept hk, ?_⟩
  · exact name_of_addr x.apart (PySem.mem_of_lookup h1) (PySem.mem_of_lookup h2)
  · have hy : scope.names.lookup y = some .cell ∨ scope.names.lookup y = some .free := hy
    rcases hy with hy | hy
    · exact cell_has hy
    · exact absurd rfl (S.nofree _ (PySem.mem_of_lookup hy))
  · exact Nat.le_of_lt (x.above y c (PySem.mem_of_lookup h))
  · have hi : i < vs.length := by
      unfold start at h2
      by_cases hi : i < vs.length
      · exact hi
      · rw [List.getElem?_append_right (by simpa using hi)] at h2
        rw [List.getElem?_replicate] at h2
        split at h2 <;> cases h2
    have ha : vs[i]? = some v := by
      unfold start at h2
      rw [List.getElem?_append_left (by simpa using hi), List.getElem?_map] at h2
      cases e : vs[i]? with
      | none => rw [e] at h2; cases h2
      | some a => rw [e] at h2; cases h2; rfl
    obtain ⟨u, hu, rv⟩ := r.get ha
    have hp : ps[i]? = some y := by
      rw [← S.pre, List.getElem?_take_of_lt (by omega)]; exact h1
    have ndP : ps.Nodup := by rw [← S.pre]; exact S.nd.sublist (List.take_sublist _ _)
    refine ⟨u, rv, ?_⟩
    rcases S.par y (List.mem_of_getElem? hp) with k | k
    · exact .inl ⟨k, bindL_get ndP hp hu k⟩
    · obtain ⟨c, e⟩ := cell_has (n := s.heap.objs.size + 1) k
      refine .inr ⟨.inl k, c, e, ?_⟩
      have q := x.cell y c e
      rw [bindC_get ndP hp hu (by show scope.names.lookup y ≠ _; rw [k]; decide)] at q
      exact q
  · exact e0.hok.fresh (Nat.le_of_lt (x.above y c (PySem.mem_of_lookup h)))
  · unfold start
    show _ = N.length
    rw [List.length_append, List.length_map, List.length_replicate]
    omega
theorem fn_of {CX : CXT} {P : Program} {w : World} {K : PySem.W.Frag} {mg : Str → Option Value} {base : Heap} {k : Nat} {f : Addr} {name qual : Str} {params : Arguments} {body : List Stmt} {scope : Scope} {dV kV doc pm cdv ct oc : Value} {an od : Option Addr}
    {osl : Array (Option Value)} {N ps : List Str} {sp : Sp} (lk : K.lookup f = some ⟨oc, od, .func (PySem.W.fnOf name qual params body scope dV kV doc pm an cdv ct), osl⟩) (hcd : PySem.W.codeIn K cdv qual = true) (S : FnScope N ps scope)
    (len : ∀ vs H Q E, sp vs H Q E → vs.length = ps.length)
    (hbody : ∀ (A : Around) (outer : List Env) (s : Shared) (H : Hp) (vs : List V) (Q : VK) (E : XK), Room k (A.deeper (envOfC qual scope s.heap.objs.size f cdv)) → sp vs H Q E →
      ∃ t, PSs (cxOf CX P w K mg base N qual scope f cdv A outer s H E) body t ∧ t { nx := fun _ H' => Q .non H', rt := Q } (start N vs) H) :
    FnOk P w K mg base CX (k + 1) f (PySem.W.fnOf name qual params body scope dV kV doc pm an cdv ct) ps sp := by
  refine ⟨len, fun A outer s H args us vs Q E hr e0 hb r hsp => ?_⟩
  have hl := len _ _ _ _ hsp
  have KX : K.In s.heap := e0.mod.kin.keeps fun b o e => (e0.bs b o e).1
  have lim : s.heap.NoLimit := e0.mod.nolimit.keeps fun b o e => (e0.bs b o e).1
  have hkind : ∀ y ∈ ps.zip us, scope.names.lookup y.1 = some .local ∨ (scope.names.lookup y.1 = some .cell ∧ ((cellsFrom (s.heap.objs.size + 1) scope.names []).lookup y.1).isSome = true) := fun ⟨n, v⟩ hy => by
    rcases S.par n (List.of_mem_zip hy).1 with q | q
    · exact .inl q
    · exact .inr ⟨q, PySem.W.cellsFrom_some _ _ _ (.inl q)⟩
  refine codeAny_call_function hr.depth (KX _ _ lk) rfl S.co S.gen rfl (PySem.W.codeRec_of KX hcd) (hb _ _ _ _ ?_)
  refine wpAny_newFunctionEnv_cells S.kind hkind fun env he s1 x => ?_
  subst he
  refine ⟨lim.keeps x.toInCall.keep, codeAny_func ?_⟩
  obtain ⟨t, ht, hq⟩ := hbody A outer s H vs Q E (hr.deeper _) hsp
  have I : Inv (cxOf CX P w K mg base N qual scope f cdv A outer s H E) [] (start N vs) H s1 := inv_start S hr.hd e0 hl r x
  refine wpAny_mono (ht [] s1 (start N vs) H _ I hq) (fun fl s' hs => ?_) fun e s' hs => hs
  have fin : ∀ {σ' : St} {H' : Hp} {v : V} {u : Value}, Inv (cxOf CX P w K mg base N qual scope f cdv A outer s H E) [] σ' H' s' → RelV v u → Q v H' → CE outer P w H s Q u s' :=
    fun {σ' H' v u} J rv q => ⟨v, H', J.os, J.bare, J.base, J.hok, rv, q⟩
  cases fl with
  | ret u =>
    obtain ⟨v, σ', H', J, rv, q⟩ := hs
    exact fin J rv q
  | next =>
    obtain ⟨σ', H', J, q⟩ := hs
    exact fin (v := V.non) (u := Value.none) J rfl q
  | brk =>
    obtain ⟨_, _, _, q⟩ := hs
    exact False.elim q
  | cont =>
    obtain ⟨_, _, _, q⟩ := hs
    exact False.elim q
end L2
namespace L2
open PySem PySem.Spec PyProof.Rows
section
variable {X : Cx} {x : Str} {p pos : Pos} {e : Expr} {es : List Expr} {t : TA} {id T : String} {r : List V → Hp → VK → Prop}
def tCB (r : List V → Hp → VK → Prop) (t : TA) : TE := fun σ H Q => t σ H fun vs H1 => r vs H1 Q
theorem pe_callB (hc : CallR X (.builtin id) r) (hg : Gl X x) (hm : X.mg x = none) (hv : bootBuiltins x = some (.builtin id)) (ha : PA X (e :: es) t) (hn : x ≠ "__name__" := by decide) (hdb : (x == ("__debug__" : Str)) = false := by decide)
    (he : starEach (e :: es) X.env = (false, eval e X.env) :: starEach es X.env := by rfl) (hpl : (backTo pos (starEach es X.env)).any (·.1) = false := by rfl) : PE X (.Call (.Name x p) (e :: es) [] pos) (tCB r t) := by
  intro pins s σ H Q I h
  refine wpAny_Call_Name_kw (ld_blt I hg hm hv ?_ hn hdb)
  exact PyProof.Rows.callWith_builtin1 (thn (ha pos pins s σ H _ I h) fun us s1 ⟨vs, H1, I1, r1, q1⟩ => hc pins s1 σ H1 vs us Q I1 r1 q1) he hpl
theorem pe_callTy (hc : CallR X (.type T) r) (hg : Gl X x) (hm : X.mg x = none) (hv : bootBuiltins x = some (.type T)) (ha : PA X (e :: es) t) (hn : x ≠ "__name__" := by decide) (hdb : (x == ("__debug__" : Str)) = false := by decide)
    (he : starEach (e :: es) X.env = (false, eval e X.env) :: starEach es X.env := by rfl) (hpl : (backTo pos (starEach es X.env)).any (·.1) = false := by rfl) : PE X (.Call (.Name x p) (e :: es) [] pos) (tCB r t) := by
  intro pins s σ H Q I h
  refine wpAny_Call_Name_kw (ld_blt I hg hm hv ?_ hn hdb)
  exact PyProof.Rows.callWith_type1 (thn (ha pos pins s σ H _ I h) fun us s1 ⟨vs, H1, I1, r1, q1⟩ => hc pins s1 σ H1 vs us Q I1 r1 q1) he hpl
end
end L2
namespace HT
open PySem PyProof.Rows
section
open PySem.SeqAt
open PySem.AutoSeq1 (wpAny_loadPart')
open PySem.MeetsSeq PySem.MeetsSeq2 PySem.MeetsSeq3
end
section
variable {prog : Program} {w : World} {A : Around} {E : Value → Shared → Prop} {s : Shared}
def sIx (n d : Nat) : Option Int → Nat
  | none => d
  | some v => if v < 0 then (v + (n : Int)).toNat else min v.toNat n
theorem sIx_none (n d : Nat) : sIx n d none = d := rfl
theorem sIx_nat (n d k : Nat) : sIx n d (some (k : Int)) = min k n := by
  show (if (k : Int) < 0 then ((k : Int) + (n : Int)).toNat else min (k : Int).toNat n) = min k n
  rw [if_neg (by omega), Int.toNat_natCast]
theorem sIx_le (n d : Nat) (hd : d ≤ n) (o : Option Int) : sIx n d o ≤ n := by
  cases o with
  | none => exact hd
  | some v =>
    show (if v < 0 then (v + (n : Int)).toNat else min v.toNat n) ≤ n
    by_cases hv : v < 0
    · rw [if_pos hv]; omega
    · rw [if_neg hv]; exact Nat.min_le_right _ _
end
end HT
namespace L2
open PySem PySem.Spec PyProof.Rows
abbrev TO := St → Hp → (Option Int → Hp → Prop) → Prop
def PO (X : Cx) (e : Option Expr) (t : TO) : Prop :=
  ∀ (pins : List (Addr × Obj)) (s : Shared) (σ : St) (H : Hp) (Q : Option Int → Hp → Prop), Inv X pins σ H s → t σ H Q →
    wpAny (model X.prog X.w) X.A (evalPart e X.env) (fun u s' => ∃ o H', Inv X pins σ H' s' ∧ IsPart u o ∧ Q o H') X.xe s
def tNoPart : TO := fun _ H Q => Q none H
def tPart (t : TE) : TO := fun σ H Q => t σ H fun x H1 => ∃ i, x = .int i ∧ Q (some i) H1
section
variable {X : Cx} {e : Expr} {te : TE} {lo hi : Option Expr} {tl th : TO} {pos p2 : Pos}
theorem po_none : PO X none tNoPart := by
  intro pins s σ H Q I h
  rw [evalPart_none]
  exact wpAny_pure ⟨none, H, I, .none, h⟩
theorem po_some (h : PE X e te) : PO X (some e) (tPart te) := by
  intro pins s σ H Q I hw
  rw [evalPart_some]
  refine thn (h pins s σ H _ I hw) fun u s1 ⟨x, H1, I1, r1, q1⟩ => ?_
  obtain ⟨i, rfl, q⟩ := q1
  obtain ⟨t, rfl⟩ := r1
  exact ⟨some i, H1, I1, .int i t, q⟩
def SlR (X : Cx) (r : V → Option Int → Option Int → Hp → VK → Prop) : Prop :=
  ∀ (pins : List (Addr × Obj)) (s : Shared) (σ : St) (H : Hp) (x : V) (v vl vu : Value) (lo hi : Option Int) (sl : Addr) (Q : VK), Inv X pins σ H s → RelV x v → s.heap.IsSliceOf sl vl vu .none → IsPart vl lo → IsPart vu hi → r x lo hi H Q →
    ∃ T id, typeLookup (.type T) "__getitem__" = pure (some (.builtin id)) ∧ s.TypeIs v T ∧ wpAny (model X.prog X.w) X.A (getItem v (.ref sl)) (EP X pins σ Q) X.xe s
def tSl (r : V → Option Int → Option Int → Hp → VK → Prop) (te : TE) (tl th : TO) : TE := fun σ H Q => te σ H fun x H1 => tl σ H1 fun l H2 => th σ H2 fun u H3 => r x l u H3 Q
theorem pe_slice {r : V → Option Int → Option Int → Hp → VK → Prop} (hr : SlR X r) (he : PE X e te) (hl : PO X lo tl) (hu : PO X hi th) : PE X (.Subscript e (.Slice lo hi none p2) pos) (tSl r te tl th) := by
  intro pins s σ H Q I h
  refine Subscript_ (thn (he pins s σ H _ I h) fun v s1 ⟨x, H1, I1, r1, q1⟩ => ?_)
  refine wpAny_Slice (thn (hl pins s1 σ H1 _ I1 q1) fun vl s2 ⟨l, H2, I2, pl, q2⟩ => thn (hu pins s2 σ H2 _ I2 q2) fun vu s3 ⟨u, H3, I3, pu, q3⟩ => ?_)
  rw [evalPart_none]
  refine wpAny_pure ?_
  have I4 : Inv X pins σ H3 { s3 with heap := s3.heap.push { cls := .type "slice", data := .fields #[vl, vu, .none] } } := I3.kept (t' := s3.toks) fun b ob q => Heap.get?_push_of_some _ q
  obtain ⟨T, id, hT, ht, hg⟩ := hr pins { s3 with heap := s3.heap.push { cls := .type "slice", data := .fields #[vl, vu, .none] } } σ H3 x v vl vu l u s3.heap.objs.size Q I4 r1 (Heap.IsSliceOf.new ..) pl pu q3
  show wpAny (model X.prog X.w) X.A (subscriptTail e (.Slice lo hi none p2) v (.ref s3.heap.objs.size)) (EP X pins σ Q) X.xe { s3 with heap := s3.heap.push { cls := .type "slice", data := .fields #[vl, vu, .none] } }
  exact tail_any (ops := [.ref s3.heap.objs.size, v]) ht hT hg (by with_unfolding_all rfl)
def cutV (xs : List V) (lo hi : Option Int) : List V := (xs.drop (HT.sIx xs.length 0 lo)).take (HT.sIx xs.length xs.length hi - HT.sIx xs.length 0 lo)
theorem cutV_length (xs : List V) (lo hi : Option Int) : (cutV xs lo hi).length ≤ xs.length := by
  unfold cutV
  rw [List.length_take, List.length_drop]
  omega
end
end L2
namespace L2
open PySem PySem.Spec PyProof.Rows
def ixN (n : Nat) (i : Int) : Option Nat := if 0 ≤ i then (if i < n then some i.toNat else none) else if -(n : Int) ≤ i then some (i + n).toNat else none
def atI {α : Type} (xs : List α) (i : Int) : Option α := (ixN xs.length i).bind fun j => xs[j]?
theorem ixN_seq {n : Nat} {i : Int} {j : Nat} (h : ixN n i = some j) : seqIndex? i n = some j ∧ j < n ∧ -(n : Int) ≤ i ∧ i < n := by
  unfold ixN at h
  by_cases h0 : 0 ≤ i
  · rw [if_pos h0] at h
    by_cases h1 : i < n
    · rw [if_pos h1] at h
      have e : i.toNat = j := Option.some.inj h
      exact ⟨by rw [seqIndex_of h0 h1, e], by omega, by omega, h1⟩
    · rw [if_neg h1] at h; cases h
  · rw [if_neg h0] at h
    by_cases h1 : -(n : Int) ≤ i
    · rw [if_pos h1] at h
      have e : (i + n).toNat = j := Option.some.inj h
      exact ⟨by rw [seqIndex_neg (by omega) h1, e], by omega, h1, by omega⟩
    · rw [if_neg h1] at h; cases h
theorem atI_get {α : Type} {xs : List α} {i : Int} {v : α} (h : atI xs i = some v) : ∃ j, seqIndex? i xs.length = some j ∧ xs[j]? = some v ∧ j < xs.length ∧ -(xs.length : Int) ≤ i ∧ i < xs.length := by
  unfold atI at h
  cases e : ixN xs.length i with
  | none => rw [e] at h; cases h
  | some j =>
    rw [e] at h
    obtain ⟨h1, h2, h3, h4⟩ := ixN_seq e
    exact ⟨j, h1, h, h2, h3, h4⟩
theorem atI_nat {α : Type} {xs : List α} {j : Nat} {v : α} (h : xs[j]? = some v) : atI xs (j : Int) = some v := by
  have hj : j < xs.length := (List.getElem?_eq_some_iff.mp h).1
  have e : ixN xs.length (j : Int) = some j := by
    unfold ixN
    rw [if_pos (by omega), if_pos (by omega)]; simp
  unfold atI; rw [e]; exact h
def PlainIx (b : Expr) : Prop := ∀ o i, subscripted b false o i = operate [o, i] (getItem o i)
def IxR (X : Cx) (r : R2) : Prop :=
  ∀ (value slice : Expr) (pins : List (Addr × Obj)) (s : Shared) (σ : St) (H : Hp) (x y : V) (v u : Value) (Q : VK), Inv X pins σ H s → RelV x v → RelV y u → r x y H Q →
    subscripted slice false v u = operate [v, u] (getItem v u) → wpAny (model X.prog X.w) X.A (subscriptTail value slice v u) (EP X pins σ Q) X.xe s
def MtR (X : Cx) (id : String) (r : V → List V → Hp → VK → Prop) : Prop :=
  ∀ (pins : List (Addr × Obj)) (s : Shared) (σ : St) (H : Hp) (x : V) (xs : List V) (v : Value) (us : List Value) (Q : VK), Inv X pins σ H s → RelV x v → Vals xs us → r x xs H Q →
    wpAny (model X.prog X.w) X.A (call (.builtin id) (v :: us)) (EP X pins σ Q) X.xe s
section
variable {X : Cx} {a b : Expr} {ta tb : TE} {pos : Pos}
theorem pe_ix {r : R2} (hr : IxR X r) (ha : PE X a ta) (hb : PE X b tb) (hs : PlainIx b) : PE X (.Subscript a b pos) (tOp r ta tb) := by
  intro pins s σ H Q I h
  exact Subscript_ (binT ha hb I h fun v u s2 x y H2 I2 rx ry q => hr a b pins s2 σ H2 x y v u Q I2 rx ry q (hs _ _))
def rIxL (K : PySem.W.Frag) : R2 := fun x y H Q => ∃ p xs i v, x = .ref p ∧ y = .int i ∧ SqL K H p xs ∧ atI xs i = some v ∧ Q v H
def rIxS : R2 := fun x y H Q => ∃ z i c, x = .str z ∧ y = .int i ∧ z.length ≤ sizeLine ∧ atI z.cps.toList i = some c ∧ Q (.str ⟨#[c]⟩) H
theorem ix_list : IxR X (rIxL X.K) := by
  intro value slice pins s σ H x y v u Q I rx ry h hs
  obtain ⟨p, xs, i, z, rfl, rfl, hq, he, q⟩ := h
  cases rx
  obtain ⟨t, rfl⟩ := ry
  obtain ⟨its, r, pl, hz⟩ := I.list hq
  obtain ⟨j, h1, h2, h3, h4, h5⟩ := atI_get he
  obtain ⟨w, ew, rw'⟩ := r.get h2
  have hl := r.length
  have hn := line63
  have fin : EP X pins σ Q w s := ⟨z, H, I, rw', q⟩
  by_cases h0 : 0 ≤ i
  · have hj : i.toNat = j := by
      rw [seqIndex_of h0 h5] at h1
      exact Option.some.inj h1
    exact item_listR pl.isList h0 (by omega) (by rw [hj]; simpa using ew) fin hs
  · have hj : (i + (its.toArray.size : Int)).toNat = j := by
      rw [seqIndex_neg (by omega) h4] at h1
      rw [List.size_toArray, ← hl]
      exact Option.some.inj h1
    exact subscriptTail_builtinR (x := w) pl.isList.typeIs slot_list_getitem.lookup
      (wpAny_getItem_list_neg (Q := fun r s' => r = w ∧ EP X pins σ Q r s') pl.isList (by omega) (by rw [List.size_toArray] <;> omega) (by omega) (by rw [hj]; simpa using ew) ⟨rfl, fin⟩) hs
theorem ix_str : IxR X rIxS := by
  intro value slice pins s σ H x y v u Q I rx ry h hs
  obtain ⟨z, i, c, rfl, rfl, hz, he, q⟩ := h
  obtain ⟨t, rfl⟩ := rx
  obtain ⟨t', rfl⟩ := ry
  obtain ⟨j, h1, h2, h3, h4, h5⟩ := atI_get he
  have hl : z.cps.toList.length = z.length := by simp [Str.length]
  rw [hl] at h1 h4 h5
  have hn := line63
  exact tail_any (typeIs_str s z t) slot_str_getitem.lookup (getItem_str (c := c) (by
    have e1 : decide (i < -(2 ^ 63 : Int)) = false := decide_eq_false (by omega)
    have e2 : decide (i ≥ 2 ^ 63) = false := decide_eq_false (by omega)
    rw [e1, e2, Bool.or_false]) (by rw [h1]; simpa using h2) ⟨.str ⟨#[c]⟩, H, I.tok _, ⟨_, rfl⟩, q⟩) hs
theorem slice_bounds (lo hi : Option Int) (n : Nat) : (sliceBounds lo hi none n).1 = ((HT.sIx n 0 lo : Nat) : Int) ∧ (sliceBounds lo hi none n).2.1 = ((HT.sIx n n hi : Nat) : Int) ∧ (sliceBounds lo hi none n).2.2 = 1 := by
  refine ⟨?_, ?_, rfl⟩
  · cases lo with
    | none => simp [sliceBounds, HT.sIx]
    | some i =>
      simp only [sliceBounds, HT.sIx, Option.getD_none, show (1 : Int) > 0 by decide, if_true]
      by_cases h : i < 0
      · simp only [h, if_true] <;> omega
      · simp only [h, if_false] <;> omega
  · cases hi with
    | none => simp [sliceBounds, HT.sIx]
    | some i =>
      simp only [sliceBounds, HT.sIx, Option.getD_none, show (1 : Int) > 0 by decide, if_true]
      by_cases h : i < 0
      · simp only [h, if_true] <;> omega
      · simp only [h, if_false] <;> omega
theorem slicePick_cut (its : List Value) (lo hi : Option Int) : slicePick its.toArray lo hi none = ((its.drop (HT.sIx its.length 0 lo)).take (HT.sIx its.length its.length hi - HT.sIx its.length 0 lo)).toArray := by
  obtain ⟨h1, h2, h3⟩ := slice_bounds lo hi its.toArray.size
  unfold slicePick
  rw [h1, h2, h3]
  simp only [sliceRange_one, pick_run, List.size_toArray] <;> rfl
def rSlL (K : PySem.W.Frag) : V → Option Int → Option Int → Hp → VK → Prop := fun x lo hi H Q => ∃ a xs, x = .ref a ∧ SqL K H a xs ∧ ∀ p, H p = none → Q (.ref p) (upd H p (.lst (cutV xs lo hi)))
theorem sl_list : SlR X (rSlL X.K) := by
  intro pins s σ H x v vl vu lo hi sl Q I rx hs pl pu h
  obtain ⟨a, xs, rfl, hx, q⟩ := h
  cases rx
  obtain ⟨its, r, ht, hz⟩ := I.list hx
  have hlen := r.length
  refine ⟨"list", _, slot_list_getitem.lookup, ht.isList.typeIs, ?_⟩
  refine wpAny_getItem_list_slice ht.isList hs pl pu .none (by simp) ?_ (by rw [List.size_toArray] <;> omega)
  rw [slicePick_cut, ← hlen]
  refine ⟨.ref s.heap.objs.size, _, I.laid (t' := s.toks) (o := .lst (cutV xs lo hi)) (fun b ob q => Heap.get?_push_of_some _ q) (Nat.le_refl _) ?_, rfl, q _ (I.hok.fresh (Nat.le_refl _))⟩
  exact ⟨Nat.le_trans (cutV_length xs lo hi) hz, _, 0, (r.drop (HT.sIx xs.length 0 lo)).take (HT.sIx xs.length xs.length hi - HT.sIx xs.length 0 lo), Heap.get?_push_size _ rfl⟩
theorem call_len_seq : CallR X (.builtin "len") (fun xs H Q => ∃ p ys, xs = [.ref p] ∧ (SqL X.K H p ys ∨ SqT X.K H p ys) ∧ Q (.int ys.length) H) := by
  intro pins s σ H xs us Q I r h
  obtain ⟨p, ys, rfl, hq, q⟩ := h
  obtain ⟨u, rfl, rx⟩ := vals1 r
  cases rx
  have hn := line63
  rcases hq with hq | hq
  · obtain ⟨its, r', pl, hz⟩ := I.list hq
    have hlen := r'.length
    exact Calls.call_len_list pl.isList (by simp only [List.size_toArray] <;> omega) ⟨.int ys.length, H, I.tok _, ⟨s.toks + 1, by rw [List.size_toArray, hlen]⟩, q⟩
  · obtain ⟨its, r', pl, hz⟩ := I.tuple hq
    have hlen := r'.length
    exact len_tuple pl (by simp only [List.size_toArray] <;> omega) ⟨.int ys.length, H, I.tok _, ⟨s.toks + 1, by rw [List.size_toArray, hlen]⟩, q⟩
theorem call_len_str : CallR X (.builtin "len") (fun xs H Q => ∃ z, xs = [.str z] ∧ z.length ≤ sizeLine ∧ Q (.int z.length) H) := by
  intro pins s σ H xs us Q I r h
  obtain ⟨z, rfl, hz, q⟩ := h
  obtain ⟨u, rfl, t, rfl⟩ := vals1 r
  have hn := line63
  exact len_str (by omega) ⟨.int z.length, H, I.tok _, ⟨_, rfl⟩, q⟩
def tyV (K : PySem.W.Frag) (T : String) (x : V) (H : Hp) : Prop := match x with
  | .str _ => T = "str"
  | .int _ => T = "int"
  | .ref p => (T = "list" ∧ ∃ xs, SqL K H p xs) ∨ (T = "tuple" ∧ ∃ o, K.lookup p = some o ∧ o.cls = .type "tuple" ∧ o.dict = none) ∨
      (T = "dict" ∧ ((∃ kvs, H p = some (.dK kvs)) ∨ ∃ kvs, H p = some (.dT kvs))) ∨ (T = "set" ∧ ∃ S n, H p = some (.set S n))
  | _ => False
theorem tyV_is {pins : List (Addr × Obj)} {σ : St} {H : Hp} {s : Shared} {T : String} {x : V} {v : Value} (I : Inv X pins σ H s) (r : RelV x v) (ty : tyV X.K T x H) :
    s.TypeIs v T ∧ ∀ a, v = .ref a → ∃ ob, s.heap.get? a = some ob ∧ ob.dict = none := by
  cases x with
  | str z =>
    obtain ⟨t, rfl⟩ := r
    cases (show T = "str" from ty)
    exact ⟨typeIs_str s z t, fun _ e => nomatch e⟩
  | int i =>
    obtain ⟨t, rfl⟩ := r
    cases (show T = "int" from ty)
    exact ⟨typeIs_int s i t, fun _ e => nomatch e⟩
  | ref p =>
    cases r
    rcases ty with ⟨rfl, xs, hq⟩ | ⟨rfl, o, hk, hc, hd⟩ | ⟨rfl, hk⟩ | ⟨rfl, S, n, hk⟩
    · obtain ⟨its, _, pl, _⟩ := I.list hq
      refine ⟨pl.isList.typeIs, fun a e => ?_⟩
      cases e
      obtain ⟨o, n, e, c, hd, _⟩ := pl
      exact ⟨o, e, hd⟩
    · refine ⟨⟨o, I.kIn p o hk, hc⟩, fun a e => ?_⟩
      cases e
      exact ⟨o, I.kIn _ o hk, hd⟩
    · have z : ∃ o, s.heap.get? p = some o ∧ o.ExactDict := by
        rcases hk with ⟨kvs, hk⟩ | ⟨kvs, hk⟩
        · obtain ⟨_, _, _, _, o, _, _, e, ex, _⟩ := I.hok p _ hk
          exact ⟨o, e, ex⟩
        · obtain ⟨_, _, _, _, o, _, _, e, ex, _⟩ := I.hok p _ hk
          exact ⟨o, e, ex⟩
      obtain ⟨o, e, ex⟩ := z
      refine ⟨⟨o, e, ex.1⟩, fun a e2 => ?_⟩
      cases e2
      exact ⟨o, e, ex.2.1⟩
    · obtain ⟨o, _, _, _, e, ex, _⟩ := I.hok p _ hk
      refine ⟨⟨o, e, ex.1⟩, fun a e2 => ?_⟩
      cases e2
      exact ⟨o, e, ex.2.1⟩
  | _ => exact False.elim ty
def tBM (K : PySem.W.Frag) (T : String) (r : V → List V → Hp → VK → Prop) (to : TE) (t : TA) : TE := fun σ H Q => to σ H fun x H1 => tyV K T x H1 ∧ t σ H1 fun xs H2 => r x xs H2 Q
variable {o e : Expr} {es : List Expr} {to : TE} {t : TA} {name : Str} {apos cpos : Pos} {T id : String} {r : V → List V → Hp → VK → Prop}
theorem pe_bm (pa : PlainAttrs T) (slot : Slot T name id) (hty : typeOf (.builtin id) = pure (.type "method_descriptor")) (hm : MtR X id r) (ho : PE X o to) (ha : PA X (e :: es) t)
    (hbase : attributeBase o name X.env (eval o X.env) = eval o X.env := by rfl)
    (hfew : ((backTo cpos (starEach (e :: es) X.env)).all (fun x => !x.1) && (backToKw cpos (keywordEach [] X.env)).all (fun x => x.1.isSome)
      && decide ((e :: es).length + ([] : List Keyword).length + (if ([] : List Keyword).isEmpty then 0 else 1) < 30)) = true := by rfl)
    (hline : (apos.endLine == cpos.line) = true := by rfl) (hs : starEach (e :: es) X.env = (false, eval e X.env) :: starEach es X.env := by rfl) (hplain : (backTo cpos (starEach es X.env)).any (·.1) = false := by rfl) :
    PE X (.Call (.Attribute o name apos) (e :: es) [] cpos) (tBM X.K T r to t) := by
  intro pins s σ H Q I h
  refine wpAny_Call_method_late hbase hfew hline rfl (thn (ho pins s σ H _ I h) fun v s1 ⟨x, H1, I1, r1, ty, q1⟩ => ?_)
  obtain ⟨h1, h2⟩ := tyV_is I1 r1 ty
  refine ⟨T, id, pa, slot, hty, h1, h2, ?_⟩
  have hA := ha cpos pins s1 σ H1 _ I1 q1
  rw [hs] at hA ⊢
  refine Calls.callWith_builtin (by show (false || (backTo cpos (starEach es X.env)).any (·.1)) = false; rw [hplain] <;> rfl) (Calls.evalArgs_plain ?_)
  exact thn hA fun us s2 ⟨vs, H2, I2, r2, q2⟩ => hm pins s2 σ H2 x vs v us Q I2 r1 r2 q2
/- xs.append(e), list.index on a module's tuple .. are MtR facts of 06m -/
end
end L2
namespace L2
open PySem PySem.Spec PyProof.Rows
def MtM (X : Cx) (id : String) (r : V → List V → Hp → VK → Prop) : Prop :=
  ∀ (pins : List (Addr × Obj)) (s : Shared) (σ : St) (H : Hp) (x : V) (xs : List V) (v : Value) (us : List Value) (Q : VK), Inv X pins σ H s → RelV x v → Vals xs us → r x xs H Q →
    wpAny (model X.prog X.w) X.A (call (.builtin id) (v :: us)) (EP X pins σ Q) X.xe s
theorem Vals.one : ∀ {x : V} {us : List Value}, Vals [x] us → ∃ u, us = [u] ∧ RelV x u
  | _, _, .cons r .nil => ⟨_, rfl, r⟩
section
variable {X : Cx} {pins : List (Addr × Obj)} {σ : St} {H : Hp} {s : Shared} {l b : Addr} {xs ys zs : List V}
theorem Inv.lset {its its' : List Value} {n : Nat} {f : Array Value → Array Value} {t' : Nat} (I : Inv X pins σ H s) (hH : H l = some (.lst xs))
    (e : s.heap.get? l = some { cls := .type "list", data := .seq its.toArray n }) (hf : f its.toArray = its'.toArray) (hv : Vals ys its') (hz : ys.length ≤ sizeLine) :
    Inv X pins σ (upd H l (.lst ys)) { s with heap := s.heap.update l (Obj.mapSeq f), toks := t' } := by
  have q := PySem.IsL.update e f
  rw [hf] at q
  refine I.write (x := l) (e := l) (by rw [hH]; exact trivial) (.inl rfl) (fun b' u hb hu => (Heap.get?_update_other s.heap (Obj.mapSeq f) (Ne.symm hb)).trans hu) ⟨_, q⟩ ?_
  exact ⟨hz, its', _, hv, q⟩
theorem Inv.lnew {its : List Value} {t' : Nat} (I : Inv X pins σ H s) (hv : Vals ys its) (hz : ys.length ≤ sizeLine) :
    Inv X pins σ (upd H s.heap.objs.size (.lst ys)) { s with heap := s.heap.push { cls := .type "list", data := .seq its.toArray }, toks := t' } :=
  I.laid (fun _ _ q => Heap.get?_push_of_some _ q) (Nat.le_refl _) ⟨hz, its, 0, hv, Heap.get?_push_size _ rfl⟩
theorem Inv.fresh (I : Inv X pins σ H s) : H s.heap.objs.size = none := I.hok.fresh (Nat.le_refl _)
theorem Inv.lstM (I : Inv X pins σ H s) (hH : H l = some (.lst xs)) : xs.length ≤ sizeLine ∧ ∃ (its : List Value) (n : Nat), Vals xs its ∧ xs.length = its.length ∧ s.heap.get? l = some { cls := .type "list", data := .seq its.toArray n } := by
  obtain ⟨z, its, n, r, e⟩ := I.hok l _ hH
  exact ⟨z, its, n, r, r.length, e⟩
end
section
variable {X : Cx}
def rAppend : V → List V → Hp → VK → Prop := fun x vs H Q => ∃ l xs y, x = .ref l ∧ vs = [y] ∧ H l = some (.lst xs) ∧ xs.length < sizeLine ∧ Q .non (upd H l (.lst (xs ++ [y])))
theorem mt_append : MtM X "list.append" rAppend := by
  intro pins s σ H x vs v us Q I rx rv h
  obtain ⟨l, xs, y, rfl, rfl, hH, hz, q⟩ := h
  cases rx
  obtain ⟨u, rfl, ru⟩ := rv.one
  obtain ⟨z, its, n, r, hl, e⟩ := I.lstM hH
  refine call_meets F.slot_list_append ⟨_, e, rfl⟩ F.entry_list_append (F.args_list_append_2 _ _) (PySem.list_append l its.toArray n u (by rw [List.size_toArray]; omega)) ⟨e, ?_⟩
  refine ⟨.non, _, I.lset (its' := its ++ [u]) hH e (by simp) (r.append (.cons ru .nil)) ?_, rfl, q⟩
  rw [List.length_append, List.length_singleton]
  omega
end
section
variable {prog : Program} {w : World} {A : Around} {E : Value → Shared → Prop} {s : Shared}
set_option maxRecDepth 100000 in
end
section
variable {X : Cx}
end
end L2
namespace Att
open PySem PySem.W PySem.Calls PyProof.Rows
theorem ints_of_wellAll {P : Params} {h : Heap} : ∀ (ns : List Int) (vs : List Value), WellAll P h vs (ns.map WData.int) → IntsAre vs ns := by
  intro ns
  induction ns with
  | nil =>
    intro vs w
    rw [List.map_nil] at w
    cases w
    exact .nil
  | cons n ns ih =>
    intro vs w
    rw [List.map_cons] at w
    cases w with
    | cons a b =>
      cases a
      exact .cons _ _ (ih _ b)
theorem script_of {l : OpenLaw} {n : Nat} (hn : l.most = some n) {P : Params} {h : Heap} {args : List WData} {vals : List Value}
    (hpre : l.row.toRowW.claim.pre args = true) (hwl : WellAll P h vals args) :
    ∃ a vs ns, vals = [Value.ref a] ∧ args = [WData.list (ns.map WData.int)] ∧ h.get? a = some { cls := .type "list", data := .seq vs.toArray } ∧ IntsAre vs ns ∧ ns.length ≤ n := by
  have hsh : WShape.hasAll [] args [.list .int] = true := (pre_splitW hpre).1
  have hc : l.pre.holds [] { args := args } = true := (pre_splitW hpre).2
  obtain ⟨d, r, rfl, h1, h2⟩ := hasAllW_cons hsh
  obtain rfl := hasAllW_nil h2
  obtain ⟨xs, rfl, h3⟩ := hasW_list h1
  obtain ⟨ns, rfl⟩ := items_int h3
  have hlen : ns.length ≤ n := by
    unfold OpenLaw.pre at hc
    have h4 : (WTm.not (.lt (.lit (.int (n : Int))) (.len (.arg 0)))).holds [] { args := [.list (ns.map .int)] } = true := by
      have h4 := (holds_andW hc).1
      rw [hn] at h4
      exact h4
    have h5 := condW_of h4 (w_not (w_lt w_lit (w_len_list (w_arg rfl))))
    rw [List.length_map] at h5
    refine Nat.le_of_not_lt fun q => ?_
    have q' : (n : Int) < ((ns.length : Nat) : Int) := by omega
    first
      | (rw [decide_eq_true q'] at h5; exact absurd h5 (by decide))
      | (simp at h5; omega)
  cases hwl with
  | cons w1 w2 =>
    cases w2
    cases w1 with
    | list ho hall => exact ⟨_, _, ns, rfl, rfl, ho, ints_of_wellAll ns _ hall, hlen⟩
theorem post_true (l : OpenLaw) (args : List WData) : l.row.toRowW.claim.post args (.bool true) args = true :=
  postW_of (r := l.row.toRowW) (X := (true == true))
    (show WShape.has [] (.bool true) .bool = true by first | rfl | decide | simp [WShape.has, WShape.arms, WShape.armsAll])
    (show (WTm.eq .res (.lit (.bool true))).value [] { args := args, res := some (.bool true), after := args } = some (.bool (true == true)) from w_eq_bool (w_res rfl) w_lit) rfl
theorem attach_call {l : OpenLaw} {n : Nat} {q : Program} {loose : List Str} {XP : (Str → Option Value) → Heap → Prop} {YP : World → Heap → Prop} {d : DefRec}
    (hn : l.most = some n) (hdf : d.params.defaults = [])
    (call : ∀ (w : World) (s₀ s₁ : Shared) (mg mb : Str → Option Value) (fa : Addr) (o : Obj) (pm cd doc : Value) (a : Addr) (vs : List Value) (ns : List Int),
      Ground q loose [] XP w s₀ mg mb s₁.heap → YP w s₁.heap →
      s₁.heap.get? fa = some o → o.data = .func (docDef d.name d.params d.body d.scope pm cd doc) → s₁.heap.CodeRec cd d.name → mg d.name = some (.ref fa) →
      s₁.heap.get? a = some { cls := .type "list", data := .seq vs.toArray } → IntsAre vs ns → ns.length ≤ n → s₁.gens = #[] →
      codeAny (model l.prog w) callerA (.call (.ref fa) ⟨[.ref a], []⟩) (fun r s' => r = .ok (.ret (.bool true)) ∧ OldK s₁.heap s'.heap ∧ s'.os = s₁.os ∧ AllBare s'.gens) s₁) :
    WalkO q loose XP YP l.row.toRowW d [] (fun f vs => PySem.call f vs) := by
  intro w s₀ s₁ mg mb G Y fa o pm cd doc dV kV ho hd hcd hD hmg hg args vals as hpre hlay hrd hwl hlo
  obtain rfl : dV = .none := Dflts.none hD hdf
  obtain rfl : kV = .none := Dflts.noKw hD
  obtain ⟨a, vs, ns, rfl, rfl, hobj, hints, hlen⟩ := script_of hn hpre hwl
  refine enter_call (codeAny_mono (call w s₀ s₁ mg mb fa o pm cd doc a vs ns G Y ho (fd_plain hd) hcd hmg hobj hints hlen hg) fun r s' hq => ?_)
  obtain ⟨rfl, h2, h3, h4⟩ := hq
  exact ⟨.inl ⟨.bool true, .bool true, [], rfl, fun _ => rfl, .bool true, post_true l _, fun _ => ⟨List.Pairwise.nil, fun _ hm => (nomatch hm)⟩⟩, h2, h3, h4⟩
section
variable {prog : Program} {w : World} {A : Around} {E : Value → Shared → Prop} {s : Shared} {K : Frag}
def ledger (h : Heap) (L d : Addr) : List (Addr × Obj) := (List.range h.objs.size).filterMap fun a => if a = L ∨ a = d then none else (h.get? a).map fun o => (a, o)
end
end Att
namespace L2
open PySem PySem.Spec PyProof.Rows
theorem vals_ints : ∀ {vs : List Value} {ns : List Int}, IntsAre vs ns → Vals (ns.map V.int) vs
  | _, _, .nil => .nil
  | _, _, .cons n t h => .cons ⟨t, rfl⟩ (vals_ints h)
def Only (H : Hp) : Prop := ∀ b, H b = none ∨ ∃ o xs, H b = some (.frz o (.lst xs))
theorem law_call {P : Program} {w : World} {K : PySem.W.Frag} {mg mb : Str → Option Value} {CX : CXT} {k : Nat} {fa a : Addr} {fd : FuncData} {x : Str} {sp : Sp} {s₁ : Shared} {vs : List Value} {ns : List Int}
    (KX : K.In s₁.heap) (hns : s₁.heap.Ns mainGlobals mg) (hb : s₁.heap.Ns builtinsNs mb) (hbb : ∀ x : Str, x ≠ "__name__" → mb x = bootBuiltins x) (hlim : s₁.heap.NoLimit) (hg : s₁.gens = #[])
    (ha : s₁.heap.get? a = some { cls := .type "list", data := .seq vs.toArray }) (hi : IntsAre vs ns) (hl : ns.length ≤ sizeLine) (hr : Room k callerA)
    (F : ∀ base : Heap, K.In base → base.Ns mainGlobals mg → FnOk P w K mg base CX k fa fd [x] sp) (hbind : ∀ (s : Shared) (u : Value), BindsTo s fd ⟨[u], []⟩ [(x, u)])
    (hsp : ∀ H : Hp, Only H → SqL K H a (ns.map V.int) → sp [.ref a] H (fun v _ => v = .bl true) fun _ _ _ => False)
    (hCX : ∀ H e s', CX [] H s₁ (fun _ _ _ => False) e s' → False) :
    codeAny (model P w) callerA (.call (.ref fa) ⟨[.ref a], []⟩) (fun r s' => r = .ok (.ret (.bool true)) ∧ OldK s₁.heap s'.heap ∧ s'.os = s₁.os ∧ AllBare s'.gens) s₁ := by
  have rv := vals_ints hi
  have lenV := hi.length
  have core : ∀ H : Hp, Only H → SqL K H a (ns.map V.int) → HOk P w H s₁.heap → (∀ b, H b ≠ none → b = a) → (H a ≠ none → K.lookup a = none) →
      codeAny (model P w) callerA (.call (.ref fa) ⟨[.ref a], []⟩) (fun r s' => r = .ok (.ret (.bool true)) ∧ OldK s₁.heap s'.heap ∧ s'.os = s₁.os ∧ AllBare s'.gens) s₁ := by
    intro H hO hS hok hA hK
    have base_of : ∀ {b : Addr} {o : Obj}, s₁.heap.get? b = some o → H b = none → (hidT s₁.heap H).get? b = some o := fun e n => hidT_get e n
    have noA : ∀ {b : Addr} {o : Obj} {es : Array DictEntry} {ep : Nat}, s₁.heap.get? b = some o → o.data = .dict es ep → H b = none := fun {b o es ep} e d => by
      cases q : H b with
      | none => rfl
      | some u =>
        have e' : b = a := hA b (by rw [q]; simp)
        subst e'
        rw [ha] at e; cases e
        have d' : Data.seq vs.toArray _ = Data.dict es ep := d
        cases d'
    have nsK : ∀ {b : Addr} {m : Str → Option Value}, s₁.heap.Ns b m → (hidT s₁.heap H).Ns b m := fun {b m} ⟨o, es, ep, e, d, r⟩ => ⟨o, es, ep, base_of e (noA e d), d, r⟩
    have hKb : K.In (hidT s₁.heap H) := fun b o e => base_of (KX b o e) (by
      cases q : H b with
      | none => rfl
      | some u =>
        have e' : b = a := hA b (by rw [q]; simp)
        subst e'
        rw [hK (by rw [q]; simp)] at e; cases e)
    have hM : Mod K mg (hidT s₁.heap H) := ⟨hKb, nsK hns, ⟨mb, nsK hb, hbb⟩, let ⟨mc, h1, h2⟩ := hlim; ⟨mc, nsK h1, h2⟩⟩
    have e0 : Env0 P w K mg (hidT s₁.heap H) callerA [] s₁ H := ⟨rfl, hM, fun b o e => of_hidT e, Nat.le_of_eq (hidT_size _ _), trivial, fun b hb => absurd (show b ∈ ([] : List Addr) from hb) (by simp), hok, .of_eq hg⟩
    refine codeAny_mono ((F _ hKb (nsK hns)).run callerA [] s₁ H ⟨[.ref a], []⟩ [.ref a] [.ref a] _ _ hr e0 (hbind s₁ (.ref a)) (.cons rfl .nil) (hsp H hO hS)) fun r s' h => ?_
    cases r with
    | error e => exact (hCX H e s' h).elim
    | ok fl =>
      cases fl with
      | next => exact False.elim h
      | brk => exact False.elim h
      | cont => exact False.elim h
      | ret u =>
        obtain ⟨v, H', os, bare, un, hok', r', q⟩ := h
        have q' : v = .bl true := q
        subst q'
        obtain rfl : u = Value.bool true := r'
        refine ⟨rfl, OldK.of_keep fun b o e => ?_, os, bare⟩
        cases q : H b with
        | none => exact un.keep b o e q (by intro z; exact absurd (show b ∈ ([] : List Addr) from z) (by simp)) (by simp)
        | some u =>
          rcases hO b with z | ⟨ob, xs, z⟩
          · rw [q] at z; cases z
          · have z2 := un.frzs b ob _ z
            obtain ⟨e1, _⟩ := hok b _ z
            obtain ⟨e2, _⟩ := hok' b _ z2
            rw [e] at e1; cases e1
            exact e2
  cases hk : K.lookup a with
  | some o =>
    have e := KX a o hk
    rw [ha] at e
    cases e
    refine core (fun _ => none) (fun _ => .inl rfl) (.inr ⟨_, vs.toArray, _, hk, rfl, rfl, rfl, by rw [List.size_toArray, lenV]; exact hl, by simpa using rv⟩) (fun b u z => by have z' : (none : Option HO) = some u := z; cases z') (fun b z => absurd rfl z) fun z => absurd rfl z
  | none =>
    refine core (fun b => if b = a then some (.frz { cls := .type "list", data := .seq vs.toArray } (.lst (ns.map V.int))) else none) (fun b => ?_) (.inl (.inr ⟨{ cls := .type "list", data := .seq vs.toArray }, if_pos rfl⟩)) (fun b u z => ?_) (fun b z => ?_) fun _ => hk
    · by_cases hb : b = a
      · exact .inr ⟨_, _, if_pos hb⟩
      · exact .inl (if_neg hb)
    · by_cases hb : b = a
      · have z' := (if_pos hb).symm.trans z
        cases z'
        subst hb
        exact ⟨ha, by rw [List.length_map]; exact hl, vs, _, rv, ha⟩
      · have z' := (if_neg hb).symm.trans z
        cases z'
    · by_cases hb : b = a
      · exact hb
      · exact absurd (if_neg hb) z
end L2
namespace L2
open PySem PySem.Spec PyProof.Rows
abbrev KOf {K : PySem.W.Frag} {h : Heap} (_ : K.In h) : PySem.W.Frag := K
theorem walk_of {l : PySem.W.OpenLaw} {n k : Nat} {q : Program} {loose : List Str} {XP : (Str → Option Value) → Heap → Prop} {YP : World → Heap → Prop} {d : DefRec} {K : Params → PySem.W.Frag} {CX : World → CXT} {sp : World → Sp} {x : Str}
    (hn : l.most = some n) (hn2 : n ≤ sizeLine) (hdf : d.params.defaults = []) (hr : Room k callerA)
    (hY : ∀ (w : World) (h : Heap), YP w h → (K w.params).In h)
    (F : ∀ (w : World) (mg : Str → Option Value) (fa : Addr) (h : Heap), (K w.params).In h → h.Ns mainGlobals mg → mg d.name = some (.ref fa) →
      ∃ fd : FuncData, (∀ (s : Shared) (u : Value), BindsTo s fd ⟨[u], []⟩ [(x, u)]) ∧
        ∀ base : Heap, (K w.params).In base → base.Ns mainGlobals mg → FnOk l.prog w (K w.params) mg base (CX w) k fa fd [x] (sp w))
    (hsp : ∀ (w : World) (H : Hp) (a : Addr) (ns : List Int), ns.length ≤ n → Only H → SqL (K w.params) H a (ns.map V.int) → sp w [.ref a] H (fun v _ => v = .bl true) fun _ _ _ => False)
    (hCX : ∀ (w : World) (H : Hp) (s : Shared) (e : Value) (s' : Shared), CX w [] H s (fun _ _ _ => False) e s' → False) :
    PySem.W.WalkO q loose XP YP l.row.toRowW d [] (fun f vs => PySem.call f vs) := by
  refine Att.attach_call hn hdf fun w s₀ s₁ mg mb fa o pm cd doc a vs ns G Y ho hd hcd hmg hobj hints hlen hg => ?_
  have KX := hY w _ Y
  obtain ⟨fd, hb, hF⟩ := F w mg fa _ KX G.T.g hmg
  exact law_call KX G.T.g G.T.b G.T.builtins G.T.nolimit hg hobj hints (Nat.le_trans hlen hn2) hr hF hb (fun H hO hS => hsp w H a ns hlen hO hS) fun H e s' => hCX w H s₁ e s'
end L2
/- THE LAST THEOREM (shape; LID, My.* are yours):
   My.Adr: a structure of the addresses that your layer names (classes, functions); My.Txt K t: a structure (Prop) of the equations over K;
   My.txt_mk : {K} {implicit addresses ..} (e1 : nsIn K mainGlobals "law" = some (some (.ref f))) (e2 : K.lookup f = some ⟨oc, od, .func (fnOf "law" "law" params body scope dV kV doc pm an cdv ct), sl⟩) (e3 : codeIn K cdv "law" = true) .. : ∃ t, My.Txt K t
set_option maxRecDepth 100000 in
set_option maxHeartbeats 0 in
theorem PySem.Challenge.cw_LID_holds : PySem.Challenge.rw_LID.Holds := by
  w_on; o_law; k_head; (case hw => w_witness2)
  k_fill
  refine L2.walk_of (l := PySem.Challenge.rw_LID) (n := 63) (k := 40) (x := "script") (CX := fun w => ..) (sp := fun _ => My.sp_law) rfl (by decide) rfl ⟨rfl, by decide, by decide⟩ (fun w h Y => PySem.W.kIn_of Y) ?F ?S ?C
  case F =>
    intro w mg fa h KX G hmg
    have T : ∃ t, My.Txt (L2.KOf KX) t := by
      dsimp only [L2.KOf]                          -- K must stand as «<heap const> w.params» for k_is
      refine' My.txt_mk ?e1 ?e2 ?e3 ..
      (case e1 => PySem.W.k_is)                    -- in the order: a name -> its address -> its object -> its parts
      (case e2 => PySem.W.k_is)
      ..
    obtain ⟨t, T⟩ := T
    have e0 := hmg.symm.trans (PySem.W.mg_of KX G T.law)
    cases e0                                       -- fa is the law's own address
    exact ⟨_, fun s u => .of_eq rfl, fun base kb nb => My.law_fn T kb nb⟩     -- if «.of_eq rfl» comes too early: refine' ⟨_, ?b, fun base kb nb => My.law_fn T kb nb⟩; exact fun s u => .of_eq rfl
  case S => exact fun w H a ns hl hO hS => ..
  case C => exact ..
(the tactic k_is has no namespace: write k_is) -/
namespace L2
open PySem PySem.Spec PyProof.Rows
def inClass (s : Stmt) (j : Nat) : Stmt := match s with
  | .ClassDef _ _ _ body _ _ _ _ _ _ _ => body.getD j (.Pass ⟨0, 0, 0, 0⟩)
  | _ => .Pass ⟨0, 0, 0, 0⟩
def defArgs (s : Stmt) : Arguments := match s with
  | .FunctionDef _ a _ _ _ _ _ _ _ _ => a
  | _ => { posonlyargs := [], args := [], vararg := none, kwonlyargs := [], kw_defaults := [], kwarg := none, defaults := [] }
def defBody (s : Stmt) : List Stmt := match s with
  | .FunctionDef _ _ b _ _ _ _ _ _ _ => b
  | _ => []
def defScope (s : Stmt) : Scope := match s with
  | .FunctionDef _ _ _ _ _ _ sc _ _ _ => sc
  | _ => { kind := .function, names := [], isGenerator := false, isCoroutine := false }
abbrev CX0 : CXT := fun _ _ _ _ _ _ => False
abbrev E0 : XK := fun _ _ _ => False
theorem pass0 {X : Cx} : Passes CX0 X E0 := fun _ _ _ _ _ _ _ h => h.elim
structure Fun (K : PySem.W.Frag) (x qual : Str) (st : Stmt) (f : Addr) (fd : FuncData) : Prop where
  ex : ∃ (oc : Value) (od : Option Addr) (kV doc pm : Value) (an : Option Addr) (cdv ct : Value) (osl : Array (Option Value)),
    fd = PySem.W.fnOf x qual (defArgs st) (defBody st) (defScope st) .none kV doc pm an cdv ct ∧ K.lookup f = some ⟨oc, od, .func fd, osl⟩ ∧ PySem.W.codeIn K cdv qual = true
  kp : PySem.W.keepIn K (.ref f) = true
section
variable {P : Program} {w : World} {K : PySem.W.Frag} {mg : Str → Option Value} {base : Heap}
theorem Fun.ok {x qual : Str} {st : Stmt} {f : Addr} {fd : FuncData} {N ps : List Str} {k : Nat} {sp : Sp} (F : Fun K x qual st f fd) (S : FnScope N ps (defScope st)) (len : ∀ vs H Q E, sp vs H Q E → vs.length = ps.length)
    (hbody : ∀ (cdv : Value) (A : Around) (outer : List Env) (s : Shared) (H : Hp) (vs : List V) (Q : VK) (E : XK), Room k (A.deeper (envOfC qual (defScope st) s.heap.objs.size f cdv)) → sp vs H Q E →
      ∃ t, PSs (cxOf CX0 P w K mg base N qual (defScope st) f cdv A outer s H E).nox (defBody st) t ∧ t { nx := fun _ H' => Q .non H', rt := Q } (start N vs) H) : FnOk P w K mg base CX0 (k + 1) f fd ps sp := by
  obtain ⟨oc, od, kV, doc, pm, an, cdv, ct, osl, rfl, lk, hcd⟩ := F.ex
  refine fn_of lk hcd S len fun A outer s H vs Q E hr hsp => ?_
  obtain ⟨t, h, q⟩ := hbody cdv A outer s H vs Q E hr hsp
  exact ⟨t, h.nox, q⟩
theorem Fun.binds {x qual : Str} {st : Stmt} {f : Addr} {fd : FuncData} {ps : List Str} (F : Fun K x qual st f fd)
    (h : ∀ (kV doc pm : Value) (an : Option Addr) (cdv ct : Value) (us : List Value), us.length = ps.length → bindArgs (PySem.W.fnOf x qual (defArgs st) (defBody st) (defScope st) .none kV doc pm an cdv ct) ⟨us, []⟩ = pure (ps.zip us)) : Binds K fd ps [] := by
  obtain ⟨oc, od, kV, doc, pm, an, cdv, ct, osl, rfl, lk, hcd⟩ := F.ex
  exact .all (h kV doc pm an cdv ct)
theorem fun_mk {x qual : Str} {st : Stmt} {f : Addr} {oc : Value} {od an : Option Addr} {osl : Array (Option Value)} {kV doc pm cdv ct : Value} (l : K.lookup f = some ⟨oc, od, .func (PySem.W.fnOf x qual (defArgs st) (defBody st) (defScope st) .none kV doc pm an cdv ct), osl⟩)
    (c : PySem.W.codeIn K cdv qual = true) (k : PySem.W.keepIn K (.ref f) = true) : Fun K x qual st f (PySem.W.fnOf x qual (defArgs st) (defBody st) (defScope st) .none kV doc pm an cdv ct) := ⟨⟨oc, od, kV, doc, pm, an, cdv, ct, osl, rfl, l, c⟩, k⟩
end
section
variable {X : Cx}
theorem pv (i : Nat) {x : Str} {pos : Pos} (hN : X.N[i]? = some x := by rfl) (hv : Vis X.env.scope x := by first | exact Or.inl rfl | exact Or.inr (Or.inl rfl) | exact Or.inr (Or.inr rfl)) (hd : (x == ("__debug__" : Str)) = false := by decide)
    (hcd : (x == ("__classdict__" : Str)) = false := by decide) : PE X (.Name x pos) (tVar i) := pe_var hN hv hd hcd
end
theorem iteF {A B : Prop} (h : B) : if false = true then A else B := by
  rw [if_neg Bool.false_ne_true]
  exact h
theorem iteT {A B : Prop} (h : A) : if true = true then A else B := by
  rw [if_pos rfl]
  exact h
theorem ite2 {c A B : Prop} [Decidable c] (h1 : c → A) (h2 : ¬ c → B) : if c then A else B := by
  by_cases h : c
  · rw [if_pos h]
    exact h1 h
  · rw [if_neg h]
    exact h2 h
def Same (H H' : Hp) : Prop := ∀ b o, H b = some o → H' b = some o
theorem Same.trans {H H1 H2 : Hp} (a : Same H H1) (b : Same H1 H2) : Same H H2 := fun c o h => b c o (a c o h)
theorem Same.seq {K : PySem.W.Frag} {H H' : Hp} {a : Addr} {xs : List V} (e : Same H H') (h : SqL K H a xs) : SqL K H' a xs := by
  rcases h with (h | ⟨o, h⟩) | h
  · exact .inl (.inl (e _ _ h))
  · exact .inl (.inr ⟨o, e _ _ h⟩)
  · exact .inr h
end L2
set_option maxHeartbeats 4000000
namespace L2
open PySem PySem.Spec PyProof.Rows
section
variable {X : Cx}
theorem call_isinst : CallR X (.builtin "isinstance") (fun xs H Q => ∃ x T t b, xs = [x, .ty T] ∧ TyOf X.K H x t ∧ PySem.W.kitOne X.K t (.type T) = some b ∧ Q (.bl b) H) := by
  intro pins s σ H xs us Q I r h
  obtain ⟨x, T, t, b, rfl, ty, e, q⟩ := h
  obtain ⟨u, c, rfl, rx, rc⟩ := vals2 r
  cases (show c = Value.type T from rc)
  exact isinst_ok I rx ty e fun tk => ⟨.bl b, H, I.tok tk, rfl, q⟩
end
section
variable {X : Cx}
def cutS (z : Str) (lo hi : Option Int) : Str := ⟨((z.cps.toList.drop (HT.sIx z.length 0 lo)).take (HT.sIx z.length z.length hi - HT.sIx z.length 0 lo)).toArray⟩
theorem sIx_clip (n d : Nat) (v : Int) : max (0 : Int) (min (if v < 0 then v + (n : Int) else v) (n : Int)) = ((HT.sIx n d (some v) : Nat) : Int) := by
  show _ = (((if v < 0 then (v + (n : Int)).toNat else min v.toNat n) : Nat) : Int)
  by_cases hv : v < 0
  · simp only [if_pos hv]; omega
  · simp only [if_neg hv]; omega
theorem strIx_eq (lo hi : Option Int) (n : Nat) : Builtin.Str.strSliceIndices lo hi 1 n = (List.range (HT.sIx n n hi - HT.sIx n 0 lo)).map (fun k => HT.sIx n 0 lo + k) := by
  have h1 : (1 : Int) > 0 := by decide
  have hb : HT.sIx n n hi ≤ n := HT.sIx_le _ _ (Nat.le_refl _) hi
  have ha : HT.sIx n 0 lo ≤ n := HT.sIx_le _ _ (Nat.zero_le _) lo
  have key : ∀ a b : Nat, sliceRange (a : Int) (b : Int) 1 = (List.range (b - a)).map (fun k => a + k) := fun a b => sliceRange_one a b
  unfold Builtin.Str.strSliceIndices
  simp only [h1, if_true]
  cases lo with
  | none =>
    cases hi with
    | none => exact key 0 n
    | some v =>
      dsimp only
      rw [sIx_clip n n v]
      exact key 0 _
  | some u =>
    cases hi with
    | none =>
      dsimp only
      rw [sIx_clip n 0 u]
      exact key _ n
    | some v =>
      dsimp only
      rw [sIx_clip n n v, sIx_clip n 0 u]
      exact key _ _
theorem strPick_eq (z : Str) (lo hi : Option Int) : (Builtin.Str.strSliceIndices lo hi 1 z.length).filterMap (z.cps[·]?) = (z.cps.toList.drop (HT.sIx z.length 0 lo)).take (HT.sIx z.length z.length hi - HT.sIx z.length 0 lo) := by
  rw [strIx_eq]
  exact pick_run z.cps _ _
theorem strSlice_eq (z : Str) (lo hi : Option Int) : (if ((1 : Int) == 1 && (Builtin.Str.strSliceIndices lo hi 1 z.length).length == z.length) = true then z else ⟨((Builtin.Str.strSliceIndices lo hi 1 z.length).filterMap (z.cps[·]?)).toArray⟩) = cutS z lo hi := by
  rw [strPick_eq]
  split
  · rename_i h
    have hl : HT.sIx z.length z.length hi - HT.sIx z.length 0 lo = z.length := by
      rw [strIx_eq] at h
      simpa using h
    have hb : HT.sIx z.length z.length hi ≤ z.length := HT.sIx_le _ _ (Nat.le_refl _) hi
    have h0 : HT.sIx z.length 0 lo = 0 := by
      by_cases q : z.length = 0
      · have ha : HT.sIx z.length 0 lo ≤ z.length := HT.sIx_le _ _ (Nat.zero_le _) lo
        omega
      · omega
    unfold cutS
    rw [hl, h0, List.drop_zero, List.take_of_length_le (by simp [Str.length])]
  · rfl
def rSlS : V → Option Int → Option Int → Hp → VK → Prop := fun x lo hi H Q => ∃ z, x = .str z ∧ z.length ≤ sizeLine ∧ Q (.str (cutS z lo hi)) H
theorem cutS_len (z : Str) (lo hi : Option Int) : (cutS z lo hi).length ≤ z.length := by
  show (List.take _ (List.drop _ z.cps.toList)).toArray.size ≤ z.cps.size
  rw [List.size_toArray, List.length_take, List.length_drop, Array.length_toList]
  omega
theorem sl_str : SlR X rSlS := by
  intro pins s σ H x v vl vu lo hi sl Q I rx hs pl pu h
  obtain ⟨z, rfl, hz, q⟩ := h
  obtain ⟨t, rfl⟩ := rx
  refine ⟨"str", _, F.slot_str_getitem.lookup, typeIs_str _ _ _, ?_⟩
  have fin : ∀ (l u : Option (Int × Tok)), l.map (·.1) = lo → u.map (·.1) = hi → (sliceMade z t l u none).post (EP X pins σ Q) s := fun l u el eu => by
    subst el; subst eu
    refine post_val_or_str ?_
    have e := strSlice_eq z (l.map (·.1)) (u.map (·.1))
    have e' : (if (((none : Option (Int × Tok)).map (·.1)).getD 1 == 1 && (slicePicked z l u none).length == z.length) = true then z else ⟨((slicePicked z l u none).filterMap (z.cps[·]?)).toArray⟩) = cutS z (l.map (·.1)) (u.map (·.1)) := e
    rw [e']
    exact ⟨Nat.le_trans (cutS_len _ _ _) hz, fun t' k => ⟨.str _, H, I.tok k, ⟨t', rfl⟩, q⟩⟩
  cases pl with
  | none =>
    cases pu with
    | none => exact wpAny_getItem_str_slice (l := none) (u := none) (st := none) hs rfl (fin none none rfl rfl)
    | int j tj => exact wpAny_getItem_str_slice (l := none) (u := some (j, tj)) (st := none) hs rfl (fin none (some (j, tj)) rfl rfl)
  | int i ti =>
    cases pu with
    | none => exact wpAny_getItem_str_slice (l := some (i, ti)) (u := none) (st := none) hs rfl (fin (some (i, ti)) none rfl rfl)
    | int j tj => exact wpAny_getItem_str_slice (l := some (i, ti)) (u := some (j, tj)) (st := none) hs rfl (fin (some (i, ti)) (some (j, tj)) rfl rfl)
end
mutual
inductive RdV (K : PySem.W.Frag) (H : Hp) : V → PyData → Prop where
  | non : RdV K H .non .none
  | bl (b : Bool) : RdV K H (.bl b) (.bool b)
  | int (i : Int) : RdV K H (.int i) (.int i)
  | str (x : Str) : RdV K H (.str x) (.str x)
  | lst {a : Addr} {xs : List V} {ds : List PyData} : SqL K H a xs → RdAll K H xs ds → RdV K H (.ref a) (.list ds)
  | tup {a : Addr} {xs : List V} {ds : List PyData} : SqT K H a xs → RdAll K H xs ds → RdV K H (.ref a) (.tuple ds)
inductive RdAll (K : PySem.W.Frag) (H : Hp) : List V → List PyData → Prop where
  | nil : RdAll K H [] []
  | cons {v : V} {vs : List V} {d : PyData} {ds : List PyData} : RdV K H v d → RdAll K H vs ds → RdAll K H (v :: vs) (d :: ds)
end
section
variable {X : Cx} {pins : List (Addr × Obj)} {σ : St} {H : Hp} {s : Shared}
mutual
theorem RdV.reads (I : Inv X pins σ H s) : ∀ {v : V} {d : PyData} {u : Value}, RdV X.K H v d → RelV v u → ∃ as, Reads s.heap u d as
  | _, _, u, .non, r => by cases (show u = Value.none from r); exact ⟨_, .none⟩
  | _, _, u, .bl b, r => by cases (show u = Value.bool b from r); exact ⟨_, .bool b⟩
  | _, _, u, .int i, r => by obtain ⟨t, e⟩ := (show ∃ t, u = Value.int i t from r); cases e; exact ⟨_, .int i t⟩
  | _, _, u, .str x, r => by obtain ⟨t, e⟩ := (show ∃ t, u = Value.str x t from r); cases e; exact ⟨_, .str x t⟩
  | _, _, u, @RdV.lst _ _ a xs ds hq hr, r => by
    cases (show u = Value.ref a from r)
    obtain ⟨its, rv, ⟨o, n, e, c, _, dt⟩, _⟩ := I.list hq
    obtain ⟨as, q⟩ := RdAll.reads I hr rv
    exact ⟨_, .list e c dt (by simpa using q)⟩
  | _, _, u, @RdV.tup _ _ a xs ds hq hr, r => by
    cases (show u = Value.ref a from r)
    obtain ⟨its, rv, ⟨o, e, c, n, dt⟩, _⟩ := I.tuple hq
    obtain ⟨as, q⟩ := RdAll.reads I hr rv
    exact ⟨_, .tuple e c dt (by simpa using q)⟩
theorem RdAll.reads (I : Inv X pins σ H s) : ∀ {vs : List V} {ds : List PyData} {us : List Value}, RdAll X.K H vs ds → Vals vs us → ∃ as, ReadsAll s.heap us ds as
  | _, _, _, .nil, r => by cases r; exact ⟨_, .nil⟩
  | _, _, _, .cons h t, r => by
    cases r with
    | cons r1 r2 =>
      obtain ⟨as, q⟩ := RdV.reads I h r1
      obtain ⟨bs, q2⟩ := RdAll.reads I t r2
      exact ⟨_, .cons q q2⟩
end
end
section
variable {X : Cx}
def rEqD (K : PySem.W.Frag) (A : Around) (neg : Bool) : R2 := fun x y H Q => ∃ d e : PyData, RdV K H x d ∧ RdV K H y e ∧ d.canLay0 = true ∧ e.canLay0 = true ∧ A.units + min d.depth e.depth < cLine ∧ Q (.bl (if neg then !PyData.eqv d e else PyData.eqv d e)) H
theorem op_eqD : OpR X (compareOp .Eq) (rEqD X.K X.A false) := by
  intro pins s σ H x y v u Q I rx ry h
  obtain ⟨d, e, hd, he, cd, ce, hu, q⟩ := h
  obtain ⟨as, q1⟩ := hd.reads I rx
  obtain ⟨bs, q2⟩ := he.reads I ry
  exact SeqAt.compareEq_reads q1 q2 cd ce hu ⟨.bl _, H, I, rfl, q⟩
end
mutual
theorem eqv_self : ∀ d : PyData, d.canLay0 = true → PyData.eqv d d = true
  | .none, _ => by simp [PyData.eqv]
  | .bool _, _ => by simp [PyData.eqv]
  | .int _, _ => by simp [PyData.eqv]
  | .str _, _ => by simp [PyData.eqv]
  | .list xs, h => by
    simp only [PyData.eqv]
    exact eqvAll_self xs (by simpa [PyData.canLay0] using h)
  | .tuple xs, h => by
    simp only [PyData.eqv]
    exact eqvAll_self xs (by simpa [PyData.canLay0] using h)
  | .dict _, h => by simp [PyData.canLay0] at h
theorem eqvAll_self : ∀ ds : List PyData, PyData.canLayAll0 ds = true → PyData.eqvAll ds ds = true
  | [], _ => by simp [PyData.eqvAll]
  | d :: ds, h => by
    simp only [PyData.canLayAll0, Bool.and_eq_true] at h
    simp only [PyData.eqvAll, Bool.and_eq_true]
    exact ⟨eqv_self d h.1, eqvAll_self ds h.2⟩
end
theorem in_one (z : Str) (c : Nat) : (!(Builtin.Str.occurrences z ⟨#[c]⟩ 0 z.length 1).isEmpty) = decide (c ∈ z.cps.toList) := PySem.StrLaws.found_one z c
theorem op_in_one {X : Cx} : OpR X (compareOp .In) (fun x y H Q => ∃ c z, x = .str ⟨#[c]⟩ ∧ y = .str z ∧ Q (.bl (decide (c ∈ z.cps.toList))) H) := by
  intro pins s σ H x y v u Q I rx ry h
  obtain ⟨c, z, e1, e2, q⟩ := h
  exact op_in_str pins s σ H x y v u Q I rx ry ⟨_, _, e1, e2, by rw [in_one]; exact q⟩
end L2
namespace L2
open PySem PySem.Spec PyProof.Rows
structure Fn (P : Program) (w : World) (K : PySem.W.Frag) (mg : Str → Option Value) (base : Heap) (k : Nat) (x : Str) (ps : List Str) (sp : Sp) : Prop where
  ex : ∃ (f : Addr) (fd : FuncData), FnOk P w K mg base CX0 k f fd ps sp ∧ Binds K fd ps [] ∧ PySem.W.keepIn K (.ref f) = true ∧ mg x = some (.ref f)
theorem pe_fn {X : Cx} {k k' : Nat} {x : Str} {ps : List Str} {sp : Sp} {p pos : Pos} {e : Expr} {es : List Expr} {t : TA} (F : Fn X.prog X.w X.K X.mg X.base k x ps sp) (hr : Room k' X.A) (ha : PA X (e :: es) t) (hk : k ≤ k' := by decide) (hg : Gl X x := by rfl)
    (hdb : (x == ("__debug__" : Str)) = false := by decide) (he : starEach (e :: es) X.env = (false, eval e X.env) :: starEach es X.env := by rfl) (hpl : (backTo pos (starEach es X.env)).any (·.1) = false := by rfl) :
    PE X (.Call (.Name x p) (e :: es) [] pos) (tCall sp [] E0 t) := by
  obtain ⟨f, fd, h1, h2, h3, h4⟩ := F.ex
  exact pe_call h1 (hr.mono hk) hg h4 h3 h2 .nil pass0 ha hdb he hpl
theorem iteP {c A B : Prop} [Decidable c] (hc : c) (h : A) : if decide c = true then A else B := by
  rw [decide_eq_true hc]
  exact iteT h
theorem iteN {c A B : Prop} [Decidable c] (hc : ¬ c) (h : B) : if decide c = true then A else B := by
  rw [decide_eq_false hc]
  exact iteF h
theorem same_new {H : Hp} {p : Addr} (h : H p = Option.none) (o : HO) : Same H (upd H p o) := fun b u q => by rw [upd_ne (ne_of_none q h)]; exact q
def S (l : List Nat) : Str := ⟨l.toArray⟩
theorem S_list (l : List Nat) : (S l).cps.toList = l := by simp [S]
theorem S_len (l : List Nat) : (S l).length = l.length := by simp [S, Str.length]
theorem S_self (z : Str) : S z.cps.toList = z := by cases z; simp [S]
theorem S_inj {a b : List Nat} (h : S a = S b) : a = b := by
  have := congrArg (fun z : Str => z.cps.toList) h
  simpa [S_list] using this
theorem S_app (a b : List Nat) : S a ++ S b = S (a ++ b) := by
  show Str.append (S a) (S b) = S (a ++ b)
  simp [Str.append, S]
end L2
namespace L2
open PySem PySem.Spec PyProof.Rows
def tCut (t : TS) : TS := fun D σ H => ∃ R : St → Hp → Prop, t { D with nx := R } σ H ∧ ∀ σ' H', R σ' H' → D.nx σ' H'
theorem ps_cut {X : Cx} {st : Stmt} {t : TS} (h : PS X st t) : PS X st (tCut t) := by
  intro pins s σ H D I hw
  obtain ⟨R, h1, h2⟩ := hw
  refine thn (h pins s σ H { D with nx := R } I h1) fun f s1 q => ?_
  cases f with
  | next =>
    obtain ⟨σ', H', I', q⟩ := q
    exact ⟨σ', H', I', h2 _ _ q⟩
  | brk => exact q
  | cont => exact q
  | ret v => exact q
theorem depth_strs : ∀ xs : List Str, PyData.depthAll (xs.map PyData.str) = 0
  | [] => by simp [PyData.depthAll]
  | x :: r => by simp [PyData.depthAll, PyData.depth, depth_strs r]
end L2
namespace L2
open PySem PySem.Spec PyProof.Rows
structure DefAt (K : PySem.W.Frag) (x : Str) (st : Stmt) : Prop where
  ex : ∃ (f : Addr) (oc : Value) (od : Option Addr) (kV doc pm : Value) (an : Option Addr) (cdv ct : Value) (osl : Array (Option Value)),
    PySem.W.nsIn K mainGlobals x = some (some (.ref f)) ∧ K.lookup f = some ⟨oc, od, .func (PySem.W.fnOf x x (defArgs st) (defBody st) (defScope st) .none kV doc pm an cdv ct), osl⟩ ∧ PySem.W.codeIn K cdv x = true ∧ PySem.W.keepIn K (.ref f) = true
theorem DefAt.mk' {K : PySem.W.Frag} {x : Str} {st : Stmt} {f : Addr} {oc : Value} {od : Option Addr} {kV doc pm : Value} {an : Option Addr} {cdv ct : Value} {osl : Array (Option Value)}
    (a : PySem.W.nsIn K mainGlobals x = some (some (.ref f))) (l : K.lookup f = some ⟨oc, od, .func (PySem.W.fnOf x x (defArgs st) (defBody st) (defScope st) .none kV doc pm an cdv ct), osl⟩) (c : PySem.W.codeIn K cdv x = true) (k : PySem.W.keepIn K (.ref f) = true) : DefAt K x st :=
  ⟨f, oc, od, kV, doc, pm, an, cdv, ct, osl, a, l, c, k⟩
theorem DefAt.fn {P : Program} {w : World} {K : PySem.W.Frag} {mg : Str → Option Value} {base h : Heap} {k : Nat} {x : Str} {st : Stmt} {ps : List Str} {sp : Sp} (D : DefAt K x st) (X : K.In h) (G : h.Ns mainGlobals mg)
    (ok : ∀ (f : Addr) (fd : FuncData), Fun K x x st f fd → FnOk P w K mg base CX0 k f fd ps sp)
    (hb : ∀ (kV doc pm : Value) (an : Option Addr) (cdv ct : Value) (us : List Value), us.length = ps.length → bindArgs (PySem.W.fnOf x x (defArgs st) (defBody st) (defScope st) .none kV doc pm an cdv ct) ⟨us, []⟩ = pure (ps.zip us)) : Fn P w K mg base k x ps sp := by
  obtain ⟨f, oc, od, kV, doc, pm, an, cdv, ct, osl, a, l, c, kp⟩ := D.ex
  have F := fun_mk (st := st) l c kp
  exact ⟨f, _, ok f _ F, F.binds hb, kp, PySem.W.mg_of X G a⟩
end L2
namespace K3
def letL : List Nat := [97, 98, 99, 100, 101, 102, 103, 104, 105, 106, 107, 108, 109, 110, 111, 112, 113, 114, 115, 116, 117, 118, 119, 120, 121, 122]
def figL : List Nat := [48, 49, 50, 51, 52, 53, 54, 55, 56, 57]
def sgnL : List Nat := [40, 41, 59, 58, 61, 124, 42]
theorem let_sgn : ∀ c ∈ letL, c ∉ sgnL := by decide
theorem fig_sgn : ∀ c ∈ figL, c ∉ sgnL := by decide
theorem fig_let : ∀ c ∈ figL, c ∉ letL := by decide
theorem sgn_32 : ∀ c ∈ sgnL, c ≠ 32 ∧ c ≠ 45 := by decide
theorem let_32 : ∀ c ∈ letL, c ≠ 32 ∧ c ≠ 45 := by decide
theorem fig_32 : ∀ c ∈ figL, c ≠ 32 ∧ c ≠ 45 := by decide
theorem n45 : 45 ∉ sgnL ∧ 45 ∉ letL ∧ (45 : Nat) ≠ 32 := by decide
theorem n32 : 32 ∉ letL ∧ 32 ∉ figL := by decide
structure Num (w : List Nat) : Prop where
  ne : w ≠ []
  len : w.length ≤ 60
  all : ∀ c ∈ w, c ∈ figL
  lead : w[0]? = some 48 → w.length = 1
inductive Word : List Nat → Prop where
  | sign {c : Nat} : c ∈ sgnL → Word [c]
  | name {w : List Nat} : w ≠ [] → w.length ≤ 8 → (∀ c ∈ w, c ∈ letL) → Word w
  | num {w : List Nat} : Num w → Word w
  | neg {w : List Nat} : Num w → w ≠ [48] → Word (45 :: w)
def Sep (w rest : List Nat) : Prop := ∀ a b, w.getLast? = some a → rest[0]? = some b → ¬ (a ∈ letL ∧ b ∈ letL) ∧ ¬ (a ∈ figL ∧ b ∈ figL)
theorem Sep.nil (w : List Nat) : Sep w [] := fun a b _ h => by simp at h
theorem Sep.blank (w r : List Nat) : Sep w (32 :: r) := fun a b _ h => by
  have e : 32 = b := by simpa using h
  subst e
  exact ⟨fun q => n32.1 q.2, fun q => n32.2 q.2⟩
theorem Word.ne {w : List Nat} (h : Word w) : w ≠ [] := by
  cases h with
  | sign _ => simp
  | name h _ _ => exact h
  | num h => exact h.ne
  | neg _ _ => simp
theorem Word.len {w : List Nat} (h : Word w) : w.length ≤ 61 := by
  cases h with
  | sign _ => simp
  | name _ h _ => omega
  | num h => have := h.len; omega
  | neg h _ => have := h.len; simp only [List.length_cons]; omega
theorem Word.head {w : List Nat} (h : Word w) : ∃ c r, w = c :: r ∧ c ≠ 32 := by
  cases h with
  | @sign c h => exact ⟨c, [], rfl, (sgn_32 c h).1⟩
  | name h _ a =>
    cases w with
    | nil => exact absurd rfl h
    | cons c r => exact ⟨c, r, rfl, (let_32 c (a c (by simp))).1⟩
  | num h =>
    cases w with
    | nil => exact absurd rfl h.ne
    | cons c r => exact ⟨c, r, rfl, (fig_32 c (h.all c (by simp))).1⟩
  | @neg w h _ => exact ⟨45, w, rfl, n45.2.2⟩
def run (L : List Nat) (t : List Nat) : List Nat := t.takeWhile fun c => decide (c ∈ L)
theorem run_eq {L w rest : List Nat} (h : ∀ c ∈ w, c ∈ L) (hr : ∀ b, rest[0]? = some b → b ∉ L) : run L (w ++ rest) = w := by
  unfold run
  induction w with
  | nil =>
    cases rest with
    | nil => rfl
    | cons b r =>
      have := hr b (by simp)
      simp [this]
  | cons c w ih =>
    have hc : c ∈ L := h c (by simp)
    rw [List.cons_append, List.takeWhile_cons, if_pos (by simpa using hc), ih (fun d hd => h d (by simp [hd]))]
theorem last_of {w : List Nat} (h : w ≠ []) : ∃ a, w.getLast? = some a ∧ a ∈ w := by
  refine ⟨w.getLast h, List.getLast?_eq_some_getLast h, List.getLast_mem h⟩
theorem Sep.let_of {w rest : List Nat} (s : Sep w rest) (h : w ≠ []) (a : ∀ c ∈ w, c ∈ letL) : ∀ b, rest[0]? = some b → b ∉ letL := fun b hb q => by
  obtain ⟨x, hx, hm⟩ := last_of h
  exact (s x b hx hb).1 ⟨a x hm, q⟩
theorem Sep.fig_of {w rest : List Nat} (s : Sep w rest) (h : w ≠ []) (a : ∀ c ∈ w, c ∈ figL) : ∀ b, rest[0]? = some b → b ∉ figL := fun b hb q => by
  obtain ⟨x, hx, hm⟩ := last_of h
  exact (s x b hx hb).2 ⟨a x hm, q⟩
theorem Sep.tail {c : Nat} {w rest : List Nat} (s : Sep (c :: w) rest) (h : w ≠ []) : Sep w rest := fun a b ha hb => s a b (by
  cases w with
  | nil => exact absurd rfl h
  | cons d w => rw [List.getLast?_cons_cons]; exact ha) hb
inductive Writ : List Nat → List (List Nat) → Prop where
  | nil : Writ [] []
  | blank {t ws} : Writ t ws → Writ (32 :: t) ws
  | word {w t ws} : Word w → Sep w t → Writ t ws → Writ (w ++ t) (w :: ws)
def D (n : Nat) : List Nat := (Nat.toDigits 10 n).map Char.toNat
theorem dig (d : Nat) (h : d < 10) : (Nat.digitChar d).toNat = 48 + d := by
  have : ∀ d : Nat, d < 10 → (Nat.digitChar d).toNat = 48 + d := by decide
  exact this d h
theorem fig_of (d : Nat) (h : d < 10) : 48 + d ∈ figL := by
  have : ∀ d : Nat, d < 10 → 48 + d ∈ figL := by decide
  exact this d h
theorem D_small {n : Nat} (h : n < 10) : D n = [48 + n] := by
  unfold D
  rw [Nat.toDigits_of_lt_base h]
  simp [dig n h]
theorem D_step {n : Nat} (h : ¬ n < 10) : D n = D (n / 10) ++ [48 + n % 10] := by
  have hm : n % 10 < 10 := Nat.mod_lt n (by decide)
  have t : Nat.toDigits 10 (n / 10) ++ Nat.toDigits 10 (n % 10) = Nat.toDigits 10 (10 * (n / 10) + n % 10) := Nat.toDigits_append_toDigits (by decide) (by omega) hm
  rw [Nat.div_add_mod] at t
  unfold D
  rw [← t, List.map_append, Nat.toDigits_of_lt_base hm]
  simp [dig _ hm]
theorem D_facts : ∀ (k n : Nat), n < 10 ^ (k + 1) → D n ≠ [] ∧ (D n).length ≤ k + 1 ∧ (∀ c ∈ D n, c ∈ figL) ∧ (n ≠ 0 → (D n)[0]? ≠ some 48)
  | 0, n, h => by
    have h' : n < 10 := by simpa using h
    rw [D_small h']
    refine ⟨by simp, by simp, fun c hc => ?_, fun hn => ?_⟩
    · have : c = 48 + n := by simpa using hc
      rw [this]; exact fig_of n h'
    · simp; exact hn
  | k + 1, n, h => by
    by_cases h10 : n < 10
    · rw [D_small h10]
      refine ⟨by simp, by simp, fun c hc => ?_, fun hn => ?_⟩
      · have : c = 48 + n := by simpa using hc
        rw [this]; exact fig_of n h10
      · simp; exact hn
    · have hd : n / 10 < 10 ^ (k + 1) := by
        have : n < 10 * 10 ^ (k + 1) := by rw [Nat.pow_succ] at h; omega
        omega
      obtain ⟨a, b, c, d⟩ := D_facts k (n / 10) hd
      rw [D_step h10]
      refine ⟨by simp, by simp; omega, fun x hx => ?_, fun _ => ?_⟩
      · rcases List.mem_append.mp hx with q | q
        · exact c x q
        · have : x = 48 + n % 10 := by simpa using q
          rw [this]; exact fig_of _ (Nat.mod_lt n (by decide))
      · have e : (D (n / 10) ++ [48 + n % 10])[0]? = (D (n / 10))[0]? := by
          cases q : D (n / 10) with
          | nil => exact absurd q a
          | cons x r => simp
        rw [e]
        exact d (by omega)
theorem D_num {n : Nat} (h : n < 10 ^ 60) : Num (D n) := by
  obtain ⟨a, b, c, d⟩ := D_facts 59 n h
  refine ⟨a, b, c, fun q => ?_⟩
  by_cases hn : n = 0
  · subst hn; rw [D_small (by decide)]; rfl
  · exact absurd q (d hn)
theorem D_ne {n : Nat} (h : n < 10 ^ 60) (hn : n ≠ 0) : D n ≠ [48] := fun q => by
  obtain ⟨a, b, c, d⟩ := D_facts 59 n h
  exact d hn (by rw [q]; rfl)
end K3
namespace K3
theorem seg_step {L : List Nat} {k e c : Nat} (hk : k ≤ e) (he : L[e]? = some c) : (L.drop k).take (e + 1 - k) = (L.drop k).take (e - k) ++ [c] := by
  have h1 : e + 1 - k = (e - k) + 1 := by omega
  rw [h1, List.take_add_one, List.getElem?_drop, show k + (e - k) = e by omega, he]
  rfl
theorem seg_stop {L sg : List Nat} {k e : Nat} (hk : k ≤ e) (hall : ∀ c ∈ (L.drop k).take (e - k), c ∈ sg) (hstop : ∀ c, L[e]? = some c → c ∉ sg) : run sg (L.drop k) = (L.drop k).take (e - k) := by
  have h := run_eq (L := sg) (w := (L.drop k).take (e - k)) (rest := (L.drop k).drop (e - k)) hall (fun b hb => by
    rw [List.drop_drop, show k + (e - k) = e by omega] at hb
    exact hstop b (by simpa [List.getElem?_drop] using hb))
  rw [List.take_append_drop] at h
  exact h
theorem Writ.len {t : List Nat} {ws : List (List Nat)} (h : Writ t ws) : ws.length ≤ t.length := by
  induction h with
  | nil => simp
  | blank _ ih => simp only [List.length_cons]; omega
  | word hw _ _ ih =>
    have : 0 < (_ : List Nat).length := List.length_pos_iff.mpr hw.ne
    simp only [List.length_cons, List.length_append]; omega
theorem Word.low {w : List Nat} (h : Word w) : ∀ c ∈ w, c < 128 := by
  have h1 : ∀ c ∈ sgnL, c < 128 := by decide
  have h2 : ∀ c ∈ letL, c < 128 := by decide
  have h3 : ∀ c ∈ figL, c < 128 := by decide
  cases h with
  | @sign c h => intro d hd; have : d = c := by simpa using hd
                 rw [this]; exact h1 c h
  | name _ _ a => exact fun c hc => h2 c (a c hc)
  | num h => exact fun c hc => h3 c (h.all c hc)
  | neg h _ => intro c hc
               rcases List.mem_cons.mp hc with q | q
               · omega
               · exact h3 c (h.all c q)
theorem Writ.step {t : List Nat} {ws : List (List Nat)} (h : Writ t ws) (ht : t ≠ []) :
    (∃ r, t = 32 :: r ∧ Writ r ws) ∨ ∃ w r vs, t = w ++ r ∧ ws = w :: vs ∧ Word w ∧ Sep w r ∧ Writ r vs := by
  cases h with
  | nil => exact absurd rfl ht
  | blank h => exact .inl ⟨_, rfl, h⟩
  | word a b c => exact .inr ⟨_, _, _, rfl, rfl, a, b, c⟩
theorem log_small {n : Nat} (h : n < 10 ^ 61) : n.log2 < 1920 := by
  by_cases h0 : n = 0
  · subst h0; decide
  · have h1 : 10 ^ 61 ≤ 2 ^ 203 := by decide
    have h2 : 2 ^ 203 ≤ 2 ^ 1920 := Nat.pow_le_pow_right (by decide) (by decide)
    exact (Nat.log2_lt h0).mpr (Nat.lt_of_lt_of_le h (Nat.le_trans h1 h2))
end K3
namespace K4
open PySem L2 K3
def top (i : Nat) : Stmt := PySem.Challenge.pw_turnery_k04_no_words.main.body.getD i (.Pass ⟨0, 0, 0, 0⟩)
abbrev sWords : Stmt := top 17
abbrev sWordAt : Stmt := top 18
abbrev sNameAt : Stmt := top 19
abbrev sBelow : Stmt := top 20
abbrev sFigures : Stmt := top 21
abbrev sRun : Stmt := top 22
abbrev sReader : Stmt := top 24
abbrev sReadT : Stmt := top 31
abbrev sReadW : Stmt := top 44
abbrev sReadU : Stmt := top 64
abbrev sCell : Stmt := top 74
abbrev sWordBy : Stmt := top 75
abbrev sFigs : Stmt := top 76
abbrev sLets : Stmt := top 77
abbrev sBadBy : Stmt := top 78
abbrev sRefused : Stmt := top 79
abbrev sLRead : Stmt := top 80
abbrev sLaw : Stmt := top 81
abbrev LETS : Str := Str.ofString "abcdefghijklmnopqrstuvwxyz"
abbrev FIGS : Str := Str.ofString "0123456789"
abbrev SGNS : Str := Str.ofString "();:=|*"
theorem let_eq : LETS = S letL := by decide +kernel
theorem fig_eq : FIGS = S figL := by decide +kernel
theorem sgn_eq : SGNS = S sgnL := by decide +kernel
theorem let_cps : LETS.cps.toList = letL := by rw [let_eq, S_list]
theorem fig_cps : FIGS.cps.toList = figL := by rw [fig_eq, S_list]
theorem sgn_cps : SGNS.cps.toList = sgnL := by rw [sgn_eq, S_list]
theorem minus_eq : Str.ofString "-" = S [45] := by decide +kernel
theorem blank_eq : Str.ofString " " = S [32] := by decide +kernel
theorem zero_eq : Str.ofString "0" = S [48] := by decide +kernel
theorem none_eq : Str.ofString "" = S [] := by decide +kernel
theorem size_line : sizeLine = 16777216 := by decide
structure Gm (mg : Str → Option Value) : Prop where
  len : mg "len" = none
  isi : mg "isinstance" = none
  str : mg "str" = none
  lst : mg "list" = none
  rng : mg "range" = none
  tup : mg "tuple" = none
  int : mg "int" = none
  sum : mg "sum" = none
  lets : ∃ t, mg "LETTERS" = some (.str LETS t)
  figs : ∃ t, mg "FIGURES" = some (.str FIGS t)
  sgns : ∃ t, mg "SIGNS" = some (.str SGNS t)
  ml : ∃ t, mg "MOST_LETTERS" = some (.int 8 t)
  mf : ∃ t, mg "MOST_FIGURES" = some (.int 60 t)
def spRun : Sp := fun vs H Q _ => ∃ (z : List Nat) (k : Nat) (sg : List Nat), vs = [.str (S z), .int k, .str (S sg)] ∧ z.length ≤ 9000 ∧ k ≤ z.length ∧ Q (.str (S (run sg (z.drop k)))) H
def spFig : Sp := fun vs H Q _ => ∃ (z : List Nat) (k : Nat), vs = [.str (S z), .int k] ∧ z.length ≤ 9000 ∧ k ≤ z.length ∧ Num (run figL (z.drop k)) ∧ Q (.str (S (run figL (z.drop k)))) H
def spBelow : Sp := fun vs H Q _ => ∃ (z : List Nat) (k : Nat), vs = [.str (S z), .int k] ∧ z.length ≤ 9000 ∧ k ≤ z.length ∧ Num (run figL (z.drop k)) ∧ run figL (z.drop k) ≠ [48] ∧ Q (.str (S (run figL (z.drop k)))) H
def spNameAt : Sp := fun vs H Q _ => ∃ (z : List Nat) (k : Nat), vs = [.str (S z), .int k] ∧ z.length ≤ 9000 ∧ k ≤ z.length ∧ (run letL (z.drop k)).length ≤ 8 ∧ Q (.str (S (run letL (z.drop k)))) H
def spWordAt : Sp := fun vs H Q _ => ∃ (z : List Nat) (k : Nat) (w r : List Nat), vs = [.str (S z), .int k] ∧ z.length ≤ 9000 ∧ z.drop k = w ++ r ∧ Word w ∧ Sep w r ∧ Q (.str (S w)) H
def W (ws : List (List Nat)) : List V := ws.map fun w => V.str (S w)
def spWords : Sp := fun vs H Q _ => ∃ (z : List Nat) (ws : List (List Nat)), vs = [.str (S z)] ∧ z.length ≤ 9000 ∧ Writ z ws ∧ ∀ (l : Addr) (H' : Hp), Same H H' → H' l = some (.lst (W ws)) → H l = none → Q (.ref l) H'
theorem line_of {n : Nat} (h : n ≤ 9000) : n ≤ sizeLine := by rw [size_line]; omega
theorem atS {z : List Nat} {k : Nat} {c : Nat} (h : z[k]? = some c) : atI (S z).cps.toList (k : Int) = some c := by
  rw [S_list]; exact atI_nat h
theorem one_S (c : Nat) : (⟨#[c]⟩ : Str) = S [c] := rfl
theorem str_ne {a b : List Nat} (h : a ≠ b) : ¬ V.str (S a) = V.str (S b) := fun q => h (S_inj (by injection q))
section
variable {P : Program} {w : World} {K : PySem.W.Frag} {mg : Str → Option Value} {base : Heap} {f : Addr} {fd : FuncData}
theorem scRun : FnScope ["text", "start", "signs", "end"] ["text", "start", "signs"] (defScope sRun) := ⟨rfl, rfl, rfl, by decide +kernel, rfl, by decide +kernel, by decide +kernel⟩
theorem cut_seg (z : List Nat) {k e : Nat} (hk : k ≤ e) (he : e ≤ z.length) : cutS (S z) (some (k : Int)) (some (e : Int)) = S ((z.drop k).take (e - k)) := by
  unfold cutS
  rw [HT.sIx_nat, HT.sIx_nat, S_list, S_len, Nat.min_eq_left he, Nat.min_eq_left (Nat.le_trans hk he)]
  rfl
theorem ok_run (F : Fun K "run_at" "run_at" sRun f fd) (G : Gm mg) : FnOk P w K mg base CX0 1 f fd ["text", "start", "signs"] spRun := by
  refine F.ok scRun (fun vs H Q E h => ?_) (fun cdv A outer s H vs Q E hr h => ?_)
  · obtain ⟨z, k, sg, rfl, _⟩ := h
    rfl
  obtain ⟨z, k, sg, rfl, hz, hk, q⟩ := h
  have hzl : (S z).length ≤ sizeLine := by rw [S_len]; exact line_of hz
  refine ⟨_, pss_cons (ps_set (i := 3) scRun.nd rfl (Or.inl rfl) (pv 1))
    (pss_cons (ps_while PassesOwn.never (PW.pt (pw_and (pt_cmpR op_lt (pv 3) (pe_callB call_len_str rfl G.len PySem.boot_len (pa_cons (pv 0) pa_nil)) (nomark _))
        (pw_and1 (pt_cmpR op_in_one (pe_ix ix_str (pv 0) (pv 3) (fun _ _ => rfl)) (pv 2) (by with_unfolding_all rfl)))))
      (pss_one (ps_aug (i := 3) scRun.nd rfl (Or.inl rfl) pe_int ip_add)))
    (pss_one (ps_ret (pe_slice sl_str (pv 0) (po_some (pv 1)) (po_some (pv 3)))))), ?_⟩
  refine ⟨_, rfl, ?_⟩
  have fin : ∀ e : Nat, k ≤ e → e ≤ z.length → (∀ c ∈ (z.drop k).take (e - k), c ∈ sg) → (∀ c, z[e]? = some c → c ∉ sg) → Q (.str (cutS (S z) (some (k : Int)) (some (e : Int)))) H := fun e h1 h2 h3 h4 => by
    rw [cut_seg z h1 h2, ← seg_stop h1 h3 h4]
    exact q
  refine ⟨fun m σ H' => ∃ e : Nat, σ = [some (.str (S z)), some (.int (k : Int)), some (.str (S sg)), some (.int (e : Int))] ∧ H' = H ∧ k ≤ e ∧ e ≤ z.length ∧ (∀ c ∈ (z.drop k).take (e - k), c ∈ sg) ∧ m = z.length - e,
    ⟨_, k, rfl, rfl, Nat.le_refl _, hk, (by intro c hc; simp at hc), rfl⟩, ?_⟩
  rintro m σ H' ⟨e, rfl, rfl, h1, h2, h3, rfl⟩
  refine ⟨_, rfl, _, rfl, _, rfl, hzl, _, _, rfl, rfl, _, rfl, ?_⟩
  refine ite2 (fun c => ?_) (fun c => ?_)
  · have c' : (e : Int) < (((S z).length : Nat) : Int) := of_decide_eq_true c
    rw [S_len] at c'
    have he : e < z.length := by omega
    have hat : z[e]? = some z[e] := List.getElem?_eq_getElem he
    refine ⟨_, rfl, _, rfl, _, _, _, rfl, rfl, hzl, atS hat, _, rfl, _, _, rfl, rfl, _, rfl, ?_⟩
    refine ite2 (fun d => ?_) (fun d => ?_)
    · have d' : z[e] ∈ (S sg).cps.toList := of_decide_eq_true d
      rw [S_list] at d'
      refine ⟨_, fun σ' H'' q' => q', _, rfl, _, _, rfl, rfl, ?_⟩
      refine ⟨z.length - (e + 1), by omega, e + 1, rfl, rfl, by omega, by omega, ?_, rfl⟩
      rw [seg_step h1 hat]
      intro x hx
      rcases List.mem_append.mp hx with y | y
      · exact h3 x y
      · have : x = z[e] := by simpa using y
        rw [this]; exact d'
    · have d' : ¬ z[e] ∈ (S sg).cps.toList := of_decide_eq_false (Bool.eq_false_iff.mpr d)
      rw [S_list] at d'
      refine ⟨_, rfl, _, rfl, _, rfl, _, rfl, _, rfl, _, rfl, hzl, ?_⟩
      exact fin e h1 h2 h3 (fun x hx => by rw [hat] at hx; cases hx; exact d')
  · have c' : ¬ (e : Int) < (((S z).length : Nat) : Int) := of_decide_eq_false (Bool.eq_false_iff.mpr c)
    rw [S_len] at c'
    refine ⟨_, rfl, _, rfl, _, rfl, _, rfl, _, rfl, _, rfl, hzl, ?_⟩
    exact fin e h1 h2 h3 (fun x hx => by rw [List.getElem?_eq_none (by omega)] at hx; cases hx)
theorem scFig : FnScope ["text", "start", "figures"] ["text", "start"] (defScope sFigures) := ⟨rfl, rfl, rfl, by decide +kernel, rfl, by decide +kernel, by decide +kernel⟩
theorem ok_fig (F : Fun K "figures_at" "figures_at" sFigures f fd) (G : Gm mg) (R : Fn P w K mg base 1 "run_at" ["text", "start", "signs"] spRun) : FnOk P w K mg base CX0 2 f fd ["text", "start"] spFig := by
  obtain ⟨tf, hf⟩ := G.figs
  obtain ⟨tm, hm⟩ := G.mf
  refine F.ok scFig (fun vs H Q E h => ?_) (fun cdv A outer s H vs Q E hr h => ?_)
  · obtain ⟨z, k, rfl, _⟩ := h
    rfl
  obtain ⟨z, k, rfl, hz, hk, hn, q⟩ := h
  refine ⟨_, pss_cons (ps_set (i := 2) scFig.nd rfl (Or.inl rfl) (pe_fn R hr (pa_cons (pv 0) (pa_cons (pv 1) (pa_cons (pe_glob (v := .str FIGS) rfl hf ⟨_, rfl⟩) pa_nil)))))
    (pss_cons (ps_if (pt_cmpR op_eq (pv 2) pe_str (nomark _)) pss_never pss_nil)
    (pss_cons (ps_if (pt_cmpR op_gt (pe_callB call_len_str rfl G.len PySem.boot_len (pa_cons (pv 2) pa_nil)) (pe_glob (v := .int 60) rfl hm ⟨_, rfl⟩) (nomark _)) pss_never pss_nil)
    (pss_cons (ps_if (PW.pt (pw_and (pt_cmpR op_eq (pe_ix ix_str (pv 2) pe_int (fun _ _ => rfl)) pe_str (nomark _)) (pw_and1 (pt_cmpR op_gt (pe_callB call_len_str rfl G.len PySem.boot_len (pa_cons (pv 2) pa_nil)) pe_int (nomark _))))) pss_never pss_nil)
    (pss_one (ps_ret (pv 2)))))), ?_⟩
  refine ⟨_, rfl, _, rfl, z, k, figL, by rw [← fig_eq]; rfl, hz, hk, ?_⟩
  have hlen : (S (run figL (z.drop k))).length ≤ sizeLine := by rw [S_len]; exact line_of (Nat.le_trans hn.len (by omega))
  obtain ⟨c, r, hc⟩ : ∃ c r, run figL (z.drop k) = c :: r := by
    cases e : run figL (z.drop k) with
    | nil => exact absurd e hn.ne
    | cons c r => exact ⟨c, r, rfl⟩
  have h0 : (run figL (z.drop k))[0]? = some c := by rw [hc]; rfl
  refine ⟨_, rfl, rfl, _, rfl, iteN (by rw [none_eq]; exact str_ne hn.ne) ?_⟩
  refine ⟨_, rfl, _, rfl, hlen, _, _, rfl, rfl, _, rfl, iteN (by rw [S_len]; have := hn.len; omega) ?_⟩
  refine ⟨_, rfl, _, 0, c, rfl, rfl, hlen, atS h0, rfl, _, rfl, ?_⟩
  by_cases hc0 : c = 48
  · have hl : (run figL (z.drop k)).length = 1 := hn.lead (by rw [h0, hc0])
    refine iteP (by rw [hc0, one_S, zero_eq]) ⟨_, rfl, _, rfl, hlen, _, _, rfl, rfl, _, rfl, iteN (by rw [S_len, hl]; decide) ?_⟩
    exact ⟨_, rfl, q⟩
  · refine iteN (by rw [one_S, zero_eq]; exact str_ne (by simpa using hc0)) (iteF ?_)
    exact ⟨_, rfl, q⟩
theorem scBelow : FnScope ["text", "start", "figures"] ["text", "start"] (defScope sBelow) := ⟨rfl, rfl, rfl, by decide +kernel, rfl, by decide +kernel, by decide +kernel⟩
theorem ok_below (F : Fun K "below_zero_at" "below_zero_at" sBelow f fd) (R : Fn P w K mg base 2 "figures_at" ["text", "start"] spFig) : FnOk P w K mg base CX0 3 f fd ["text", "start"] spBelow := by
  refine F.ok scBelow (fun vs H Q E h => ?_) (fun cdv A outer s H vs Q E hr h => ?_)
  · obtain ⟨z, k, rfl, _⟩ := h
    rfl
  obtain ⟨z, k, rfl, hz, hk, hn, h48, q⟩ := h
  refine ⟨_, pss_cons (ps_set (i := 2) scBelow.nd rfl (Or.inl rfl) (pe_fn R hr (pa_cons (pv 0) (pa_cons (pv 1) pa_nil))))
    (pss_cons (ps_if (pt_cmpR op_eq (pv 2) pe_str (nomark _)) pss_never pss_nil)
    (pss_one (ps_ret (pv 2)))), ?_⟩
  refine ⟨_, rfl, _, rfl, z, k, rfl, hz, hk, hn, ?_⟩
  refine ⟨_, rfl, rfl, _, rfl, iteN (by rw [zero_eq]; exact str_ne h48) ?_⟩
  exact ⟨_, rfl, q⟩
theorem scNameAt : FnScope ["text", "start", "name"] ["text", "start"] (defScope sNameAt) := ⟨rfl, rfl, rfl, by decide +kernel, rfl, by decide +kernel, by decide +kernel⟩
theorem ok_nameAt (F : Fun K "name_at" "name_at" sNameAt f fd) (G : Gm mg) (R : Fn P w K mg base 1 "run_at" ["text", "start", "signs"] spRun) : FnOk P w K mg base CX0 2 f fd ["text", "start"] spNameAt := by
  obtain ⟨tf, hf⟩ := G.lets
  obtain ⟨tm, hm⟩ := G.ml
  refine F.ok scNameAt (fun vs H Q E h => ?_) (fun cdv A outer s H vs Q E hr h => ?_)
  · obtain ⟨z, k, rfl, _⟩ := h
    rfl
  obtain ⟨z, k, rfl, hz, hk, hn, q⟩ := h
  refine ⟨_, pss_cons (ps_set (i := 2) scNameAt.nd rfl (Or.inl rfl) (pe_fn R hr (pa_cons (pv 0) (pa_cons (pv 1) (pa_cons (pe_glob (v := .str LETS) rfl hf ⟨_, rfl⟩) pa_nil)))))
    (pss_cons (ps_if (pt_cmpR op_gt (pe_callB call_len_str rfl G.len PySem.boot_len (pa_cons (pv 2) pa_nil)) (pe_glob (v := .int 8) rfl hm ⟨_, rfl⟩) (nomark _)) pss_never pss_nil)
    (pss_one (ps_ret (pv 2)))), ?_⟩
  refine ⟨_, rfl, _, rfl, z, k, letL, by rw [← let_eq]; rfl, hz, hk, ?_⟩
  have hlen : (S (run letL (z.drop k))).length ≤ sizeLine := by rw [S_len]; exact line_of (by omega)
  refine ⟨_, rfl, _, rfl, hlen, _, _, rfl, rfl, _, rfl, iteN (by rw [S_len]; omega) ?_⟩
  exact ⟨_, rfl, q⟩
theorem scWordAt : FnScope ["text", "start", "first"] ["text", "start"] (defScope sWordAt) := ⟨rfl, rfl, rfl, by decide +kernel, rfl, by decide +kernel, by decide +kernel⟩
theorem drop_at {z : List Nat} {k c : Nat} {r : List Nat} (h : z.drop k = c :: r) : z[k]? = some c ∧ k < z.length ∧ z.drop (k + 1) = r := by
  have h1 : z[k]? = some c := by
    have : (z.drop k)[0]? = some c := by rw [h]; rfl
    simpa [List.getElem?_drop] using this
  refine ⟨h1, (List.getElem?_eq_some_iff.mp h1).1, ?_⟩
  rw [← List.tail_drop, h]; rfl
theorem ok_wordAt (F : Fun K "word_at" "word_at" sWordAt f fd) (G : Gm mg) (RN : Fn P w K mg base 2 "name_at" ["text", "start"] spNameAt) (RF : Fn P w K mg base 2 "figures_at" ["text", "start"] spFig)
    (RB : Fn P w K mg base 3 "below_zero_at" ["text", "start"] spBelow) : FnOk P w K mg base CX0 4 f fd ["text", "start"] spWordAt := by
  obtain ⟨ts, hs⟩ := G.sgns
  obtain ⟨tl, hl⟩ := G.lets
  obtain ⟨tf, hf⟩ := G.figs
  refine F.ok scWordAt (fun vs H Q E h => ?_) (fun cdv A outer s H vs Q E hr h => ?_)
  · obtain ⟨z, k, u, r, rfl, _⟩ := h
    rfl
  obtain ⟨z, k, u, r, rfl, hz, hd, hw, hsep, q⟩ := h
  have hzl : (S z).length ≤ sizeLine := by rw [S_len]; exact line_of hz
  refine ⟨_, pss_cons (ps_set (i := 2) scWordAt.nd rfl (Or.inl rfl) (pe_ix ix_str (pv 0) (pv 1) (fun _ _ => rfl)))
    (pss_cons (ps_if (pt_cmpR op_in_one (pv 2) (pe_glob (v := .str SGNS) rfl hs ⟨_, rfl⟩) (by with_unfolding_all rfl)) (pss_one (ps_ret (pv 2))) pss_nil)
    (pss_cons (ps_if (pt_cmpR op_in_one (pv 2) (pe_glob (v := .str LETS) rfl hl ⟨_, rfl⟩) (by with_unfolding_all rfl)) (pss_one (ps_ret (pe_fn RN hr (pa_cons (pv 0) (pa_cons (pv 1) pa_nil))))) pss_nil)
    (pss_cons (ps_if (pt_cmpR op_eq (pv 2) pe_str (nomark _)) (pss_one (ps_ret (pe_op op_add_str pe_str (pe_fn RB hr (pa_cons (pv 0) (pa_cons (pe_op op_add (pv 1) pe_int) pa_nil)))))) pss_nil)
    (pss_cons (ps_if (pt_cmpR op_in_one (pv 2) (pe_glob (v := .str FIGS) rfl hf ⟨_, rfl⟩) (by with_unfolding_all rfl)) (pss_one (ps_ret (pe_fn RF hr (pa_cons (pv 0) (pa_cons (pv 1) pa_nil))))) pss_nil)
    pss_never)))), ?_⟩
  obtain ⟨c, u', hu, _⟩ := hw.head
  have hd' : z.drop k = c :: (u' ++ r) := by rw [hd, hu]; rfl
  obtain ⟨hat, hkl, hd1⟩ := drop_at hd'
  refine ⟨_, rfl, _, rfl, _, _, _, rfl, rfl, hzl, atS hat, ?_⟩
  refine ⟨_, rfl, _, _, rfl, rfl, _, rfl, ?_⟩
  rw [sgn_cps]
  cases hw with
  | @sign d hs' =>
    have e : d = c := by injection hu
    subst e
    exact iteP hs' ⟨_, rfl, q⟩
  | name hne h8 hall =>
    have hc : c ∈ letL := hall c (by rw [hu]; simp)
    have hrun : run letL (z.drop k) = u := by rw [hd]; exact run_eq hall (hsep.let_of hne hall)
    refine iteN (let_sgn c hc) ⟨_, rfl, _, _, rfl, rfl, _, rfl, ?_⟩
    rw [let_cps]
    refine iteP hc ⟨_, rfl, _, rfl, z, k, rfl, hz, Nat.le_of_lt hkl, by rw [hrun]; exact h8, ?_⟩
    rw [hrun]; exact q
  | num hn =>
    have hc : c ∈ figL := hn.all c (by rw [hu]; simp)
    have hrun : run figL (z.drop k) = u := by rw [hd]; exact run_eq hn.all (hsep.fig_of hn.ne hn.all)
    refine iteN (fig_sgn c hc) ⟨_, rfl, _, _, rfl, rfl, _, rfl, ?_⟩
    rw [let_cps]
    refine iteN (fig_let c hc) ⟨_, rfl, rfl, _, rfl, iteN (by rw [one_S, minus_eq]; exact str_ne (by simpa using (fig_32 c hc).2)) ⟨_, rfl, _, _, rfl, rfl, _, rfl, ?_⟩⟩
    rw [fig_cps]
    refine iteP hc ⟨_, rfl, _, rfl, z, k, rfl, hz, Nat.le_of_lt hkl, by rw [hrun]; exact hn, ?_⟩
    rw [hrun]; exact q
  | @neg v hn h48 =>
    have e : 45 = c ∧ v = u' := by injection hu with h1 h2; exact ⟨h1, h2⟩
    obtain ⟨e1, e2⟩ := e
    subst e1; subst e2
    have hrun : run figL (z.drop (k + 1)) = v := by rw [hd1]; exact run_eq hn.all ((hsep.tail hn.ne).fig_of hn.ne hn.all)
    refine iteN n45.1 ⟨_, rfl, _, _, rfl, rfl, _, rfl, ?_⟩
    rw [let_cps]
    refine iteN n45.2.1 ⟨_, rfl, rfl, _, rfl, iteP (by rw [one_S, minus_eq]) ?_⟩
    refine ⟨_, rfl, _, rfl, _, _, rfl, rfl, z, k + 1, rfl, hz, hkl, by rw [hrun]; exact hn, by rw [hrun]; exact h48, ?_⟩
    rw [hrun]
    refine ⟨_, _, rfl, rfl, ?_, ?_⟩
    · rw [minus_eq, S_len, S_len]
      have := hn.len
      exact line_of (by simp; omega)
    · rw [minus_eq, S_app]; exact q
end
end K4
namespace K4
open PySem L2 K3
section
variable {P : Program} {w : World} {K : PySem.W.Frag} {mg : Str → Option Value} {base : Heap} {f : Addr} {fd : FuncData}
theorem scWords : FnScope ["text", "told", "start", "word"] ["text"] (defScope sWords) := ⟨rfl, rfl, rfl, by decide +kernel, rfl, by decide +kernel, by decide +kernel⟩
theorem W_app (a b : List (List Nat)) : W (a ++ b) = W a ++ W b := by simp [W]
theorem W_len (a : List (List Nat)) : (W a).length = a.length := by simp [W]
theorem ok_words (F : Fun K "words" "words" sWords f fd) (G : Gm mg) (R : Fn P w K mg base 4 "word_at" ["text", "start"] spWordAt) : FnOk P w K mg base CX0 5 f fd ["text"] spWords := by
  refine F.ok scWords (fun vs H Q E h => ?_) (fun cdv A outer s H vs Q E hr h => ?_)
  · obtain ⟨z, ws, rfl, _⟩ := h
    rfl
  obtain ⟨z, ws, rfl, hz, hW, q⟩ := h
  have hzl : (S z).length ≤ sizeLine := by rw [S_len]; exact line_of hz
  refine ⟨_, pss_cons (ps_if (pt_not (pt_val (pe_callB call_isinst rfl G.isi PyProof.Rows.boot_isinstance (pa_cons (pv 0) (pa_cons (pe_bltn (v := .ty "str") rfl G.str PyProof.Rows.boot_str rfl) pa_nil))))) pss_never pss_nil)
    (pss_cons (ps_set (i := 1) scWords.nd rfl (Or.inl rfl) (pe_lst pa_nil))
    (pss_cons (ps_set (i := 2) scWords.nd rfl (Or.inl rfl) pe_int)
    (pss_cons (ps_while PassesOwn.never (pt_cmpR op_lt (pv 2) (pe_callB call_len_str rfl G.len PySem.boot_len (pa_cons (pv 0) pa_nil)) (nomark _))
      (pss_one (ps_if (pt_cmpR op_eq (pe_ix ix_str (pv 0) (pv 2) (fun _ _ => rfl)) pe_str (nomark _))
        (pss_one (ps_aug (i := 2) scWords.nd rfl (Or.inl rfl) pe_int ip_add))
        (pss_cons (ps_set (i := 3) scWords.nd rfl (Or.inl rfl) (pe_fn R hr (pa_cons (pv 0) (pa_cons (pv 2) pa_nil))))
        (pss_cons (ps_expr (pe_bm PySem.F.plainAttrs_list PySem.F.slot_list_append PySem.F.type_list_append mt_append (pv 1) (pa_cons (pv 3) pa_nil)))
        (pss_one (ps_aug (i := 2) scWords.nd rfl (Or.inl rfl) (pe_callB call_len_str rfl G.len PySem.boot_len (pa_cons (pv 3) pa_nil)) ip_add)))))))
    (pss_one (ps_ret (pv 1)))))), ?_⟩
  refine ⟨_, rfl, _, "str", _, true, rfl, .str _, rfl, _, rfl, iteF ?_⟩
  refine ⟨(by show 0 ≤ sizeLine; decide), fun l hl => ?_⟩
  have hws := hW.len
  refine ⟨fun m σ H' => ∃ (k : Nat) (done rest : List (List Nat)) (wd : Option V), σ = [some (.str (S z)), some (.ref l), some (.int (k : Int)), wd] ∧ Same H H' ∧ H' l = some (.lst (W done)) ∧ done ++ rest = ws ∧ Writ (z.drop k) rest ∧ k ≤ z.length ∧ m = z.length - k,
    ⟨_, 0, [], ws, none, rfl, same_new hl _, upd_same, rfl, hW, Nat.zero_le _, rfl⟩, ?_⟩
  rintro m σ H' ⟨k, done, rest, wd, rfl, hsame, hl', hdr, hwr, hk, rfl⟩
  refine ⟨_, rfl, _, rfl, _, rfl, hzl, _, _, rfl, rfl, _, rfl, ?_⟩
  refine ite2 (fun c => ?_) (fun c => ?_)
  · have c' : (k : Int) < (((S z).length : Nat) : Int) := of_decide_eq_true c
    rw [S_len] at c'
    have hkl : k < z.length := by omega
    have hat : z[k]? = some z[k] := List.getElem?_eq_getElem hkl
    have hdk : z.drop k = z[k] :: z.drop (k + 1) := List.drop_eq_getElem_cons hkl
    refine ⟨_, fun σ' H'' q' => q', ?_⟩
    refine ⟨_, rfl, _, rfl, _, _, _, rfl, rfl, hzl, atS hat, rfl, _, rfl, ?_⟩
    rcases hwr.step (by rw [hdk]; exact List.cons_ne_nil _ _) with ⟨r, er, hr'⟩ | ⟨u, r, vs, er, ev, hu, hsep, hr'⟩
    · have e32 : z[k] = 32 ∧ z.drop (k + 1) = r := by rw [hdk] at er; injection er with h1 h2; exact ⟨h1, h2⟩
      refine iteP (by rw [e32.1, one_S, blank_eq]) ⟨_, rfl, _, _, rfl, rfl, ?_⟩
      exact ⟨z.length - (k + 1), by omega, k + 1, done, rest, wd, rfl, hsame, hl', hdr, by rw [e32.2]; exact hr', by omega, rfl⟩
    · obtain ⟨c0, u', hu0, h32⟩ := hu.head
      have ec : z[k] = c0 := by
        rw [hdk, hu0] at er
        injection er
      have hul : 0 < u.length := List.length_pos_iff.mpr hu.ne
      have hzk : z.length - k = u.length + r.length := by
        have := congrArg List.length er
        rw [List.length_drop, List.length_append] at this
        exact this
      refine iteN (by rw [ec, one_S, blank_eq]; exact str_ne (by simpa using h32)) ?_
      refine ⟨_, rfl, _, rfl, z, k, u, r, rfl, hz, er, hu, hsep, ?_⟩
      have hdl : done.length < 9000 := by
        have h1 : (done ++ rest).length = ws.length := by rw [hdr]
        rw [List.length_append, ev, List.length_cons] at h1
        omega
      refine ⟨_, rfl, .inl ⟨rfl, _, SqL.of hl'⟩, _, rfl, l, _, _, rfl, rfl, hl', by rw [W_len, size_line]; omega, ?_⟩
      have hul' : (S u).length ≤ sizeLine := by rw [S_len]; exact line_of (Nat.le_trans hu.len (by omega))
      refine ⟨_, rfl, _, rfl, _, rfl, hul', _, _, rfl, rfl, ?_⟩
      refine ⟨z.length - (k + u.length), by omega, k + u.length, done ++ [u], vs, some (.str (S u)), ?_, ?_, ?_, ?_, ?_, by omega, rfl⟩
      · rw [S_len]; rfl
      · intro b o hb
        have hne : b ≠ l := ne_of_none hb hl
        rw [upd_ne hne]; exact hsame b o hb
      · rw [upd_same, W_app]; rfl
      · rw [← hdr, ev, List.append_assoc]; rfl
      · rw [← List.drop_drop, er, List.drop_left]; exact hr'
  · have c' : ¬ (k : Int) < (((S z).length : Nat) : Int) := of_decide_eq_false (Bool.eq_false_iff.mpr c)
    rw [S_len] at c'
    have hnil : z.drop k = [] := List.drop_eq_nil_of_le (by omega)
    rw [hnil] at hwr
    have hre : rest = [] := by
      have := hwr.len
      exact List.length_eq_zero_iff.mp (by simpa using this)
    rw [hre, List.append_nil] at hdr
    refine ⟨_, rfl, q l H' hsame (by rw [← hdr]; exact hl') hl⟩
end
end K4
namespace L2
open PySem PySem.Spec PyProof.Rows
section
variable {κ : Type} [DecidableEq κ]
def putK (kvs : List (κ × V)) (k : κ) (v : V) : List (κ × V) :=
  if (kvs.any fun kv => decide (kv.1 = k)) = true then kvs.map (fun kv => if kv.1 = k then (kv.1, v) else kv) else kvs ++ [(k, v)]
theorem length_putK (kvs : List (κ × V)) (k : κ) (v : V) : (putK kvs k v).length ≤ kvs.length + 1 := by
  unfold putK
  split
  · rw [List.length_map]; omega
  · rw [List.length_append, List.length_cons, List.length_nil]; omega
theorem KV.any {kvs : List (κ × V)} {vs : List (κ × Value)} (r : KV kvs vs) (k : κ) : (kvs.any fun kv => decide (kv.1 = k)) = vs.any fun kv => decide (kv.1 = k) := by
  unfold KV at r
  induction r with
  | nil => rfl
  | cons h t ih => rw [List.any_cons, List.any_cons, ih, h.1]
theorem KV.repl {kvs : List (κ × V)} {vs : List (κ × Value)} (r : KV kvs vs) (k : κ) {y : V} {u : Value} (ry : RelV y u) :
    KV (kvs.map fun kv => if kv.1 = k then (kv.1, y) else kv) (vs.map fun kv => if kv.1 = k then (kv.1, u) else kv) := by
  unfold KV at r ⊢
  induction r with
  | nil => exact .nil
  | @cons p q ps qs h t ih =>
    rw [List.map_cons, List.map_cons]
    refine .cons ?_ ih
    obtain ⟨h1, h2⟩ := h
    by_cases e : p.1 = k
    · rw [if_pos e, if_pos (h1.symm.trans e)]; exact ⟨h1, ry⟩
    · rw [if_neg e, if_neg (fun z => e (h1.trans z))]; exact ⟨h1, h2⟩
theorem KV.put {kvs : List (κ × V)} {vs : List (κ × Value)} (r : KV kvs vs) (k : κ) {y : V} {u : Value} (ry : RelV y u) : KV (putK kvs k y) (stored vs k u) := by
  unfold putK stored
  rw [r.any k]
  by_cases e : (vs.any fun kv => decide (kv.1 = k)) = true
  · rw [if_pos e, if_pos e]; exact r.repl k ry
  · rw [if_neg e, if_neg e]; exact Paired.snoc r ⟨rfl, ry⟩
end
theorem kV_is {P : Program} {w : World} {k : Key} {u : Value} (r : RelV (kV k) u) : (mixKind P w).is k u = true := by
  cases k with
  | inl i => obtain ⟨t, e⟩ := (show ∃ t, u = Value.int i t from r); subst e; exact mixKind_int P w i t
  | inr x => obtain ⟨t, e⟩ := (show ∃ t, u = Value.str x t from r); subst e; exact mixKind_str P w x t
section
variable {P : Program} {w : World} {H : Hp} {h : Heap} {a : Addr}
theorem rd_of {u : HO} (ok : HOk P w H h) (e : Rd H a u) : ObjOk P w H h a u := e.ok ok
theorem dk_rd {kvs : List (Key × V)} (ok : HOk P w H h) (e : Rd H a (.dK kvs)) : kvs.length ≤ sizeLine ∧ (a == sysModules) = false ∧ ∃ vs, KV kvs vs ∧ h.DictOf (mixKind P w) a vs :=
  show ObjOk P w H h a (.dK kvs) from rd_of ok e
theorem dk_of {kvs : List (Key × V)} (ok : HOk P w H h) (e : H a = some (.dK kvs)) : kvs.length ≤ sizeLine ∧ (a == sysModules) = false ∧ ∃ vs, KV kvs vs ∧ h.DictOf (mixKind P w) a vs := dk_rd ok (.inl e)
end
section
variable {X : Cx} {pins : List (Addr × Obj)} {σ : St} {H : Hp} {s : Shared} {a : Addr} {y v : V} {u r : Value} {o : Option V} {A : Around} {E : Value → Shared → Prop}
theorem Inv.big (I : Inv X pins σ H s) : sysModules < s.heap.objs.size := by
  have h : mainGlobals < s.heap.objs.size := (I.mod.glob.keeps I.bk).lt
  exact Nat.lt_trans (by decide) h
theorem d_write {h' : Heap} {t' : Nat} {ob : HO} (I : Inv X pins σ H s) (mu : Mut (H a)) (hs : Heap.SameBut a s.heap h') (he : ∃ q, h'.get? a = some q) (new : ObjOk X.prog X.w (upd H a ob) h' a ob) :
    Inv X pins σ (upd H a ob) { s with heap := h', toks := t' } :=
  I.write (x := a) (e := a) mu (.inl rfl) (fun b q hb z => (hs.2 b hb).trans z) he new
theorem dk_new {P : Program} {w : World} {H' : Hp} {h' : Heap} {kvs : List (Key × V)} {vs : List (Key × Value)} (z : kvs.length ≤ sizeLine) (hd : (a == sysModules) = false) (rel : KV kvs vs) (dd : h'.DictOf (mixKind P w) a vs) :
    ObjOk P w H' h' a (.dK kvs) := ⟨z, hd, vs, rel, dd⟩
end
section
variable {X : Cx} {pins : List (Addr × Obj)} {σ : St} {H : Hp} {s : Shared} {a : Addr} {kvs : List (Key × V)} {k : Key} {u : Value} {A : Around} {E : Value → Shared → Prop}
end
section
variable {X : Cx} {o i e value : Expr} {pos pos' tpos : Pos} {td ty tv : TE}
end
theorem dk_empty {P : Program} {w : World} {H : Hp} (h : Heap) (hb : sysModules < h.objs.size) : ObjOk P w H (h.push { cls := .type "dict", data := .dict #[] }) h.objs.size (.dK []) :=
  ⟨Nat.zero_le _, beq_eq_false_iff_ne.mpr (Ne.symm (Nat.ne_of_lt hb)), [], .nil, Heap.DictOf.new h⟩
section
variable {X : Cx} {pos : Pos}
end
def tPairs : List (TE × TE) → St → Hp → (List (V × V) → Hp → Prop) → Prop
  | [], _, H, Q => Q [] H
  | (tk, tv) :: r, σ, H, Q => tk σ H fun x H1 => tv σ H1 fun y H2 => tPairs r σ H2 fun ps H3 => Q ((x, y) :: ps) H3
abbrev VV : List (V × V) → List (Value × Value) → Prop := Paired fun p q => RelV p.1 q.1 ∧ RelV p.2 q.2
def PPs (X : Cx) (pos : Pos) (keys : List (Option Expr)) (values : List Expr) (trs : List (TE × TE)) : Prop :=
  ∀ (pins : List (Addr × Obj)) (s : Shared) (σ : St) (H : Hp) (Q : List (V × V) → Hp → Prop), Inv X pins σ H s → tPairs trs σ H Q →
    wpAny (model X.prog X.w) X.A (evalPairs (pairTrees keys values X.env pos)) (fun vs s' => ∃ ps H', Inv X pins σ H' s' ∧ VV ps vs ∧ Q ps H') X.xe s
theorem pps_nil {X : Cx} {pos : Pos} : PPs X pos [] [] [] := fun pins s σ H Q I h => pairTrees_nil_walk ⟨[], H, I, .nil, h⟩
theorem pps_cons {X : Cx} {pos : Pos} {k v : Expr} {ks : List (Option Expr)} {vs : List Expr} {tk tv : TE} {trs : List (TE × TE)} (hk : PE X k tk) (hv : PE X v tv) (hr : PPs X pos ks vs trs) :
    PPs X pos (some k :: ks) (v :: vs) ((tk, tv) :: trs) := fun pins s σ H Q I h =>
  pairTrees_cons_walk (thn (hk pins s σ H _ I h) fun u s1 ⟨x, H1, I1, rx, q1⟩ => thn (hv pins s1 σ H1 _ I1 q1) fun w2 s2 ⟨y, H2, I2, ry, q2⟩ =>
    thn (hr pins s2 σ H2 _ I2 q2) fun ws s3 ⟨ps, H3, I3, rel, q3⟩ => ⟨(x, y) :: ps, H3, I3, .cons ⟨rx, ry⟩ rel, q3⟩)
def mergeK (kvs more : List (Key × V)) : List (Key × V) := more.foldl (fun acc kv => putK acc kv.1 kv.2) kvs
theorem KV.merge : ∀ {more : List (Key × V)} {rs : List (Key × Value)} {kvs : List (Key × V)} {vs : List (Key × Value)}, KV more rs → KV kvs vs → KV (mergeK kvs more) (merged vs rs) := by
  intro more rs kvs vs r
  unfold KV at r
  induction r generalizing kvs vs with
  | nil => intro q; exact q
  | @cons p q ps qs h t ih =>
    intro r0
    have e : KV (putK kvs p.1 p.2) (stored vs q.1 q.2) := by
      have := r0.put p.1 h.2
      rw [← h.1]; exact this
    exact ih e
theorem length_mergeK : ∀ (more kvs : List (Key × V)), (mergeK kvs more).length ≤ kvs.length + more.length
  | [], kvs => by show kvs.length ≤ kvs.length + 0; omega
  | p :: r, kvs => by
    have h1 := length_mergeK r (putK kvs p.1 p.2)
    have h2 := length_putK kvs p.1 p.2
    show (mergeK (putK kvs p.1 p.2) r).length ≤ _
    rw [List.length_cons]; omega
theorem carries_of {P : Program} {w : World} : ∀ {kvs : List (Key × V)} {ws : List (Value × Value)}, VV (kvs.map fun kv => (kV kv.1, kv.2)) ws → ∃ rs, Carries (mixKind P w) ws rs ∧ KV kvs rs
  | [], _, r => by rw [List.map_nil] at r; cases r; exact ⟨[], True.intro, .nil⟩
  | p :: kvs, _, r => by
    rw [List.map_cons] at r
    cases r with
    | @cons a b as bs h t =>
      obtain ⟨rs, c, q⟩ := carries_of (P := P) (w := w) t
      obtain ⟨b1, b2⟩ := b
      exact ⟨(p.1, b2) :: rs, ⟨kV_is h.1, rfl, c⟩, .cons ⟨rfl, h.2⟩ q⟩
def tDisp (trs : List (TE × TE)) : TE := fun σ H Q => ∀ p, H p = none → tPairs trs σ (upd H p (.dK [])) fun ps H2 => H2 p = some (.dK []) ∧ ∃ kvs : List (Key × V), ps = kvs.map (fun kv => (kV kv.1, kv.2)) ∧ kvs.length ≤ 15 ∧ Q (.ref p) (upd H2 p (.dK (mergeK [] kvs)))
theorem pe_disp {X : Cx} {pos : Pos} {keys : List (Option Expr)} {values : List Expr} {trs : List (TE × TE)} (h : PPs X pos keys values trs) (hall : keys.all (·.isSome) = true) (hl : keys.length = values.length) (h0 : keys ≠ [])
    (h15 : keys.length ≤ 15) : PE X (.Dict keys values pos) (tDisp trs) := by
  intro pins s σ H Q I q
  have hn := I.hok.fresh (Nat.le_refl s.heap.objs.size)
  have I1 := I.laid (a := s.heap.objs.size) (o := .dK []) (h' := s.heap.push { cls := .type "dict", data := .dict #[] }) (t' := s.toks) (fun _ _ q => Heap.get?_push_of_some _ q) (Nat.le_refl _) (dk_empty s.heap I.big)
  refine wpAny_Dict_walk (knd := mixKind X.prog X.w) hall hl h0 h15 (thn (h pins _ σ _ _ I1 (q _ hn)) fun ws s2 ⟨ps, H2, I2, rel, e, kvs, ep, lk, q2⟩ => ?_)
  subst ep
  obtain ⟨rs, c, rk⟩ := carries_of (P := X.prog) (w := X.w) rel
  obtain ⟨z, hd, vs0, r0, dd⟩ := dk_of I2.hok e
  cases r0
  refine ⟨rs, c, dd, fun h' dd' hs => ⟨.ref s.heap.objs.size, _, ?_, rfl, q2⟩⟩
  have hz : (mergeK [] kvs).length ≤ sizeLine := by
    have h1 := length_mergeK kvs []
    rw [List.length_nil] at h1
    rw [sizeLine_eq]; omega
  have he : ∃ q, h'.get? s.heap.objs.size = some q := let ⟨q, _, _, hq, _⟩ := dd'; ⟨q, hq⟩
  exact d_write I2 (by rw [e]; exact True.intro) hs he (dk_new hz hd (rk.merge .nil) dd')
section
variable {X : Cx} {pins : List (Addr × Obj)} {σ : St} {H : Hp} {s : Shared} {a : Addr} {y d : V} {u r : Value} {o : Option V} {A : Around} {E : Value → Shared → Prop}
end
section
variable {X : Cx} {o e f : Expr} {apos cpos : Pos} {td ty tx : TE}
end
section
variable {X : Cx} {pins : List (Addr × Obj)} {σ : St} {H : Hp} {s : Shared} {a : Addr} {kvs : List (Key × V)} {A : Around} {E : Value → Shared → Prop}
end
section
variable {X : Cx} {pins : List (Addr × Obj)} {σ : St} {H : Hp} {s : Shared} {a : Addr} {y : V} {u : Value} {A : Around} {E : Value → Shared → Prop}
end
end L2
namespace L2
open PySem PySem.Spec PyProof.Rows
section
variable {X : Cx}
end
section
variable {X : Cx} {tg : Expr}
end
end L2
namespace TM
inductive Tree (α : Type) where
  | node (name : α) (mark : Int) (bs : List (Tree α))
variable {α : Type}
structure Rows (α : Type) where
  n : Nat
  nm : Nat → α
  mr : Nat → Int
  up : Nat → Nat
variable {R : Rows α}
section
variable {K : Nat → List Int} {B : Nat → Tree α} {o0 : Tree α}
def it (R : Rows α) : Nat → Nat → Nat
  | 0, s => s
  | j + 1, s => R.up (it R j s)
variable {B' : Nat → Tree α} {o : Tree α} {s : Nat}
end
end TM
namespace L2
open PySem PySem.Spec PyProof.Rows TM
end L2
namespace L2
open PySem
end L2
namespace L2
open PySem PySem.Spec PyProof.Rows
section
variable {X : Cx}
end
end L2
namespace L2
open PySem PySem.Spec PyProof.Rows
section
variable {X : Cx}
end
section
variable {P : Program} {w : World} {K : PySem.W.Frag} {mg : Str → Option Value} {base : Heap}
end
end L2
namespace L2
open PySem PySem.Spec PyProof.Rows
end L2
namespace L2
open PySem PySem.Spec PyProof.Rows
theorem ObjOk.there {P : Program} {w : World} {H : Hp} {h : Heap} {a : Addr} {o : HO} (x : ObjOk P w H h a o) : ∃ ob, h.get? a = some ob := by
  cases o with
  | lst xs => obtain ⟨_, _, _, _, e⟩ := x; exact ⟨_, e⟩
  | tup xs => obtain ⟨_, _, _, _, e, _⟩ := x; exact ⟨_, e⟩
  | dK kvs => obtain ⟨_, _, _, _, o, _, _, e, _⟩ := x; exact ⟨_, e⟩
  | dT kvs => obtain ⟨_, _, _, _, o, _, _, e, _⟩ := x; exact ⟨_, e⟩
  | set S n => obtain ⟨o, _, _, _, e, _⟩ := x; exact ⟨_, e⟩
  | ins C dx fs => obtain ⟨_, _, _, e, _⟩ := x; exact ⟨_, e⟩
  | own y => obtain ⟨_, e⟩ := x; exact ⟨_, e⟩
  | xd fs => obtain ⟨_, ⟨_, _, _, e, _⟩, _⟩ := x; exact ⟨_, e⟩
  | rng lo hi => obtain ⟨_, _, _, e⟩ := x; exact ⟨_, e⟩
  | frz ob u => obtain ⟨e, _⟩ := x; exact ⟨_, e⟩
  | tbl ps => exact ⟨_, (show h.get? a = some _ from x)⟩
  | met f y => exact ⟨_, (show h.get? a = some _ from x)⟩
  | ext φ => obtain ⟨_, e, _⟩ := x; exact e
def Cov (B : Heap) (fs : List Addr) (H' : Hp) (h h1 : Heap) : Prop := ∀ b o, h1.get? b = some o → (H' b ≠ none ∨ ∃ o', h.get? b = some o') → b ∉ fs → B.get? b = some o
structure Flw (P : Program) (w : World) (outer : List Env) (H : Hp) (s : Shared) (a : Addr) (cls : Value) (H' : Hp) (s' : Shared) : Prop where
  os : s'.os = s.os
  bare : AllBare s'.gens
  un : Un (frs outer) [] H H' s.heap s'.heap
  hok : HOk P w H' s'.heap
  fly : ∃ B t, Heap.FlyingW B outer a cls (.ref t) s'.heap ∧ Cov B (frs outer) H' s.heap s'.heap
def CX1 (P : Program) (w : World) : CXT := fun outer H s E e s' => ∃ (a : Addr) (cls : Value) (H' : Hp), e = .ref a ∧ Flw P w outer H s a cls H' s' ∧ E cls none H'
theorem un_fly {fs : List Addr} {H H' : Hp} {h h1 h2 B : Heap} (u : Un fs [] H H' h h1) (cov : Cov B fs H' h h1) (st : B.StaysIn h2) (up : h1.UpToSlots h2) (hfs : ∀ b ∈ fs, ∀ o, h1.get? b = some o → ∀ vs, o.data ≠ .fields vs) : Un fs [] H H' h h2 where
  keep := fun b o e n hb hx => st _ _ (cov b o (u.keep b o e n hb hx) (.inr ⟨o, e⟩) hb)
  slot := fun b o e n hb hx => by
    obtain ⟨sl, e1⟩ := u.slot b o e n hb hx
    obtain ⟨sl2, e2⟩ := up b _ e1 (hfs b hb _ e1)
    exact ⟨sl2, e2⟩
  free := u.free
  there := fun b o e hx => by
    obtain ⟨o1, e1⟩ := u.there b o e hx
    by_cases hb : b ∈ fs
    · obtain ⟨sl2, e2⟩ := up b _ e1 (hfs b hb _ e1)
      exact ⟨_, e2⟩
    · exact ⟨o1, st _ _ (cov b o1 e1 (.inr ⟨o, e⟩) hb)⟩
  tups := u.tups
  frzs := u.frzs
  tbls := u.tbls
theorem hok_fly {P : Program} {w : World} {fs : List Addr} {H' : Hp} {h h1 h2 B : Heap} (hok : HOk P w H' h1) (trk : ∀ b ∈ fs, H' b = none) (cov : Cov B fs H' h h1) (st : B.StaysIn h2) : HOk P w H' h2 := fun b u e => by
  refine (hok b u e).stay (fun c v hc r => ?_) (fun _ r => r) fun _ _ r => r
  have hne : H' c ≠ none := by
    rcases hc with rfl | hc
    · rw [e]; intro z; cases z
    · rw [hc]; intro z; cases z
  exact st _ _ (cov c v r (.inl hne) fun z => hne (trk c z))
section
variable {X : Cx} {pins : List (Addr × Obj)} {σ : St} {H H' : Hp} {s s' : Shared}
theorem frs_data {B : Heap} {l : List Env} {h : Heap} (hl : h.FunFrames B l) : ∀ b ∈ frs l, ∀ o, h.get? b = some o → ∀ vs, o.data ≠ .fields vs := fun b hb o e vs => by
  obtain ⟨_, o', e', d⟩ := hl.mem hb
  rw [e] at e'
  cases e'
  exact d vs
theorem free_un (I : Inv X pins σ H s) (u : Un (frs X.stack) [] H H' s.heap s'.heap) : ∀ b ∈ frs X.stack, H' b = none := fun b hb => by
  obtain ⟨_, o, ho, _⟩ := I.stack.mem hb
  exact u.free b o ho (I.stkFree b hb) (by simp)
theorem Inv.flown {h2 B : Heap} (I : Inv X pins σ H s) (os : s'.os = s.os) (bare : AllBare s'.gens) (un : Un (frs X.stack) [] H H' s.heap s'.heap) (hok : HOk X.prog X.w H' s'.heap) (hfr : s'.heap.FunFrames B X.stack) (cov : Cov B (frs X.stack) H' s.heap s'.heap) (st : B.StaysIn h2) (up : s'.heap.UpToSlots h2) :
    Inv X pins σ H' { s' with heap := h2 } :=
  I.call' (s' := { s' with heap := h2 }) (ch := []) os (un_fly un cov st up (frs_data hfr)) (hok_fly hok (free_un I un) cov st) bare (fun b z => absurd z (by simp))
theorem Cov.out {B h2 : Heap} {H0 : Hp} {s0 : Shared} (I : Inv X pins σ H s) (hH0 : X.H₀ = H0) (hs0 : X.s₀ = s0) (hex : X.ex = []) (un : Un (frs X.stack) [] H H' s.heap s'.heap) (hok : HOk X.prog X.w H' s'.heap) (cov : Cov B (frs X.stack) H' s.heap s'.heap) (st : B.StaysIn h2) : Cov B X.fs H' s0.heap h2 := fun b o e hb nb => by
  have key : ∃ o', s'.heap.get? b = some o' ∧ b ∉ frs X.stack ∧ (H' b ≠ none ∨ ∃ o', s.heap.get? b = some o') := by
    rcases hb with hb | ⟨o', hb⟩
    · cases hH : H' b with
      | none => exact absurd hH hb
      | some u =>
        obtain ⟨o', ho'⟩ := (hok b u hH).there
        refine ⟨o', ho', fun z => ?_, .inl (by intro z; cases z)⟩
        rw [free_un I un b z] at hH
        cases hH
    · have h1 : X.s₀.heap.get? b = some o' := by rw [hs0]; exact hb
      obtain ⟨o1, e1⟩ := I.base.there b o' h1 (by rw [hex]; simp)
      obtain ⟨o2, e2⟩ := un.there b o1 e1 (by simp)
      refine ⟨o2, e2, fun z => ?_, .inr ⟨o1, e1⟩⟩
      rcases List.mem_cons.mp (I.stkSub b z) with z | z
      · rw [z] at h1
        exact absurd (Nat.lt_of_lt_of_le (Heap.lt_size h1) I.ok.above) (Nat.lt_irrefl _)
      · exact nb z
  obtain ⟨o', h1, h2', h3⟩ := key
  have hB := cov b o' h1 h3 h2'
  have := st _ _ hB
  rw [e] at this
  cases this
  exact hB
end
section
variable {P : Program} {w : World} {K : PySem.W.Frag} {mg : Str → Option Value} {base : Heap} {N : List Str} {qual : Str} {scope : Scope} {f : Addr} {cd : Value} {A : Around} {outer : List Env} {s : Shared} {H : Hp} {E : XK}
theorem pass1 {E' : XK} (k : ∀ cls H', E' cls none H' → E cls none H') : Passes (CX1 P w) (cxOf (CX1 P w) P w K mg base N qual scope f cd A outer s H E) E' := by
  intro pins σ H1 s1 e s' I h
  obtain ⟨a, cls, H', rfl, F, q⟩ := h
  obtain ⟨B, t, hfl, cov⟩ := F.fly
  show wpAny (model P w) (A.deeper (envOfC qual scope s.heap.objs.size f cd)) (leaving (envOfC qual scope s.heap.objs.size f cd) (.ref a)) _ _ s'
  refine wpAny_leaves_onW I.ok.frames rfl hfl fun h2 hfl2 up => ?_
  have J := I.flown F.os F.bare F.un F.hok hfl.2.2.1 cov hfl2.1 up
  exact ⟨a, cls, H', rfl, ⟨J.os, J.bare, J.base, J.hok, B, t, hfl2, Cov.out I rfl rfl rfl F.un F.hok cov hfl2.1⟩, k _ _ q⟩
theorem raised {pins : List (Addr × Obj)} {σ : St} {H1 : Hp} {s1 : Shared} {a : Addr} {cls : Value} {args : List Value} {h' : Heap} (I : Inv (cxOf (CX1 P w) P w K mg base N qual scope f cd A outer s H E) pins σ H1 s1) (hx : Heap.MadeExcOf s1.heap h' a cls args) (q : E cls none H1) :
    (cxOf (CX1 P w) P w K mg base N qual scope f cd A outer s H E).xe (.ref a) { s1 with heap := h' } := by
  show wpAny (model P w) (A.deeper (envOfC qual scope s.heap.objs.size f cd)) (leaving (envOfC qual scope s.heap.objs.size f cd) (.ref a)) _ _ _
  obtain ⟨stk, hstk⟩ : ∃ stk, stk = envOfC qual scope s.heap.objs.size f cd :: outer := ⟨_, rfl⟩
  have hfr : s1.heap.FunFrames (PySem.W.hideAll s1.heap (frs stk)) stk := by
    have := I.stack
    rw [hstk]
    exact PySem.W.funFrames_hide this fun env he b hb => List.mem_filterMap.mpr ⟨env, he, hb⟩
  have cov : Cov (PySem.W.hideAll s1.heap (frs stk)) (frs stk) H1 s1.heap s1.heap := fun b o e _ nb => PySem.W.hideAll_get _ e nb
  refine wpAny_leaves_madeW (base := PySem.W.hideAll s1.heap (frs stk)) (h := s1.heap) I.ok.frames rfl (fun b o q => PySem.W.of_hideAll _ q) (hstk ▸ hfr) hx fun h2 t hfl2 tup hbt up => ?_
  subst hstk
  have up' : s1.heap.UpToSlots h2 := (Heap.UpToSlots.of_keeps hx.keeps).trans up
  have J := I.flown (s' := s1) rfl I.bare Un.refl I.hok hfr cov hfl2.1 up'
  exact ⟨a, cls, H1, rfl, ⟨J.os, J.bare, J.base, J.hok, _, t, hfl2, Cov.out (s' := s1) I rfl rfl rfl Un.refl I.hok cov hfl2.1⟩, q⟩
end
end L2
namespace L2
open PySem PySem.Spec PyProof.Rows
abbrev mroV : List Value := [.type "ValueError", .type "Exception", .type "BaseException", .type "object"]
theorem exc_obj {K : PySem.W.Frag} {h : Heap} {C : Addr} {bmB : List Value} {newId : String} (X : K.In h) (q : PySem.W.excIn K C bmB newId = true) :
    ∃ tl N nm qn bs hdct sn sub ab col dd k0 k1 k2 k3 k5 mN, h.get? C = some (excClassObj nm qn C N bs tl hdct sn sub ab col dd k0 k1 k2 k3 k5 newId) ∧ h.Ns N mN ∧ mN "__init__" = none ∧ OwnTail h bmB tl := by
  unfold PySem.W.excIn at q
  split at q
  · rename_i dd cd sl ho
    split at q
    · rename_i C' bm k0 k1 k2 k3 n k5 hm hs
      simp only [Bool.and_eq_true, beq_iff_eq, Bool.not_eq_true'] at q
      obtain ⟨⟨⟨⟨⟨e1, e2⟩, hdel⟩, ht⟩, hok⟩, hni⟩ := q
      subst e1 e2
      obtain ⟨nm, bs, mro, ns, qn, hd, sn, sub, ab, col, del⟩ := cd
      dsimp only at hm hdel hok hni
      subst hm hdel
      have hsl : sl = #[k0, k1, k2, k3, some (.builtin n), k5] := by
        obtain ⟨l⟩ := sl
        exact congrArg Array.mk hs
      subst hsl
      exact ⟨bm, ns, nm, qn, bs, hd, sn, sub, ab, col, dd, k0, k1, k2, k3, k5, _, X _ _ ho, .of_isNs (PySem.W.isNs_of_in X hok), PySem.W.nsMap_none_of_in X hok hni, PySem.W.tail_of_in X ht⟩
    · cases q
  · cases q
def sRaise (C : Addr) (E : XK) (t : TA) : TS := fun D σ H => t σ H fun vs H1 => vs.length ≤ sizeLine ∧ E (.ref C) none H1
section
variable {P : Program} {w : World} {K : PySem.W.Frag} {mg : Str → Option Value} {base : Heap} {N : List Str} {qual : Str} {scope : Scope} {f : Addr} {cd : Value} {A : Around} {outer : List Env} {s : Shared} {H : Hp} {E : XK}
theorem ps_raise {x : Str} {C : Addr} {newId Bn inN : String} {bmN : List Value} {e : Expr} {es : List Expr} {t : TA} {np cpos pos : Pos} (hm : mg x = some (.ref C)) (hq : PySem.W.excIn K C mroV newId = true) (Fn : ExcBaseFacts Bn newId inN bmN) (hBn : mroV.contains (.type Bn) = true)
    (ha : PA (cxOf (CX1 P w) P w K mg base N qual scope f cd A outer s H E) (e :: es) t) (hg : Gl (cxOf (CX1 P w) P w K mg base N qual scope f cd A outer s H E) x := by rfl) (hd : (x == ("__debug__" : Str)) = false := by decide)
    (he : starEach (e :: es) (envOfC qual scope s.heap.objs.size f cd) = (false, eval e (envOfC qual scope s.heap.objs.size f cd)) :: starEach es (envOfC qual scope s.heap.objs.size f cd) := by rfl) (hpl : (backTo cpos (starEach es (envOfC qual scope s.heap.objs.size f cd))).any (·.1) = false := by rfl) :
    PS (cxOf (CX1 P w) P w K mg base N qual scope f cd A outer s H E) (.Raise (some (.Call (.Name x np) (e :: es) [] cpos)) none pos) (sRaise C E t) := by
  intro pins s1 σ H1 D I h
  obtain ⟨tl, N', nm, qn, bs, hdct, sn, sub, ab, col, dd, k0, k1, k2, k3, k5, mN, hC, hN, hni, T⟩ := exc_obj (h := base) I.ok.mod.kin hq
  refine wpAny_Raise_call_subU (C := C) (nm := nm) (q := qn) (N := N') (bs := bs) (bm := tl) (hdct := hdct) (sn := sn) (sub := sub) (ab := ab) (col := col) (dd := dd) (k0 := k0) (k1 := k1) (k2 := k2) (k3 := k3) (k5 := k5)
    Fn hBn PySem.F.excBase_ValueError (mN := mN) (T.hasType PySem.F.excBase_ValueError.hasBase) (I.ok.hd rfl) ?_ hni (ld_glob I hg hm ⟨rfl, ?_⟩ hd)
  · show (backTo cpos (starEach (e :: es) (envOfC qual scope s.heap.objs.size f cd))).any (·.1) = false
    rw [he]
    show (false || (backTo cpos (starEach es (envOfC qual scope s.heap.objs.size f cd))).any (·.1)) = false
    rw [hpl]; rfl
  · have hw := ha cpos pins s1 σ H1 _ I h
    show wpAny (model P w) (A.deeper (envOfC qual scope s.heap.objs.size f cd)) (evalArgs (.ref C) true (backTo cpos (starEach (e :: es) (envOfC qual scope s.heap.objs.size f cd))) []) _ _ s1
    have hw' : wpAny (model P w) (A.deeper (envOfC qual scope s.heap.objs.size f cd)) (spliced (backTo cpos (starEach (e :: es) (envOfC qual scope s.heap.objs.size f cd)))) _ _ s1 := hw
    rw [he] at hw' ⊢
    refine Calls.evalArgs_plain (wpAny_mono hw' (fun us s2 h2 => ?_) fun _ _ y => y)
    obtain ⟨vs, H2, I2, r, hl, q⟩ := h2
    exact ⟨rfl, by rw [← r.length]; exact hl, I2.bk _ _ hC, hN.keeps I2.bk, T.keeps I2.bk, fun h' a hx => raised I2 hx q⟩
end
end L2
namespace L2
open PySem PySem.Spec PyProof.Rows
structure FnX (P : Program) (w : World) (K : PySem.W.Frag) (mg : Str → Option Value) (base : Heap) (k : Nat) (x : Str) (ps : List Str) (sp : Sp) : Prop where
  ex : ∃ (f : Addr) (fd : FuncData), FnOk P w K mg base (CX1 P w) k f fd ps sp ∧ Binds K fd ps [] ∧ PySem.W.keepIn K (.ref f) = true ∧ mg x = some (.ref f)
def PassE (X : Cx) (EE : St → XK) : Prop := ∀ (pins : List (Addr × Obj)) (σ : St) (H : Hp) (s : Shared) (e : Value) (s' : Shared), Inv X pins σ H s → CX1 X.prog X.w X.stack H s (EE σ) e s' → X.xe e s'
def tCallX (sp : Sp) (EE : St → XK) (t : TA) : TE := fun σ H Q => t σ H fun vs H1 => sp vs H1 Q (EE σ)
section
variable {X : Cx}
theorem pe_fnX {k k' : Nat} {x : Str} {ps : List Str} {sp : Sp} {EE : St → XK} {p pos : Pos} {e : Expr} {es : List Expr} {t : TA} (F : FnX X.prog X.w X.K X.mg X.base k x ps sp) (hr : Room k' X.A) (hx : PassE X EE) (ha : PA X (e :: es) t) (hk : k ≤ k' := by decide) (hg : Gl X x := by rfl)
    (hdb : (x == ("__debug__" : Str)) = false := by decide) (he : starEach (e :: es) X.env = (false, eval e X.env) :: starEach es X.env := by rfl) (hpl : (backTo pos (starEach es X.env)).any (·.1) = false := by rfl) :
    PE X (.Call (.Name x p) (e :: es) [] pos) (tCallX sp EE t) := by
  obtain ⟨f, fd, h1, h2, h3, h4⟩ := F.ex
  intro pins s σ H Q I h
  refine wpAny_Call_Name_kw (ld_glob I hg h4 ?_ hdb)
  refine PySem.W.callWith_K (h₀ := X.base) I.ok.mod.kin h3 (thn (ha pos pins s σ H _ I h) fun us s1 ⟨vs, H1, I1, r, q⟩ => ⟨I1.kIn, ?_⟩) he hpl
  have hl : us.length = ps.length := by rw [← r.length]; exact h1.len _ _ _ _ q
  have hb := h2 s1 us I1.kIn (by rw [List.append_nil]; exact hl)
  rw [List.append_nil] at hb
  refine wpAny_call (codeAny_mono (h1.run X.A X.stack s1 H1 ⟨us, []⟩ us vs Q (EE σ) (hr.mono hk) I1.env0 hb r q) fun r s' hq => ?_)
  cases r with
  | error e => exact hx pins σ H1 s1 e s' I1 hq
  | ok fl =>
    cases fl with
    | ret u => exact I1.after hq
    | next => exact False.elim hq
    | brk => exact False.elim hq
    | cont => exact False.elim hq
end
section
variable {P : Program} {w : World} {K : PySem.W.Frag} {mg : Str → Option Value} {base : Heap} {N : List Str} {qual : Str} {scope : Scope} {f : Addr} {cd : Value} {A : Around} {outer : List Env} {s : Shared} {H : Hp} {E : XK}
theorem passE {E' : XK} (k : ∀ cls H', E' cls none H' → E cls none H') : PassE (cxOf (CX1 P w) P w K mg base N qual scope f cd A outer s H E) (fun _ => E') := fun pins σ H1 s1 e s' I h => pass1 k pins σ H1 s1 e s' I h
theorem Fun.okX {x : Str} {st : Stmt} {fd : FuncData} {ps : List Str} {k : Nat} {sp : Sp} (F : Fun K x qual st f fd) (S : FnScope N ps (defScope st)) (len : ∀ vs H Q E, sp vs H Q E → vs.length = ps.length)
    (hbody : ∀ (cdv : Value) (A : Around) (outer : List Env) (s : Shared) (H : Hp) (vs : List V) (Q : VK) (E : XK), Room k (A.deeper (envOfC qual (defScope st) s.heap.objs.size f cdv)) → sp vs H Q E →
      ∃ t, PSs (cxOf (CX1 P w) P w K mg base N qual (defScope st) f cdv A outer s H E) (defBody st) t ∧ t { nx := fun _ H' => Q .non H', rt := Q } (start N vs) H) : FnOk P w K mg base (CX1 P w) (k + 1) f fd ps sp := by
  obtain ⟨oc, od, kV, doc, pm, an, cdv, ct, osl, rfl, lk, hcd⟩ := F.ex
  exact fn_of lk hcd S len fun A outer s H vs Q E hr hsp => hbody cdv A outer s H vs Q E hr hsp
end
abbrev Cx.pnd (X : Cx) (pins : List (Addr × Obj)) : Cx := { X with pn := X.pn ++ pins }
abbrev Cx.tryx (X : Cx) (pins : List (Addr × Obj)) (EE : St → XK) : Cx := { X with pn := X.pn ++ pins, xe := fun e s' => ∃ pins' σ H s, Inv (X.pnd pins) pins' σ H s ∧ CX1 X.prog X.w X.stack H s (EE σ) e s' }
abbrev Cx.mrk (X : Cx) (a : Addr) : Cx := { X with A := X.A.mark (some (.ref a)), calm := false, xe := fun _ _ => False }
section
variable {X : Cx} {pins : List (Addr × Obj)} {σ : St} {H : Hp} {s : Shared} {EE : St → XK} {a : Addr}
theorem Inv.toTry (I : Inv X pins σ H s) (EE : St → XK) : Inv (X.tryx pins EE) [] σ H s :=
  ⟨⟨I.ok.mod, I.ok.kind, I.ok.glob, I.ok.blt, I.ok.above, I.ok.inj, I.ok.has, I.ok.cab, I.ok.hd, I.ok.frames, I.ok.stk, I.ok.exf, I.ok.bs, I.ok.bsz, I.ok.noex, I.ok.exfs, I.ok.funs, I.ok.frf⟩, I.os, I.bare, I.base, I.loc, I.cell, I.free, I.freeC, fun p hp => I.pin p (by simpa using hp), I.hok, I.len⟩
theorem Inv.ofTry {p2 : List (Addr × Obj)} (I : Inv (X.tryx pins EE) p2 σ H s) : Inv X pins σ H s :=
  ⟨⟨I.ok.mod, I.ok.kind, I.ok.glob, I.ok.blt, I.ok.above, I.ok.inj, I.ok.has, I.ok.cab, I.ok.hd, I.ok.frames, I.ok.stk, I.ok.exf, I.ok.bs, I.ok.bsz, I.ok.noex, I.ok.exfs, I.ok.funs, I.ok.frf⟩, I.os, I.bare, I.base, I.loc, I.cell, I.free, I.freeC, fun p hp => I.pin p (List.mem_append_left _ hp), I.hok, I.len⟩
theorem Inv.ofTryP {p2 : List (Addr × Obj)} (I : Inv (X.tryx pins EE) p2 σ H s) : Inv (X.pnd pins) p2 σ H s :=
  ⟨⟨I.ok.mod, I.ok.kind, I.ok.glob, I.ok.blt, I.ok.above, I.ok.inj, I.ok.has, I.ok.cab, I.ok.hd, I.ok.frames, I.ok.stk, I.ok.exf, I.ok.bs, I.ok.bsz, I.ok.noex, I.ok.exfs, I.ok.funs, I.ok.frf⟩, I.os, I.bare, I.base, I.loc, I.cell, I.free, I.freeC, I.pin, I.hok, I.len⟩
theorem Inv.ofPnd {p2 : List (Addr × Obj)} (I : Inv (X.pnd pins) p2 σ H s) : Inv X pins σ H s :=
  ⟨⟨I.ok.mod, I.ok.kind, I.ok.glob, I.ok.blt, I.ok.above, I.ok.inj, I.ok.has, I.ok.cab, I.ok.hd, I.ok.frames, I.ok.stk, I.ok.exf, I.ok.bs, I.ok.bsz, I.ok.noex, I.ok.exfs, I.ok.funs, I.ok.frf⟩, I.os, I.bare, I.base, I.loc, I.cell, I.free, I.freeC, fun p hp => I.pin p (List.mem_append_left _ hp), I.hok, I.len⟩
theorem Inv.toMrk (I : Inv X pins σ H s) (a : Addr) (hf : (X.A.mark (some (.ref a))).frames = X.A.frames) : Inv (X.mrk a) pins σ H s :=
  ⟨⟨I.ok.mod, I.ok.kind, I.ok.glob, I.ok.blt, I.ok.above, I.ok.inj, I.ok.has, I.ok.cab, fun z => (nomatch z), hf.trans I.ok.frames, I.ok.stk, I.ok.exf, I.ok.bs, I.ok.bsz, I.ok.noex, I.ok.exfs, I.ok.funs, I.ok.frf⟩, I.os, I.bare, I.base, I.loc, I.cell, I.free, I.freeC, I.pin, I.hok, I.len⟩
theorem Inv.ofMrk (ok : X.Ok) (I : Inv (X.mrk a) pins σ H s) : Inv X pins σ H s := ⟨ok, I.os, I.bare, I.base, I.loc, I.cell, I.free, I.freeC, I.pin, I.hok, I.len⟩
theorem SP.ofTry {D : Ends} {fl : Flow} {s' : Shared} (h : SP (X.tryx pins EE) [] D fl s') : SP X pins D fl s' := by
  cases fl with
  | next => obtain ⟨σ', H', I, q⟩ := h; exact ⟨σ', H', I.ofTry, q⟩
  | brk => obtain ⟨σ', H', I, q⟩ := h; exact ⟨σ', H', I.ofTry, q⟩
  | cont => obtain ⟨σ', H', I, q⟩ := h; exact ⟨σ', H', I.ofTry, q⟩
  | ret u => obtain ⟨v, σ', H', I, r, q⟩ := h; exact ⟨v, σ', H', I.ofTry, r, q⟩
theorem SP.ofMrk {D : Ends} {fl : Flow} {s' : Shared} (ok : X.Ok) (h : SP (X.mrk a) pins D fl s') : SP X pins D fl s' := by
  cases fl with
  | next => obtain ⟨σ', H', I, q⟩ := h; exact ⟨σ', H', I.ofMrk ok, q⟩
  | brk => obtain ⟨σ', H', I, q⟩ := h; exact ⟨σ', H', I.ofMrk ok, q⟩
  | cont => obtain ⟨σ', H', I, q⟩ := h; exact ⟨σ', H', I.ofMrk ok, q⟩
  | ret u => obtain ⟨v, σ', H', I, r, q⟩ := h; exact ⟨v, σ', H', I.ofMrk ok, r, q⟩
theorem passT : PassE (X.tryx pins EE) EE := fun p2 σ H s e s' I h => ⟨p2, σ, H, s, I.ofTryP, h⟩
end
end L2
namespace L2
open PySem PySem.Spec PyProof.Rows
def rCatL (K : PySem.W.Frag) : R2 := fun x y H Q => ∃ l b xs zs, x = .ref l ∧ y = .ref b ∧ SqL K H l xs ∧ SqL K H b zs ∧ xs.length + zs.length ≤ sizeLine ∧ ∀ p, H p = none → Q (.ref p) (upd H p (.lst (xs ++ zs)))
theorem op_catL {X : Cx} : OpR X (binaryOp .Add) (rCatL X.K) := by
  intro pins s σ H x y v u Q I rx ry h
  obtain ⟨l, b, xs, zs, rfl, rfl, ha, hb, hz, q⟩ := h
  cases rx
  cases ry
  obtain ⟨its, r1, ⟨⟨c1, d1, t1, s1⟩, n1, g1, e1, f1, k1⟩, _⟩ := I.list ha
  obtain ⟨its2, r2, ⟨⟨c2, d2, t2, s2⟩, n2, g2, e2, f2, k2⟩, _⟩ := I.list hb
  simp only at e1 f1 k1 e2 f2 k2
  subst e1 f1 k1 e2 f2 k2
  have l1 := r1.length
  have l2 := r2.length
  refine concat_meets ⟨_, g1, rfl⟩ ⟨_, g2, rfl⟩ noFill_list_add seq_list_add PySem.F.slot_list_add PySem.F.entry_list_add (PySem.F.args_list_add_2 _ _) (list_addW l b _ _ n1 n2 none none s1 s2 (by rw [List.size_toArray, List.size_toArray]; omega)) ⟨g1, g2, ?_⟩
  have ea : its.toArray ++ its2.toArray = (its ++ its2).toArray := by simp
  rw [ea]
  exact ⟨.ref _, _, I.lnew (t' := s.toks) (r1.append r2) (by rw [List.length_append]; omega), rfl, q _ I.fresh⟩
theorem cutFrom (xs : List V) (k : Nat) : cutV xs (some (k : Int)) none = xs.drop k := by
  unfold cutV
  rw [HT.sIx_none, HT.sIx_nat]
  by_cases h : k ≤ xs.length
  · rw [Nat.min_eq_left h]
    exact List.take_of_length_le (by rw [List.length_drop]; omega)
  · rw [Nat.min_eq_right (by omega), List.drop_of_length_le (Nat.le_refl _), List.drop_of_length_le (by omega), List.take_nil]
theorem cutTo (xs : List V) (k : Nat) : cutV xs none (some (k : Int)) = xs.take k := by
  unfold cutV
  rw [HT.sIx_none, HT.sIx_nat, List.drop_zero, Nat.sub_zero]
  by_cases h : k ≤ xs.length
  · rw [Nat.min_eq_left h]
  · rw [Nat.min_eq_right (by omega), List.take_of_length_le (Nat.le_refl _), List.take_of_length_le (by omega)]
theorem size_line : sizeLine = 16777216 := by decide
theorem line_of {n : Nat} (h : n ≤ 5000) : n ≤ sizeLine := by rw [size_line]; omega
end L2
namespace L2
open PySem PySem.Spec PyProof.Rows
def tFRep (te : TE) : TE := fun σ H Q => te σ H fun v H1 => ∃ x : Str, v = .str x ∧ (reprText x).length ≤ sizeLine ∧ Q (.str (reprText x)) H1
def tJoin2 (t1 t2 : TE) : TE := fun σ H Q => t1 σ H fun v1 H1 => ∃ a : Str, v1 = .str a ∧ a.length ≤ 1000 ∧ t2 σ H1 fun v2 H2 => ∃ b : Str, v2 = .str b ∧ b.length ≤ 1000 ∧ Q (.str (Str.empty ++ a ++ b)) H2
section
variable {X : Cx} {e e1 e2 e3 : Expr} {te t1 t2 t3 : TE} {pos : Pos}
theorem pe_frep (he : PE X e te) : PE X (.FormattedValue e 114 none pos) (tFRep te) := by
  intro pins s σ H Q I h
  refine PySem.wpAny_FormattedValue_repr (thn (he pins s σ H _ I h) fun u s1 ⟨x, H1, I1, r, y, ex, hd, q⟩ => ?_)
  subst ex
  obtain ⟨t, rfl⟩ := r
  refine wpAny_pyReprObj_gives (T := "str") (typeIs_str _ _ _) PySem.F.slot_str_repr PySem.F.entry_str_repr (PySem.F.args_str_repr_1 _) (gives_str_repr y t) ?_ rfl hd
  exact wpAny_formatField_str ⟨.str (reprText y), H1, I1.tok _, ⟨_, rfl⟩, q⟩ ⟨.str (reprText y), H1, (I1.tok _).tok _, ⟨_, rfl⟩, q⟩ hd
theorem pe_join2 (h1 : PE X e1 t1) (h2 : PE X e2 t2) : PE X (.JoinedStr [e1, e2] pos) (tJoin2 t1 t2) := by
  intro pins s σ H Q I h
  refine wpAny_JoinedStr ?_
  have e0 : (Str.empty).length = 0 := rfl
  refine thn (h1 pins s σ H _ I h) fun u1 s1 ⟨x1, H1, I1, r1, a, ea, la, q1⟩ => ?_
  subst ea
  obtain ⟨ta, rfl⟩ := r1
  refine ⟨a, ta, rfl, line_of (by rw [strLen_append]; omega), ?_⟩
  refine thn (h2 pins s1 σ H1 _ I1 q1) fun u2 s2 ⟨x2, H2, I2, r2, b, eb, lb, q2⟩ => ?_
  subst eb
  obtain ⟨tb, rfl⟩ := r2
  refine ⟨b, tb, rfl, line_of (by rw [strLen_append, strLen_append]; omega), line_of (by rw [strLen_append, strLen_append]; omega), ?_⟩
  exact ⟨.str (Str.empty ++ a ++ b), H2, I2.tok _, ⟨_, rfl⟩, q2⟩
end
end L2
namespace L2
open PySem PySem.Spec PyProof.Rows
def Sub (g h : Heap) : Prop := ∀ b o, g.get? b = some o → h.get? b = some o
section
variable {X : Cx} {pins : List (Addr × Obj)} {σ : St} {H : Hp} {s : Shared}
end
section
variable {X : Cx}
end
end L2
namespace L2
open PySem PySem.Spec PyProof.Rows
section
variable {X : Cx}
end
end L2
namespace L2
open PySem PySem.Spec PyProof.Rows
section
variable {X : Cx} {C : Addr} {k k' : Nat} {m : Str} {ps : List Str} {sp : Sp} {o e : Expr} {es : List Expr} {ta : TE} {t : TA} {apos pos : Pos}
end
end L2
namespace K3
open PySem L2
def sh (m : Int) : List Nat := if m < 0 then 45 :: D m.natAbs else D m.natAbs
theorem sh_word {m : Int} (h : m.natAbs < 10 ^ 60) : Word (sh m) := by
  unfold sh
  by_cases c : m < 0
  · rw [if_pos c]; exact .neg (D_num h) (D_ne h (by omega))
  · rw [if_neg c]; exact .num (D_num h)
end K3
namespace L2
open PySem PySem.Spec PyProof.Rows
section
variable {X : Cx}
section
variable {C : Addr} {k k' : Nat} {m : Str} {ps : List Str} {sp : Sp} {o e : Expr} {es : List Expr} {ta : TE} {t : TA} {apos pos : Pos} {EE : St → XK}
end
end
section
variable {X : Cx}
end
end L2
namespace L2
open PySem PySem.Spec PyProof.Rows
def ExcO (a : Addr) (cls : Value) : HO := .ext fun h => ∃ ob, h.get? a = some ob ∧ ob.cls = cls
section
variable {X : Cx} {pins : List (Addr × Obj)} {σ : St} {H H' : Hp} {s s' : Shared} {a : Addr}
theorem Inv.track {o : HO} (I : Inv X pins σ H s) (hn : H a = none) (h0 : ∀ ob, X.s₀.heap.get? a ≠ some ob) (hL : a ≠ X.env.locals) (hc : ∀ x c, X.env.cells.lookup x = some c → c ≠ a) (hp : ∀ p ∈ X.pn ++ pins, p.1 ≠ a) (ok : ObjOk X.prog X.w (upd H a o) s.heap a o) : Inv X pins σ (upd H a o) s := by
  have k : ∀ b u, H b = some u → upd H a o b = some u := fun b u e => by rw [upd_ne (ne_of_none e hn)]; exact e
  refine ⟨I.ok, I.os, I.bare, ⟨I.base.keep, I.base.slot, fun b ob e n hx => ?_, I.base.there, fun b xs e => k _ _ (I.base.tups b xs e), fun b ob u e => k _ _ (I.base.frzs b ob u e), fun b ps e => ?_⟩, I.loc, I.cell, ?_, fun x c e => ?_, fun p hp' => ?_, fun b u e => ?_, I.len⟩
  · rw [upd_ne (fun z => by rw [z] at e; exact h0 ob e)]; exact I.base.free b ob e n hx
  · obtain ⟨more, e1⟩ := I.base.tbls b ps e
    exact ⟨more, k _ _ e1⟩
  · rw [upd_ne (Ne.symm hL)]; exact I.free
  · rw [upd_ne (hc x c e)]; exact I.freeC x c e
  · obtain ⟨q1, q2, q3⟩ := I.pin p hp'
    exact ⟨q1, by rw [upd_ne (hp p hp')]; exact q2, q3⟩
  · by_cases z : b = a
    · subst z
      rw [upd_same] at e
      cases e
      exact ok
    · rw [upd_ne z] at e
      exact (I.hok b u e).stay (fun _ _ _ r => r) (fun c r => k _ _ r) fun c xs r => k _ _ r
theorem gone_ok {M : Model} {A : Around} {E : Value → Shared → Prop} {i : Nat} {n : Str} {pos : Pos} {Q : Unit → Shared → Prop} (I : Inv X pins σ H s) (hN : X.N.Nodup) (hi : X.N[i]? = some n) (hk : X.env.scope.names.lookup n = some .local)
    (h : ∀ s', Inv X pins (σ.set i none) H s' → Q () s') : wpAny M A (do bindName X.env n .none; unbindBehindTheSuite X.env n pos) Q E s := by
  obtain ⟨m, hn, hl⟩ := id I.loc
  have hcls : (X.env.scope.kind == .class || (X.env.scope.kind == .module && X.env.locals != X.env.globals)) = false := by rw [I.ok.kind]; rfl
  have hiσ : i < σ.length := by rw [I.len]; exact (List.getElem?_eq_some_iff.mp hi).1
  have cne := I.cne
  refine wpAny_nameGoes_keeps hk hn hcls fun h' v hn' hs => ?_
  obtain ⟨oL, _, _, hoL, _⟩ := id hn
  have tracked : HOk X.prog X.w H h' := fun b ob e => by
    refine (I.hok b ob e).stay (fun c w' hc q => (hs.2 c ?_).trans q) (fun _ q => q) fun _ _ q => q
    rintro rfl
    rcases hc with rfl | hc
    · rw [I.free] at e; cases e
    · rw [I.free] at hc; cases hc
  have neL : ∀ b o, X.s₀.heap.get? b = some o → b ≠ X.env.locals := fun b o e => Nat.ne_of_lt (Nat.lt_of_lt_of_le (Heap.lt_size e) I.ok.above)
  refine h _ ⟨I.ok, I.os, I.bare, ⟨fun b o e n hb hx => (hs.2 b (neL b o e)).trans (I.base.keep b o e n hb hx), fun b o e n hb hx => ?_, I.base.free, fun b o e hx => ?_, I.base.tups, I.base.frzs, I.base.tbls⟩, ⟨_, hn', fun j y v' e1 e2 e3 => ?_⟩, fun y c e => ?_, I.free, I.freeC, fun p hp => ?_, tracked, by simpa using I.len⟩
  · obtain ⟨sl, e1⟩ := I.base.slot b o e n hb hx
    exact ⟨sl, (hs.2 b (neL b o e)).trans e1⟩
  · obtain ⟨o', e1⟩ := I.base.there b o e hx
    exact ⟨o', (hs.2 b (neL b o e)).trans e1⟩
  · by_cases hj : j = i
    · subst hj
      rw [List.getElem?_set_self hiσ] at e2
      cases e2
    · rw [List.getElem?_set_ne (Ne.symm hj)] at e2
      obtain ⟨u', r', q⟩ := hl j y v' e1 e2 e3
      refine ⟨u', r', ?_⟩
      rcases q with ⟨k, e⟩ | ⟨k, c, e, z⟩
      · refine .inl ⟨k, ?_⟩
        have : y ≠ n := fun e => hj (nodup_ix hN e1 (e ▸ hi))
        simp [this, e]
      · exact .inr ⟨k, c, e, z.sameBut hs (cne y c e)⟩
  · obtain ⟨w', z⟩ := I.cell y c e
    exact ⟨w', z.sameBut hs (cne y c e)⟩
  · obtain ⟨e, n, ne, nf, d⟩ := I.pin p hp
    exact ⟨(hs.2 p.1 ne).trans e, n, ne, nf, d⟩
end
def Ends.gone (D : Ends) (i : Nat) : Ends := { nx := fun σ H => D.nx (σ.set i none) H, ct := fun σ H => D.ct (σ.set i none) H, bk := fun σ H => D.bk (σ.set i none) H, rt := D.rt }
def sTryAs (C : Addr) (i : Nat) (tb : (St → XK) → TS) (ts : TS) : TS := fun D σ H => ∃ EE : St → XK, tb EE D σ H ∧ ∀ σ' cls H', EE σ' cls none H' → cls = .ref C ∧ ∀ a, H' a = none → ts (D.gone i) (σ'.set i (some (.ref a))) (upd H' a (ExcO a (.ref C)))
section
variable {X : Cx}
end
end L2
namespace L2
open PySem PySem.Spec PyProof.Rows PySem.W
theorem exc_ans {K : Frag} {a : Addr} {t c : Value} (e : kitOne K t c = some true) : Answers (fun s => K.In s.heap ∧ ∃ ob, s.heap.get? a = some ob ∧ ob.cls = t) (.ref a) c true := by
  intro dep tk prog w A R s hs
  obtain ⟨h0, g, d, tt, os⟩ := s
  obtain ⟨⟨X, ob, hob, hcl⟩, hq⟩ := hs
  have LT : Looks (model prog w) h0 (typeOf (.ref a)) t := hcl ▸ (Looks.ld hob).andThen .now
  unfold kitOne at e
  unfold Builtin.«isinstance.nested»
  refine wpAny_bind (LT.at ?_)
  by_cases q : (t == c) = true
  · rw [if_pos q]
    first
      | ((repeat lk); exact hq tt)
      | exact wpAny_bind (wpAny_rule (hq tt))
      | exact wpAny_bind (wpAny_rule (wpAny_pure (hq tt)))
  · rw [if_neg q] at e
    rw [if_neg q]
    obtain ⟨hty, his, hsub⟩ := kit_cls (M := model prog w) X e
    have LI : Looks (model prog w) h0 (isInstance (.ref a) c) true := LT.andThen hsub
    refine wpAny_bind (hty.at ?_)
    rw [if_pos (by decide)]
    k_delta "plainIsInstance"
    refine wpAny_bind (wpAny_bind (his.at ?_))
    simp only [Bool.not_true, Bool.false_eq_true, if_false]
    refine wpAny_bind (LI.at ?_)
    first
      | exact wpAny_pure (wpAny_pure (hq tt))
      | (simp only [if_true]; first | exact wpAny_pure (wpAny_pure (hq tt)) | exact wpAny_pure (hq tt) | exact wpAny_bind (wpAny_pure (wpAny_pure (hq tt))))
def clsOf : V → Option Value
  | .ref C => some (.ref C)
  | .ty T => some (.type T)
  | _ => none
theorem relV_cls {v : V} {u c : Value} (r : RelV v u) (h : clsOf v = some c) : u = c := by
  cases v with
  | ref C => cases h; exact r
  | ty T => cases h; exact r
  | _ => cases h
abbrev rIsX (K : Frag) : List V → Hp → VK → Prop := fun xs H Q => ∃ a t v c, xs = [.ref a, v] ∧ H a = some (ExcO a t) ∧ clsOf v = some c ∧ kitOne K t c = some true ∧ Q (.bl true) H
section
variable {X : Cx}
theorem call_isinstX : CallR X (.builtin "isinstance") (rIsX X.K) := by
  intro pins s σ H xs us Q I r h
  obtain ⟨a, t, v, c, rfl, ha, hc, e, q⟩ := h
  obtain ⟨u, c', rfl, rx, rc⟩ := vals2 r
  cases (show u = Value.ref a from rx)
  cases relV_cls rc hc
  have hob : ∃ ob, s.heap.get? a = some ob ∧ ob.cls = t := (I.hok a _ ha).1
  exact call_isinstance (S := fun _ R s => (X.K.In s.heap ∧ ∃ ob, s.heap.get? a = some ob ∧ ob.cls = t) ∧ ∀ tk, R (.ok (.ret (.bool true))) { s with toks := tk })
    (fun prog w A R s hs => isinstance_outer (exc_ans e 0 _ prog w A R s hs) (fun z => nomatch z)) ⟨⟨I.kIn, hob⟩, fun tk => ⟨.bl true, H, I.tok tk, rfl, q⟩⟩
end
end L2
namespace L2
open PySem PySem.Spec PyProof.Rows PySem.W PySem.Calls Builtin Builtin.ObjectAttr Builtin.Getset_descriptor
structure XcK (K : Frag) (D : Addr) : Prop where
  ga : findIn K (.ref D) "__getattribute__" = some (some (.builtin "BaseException.__getattribute__"))
  gn : findIn K (.ref D) "__getattr__" = some none
  gc : findIn K (.ref D) "__class__" = some (some (.builtin "object.__class__"))
  sb : mroIn K D (.type "BaseException") = some true
  so : mroIn K D (.type "object") = some true
section
variable {prog : Program} {w : World} {A : Around} {E : Value → Shared → Prop} {K : Frag} {a D : Addr} {h : Heap} {g : Array GenState} {d : Drawn} {t : Nat} {os : OsState}
theorem xc_get {R : Result → Shared → Prop} {tp : Value} (X : K.In h) (k : XcK K D) (L0 : Looks (model prog w) h (typeOf (.ref a)) (.ref D)) (q : R (.ok (.ret (.ref D))) ⟨h, g, d, t, os⟩) :
    codeAny (model prog w) A (.call (.builtin "getset_descriptor.__get__") ⟨[.builtin "object.__class__", .ref a, tp], []⟩) R ⟨h, g, d, t, os⟩ := by
  have L1 := looks_mroIn (M := model prog w) X k.so
  refine codeAny_call_builtin KF.slot_gs.plain KF.entry_gs
    (KF.slot_gs.check _ _ _ _ _ _ _ _ KF.type_class (KF.args_gs _ _ _) ?_)
  unfold Builtin.«getset_descriptor.__get__» descrGet; rw [dga_obj]; refine wpAny_bind (wpAny_pure ?_)
  unfold descrGetter descrCheckInstance descrNameAndClass isInstance; simp only [KF.owner_class]
  repeat lk
  refine ⟨Code.quiet_builtin _ (by decide +kernel),
    codeAny_builtin KF.entry_class ?_⟩
  unfold Builtin.«object.__class__» shownTypeOf; (repeat lk)
  exact q
theorem xc_entry {tk : Tok} {Q : Fin → Shared → Prop} (X : K.In h) (k : XcK K D) (L0 : Looks (model prog w) h (typeOf (.ref a)) (.ref D)) (q : Q (.done (.ret (.ref D))) ⟨h, g, d, t, os⟩) :
    wpAny (model prog w) A (Builtin.«object.__getattribute__» ⟨[.ref a, .str "__class__" tk], []⟩) Q E ⟨h, g, d, t, os⟩ := by
  have LC := looks_findIn (M := model prog w) X k.gc
  have hT5 : (⟨h, g, d, t, os⟩ : Shared).TypeIs (.builtin "object.__class__") "getset_descriptor" := F.typeOf_object_class
  have f5 := F.typeOf_object_class; have f6 := F.slot_gs_get.lookup; have f7 := F.slot_gs_set.lookup
  repeat (any_goals (first | assumption | with_reducible refine wpAny_bind (L0.at ?_) | with_reducible refine wpAny_bind (LC.at ?_) | wp_step))
  refine xc_get X k L0 ?_
  repeat (any_goals (first | assumption | wp_step))
theorem xc_check {rest : List Value} {Q : Unit → Shared → Prop} {s : Shared} (X : K.In s.heap) (k : XcK K D) (L0 : Looks (model prog w) s.heap (typeOf (.ref a)) (.ref D)) (ha : argsOk "BaseException.__getattribute__" ⟨.ref a :: rest, []⟩) (q : Q () s) :
    wpAny (model prog w) A (checkBuiltinCall "BaseException.__getattribute__" ⟨.ref a :: rest, []⟩) Q E s := by
  have L1 := looks_mroIn (M := model prog w) X k.sb
  have L2 : Looks (model prog w) s.heap (isInstance (.ref a) (.type "BaseException")) true := L0.andThen L1
  have hs : splitId "BaseException.__getattribute__" = some ("BaseException", "__getattribute__") := by decide +kernel
  have hk : builtinKind "BaseException.__getattribute__" = some .slot := by decide +kernel
  simp only [checkBuiltinCall, hk, hs]
  refine wpAny_bind (L2.at ?_)
  simp only [Bool.not_true, Bool.false_eq_true, if_false]
  cases e : Manifest.signature? "BaseException.__getattribute__" with
  | none => exact wpAny_pure q
  | some sig =>
    simp only [argsOk, e] at ha
    have h2 : Bind.checkArgs "BaseException.__getattribute__" sig ⟨.ref a :: rest, []⟩ = pure () := ha
    show wpAny _ _ (Bind.checkArgs "BaseException.__getattribute__" sig ⟨.ref a :: rest, []⟩) Q E s; rw [h2]; exact wpAny_pure q
theorem xc_call {tk : Tok} {R : Result → Shared → Prop} (X : K.In h) (k : XcK K D) (L0 : Looks (model prog w) h (typeOf (.ref a)) (.ref D)) (q : R (.ok (.ret (.ref D))) ⟨h, g, d, t, os⟩) :
    codeAny (model prog w) A (.call (.builtin "BaseException.__getattribute__") ⟨[.ref a, .str "__class__" tk], []⟩) R ⟨h, g, d, t, os⟩ :=
  codeAny_call_builtin F.excAttr_ValueError.ga.plain F.entry_bexc_ga (xc_check X k L0 (F.args_bexc_ga _ _) (xc_entry X k L0 q))
theorem xc_by {tk : Tok} {Q : Value → Shared → Prop} (X : K.In h) (k : XcK K D) (L0 : Looks (model prog w) h (typeOf (.ref a)) (.ref D)) (q : Q (.ref D) ⟨h, g, d, t, os⟩) :
    wpAny (model prog w) A (getAttrBy (.ref a) (.str "__class__" tk) false) Q E ⟨h, g, d, t, os⟩ := by
  have LG := looks_findIn (M := model prog w) X k.ga
  have LN := looks_findIn (M := model prog w) X k.gn
  have f3 := F.excAttr_ValueError.ga.bind (.ref a)
  repeat (any_goals (first | assumption | with_reducible refine wpAny_bind (L0.at ?_) | with_reducible refine wpAny_bind (LG.at ?_) | with_reducible refine wpAny_bind (LN.at ?_) | wp_step))
  refine xc_call X k L0 ?_
  repeat (any_goals (first | assumption | wp_step))
theorem xc_attr {Q : Option Value → Shared → Prop} (X : K.In h) (k : XcK K D) (L0 : Looks (model prog w) h (typeOf (.ref a)) (.ref D)) (q : Q (some (.ref D)) ⟨h, g, d, t + 1, os⟩) :
    wpAny (model prog w) A (getAttr? (.ref a) "__class__") Q E ⟨h, g, d, t, os⟩ := by
  unfold getAttr? getAttrBy?
  repeat (any_goals (first | assumption | with_reducible apply xc_by X k L0 | wp_step))
end
theorem exc_not {K : Frag} {a D : Addr} {c : Value} (k : XcK K D) (e : kitOne K (.ref D) c = some false) : Answers (fun s => K.In s.heap ∧ ∃ ob, s.heap.get? a = some ob ∧ ob.cls = .ref D) (.ref a) c false := by
  intro dep tk prog w A R s hs
  obtain ⟨h0, g, d, tt, os⟩ := s
  obtain ⟨⟨X, ob, hob, hcl⟩, hq⟩ := hs
  have LT : Looks (model prog w) h0 (typeOf (.ref a)) (.ref D) := hcl ▸ (Looks.ld hob).andThen .now
  have LD : Looks (model prog w) h0 (isType (.ref D)) true := by
    obtain ⟨cd, hc, _⟩ := Option.bind_eq_some_iff.mp k.so
    unfold clsIn at hc
    split at hc
    · rename_i c' d' cd' sl' ho
      intro A' Q' E' s' kk qq
      unfold isType loadHead; exact wpAny_bind (wpAny_loadPart (kk _ _ (X _ _ ho)) (wpAny_pure qq))
    · cases hc
  unfold kitOne at e
  unfold Builtin.«isinstance.nested»
  refine wpAny_bind (LT.at ?_)
  by_cases q : (Value.ref D == c) = true
  · rw [if_pos q] at e; cases e
  · rw [if_neg q] at e
    rw [if_neg q]
    obtain ⟨hty, his, hsub⟩ := kit_cls (M := model prog w) X e
    have LI : Looks (model prog w) h0 (isInstance (.ref a) c) false := LT.andThen hsub
    refine wpAny_bind (hty.at ?_)
    rw [if_pos (by decide)]
    k_delta "plainIsInstance"
    refine wpAny_bind (wpAny_bind (his.at ?_))
    simp only [Bool.not_true, Bool.false_eq_true, if_false]
    refine wpAny_bind (LI.at ?_)
    simp only [Bool.false_eq_true, if_false]
    refine wpAny_bind (xc_attr X k LT (wpAny_bind (LD.at ?_)))
    simp only [Bool.not_true, Bool.false_eq_true, if_false]
    refine wpAny_bind (wpAny_rule (hsub.at ?_))
    first
      | exact wpAny_pure (hq _)
      | exact wpAny_pure (wpAny_pure (hq _))
      | exact wpAny_bind (wpAny_pure (wpAny_pure (hq _)))
abbrev rNotX (K : Frag) : List V → Hp → VK → Prop := fun xs H Q => ∃ (a D : Addr) (v : V) (c : Value), xs = [.ref a, v] ∧ H a = some (ExcO a (.ref D)) ∧ clsOf v = some c ∧ XcK K D ∧ kitOne K (.ref D) c = some false ∧ Q (.bl false) H
section
variable {X : Cx}
theorem call_isinstN : CallR X (.builtin "isinstance") (rNotX X.K) := by
  intro pins s σ H xs us Q I r h
  obtain ⟨a, D, v, c, rfl, ha, hc, k, e, q⟩ := h
  obtain ⟨u, c', rfl, rx, rc⟩ := vals2 r
  cases (show u = Value.ref a from rx)
  cases relV_cls rc hc
  have hob : ∃ ob, s.heap.get? a = some ob ∧ ob.cls = .ref D := (I.hok a _ ha).1
  exact call_isinstance (S := fun _ R s => (X.K.In s.heap ∧ ∃ ob, s.heap.get? a = some ob ∧ ob.cls = .ref D) ∧ ∀ tk, R (.ok (.ret (.bool false))) { s with toks := tk })
    (fun prog w A R s hs => isinstance_outer (exc_not k e 0 _ prog w A R s hs) (fun z => nomatch z)) ⟨⟨I.kIn, hob⟩, fun tk => ⟨.bl false, H, I.tok tk, rfl, q⟩⟩
end
end L2
namespace L2
open PySem PySem.Spec PyProof.Rows
section
variable {X : Cx}
theorem ps_tryAsB {x n : Str} {i : Nat} {C B : Addr} {body suite : List Stmt} {b₀ : Stmt} {tb : (St → XK) → TS} {ts : TS} {np hpos pos : Pos} (hm : X.mg x = some (.ref B)) (hq : PySem.W.exmOne X.K (.ref C) (.ref B) = some true) (hstk : X.stack = X.env :: X.outer) (hN : X.N.Nodup) (hi : X.N[i]? = some n) (hk : X.env.scope.names.lookup n = some .local)
    (hb : ∀ pins EE, PSs (X.tryx pins EE) body (tb EE)) (hs : ∀ a, PSs (X.mrk a) (b₀ :: suite) ts) (hg : Gl X x := by rfl) (hfr : X.env.frame = some X.env.locals := by rfl) (hd : (x == ("__debug__" : Str)) = false := by decide) (hex : X.ex = [] := by rfl) :
    PS X (.Try body [.ExceptHandler (some (.Name x np)) (some n) (b₀ :: suite) hpos] [] [] pos) (sTryAs C i tb ts) := by
  intro pins s σ H D I h
  obtain ⟨EE, h1, h2⟩ := h
  refine wpAny_Try_except (wpAny_mono (hb pins EE [] s σ H D (I.toTry EE) h1) (fun fl s1 q => ?_) fun e s1 q => ?_)
  · have q' := SP.ofTry q
    cases fl with
    | next => exact wpAny_execs_nil q'
    | brk => exact q'
    | cont => exact q'
    | ret u => exact q'
  · obtain ⟨p2, σ1, H1, s0, I1, a, cls, H', rfl, F, q⟩ := q
    obtain ⟨rfl, hts⟩ := h2 _ _ _ q
    obtain ⟨B, t, hfl, cov⟩ := F.fly
    have hfr1 : s1.heap.FunFrames B (X.pnd pins).stack := hfl.2.2.1
    obtain ⟨oe, vs, hoe, hoc, hod, _⟩ := hfl.first
    have new : ∀ b, (∃ o, s0.heap.get? b = some o) → b ≠ a := fun b hb z => by
      subst z
      by_cases hf : b ∈ frs X.stack
      · exact frs_data hfr1 b hf _ hoe _ hod
      · have := cov b oe hoe (.inr hb) hf
        rw [hfl.2.1] at this; cases this
    have hHa : H' a = none := by
      cases hz : H' a with
      | none => rfl
      | some u =>
        by_cases hf : a ∈ frs X.stack
        · exact absurd hod (frs_data hfr1 a hf _ hoe _)
        · have := cov a oe hoe (.inl (by rw [hz]; intro z; cases z)) hf
          rw [hfl.2.1] at this; cases this
    rw [hstk] at hfl
    refine wpAny_looks_onW (by rw [← hstk]; exact I.ok.frames) hfr hfl fun h4 hheld up4 => ?_
    refine wpAny_landsW hheld fun h5 hfl5 up5' => ?_
    have up5 := up4.trans up5'
    have J5 := I1.flown F.os F.bare F.un F.hok hfr1 cov hfl5.1 up5
    have K5 : Inv X pins σ1 H' { s1 with heap := h5 } := J5.ofPnd
    obtain ⟨ob, hob, hobc⟩ := hfl5.there
    have hmk : (X.A.mark (some (.ref a))).frames = X.A.frames := rfl
    refine wpAny_handleBy_cons (codeAny_handlers_test (ld_glob (X := X.mrk a) (K5.toMrk a hmk) hg hm ?_ hd)) (by intro q; cases q)
    have LT : PySem.W.Looks (model X.prog X.w) h5 (typeOf (.ref a)) (.ref C) := hobc ▸ (PySem.W.Looks.ld hob).andThen .now
    refine (PySem.W.exm_one K5.kIn LT hq).at (codeAny_handlers_suite_as ?_)
    refine lands_againW hfl5 fun h6 hfl6 up6 => ?_
    have J6 := I1.flown F.os F.bare F.un F.hok hfr1 cov hfl6.1 (up5.trans up6)
    have K6 : Inv X pins σ1 H' { s1 with heap := h6 } := J6.ofPnd
    obtain ⟨ob6, hob6, hobc6⟩ := hfl6.there
    have T6 : Inv X pins σ1 (upd H' a (ExcO a (.ref C))) { s1 with heap := h6 } := by
      refine K6.track hHa (fun o e => ?_) (fun z => ?_) (fun y c e => ?_) (fun p hp => ?_) ⟨⟨ob6, hob6, hobc6⟩, ⟨ob6, hob6⟩, fun g1 g2 ⟨o, e1, e2⟩ k => ⟨o, k _ e1, e2⟩⟩
      · obtain ⟨o1, e1⟩ := I1.base.there a o e (by show a ∉ X.ex; rw [hex]; simp)
        exact new a ⟨o1, e1⟩ rfl
      · obtain ⟨m, ⟨o, _, _, e, _⟩, _⟩ := I1.loc
        exact new _ ⟨o, e⟩ z.symm
      · obtain ⟨v, o, e1, _⟩ := I1.cell y c e
        exact new c ⟨o, e1⟩
      · exact new _ ⟨p.2, (I1.pin p (List.mem_append_left _ hp)).1⟩
    refine store_ok (X := X.mrk a) (T6.toMrk a hmk) hN hi (.inl hk) (v := .ref a) (u := .ref a) rfl (fun s7 K7 => ?_) (.inr hk)
    refine wpAny_mono (hs a pins _ _ _ (D.gone i) K7 (hts a hHa)) (fun fl s2 q => ?_) fun _ _ z => z.elim
    have q' := SP.ofMrk K6.ok q
    cases fl with
    | next => obtain ⟨σ', H2, I2, q2⟩ := q'; exact gone_ok I2 hN hi hk fun s3 I3 => ⟨_, H2, I3, q2⟩
    | brk => obtain ⟨σ', H2, I2, q2⟩ := q'; exact gone_ok I2 hN hi hk fun s3 I3 => ⟨_, H2, I3, q2⟩
    | cont => obtain ⟨σ', H2, I2, q2⟩ := q'; exact gone_ok I2 hN hi hk fun s3 I3 => ⟨_, H2, I3, q2⟩
    | ret u => obtain ⟨v, σ', H2, I2, r2, q2⟩ := q'; exact gone_ok I2 hN hi hk fun s3 I3 => ⟨v, _, H2, I3, r2, q2⟩
def tAsk (P : Program) (w : World) (K : PySem.W.Frag) (mg : Str → Option Value) (base : Heap) (k i : Nat) (sp : Sp) (EE : St → XK) (t : TA) : TE := fun σ H Q => ∃ (f : Addr) (fd : FuncData) (ps : List Str) (k' : Nat), σ[i]? = some (some (.ref f)) ∧ k' ≤ k ∧ FnOk P w K mg base (CX1 P w) k' f fd ps sp ∧ Binds K fd ps [] ∧ PySem.W.keepIn K (.ref f) = true ∧ t σ H fun vs H1 => sp vs H1 Q (EE σ)
theorem pe_askX {P : Program} {w : World} {K : PySem.W.Frag} {mg : Str → Option Value} {base : Heap} {i : Nat} {x : Str} {sp : Sp} {k : Nat} {p pos : Pos} {e : Expr} {es : List Expr} {t : TA} {EE : St → XK} (hr : Room k X.A) (hx : PassE X EE) (ha : PA X (e :: es) t) (hX : X.prog = P ∧ X.w = w ∧ X.K = K ∧ X.mg = mg ∧ X.base = base := by exact ⟨rfl, rfl, rfl, rfl, rfl⟩) (hN : X.N[i]? = some x := by rfl) (hv : Vis X.env.scope x := by first | exact Or.inl rfl | exact Or.inr (Or.inl rfl) | exact Or.inr (Or.inr rfl))
    (hd : (x == ("__debug__" : Str)) = false := by decide) (hcd : (x == ("__classdict__" : Str)) = false := by decide) (he : starEach (e :: es) X.env = (false, eval e X.env) :: starEach es X.env := by rfl) (hpl : (backTo pos (starEach es X.env)).any (·.1) = false := by rfl) :
    PE X (.Call (.Name x p) (e :: es) [] pos) (tAsk P w K mg base k i sp EE t) := by
  obtain ⟨rfl, rfl, rfl, rfl, rfl⟩ := hX
  intro pins s σ H Q I h
  obtain ⟨f, fd, ps, k', hs, hk', h1, h2, h3, q0⟩ := h
  refine wpAny_Call_Name_kw (thn (pe_var (pos := p) hN hv hd hcd pins s σ H (fun v H1 => v = .ref f ∧ H1 = H) I ⟨.ref f, hs, rfl, rfl⟩) fun u s1 ⟨v, H1, I1, r1, ev, eH⟩ => ?_)
  subst ev eH
  obtain rfl : u = Value.ref f := r1
  refine PySem.W.callWith_K (h₀ := X.base) I.ok.mod.kin h3 (thn (ha pos pins s1 σ H1 _ I1 q0) fun us s1 ⟨vs, H1, I1, r, q⟩ => ⟨I1.kIn, ?_⟩) he hpl
  have hl : us.length = ps.length := by rw [← r.length]; exact h1.len _ _ _ _ q
  have hb := h2 s1 us I1.kIn (by rw [List.append_nil]; exact hl)
  rw [List.append_nil] at hb
  refine wpAny_call (codeAny_mono (h1.run X.A X.stack s1 H1 ⟨us, []⟩ us vs Q (EE σ) (hr.mono hk') I1.env0 hb r q) fun r s' hq => ?_)
  cases r with
  | error e => exact hx pins σ H1 s1 e s' I1 hq
  | ok fl =>
    cases fl with
    | ret u => exact I1.after hq
    | next => exact False.elim hq
    | brk => exact False.elim hq
    | cont => exact False.elim hq
end
end L2
namespace L2
open PySem PySem.Builtin PySem.Builtin.Str
theorem fold_le {q : Nat} : ∀ (l : List Nat) (n : Nat), (∀ c ∈ l, (reprChar q c).length ≤ 2) → l.foldl (fun n c => n + (reprChar q c).length) n ≤ n + 2 * l.length
  | [], n, _ => by simp
  | c :: r, n, h => by
    have h1 := h c List.mem_cons_self
    have h2 := fold_le r (n + (reprChar q c).length) fun d hd => h d (List.mem_cons_of_mem _ hd)
    simp only [List.foldl_cons, List.length_cons]
    omega
theorem rep_len {x : PySem.Str} (h : ∀ c ∈ x.cps.toList, ∀ q, (reprChar q c).length ≤ 2) : (reprText x).length ≤ 2 * x.length + 2 := by
  have h1 := foldl_repr_eq (reprQuote x) x.cps.toList #[reprQuote x] 0
  have h2 := fold_le (q := reprQuote x) x.cps.toList 0 fun c hc => h c hc _
  show ((x.cps.foldl (fun out c => out ++ (reprChar (reprQuote x) c).toArray) #[reprQuote x]).push (reprQuote x)).size ≤ 2 * x.cps.size + 2
  rw [Array.size_push, ← Array.foldl_toList]
  have e1 : (#[reprQuote x] : Array Nat).size = 1 := rfl
  have e2 : x.cps.toList.length = x.cps.size := Array.length_toList
  omega
theorem rep_char {c : Nat} (h : Unicode.isPrintable c = true) (q : Nat) : (reprChar q c).length ≤ 2 := by
  unfold reprChar
  dsimp only
  split
  · simp
  split
  · simp
  split
  · simp
  split
  · simp
  simp [h]
end L2
namespace K4
open PySem L2 K3
def badL : List Nat := [33, 34, 35, 36, 38, 39, 43, 44, 46, 47, 60, 62, 63, 64, 65, 66, 67, 68, 69, 70, 71, 72, 73, 74, 75, 76, 77, 78, 79, 80, 81, 82, 83, 84, 85, 86, 87, 88, 89, 90, 91, 92, 93, 94, 95, 96, 123, 125, 126, 10, 9]
theorem bad_no : ∀ c ∈ badL, c ∉ sgnL ∧ c ∉ letL ∧ c ≠ 45 ∧ c ∉ figL ∧ c ≠ 32 ∧ (reprText (S [c])).length ≤ 1000 := by decide +kernel
theorem let_no : ∀ c ∈ letL, c ∉ sgnL ∧ c ≠ 32 := by decide
theorem fig_no : ∀ c ∈ figL, c ∉ sgnL ∧ c ∉ letL ∧ c ≠ 45 ∧ c ≠ 32 := by decide
inductive BadH : List Nat → Prop where
  | sign {c : Nat} {r : List Nat} : c ∈ badL → BadH (c :: r)
  | lets {c : Nat} {r : List Nat} : c ∈ letL → 8 < (run letL (c :: r)).length → (run letL (c :: r)).length ≤ 400 → BadH (c :: r)
  | figs {c : Nat} {r : List Nat} : c ∈ figL → ¬ Num (run figL (c :: r)) → (run figL (c :: r)).length ≤ 400 → BadH (c :: r)
  | minus {r : List Nat} : (¬ Num (run figL r) ∨ run figL r = [48]) → (run figL r).length ≤ 400 → BadH (45 :: r)
theorem BadH.head {t : List Nat} (h : BadH t) : ∃ c r, t = c :: r ∧ c ≠ 32 := by
  cases h with
  | sign h => exact ⟨_, _, rfl, (bad_no _ h).2.2.2.2.1⟩
  | lets h _ _ => exact ⟨_, _, rfl, (let_no _ h).2⟩
  | figs h _ _ => exact ⟨_, _, rfl, (fig_no _ h).2.2.2⟩
  | minus _ _ => exact ⟨_, _, rfl, by decide⟩
inductive Bad : List Nat → Prop where
  | here {t : List Nat} : BadH t → Bad t
  | blank {t : List Nat} : Bad t → Bad (32 :: t)
  | word {w t : List Nat} : Word w → Sep w t → Bad t → Bad (w ++ t)
theorem Bad.ne {t : List Nat} (h : Bad t) : t ≠ [] := by
  cases h with
  | here h => obtain ⟨c, r, rfl, _⟩ := h.head; simp
  | blank _ => simp
  | word h _ _ => obtain ⟨c, r, rfl, _⟩ := h.head; simp
theorem run_all {L : List Nat} : ∀ {t : List Nat}, ∀ c ∈ run L t, c ∈ L
  | [], c, h => by cases h
  | d :: t, c, h => by
    unfold K3.run at h
    rw [List.takeWhile_cons] at h
    by_cases hd : d ∈ L
    · rw [if_pos (by simpa using hd)] at h
      rcases List.mem_cons.mp h with rfl | h
      · exact hd
      · exact run_all c h
    · rw [if_neg (by simpa using hd)] at h
      cases h
theorem prt : ∀ c ∈ letL ++ figL, Unicode.isPrintable c = true := by decide +kernel
theorem rep_run {L u : List Nat} (hL : ∀ c ∈ L, c ∈ letL ++ figL) (h : ∀ c ∈ u, c ∈ L) (hl : u.length ≤ 400) : (reprText (S u)).length ≤ 1000 := by
  have := rep_len (x := S u) fun c hc q => rep_char (prt c (hL c (h c (by rw [S_list] at hc; exact hc)))) q
  rw [S_len] at this
  omega
theorem let_lf : ∀ c ∈ letL, c ∈ letL ++ figL := fun c h => List.mem_append_left _ h
theorem fig_lf : ∀ c ∈ figL, c ∈ letL ++ figL := fun c h => List.mem_append_right _ h
structure Rs (K : PySem.W.Frag) (mg : Str → Option Value) (x : Str) (N : Addr) : Prop where
  hm : mg x = some (.ref N)
  hq : PySem.W.excIn K N mroV "ValueError.__new__" = true
def spFigX (N : Addr) : Sp := fun vs H Q E => ∃ (z : List Nat) (k : Nat), vs = [.str (S z), .int k] ∧ z.length ≤ 9000 ∧ k ≤ z.length ∧ ((Num (run figL (z.drop k)) ∧ Q (.str (S (run figL (z.drop k)))) H) ∨ (¬ Num (run figL (z.drop k)) ∧ (run figL (z.drop k)).length ≤ 400 ∧ E (.ref N) none H))
def spBelX (N : Addr) : Sp := fun vs H Q E => ∃ (z : List Nat) (k : Nat), vs = [.str (S z), .int k] ∧ z.length ≤ 9000 ∧ k ≤ z.length ∧ ((Num (run figL (z.drop k)) ∧ run figL (z.drop k) ≠ [48] ∧ Q (.str (S (run figL (z.drop k)))) H) ∨ ((¬ Num (run figL (z.drop k)) ∨ run figL (z.drop k) = [48]) ∧ (run figL (z.drop k)).length ≤ 400 ∧ E (.ref N) none H))
def spNmX (N : Addr) : Sp := fun vs H Q E => ∃ (z : List Nat) (k : Nat), vs = [.str (S z), .int k] ∧ z.length ≤ 9000 ∧ k ≤ z.length ∧ (((run letL (z.drop k)).length ≤ 8 ∧ Q (.str (S (run letL (z.drop k)))) H) ∨ (8 < (run letL (z.drop k)).length ∧ (run letL (z.drop k)).length ≤ 400 ∧ E (.ref N) none H))
def spWdX (N : Addr) : Sp := fun vs H Q E => ∃ (z : List Nat) (k : Nat), vs = [.str (S z), .int k] ∧ z.length ≤ 9000 ∧ ((∃ w r, z.drop k = w ++ r ∧ Word w ∧ Sep w r ∧ Q (.str (S w)) H) ∨ (BadH (z.drop k) ∧ E (.ref N) none H))
section
variable {P : Program} {w : World} {K : PySem.W.Frag} {mg : Str → Option Value} {base : Heap} {f : Addr} {fd : FuncData} {N : Addr}
theorem ok_figX (F : Fun K "figures_at" "figures_at" sFigures f fd) (G : Gm mg) (RS : Rs K mg "NoText" N) (R : Fn P w K mg base 1 "run_at" ["text", "start", "signs"] spRun) : FnOk P w K mg base (CX1 P w) 2 f fd ["text", "start"] (spFigX N) := by
  obtain ⟨tf, hf⟩ := G.figs
  obtain ⟨tm, hm⟩ := G.mf
  refine Fun.okX F scFig (fun vs H Q E h => ?_) (fun cdv A outer s H vs Q E hr h => ?_)
  · obtain ⟨z, k, rfl, _⟩ := h
    rfl
  obtain ⟨z, k, rfl, hz, hk, hq⟩ := h
  refine ⟨_, (pss_cons (ps_set (i := 2) scFig.nd rfl (Or.inl rfl) (pe_fn R hr (pa_cons (pv 0) (pa_cons (pv 1) (pa_cons (pe_glob (v := .str FIGS) rfl hf ⟨_, rfl⟩) pa_nil)))))
    (pss_cons (ps_if (pt_cmpR op_eq (pv 2) pe_str (nomark _)) (pss_one (ps_raise RS.hm RS.hq PySem.F.excBase_ValueError (by decide) (pa_cons (pe_str) pa_nil))) pss_nil)
    (pss_cons (ps_if (pt_cmpR op_gt (pe_callB call_len_str rfl G.len PySem.boot_len (pa_cons (pv 2) pa_nil)) (pe_glob (v := .int 60) rfl hm ⟨_, rfl⟩) (nomark _)) (pss_one (ps_raise RS.hm RS.hq PySem.F.excBase_ValueError (by decide) (pa_cons (pe_join2 (pe_frep (pv 2)) pe_str) pa_nil))) pss_nil)
    (pss_cons (ps_if (PW.pt (pw_and (pt_cmpR op_eq (pe_ix ix_str (pv 2) pe_int (fun _ _ => rfl)) pe_str (nomark _)) (pw_and1 (pt_cmpR op_gt (pe_callB call_len_str rfl G.len PySem.boot_len (pa_cons (pv 2) pa_nil)) pe_int (nomark _))))) (pss_one (ps_raise RS.hm RS.hq PySem.F.excBase_ValueError (by decide) (pa_cons (pe_join2 (pe_frep (pv 2)) pe_str) pa_nil))) pss_nil)
    (pss_one (ps_ret (pv 2))))))), ?_⟩
  refine ⟨_, rfl, _, rfl, z, k, figL, by rw [← fig_eq]; rfl, hz, hk, ?_⟩
  have hall : ∀ c ∈ run figL (z.drop k), c ∈ figL := run_all
  have hl9 : (run figL (z.drop k)).length ≤ 400 := by
    rcases hq with ⟨hn, _⟩ | ⟨_, h, _⟩
    · have := hn.len; omega
    · exact h
  generalize run figL (z.drop k) = u at *
  have hlen : (S u).length ≤ sizeLine := by rw [S_len]; exact line_of (by omega)
  have hrep : (reprText (S u)).length ≤ 1000 := rep_run fig_lf hall hl9
  have bad : ¬ Num u → E (.ref N) none H := fun h => by
    rcases hq with ⟨hn, _⟩ | ⟨_, _, e⟩
    · exact absurd hn h
    · exact e
  refine ⟨_, rfl, rfl, _, rfl, ?_⟩
  by_cases h0 : u = []
  · refine iteP (by rw [none_eq, h0]) ⟨(by show 1 ≤ sizeLine; decide), bad fun hn => hn.ne h0⟩
  refine iteN (by rw [none_eq]; exact str_ne h0) ?_
  refine ⟨_, rfl, _, rfl, hlen, _, _, rfl, rfl, _, rfl, ?_⟩
  rw [S_len]
  by_cases h1 : 60 < u.length
  · refine iteP (by omega) ⟨_, rfl, S u, rfl, line_of (by omega), _, rfl, hrep, _, rfl, by decide +kernel, (by show 1 ≤ sizeLine; decide), bad fun hn => by have := hn.len; omega⟩
  refine iteN (by omega) ?_
  obtain ⟨c, r, hc⟩ : ∃ c r, u = c :: r := by
    cases u with
    | nil => exact absurd rfl h0
    | cons c r => exact ⟨c, r, rfl⟩
  have hat : u[0]? = some c := by rw [hc]; rfl
  refine ⟨_, rfl, _, 0, c, rfl, rfl, hlen, atS hat, rfl, _, rfl, ?_⟩
  have good : Num u → Q (.str (S u)) H := fun h => by
    rcases hq with ⟨_, q⟩ | ⟨n, _⟩
    · exact q
    · exact absurd h n
  by_cases hc0 : c = 48
  · refine iteP (by rw [hc0, one_S, zero_eq]) ⟨_, rfl, _, rfl, hlen, _, _, rfl, rfl, _, rfl, ?_⟩
    rw [S_len]
    by_cases h2 : 1 < u.length
    · refine iteP (by omega) ⟨_, rfl, S u, rfl, line_of (by omega), _, rfl, hrep, _, rfl, by decide +kernel, (by show 1 ≤ sizeLine; decide), bad fun hn => by have := hn.lead (by rw [hat, hc0]); omega⟩
    · refine iteN (by omega) ⟨_, rfl, good ⟨h0, by omega, hall, fun _ => ?_⟩⟩
      have : 0 < u.length := List.length_pos_iff.mpr h0
      omega
  · refine iteN (by rw [one_S, zero_eq]; exact str_ne (by simpa using hc0)) (iteF ⟨_, rfl, good ⟨h0, by omega, hall, fun h => ?_⟩⟩)
    rw [hat] at h
    exact absurd (Option.some.inj h) hc0
theorem ok_belX (F : Fun K "below_zero_at" "below_zero_at" sBelow f fd) (RS : Rs K mg "NoText" N) (R : FnX P w K mg base 2 "figures_at" ["text", "start"] (spFigX N)) : FnOk P w K mg base (CX1 P w) 3 f fd ["text", "start"] (spBelX N) := by
  refine Fun.okX F scBelow (fun vs H Q E h => ?_) (fun cdv A outer s H vs Q E hr h => ?_)
  · obtain ⟨z, k, rfl, _⟩ := h
    rfl
  obtain ⟨z, k, rfl, hz, hk, hq⟩ := h
  refine ⟨_, (pss_cons (ps_set (i := 2) scBelow.nd rfl (Or.inl rfl) (pe_fnX (EE := fun _ => E) R hr (passE fun _ _ h => h) (pa_cons (pv 0) (pa_cons (pv 1) pa_nil))))
    (pss_cons (ps_if (pt_cmpR op_eq (pv 2) pe_str (nomark _)) (pss_one (ps_raise RS.hm RS.hq PySem.F.excBase_ValueError (by decide) (pa_cons (pe_str) pa_nil))) pss_nil)
    (pss_one (ps_ret (pv 2))))), ?_⟩
  refine ⟨_, rfl, _, rfl, z, k, rfl, hz, hk, ?_⟩
  by_cases hn : Num (run figL (z.drop k))
  · refine .inl ⟨hn, _, rfl, rfl, _, rfl, ?_⟩
    by_cases h48 : run figL (z.drop k) = [48]
    · refine iteP (by rw [h48, zero_eq]) ⟨(by show 1 ≤ sizeLine; decide), ?_⟩
      rcases hq with ⟨_, n, _⟩ | ⟨_, _, e⟩
      · exact absurd h48 n
      · exact e
    · refine iteN (by rw [zero_eq]; exact str_ne h48) ⟨_, rfl, ?_⟩
      rcases hq with ⟨_, _, q⟩ | ⟨h | h, _⟩
      · exact q
      · exact absurd hn h
      · exact absurd h h48
  · refine .inr ⟨hn, ?_⟩
    rcases hq with ⟨h, _⟩ | ⟨_, h, e⟩
    · exact absurd h hn
    · exact ⟨h, e⟩
theorem ok_nmX (F : Fun K "name_at" "name_at" sNameAt f fd) (G : Gm mg) (RS : Rs K mg "NoText" N) (R : Fn P w K mg base 1 "run_at" ["text", "start", "signs"] spRun) : FnOk P w K mg base (CX1 P w) 2 f fd ["text", "start"] (spNmX N) := by
  obtain ⟨tf, hf⟩ := G.lets
  obtain ⟨tm, hm⟩ := G.ml
  refine Fun.okX F scNameAt (fun vs H Q E h => ?_) (fun cdv A outer s H vs Q E hr h => ?_)
  · obtain ⟨z, k, rfl, _⟩ := h
    rfl
  obtain ⟨z, k, rfl, hz, hk, hq⟩ := h
  refine ⟨_, (pss_cons (ps_set (i := 2) scNameAt.nd rfl (Or.inl rfl) (pe_fn R hr (pa_cons (pv 0) (pa_cons (pv 1) (pa_cons (pe_glob (v := .str LETS) rfl hf ⟨_, rfl⟩) pa_nil)))))
    (pss_cons (ps_if (pt_cmpR op_gt (pe_callB call_len_str rfl G.len PySem.boot_len (pa_cons (pv 2) pa_nil)) (pe_glob (v := .int 8) rfl hm ⟨_, rfl⟩) (nomark _)) (pss_one (ps_raise RS.hm RS.hq PySem.F.excBase_ValueError (by decide) (pa_cons (pe_join2 (pe_frep (pv 2)) pe_str) pa_nil))) pss_nil)
    (pss_one (ps_ret (pv 2))))), ?_⟩
  refine ⟨_, rfl, _, rfl, z, k, letL, by rw [← let_eq]; rfl, hz, hk, ?_⟩
  have hall : ∀ c ∈ run letL (z.drop k), c ∈ letL := run_all
  generalize run letL (z.drop k) = u at *
  have hl9 : u.length ≤ 400 := by
    rcases hq with ⟨hn, _⟩ | ⟨_, h, _⟩ <;> omega
  have hlen : (S u).length ≤ sizeLine := by rw [S_len]; exact line_of (by omega)
  refine ⟨_, rfl, _, rfl, hlen, _, _, rfl, rfl, _, rfl, ?_⟩
  rw [S_len]
  rcases hq with ⟨h, q⟩ | ⟨h, _, e⟩
  · exact iteN (by omega) ⟨_, rfl, q⟩
  · have hrep := rep_run let_lf hall hl9
    exact iteP (by omega) ⟨_, rfl, S u, rfl, line_of (by omega), _, rfl, hrep, _, rfl, by decide +kernel, (by show 1 ≤ sizeLine; decide), e⟩
theorem ok_wdX (F : Fun K "word_at" "word_at" sWordAt f fd) (G : Gm mg) (RS : Rs K mg "NoText" N) (RN : FnX P w K mg base 2 "name_at" ["text", "start"] (spNmX N)) (RF : FnX P w K mg base 2 "figures_at" ["text", "start"] (spFigX N))
    (RB : FnX P w K mg base 3 "below_zero_at" ["text", "start"] (spBelX N)) : FnOk P w K mg base (CX1 P w) 4 f fd ["text", "start"] (spWdX N) := by
  obtain ⟨ts, hs⟩ := G.sgns
  obtain ⟨tl, hl⟩ := G.lets
  obtain ⟨tf, hf⟩ := G.figs
  refine Fun.okX F scWordAt (fun vs H Q E h => ?_) (fun cdv A outer s H vs Q E hr h => ?_)
  · obtain ⟨z, k, rfl, _⟩ := h
    rfl
  obtain ⟨z, k, rfl, hz, hq⟩ := h
  have hzl : (S z).length ≤ sizeLine := by rw [S_len]; exact line_of hz
  refine ⟨_, (pss_cons (ps_set (i := 2) scWordAt.nd rfl (Or.inl rfl) (pe_ix ix_str (pv 0) (pv 1) (fun _ _ => rfl)))
    (pss_cons (ps_if (pt_cmpR op_in_one (pv 2) (pe_glob (v := .str SGNS) rfl hs ⟨_, rfl⟩) (by with_unfolding_all rfl)) (pss_one (ps_ret (pv 2))) pss_nil)
    (pss_cons (ps_if (pt_cmpR op_in_one (pv 2) (pe_glob (v := .str LETS) rfl hl ⟨_, rfl⟩) (by with_unfolding_all rfl)) (pss_one (ps_ret (pe_fnX (EE := fun _ => E) RN hr (passE fun _ _ h => h) (pa_cons (pv 0) (pa_cons (pv 1) pa_nil))))) pss_nil)
    (pss_cons (ps_if (pt_cmpR op_eq (pv 2) pe_str (nomark _)) (pss_one (ps_ret (pe_op op_add_str pe_str (pe_fnX (EE := fun _ => E) RB hr (passE fun _ _ h => h) (pa_cons (pv 0) (pa_cons (pe_op op_add (pv 1) pe_int) pa_nil)))))) pss_nil)
    (pss_cons (ps_if (pt_cmpR op_in_one (pv 2) (pe_glob (v := .str FIGS) rfl hf ⟨_, rfl⟩) (by with_unfolding_all rfl)) (pss_one (ps_ret (pe_fnX (EE := fun _ => E) RF hr (passE fun _ _ h => h) (pa_cons (pv 0) (pa_cons (pv 1) pa_nil))))) pss_nil)
    (pss_one (ps_raise RS.hm RS.hq PySem.F.excBase_ValueError (by decide) (pa_cons (pe_join2 pe_str (pe_frep (pv 2))) pa_nil)))))))), ?_⟩
  rcases hq with ⟨u, r, hd, hw, hsep, q⟩ | ⟨hb, e⟩
  · obtain ⟨c, u', hu, _⟩ := hw.head
    have hd' : z.drop k = c :: (u' ++ r) := by rw [hd, hu]; rfl
    obtain ⟨hat, hkl, hd1⟩ := drop_at hd'
    refine ⟨_, rfl, _, rfl, _, _, _, rfl, rfl, hzl, atS hat, ?_⟩
    refine ⟨_, rfl, _, _, rfl, rfl, _, rfl, ?_⟩
    rw [sgn_cps]
    cases hw with
    | @sign d hs' =>
      have e : d = c := by injection hu
      subst e
      exact iteP hs' ⟨_, rfl, q⟩
    | name hne h8 hall =>
      have hc : c ∈ letL := hall c (by rw [hu]; simp)
      have hrun : run letL (z.drop k) = u := by rw [hd]; exact run_eq hall (hsep.let_of hne hall)
      refine iteN (let_sgn c hc) ⟨_, rfl, _, _, rfl, rfl, _, rfl, ?_⟩
      rw [let_cps]
      refine iteP hc ⟨_, rfl, _, rfl, z, k, rfl, hz, Nat.le_of_lt hkl, .inl ⟨by rw [hrun]; exact h8, ?_⟩⟩
      rw [hrun]; exact q
    | num hn =>
      have hc : c ∈ figL := hn.all c (by rw [hu]; simp)
      have hrun : run figL (z.drop k) = u := by rw [hd]; exact run_eq hn.all (hsep.fig_of hn.ne hn.all)
      refine iteN (fig_sgn c hc) ⟨_, rfl, _, _, rfl, rfl, _, rfl, ?_⟩
      rw [let_cps]
      refine iteN (fig_let c hc) ⟨_, rfl, rfl, _, rfl, iteN (by rw [one_S, minus_eq]; exact str_ne (by simpa using (fig_32 c hc).2)) ⟨_, rfl, _, _, rfl, rfl, _, rfl, ?_⟩⟩
      rw [fig_cps]
      refine iteP hc ⟨_, rfl, _, rfl, z, k, rfl, hz, Nat.le_of_lt hkl, .inl ⟨by rw [hrun]; exact hn, ?_⟩⟩
      rw [hrun]; exact q
    | @neg v hn h48 =>
      have e : 45 = c ∧ v = u' := by injection hu with h1 h2; exact ⟨h1, h2⟩
      obtain ⟨e1, e2⟩ := e
      subst e1; subst e2
      have hrun : run figL (z.drop (k + 1)) = v := by rw [hd1]; exact run_eq hn.all ((hsep.tail hn.ne).fig_of hn.ne hn.all)
      refine iteN n45.1 ⟨_, rfl, _, _, rfl, rfl, _, rfl, ?_⟩
      rw [let_cps]
      refine iteN n45.2.1 ⟨_, rfl, rfl, _, rfl, iteP (by rw [one_S, minus_eq]) ?_⟩
      refine ⟨_, rfl, _, rfl, _, _, rfl, rfl, z, k + 1, rfl, hz, hkl, .inl ⟨by rw [hrun]; exact hn, by rw [hrun]; exact h48, ?_⟩⟩
      rw [hrun]
      refine ⟨_, _, rfl, rfl, ?_, ?_⟩
      · rw [minus_eq, S_len, S_len]
        have := hn.len
        exact line_of (by simp; omega)
      · rw [minus_eq, S_app]; exact q
  · obtain ⟨c, r, hd', _⟩ := hb.head
    obtain ⟨hat, hkl, hd1⟩ := drop_at hd'
    rw [hd'] at hb
    refine ⟨_, rfl, _, rfl, _, _, _, rfl, rfl, hzl, atS hat, ?_⟩
    refine ⟨_, rfl, _, _, rfl, rfl, _, rfl, ?_⟩
    rw [sgn_cps]
    cases hb with
    | sign hc =>
      obtain ⟨n1, n2, n3, n4, _, n5⟩ := bad_no c hc
      refine iteN n1 ⟨_, rfl, _, _, rfl, rfl, _, rfl, ?_⟩
      rw [let_cps]
      refine iteN n2 ⟨_, rfl, rfl, _, rfl, iteN (by rw [one_S, minus_eq]; exact str_ne (by simpa using n3)) ⟨_, rfl, _, _, rfl, rfl, _, rfl, ?_⟩⟩
      rw [fig_cps]
      exact iteN n4 ⟨_, rfl, by decide +kernel, _, rfl, S [c], rfl, line_of (by omega), _, rfl, n5, (by show 1 ≤ sizeLine; decide), e⟩
    | lets hc h1 h2 =>
      refine iteN (let_sgn c hc) ⟨_, rfl, _, _, rfl, rfl, _, rfl, ?_⟩
      rw [let_cps]
      exact iteP hc ⟨_, rfl, _, rfl, z, k, rfl, hz, Nat.le_of_lt hkl, .inr (by rw [hd']; exact ⟨h1, h2, e⟩)⟩
    | figs hc h1 h2 =>
      refine iteN (fig_sgn c hc) ⟨_, rfl, _, _, rfl, rfl, _, rfl, ?_⟩
      rw [let_cps]
      refine iteN (fig_let c hc) ⟨_, rfl, rfl, _, rfl, iteN (by rw [one_S, minus_eq]; exact str_ne (by simpa using (fig_32 c hc).2)) ⟨_, rfl, _, _, rfl, rfl, _, rfl, ?_⟩⟩
      rw [fig_cps]
      exact iteP hc ⟨_, rfl, _, rfl, z, k, rfl, hz, Nat.le_of_lt hkl, .inr (by rw [hd']; exact ⟨h1, h2, e⟩)⟩
    | minus h1 h2 =>
      refine iteN n45.1 ⟨_, rfl, _, _, rfl, rfl, _, rfl, ?_⟩
      rw [let_cps]
      refine iteN n45.2.1 ⟨_, rfl, rfl, _, rfl, iteP (by rw [one_S, minus_eq]) ?_⟩
      exact ⟨_, rfl, _, rfl, _, _, rfl, rfl, z, k + 1, rfl, hz, hkl, .inr (by rw [hd1]; exact ⟨h1, h2, e⟩)⟩
end
end K4
namespace K4
open PySem L2 K3
abbrev sInit : Stmt := inClass sReader 0
def NoT (K : PySem.W.Frag) (H : Hp) (v : V) : Prop := (∃ t, TyOf K H v t ∧ PySem.W.kitOne K t (.type "str") = some false) ∨ (∃ z, v = .str (S z) ∧ z.length ≤ 9000 ∧ Bad z)
theorem TyOf.same {K : PySem.W.Frag} {H H' : Hp} {v : V} {t : Value} (g : Same H H') (h : TyOf K H v t) : TyOf K H' v t := by
  cases h with
  | non => exact .non
  | bl x => exact .bl x
  | int i => exact .int i
  | str x => exact .str x
  | flt x => exact .flt x
  | lst e => exact .lst (g _ _ e)
  | frz e => exact .frz (g _ _ e)
  | tup e => exact .tup (g _ _ e)
  | dK e => exact .dK (g _ _ e)
  | dT e => exact .dT (g _ _ e)
  | ins e h1 h2 h3 h4 h5 => exact .ins (g _ _ e) h1 h2 h3 h4 h5
theorem NoT.same {K : PySem.W.Frag} {H H' : Hp} {v : V} (g : Same H H') (h : NoT K H v) : NoT K H' v := by
  rcases h with ⟨t, h1, h2⟩ | h
  · exact .inl ⟨t, TyOf.same g h1, h2⟩
  · exact .inr h
def spNo (K : PySem.W.Frag) (N : Addr) : Sp := fun vs H _ E => ∃ v, vs = [v] ∧ NoT K H v ∧ ∀ H', Same H H' → E (.ref N) none H'
def spInit (K : PySem.W.Frag) (N : Addr) : Sp := fun vs H _ E => ∃ (r : Addr) (v : V), vs = [.ref r, v] ∧ NoT K H v ∧ ∀ H', Same H H' → E (.ref N) none H'
def spReadU (K : PySem.W.Frag) (N : Addr) : Sp := fun vs H _ E => ∃ (x v : V), vs = [x, v] ∧ NoT K H v ∧ ∀ H', Same H H' → E (.ref N) none H'
section
variable {P : Program} {w : World} {K : PySem.W.Frag} {mg : Str → Option Value} {base : Heap} {f : Addr} {fd : FuncData} {N C : Addr}
theorem ok_wordsX (F : Fun K "words" "words" sWords f fd) (G : Gm mg) (RS : Rs K mg "NoText" N) (R : FnX P w K mg base 4 "word_at" ["text", "start"] (spWdX N)) : FnOk P w K mg base (CX1 P w) 5 f fd ["text"] (spNo K N) := by
  refine Fun.okX F scWords (fun vs H Q E h => ?_) (fun cdv A outer s H vs Q E hr h => ?_)
  · obtain ⟨v, rfl, _⟩ := h
    rfl
  obtain ⟨v, rfl, hv, q⟩ := h
  refine ⟨_, (pss_cons (ps_if (pt_not (pt_val (pe_callB call_isinst rfl G.isi PyProof.Rows.boot_isinstance (pa_cons (pv 0) (pa_cons (pe_bltn (v := .ty "str") rfl G.str PyProof.Rows.boot_str rfl) pa_nil))))) (pss_one (ps_raise RS.hm RS.hq PySem.F.excBase_ValueError (by decide) (pa_cons (pe_str) pa_nil))) pss_nil)
    (pss_cons (ps_set (i := 1) scWords.nd rfl (Or.inl rfl) (pe_lst pa_nil))
    (pss_cons (ps_set (i := 2) scWords.nd rfl (Or.inl rfl) pe_int)
    (pss_cons (ps_while PassesOwn.leaving (pt_cmpR op_lt (pv 2) (pe_callB call_len_str rfl G.len PySem.boot_len (pa_cons (pv 0) pa_nil)) (nomark _))
      (pss_one (ps_if (pt_cmpR op_eq (pe_ix ix_str (pv 0) (pv 2) (fun _ _ => rfl)) pe_str (nomark _))
        (pss_one (ps_aug (i := 2) scWords.nd rfl (Or.inl rfl) pe_int ip_add))
        (pss_cons (ps_set (i := 3) scWords.nd rfl (Or.inl rfl) (pe_fnX (EE := fun _ => E) R hr (passE fun _ _ h => h) (pa_cons (pv 0) (pa_cons (pv 2) pa_nil))))
    (pss_cons (ps_expr (pe_bm PySem.F.plainAttrs_list PySem.F.slot_list_append PySem.F.type_list_append mt_append (pv 1) (pa_cons (pv 3) pa_nil)))
    (pss_one (ps_aug (i := 2) scWords.nd rfl (Or.inl rfl) (pe_callB call_len_str rfl G.len PySem.boot_len (pa_cons (pv 3) pa_nil)) ip_add)))))))
    (pss_one (ps_ret (pv 1))))))), ?_⟩
  rcases hv with ⟨t, ht, hk⟩ | ⟨z, rfl, hz, hB⟩
  · exact ⟨_, rfl, _, "str", t, false, rfl, ht, hk, _, rfl, iteT ⟨(by show 1 ≤ sizeLine; decide), q _ (fun _ _ e => e)⟩⟩
  have hzl : (S z).length ≤ sizeLine := by rw [S_len]; exact line_of hz
  refine ⟨_, rfl, _, "str", _, true, rfl, .str _, rfl, _, rfl, iteF ?_⟩
  refine ⟨(by show 0 ≤ sizeLine; decide), fun l hl => ?_⟩
  refine ⟨fun m σ H' => ∃ (k : Nat) (done : List V) (wd : Option V), σ = [some (.str (S z)), some (.ref l), some (.int (k : Int)), wd] ∧ Same H H' ∧ H' l = some (.lst done) ∧ done.length ≤ k ∧ Bad (z.drop k) ∧ m = z.length - k,
    ⟨_, 0, [], none, rfl, same_new hl _, upd_same, Nat.le_refl _, hB, rfl⟩, ?_⟩
  rintro m σ H' ⟨k, done, wd, rfl, hsame, hl', hdn, hB', rfl⟩
  refine ⟨_, rfl, _, rfl, _, rfl, hzl, _, _, rfl, rfl, _, rfl, ?_⟩
  have hkl : k < z.length := by
    rcases Nat.lt_or_ge k z.length with h | h
    · exact h
    · exact absurd (List.drop_eq_nil_of_le h) hB'.ne
  have hat : z[k]? = some z[k] := List.getElem?_eq_getElem hkl
  have hdk : z.drop k = z[k] :: z.drop (k + 1) := List.drop_eq_getElem_cons hkl
  rw [S_len]
  refine iteP (by omega) ⟨_, fun σ' H'' q' => q', ?_⟩
  refine ⟨_, rfl, _, rfl, _, _, _, rfl, rfl, hzl, atS hat, rfl, _, rfl, ?_⟩
  generalize ht : z.drop k = t at hB'
  cases hB' with
  | here hb =>
    obtain ⟨c0, r, hu0, h32⟩ := hb.head
    have ec : z[k] = c0 := by
      rw [hdk, hu0] at ht
      injection ht
    refine iteN (by rw [ec, one_S, blank_eq]; exact str_ne (by simpa using h32)) ?_
    exact ⟨_, rfl, _, rfl, z, k, rfl, hz, .inr ⟨by rw [ht]; exact hb, q _ hsame⟩⟩
  | @blank r hr' =>
    have e32 : z[k] = 32 ∧ z.drop (k + 1) = r := by rw [hdk] at ht; injection ht with h1 h2; exact ⟨h1, h2⟩
    refine iteP (by rw [e32.1, one_S, blank_eq]) ⟨_, rfl, _, _, rfl, rfl, ?_⟩
    exact ⟨z.length - (k + 1), by omega, k + 1, done, wd, rfl, hsame, hl', by omega, by rw [e32.2]; exact hr', rfl⟩
  | @word u r hu hsep hr' =>
    obtain ⟨c0, u', hu0, h32⟩ := hu.head
    have ec : z[k] = c0 := by
      rw [hdk, hu0] at ht
      injection ht
    have hul : 0 < u.length := List.length_pos_iff.mpr hu.ne
    have hzk : z.length - k = u.length + r.length := by
      have := congrArg List.length ht
      rw [List.length_drop, List.length_append] at this
      exact this
    refine iteN (by rw [ec, one_S, blank_eq]; exact str_ne (by simpa using h32)) ?_
    refine ⟨_, rfl, _, rfl, z, k, rfl, hz, .inl ⟨u, r, ht, hu, hsep, ?_⟩⟩
    refine ⟨_, rfl, .inl ⟨rfl, _, SqL.of hl'⟩, _, rfl, l, _, _, rfl, rfl, hl', by rw [size_line]; omega, ?_⟩
    have hul' : (S u).length ≤ sizeLine := by rw [S_len]; exact line_of (Nat.le_trans hu.len (by omega))
    refine ⟨_, rfl, _, rfl, _, rfl, hul', _, _, rfl, rfl, ?_⟩
    refine ⟨z.length - (k + u.length), by omega, k + u.length, _, some (.str (S u)), ?_, ?_, upd_same, ?_, ?_, rfl⟩
    · rw [S_len]; rfl
    · intro b o hb
      have hne : b ≠ l := ne_of_none hb hl
      rw [upd_ne hne]; exact hsame b o hb
    · rw [List.length_append, List.length_singleton]; omega
    · rw [← List.drop_drop, ht, List.drop_left]; exact hr'
theorem scInit : FnScope ["self", "text"] ["self", "text"] (defScope sInit) := ⟨rfl, rfl, rfl, by decide +kernel, rfl, by decide +kernel, by decide +kernel⟩
theorem ok_initX (F : Fun K "__init__" "Reader.__init__" sInit f fd) (RW : FnX P w K mg base 5 "words" ["text"] (spNo K N)) : FnOk P w K mg base (CX1 P w) 6 f fd ["self", "text"] (spInit K N) := by
  refine Fun.okX F scInit (fun vs H Q E h => ?_) (fun cdv A outer s H vs Q E hr h => ?_)
  · obtain ⟨r, v, rfl, _⟩ := h
    rfl
  obtain ⟨r, v, rfl, hv, q⟩ := h
  refine ⟨_, pss_cons (ps_fld (pv 0) (pe_fnX (EE := fun _ => E) RW hr (passE fun _ _ h => h) (pa_cons (pv 1) pa_nil)) rfl) pss_never, ?_⟩
  exact ⟨_, rfl, v, rfl, hv, q⟩
theorem scReadT : FnScope ["text", "reader", "tree"] ["text"] (defScope sReadT) := ⟨rfl, rfl, rfl, by decide +kernel, rfl, by decide +kernel, by decide +kernel⟩
theorem made_same {H : Hp} {r dx : Addr} (hr0 : H r = none) (hdx0 : H dx = none) (hne : dx ≠ r) : Same H (upd (upd H dx (.own r)) r (.ins C dx [])) := fun b u e => by rw [upd_ne (ne_of_none e hr0), upd_ne (ne_of_none e hdx0)]; exact e
theorem ok_readT {fI : Addr} {fdI : FuncData} (F : Fun K "read_tree" "read_tree" sReadT f fd) (hC : mg "Reader" = some (.ref C)) (mkI : Mk K C fI) (FI : FnOk P w K mg base (CX1 P w) 6 fI fdI ["self", "text"] (spInit K N)) (bI : Binds K fdI ["self", "text"] []) : FnOk P w K mg base (CX1 P w) 8 f fd ["text"] (spNo K N) := by
  refine Fun.okX F scReadT (fun vs H Q E h => ?_) (fun cdv A outer s H vs Q E hr h => ?_)
  · obtain ⟨v, rfl, _⟩ := h
    rfl
  obtain ⟨v, rfl, hv, q⟩ := h
  refine ⟨_, pss_cons (ps_set (i := 1) scReadT.nd rfl (Or.inl rfl) (pe_make mkI FI hr rfl hC bI .nil (pass1 (E' := E) fun _ _ h => h) (pa_cons (pv 0) pa_nil))) pss_never, ?_⟩
  refine ⟨_, rfl, fun r dx hr0 hdx0 hne => ?_⟩
  have g := made_same (C := C) hr0 hdx0 hne
  exact ⟨r, v, rfl, hv.same g, fun H' g' => q _ (g.trans g')⟩
theorem scReadW : FnScope ["text", "reader", "found"] ["text"] (defScope sReadW) := ⟨rfl, rfl, rfl, by decide +kernel, rfl, by decide +kernel, by decide +kernel⟩
theorem ok_readW {fI : Addr} {fdI : FuncData} (F : Fun K "read_wood" "read_wood" sReadW f fd) (hC : mg "Reader" = some (.ref C)) (mkI : Mk K C fI) (FI : FnOk P w K mg base (CX1 P w) 6 fI fdI ["self", "text"] (spInit K N)) (bI : Binds K fdI ["self", "text"] []) : FnOk P w K mg base (CX1 P w) 8 f fd ["text"] (spNo K N) := by
  refine Fun.okX F scReadW (fun vs H Q E h => ?_) (fun cdv A outer s H vs Q E hr h => ?_)
  · obtain ⟨v, rfl, _⟩ := h
    rfl
  obtain ⟨v, rfl, hv, q⟩ := h
  refine ⟨_, pss_cons (ps_set (i := 1) scReadW.nd rfl (Or.inr rfl) (pe_make mkI FI hr rfl hC bI .nil (pass1 (E' := E) fun _ _ h => h) (pa_cons (pv 0) pa_nil))) pss_never, ?_⟩
  refine ⟨_, rfl, fun r dx hr0 hdx0 hne => ?_⟩
  have g := made_same (C := C) hr0 hdx0 hne
  exact ⟨r, v, rfl, hv.same g, fun H' g' => q _ (g.trans g')⟩
theorem scReadU : FnScope ["wood", "text", "reader", "start", "rules"] ["wood", "text"] (defScope sReadU) := ⟨rfl, rfl, rfl, by decide +kernel, rfl, by decide +kernel, by decide +kernel⟩
theorem ok_readU {fI : Addr} {fdI : FuncData} (F : Fun K "read_turning" "read_turning" sReadU f fd) (hC : mg "Reader" = some (.ref C)) (mkI : Mk K C fI) (FI : FnOk P w K mg base (CX1 P w) 6 fI fdI ["self", "text"] (spInit K N)) (bI : Binds K fdI ["self", "text"] []) : FnOk P w K mg base (CX1 P w) 8 f fd ["wood", "text"] (spReadU K N) := by
  refine Fun.okX F scReadU (fun vs H Q E h => ?_) (fun cdv A outer s H vs Q E hr h => ?_)
  · obtain ⟨x, v, rfl, _⟩ := h
    rfl
  obtain ⟨x, v, rfl, hv, q⟩ := h
  refine ⟨_, pss_cons (ps_set (i := 2) scReadU.nd rfl (Or.inl rfl) (pe_make mkI FI hr rfl hC bI .nil (pass1 (E' := E) fun _ _ h => h) (pa_cons (pv 1) pa_nil))) pss_never, ?_⟩
  refine ⟨_, rfl, fun r dx hr0 hdx0 hne => ?_⟩
  have g := made_same (C := C) hr0 hdx0 hne
  exact ⟨r, v, rfl, hv.same g, fun H' g' => q _ (g.trans g')⟩
theorem scLRead : FnScope ["_law_thing"] ["_law_thing"] (defScope sLRead) := ⟨rfl, rfl, rfl, by decide +kernel, rfl, by decide +kernel, by decide +kernel⟩
theorem ok_lread (F : Fun K "_law_read" "_law_read" sLRead f fd) (R : FnX P w K mg base 8 "read_turning" ["wood", "text"] (spReadU K N)) : FnOk P w K mg base (CX1 P w) 9 f fd ["_law_thing"] (spNo K N) := by
  refine Fun.okX F scLRead (fun vs H Q E h => ?_) (fun cdv A outer s H vs Q E hr h => ?_)
  · obtain ⟨v, rfl, _⟩ := h
    rfl
  obtain ⟨v, rfl, hv, q⟩ := h
  refine ⟨_, pss_one (ps_ret (pe_fnX (EE := fun _ => E) R hr (passE fun _ _ h => h) (pa_cons ((pe_lst (pa_cons ((pe_tup (pa_cons (pe_str) (pa_cons ((pe_lst (pa_cons ((pe_tup (pa_cons (pe_str) (pa_cons (pe_tup pa_nil) pa_nil)))) pa_nil))) pa_nil)))) pa_nil))) (pa_cons (pv 0) pa_nil)))), ?_⟩
  refine ⟨(by show 0 ≤ sizeLine; decide), fun p1 hp1 => ⟨(by show 2 ≤ sizeLine; decide), fun p2 hp2 => ⟨(by show 1 ≤ sizeLine; decide), fun p3 hp3 => ⟨(by show 2 ≤ sizeLine; decide), fun p4 hp4 => ⟨(by show 1 ≤ sizeLine; decide), fun p5 hp5 => ?_⟩⟩⟩⟩⟩
  have g := ((((same_new hp1 _).trans (same_new hp2 _)).trans (same_new hp3 _)).trans (same_new hp4 _)).trans (same_new hp5 (.lst [.ref p4]))
  exact ⟨_, rfl, _, v, rfl, hv.same g, fun H' g' => q _ (g.trans g')⟩
end
end K4
namespace K4
open PySem L2 K3
def NotX (K : PySem.W.Frag) (mg : Str → Option Value) (N : Addr) (x : Str) : Prop := ∃ D, mg x = some (.ref D) ∧ PySem.W.kitOne K (.ref N) (.ref D) = some false
structure Cs (K : PySem.W.Frag) (mg : Str → Option Value) (N CT : Addr) : Prop where
  nt : mg "NoText" = some (.ref N)
  te : mg "TurnError" = some (.ref CT)
  ve : mg "ValueError" = none
  ex : PySem.W.exmOne K (.ref N) (.ref CT) = some true
  xk : XcK K N
  i1 : PySem.W.kitOne K (.ref N) (.ref N) = some true
  i2 : PySem.W.kitOne K (.ref N) (.type "ValueError") = some true
  c1 : NotX K mg N "NoWood"
  c2 : NotX K mg N "NoTurning"
  c3 : NotX K mg N "NoTree"
  c4 : NotX K mg N "TooGreat"
  c5 : NotX K mg N "OtherWood"
  c6 : NotX K mg N "Strays"
  c7 : NotX K mg N "NoRow"
  c8 : NotX K mg N "NoName"
def Asks (P : Program) (w : World) (K : PySem.W.Frag) (mg : Str → Option Value) (base : Heap) (N f : Addr) : Prop := ∃ (fd : FuncData) (ps : List Str) (k : Nat), k ≤ 9 ∧ FnOk P w K mg base (CX1 P w) k f fd ps (spNo K N) ∧ Binds K fd ps [] ∧ PySem.W.keepIn K (.ref f) = true
def spRef (P : Program) (w : World) (K : PySem.W.Frag) (mg : Str → Option Value) (base : Heap) (N : Addr) : Sp := fun vs H Q _ => ∃ (f : Addr) (v : V), vs = [.ref f, v] ∧ Asks P w K mg base N f ∧ NoT K H v ∧ ∀ H', Same H H' → Q (.bl true) H'
section
variable {P : Program} {w : World} {K : PySem.W.Frag} {mg : Str → Option Value} {base : Heap} {f : Addr} {fd : FuncData} {N CT : Addr}
theorem scRefused : FnScope ["_law_ask", "_law_thing", "_law_error", "e"] ["_law_ask", "_law_thing"] (defScope sRefused) := ⟨rfl, rfl, rfl, by decide +kernel, rfl, by decide +kernel, by decide +kernel⟩
theorem ok_refused (F : Fun K "_law_refused" "_law_refused" sRefused f fd) (G : Gm mg) (L : Cs K mg N CT) : FnOk P w K mg base CX0 10 f fd ["_law_ask", "_law_thing"] (spRef P w K mg base N) := by
  obtain ⟨D1, m1, j1⟩ := L.c1
  obtain ⟨D2, m2, j2⟩ := L.c2
  obtain ⟨D3, m3, j3⟩ := L.c3
  obtain ⟨D4, m4, j4⟩ := L.c4
  obtain ⟨D5, m5, j5⟩ := L.c5
  obtain ⟨D6, m6, j6⟩ := L.c6
  obtain ⟨D7, m7, j7⟩ := L.c7
  obtain ⟨D8, m8, j8⟩ := L.c8
  refine F.ok scRefused (fun vs H Q E h => ?_) (fun cdv A outer s H vs Q E hr h => ?_)
  · obtain ⟨g, v, rfl, _⟩ := h
    rfl
  obtain ⟨g, v, rfl, ⟨fdA, ps, k, hk, a1, a2, a3⟩, hv, q⟩ := h
  refine ⟨_, (pss_cons (ps_set (i := 2) scRefused.nd rfl (Or.inl rfl) pe_non)
    (pss_cons (ps_cut (ps_tryAsB (i := 3) L.te L.ex rfl scRefused.nd rfl rfl
      (fun pins EE => pss_one (ps_expr (pe_askX (P := P) (w := w) (K := K) (mg := mg) (base := base) (k := 9) (sp := spNo K N) (EE := EE) (i := 0) hr passT (pa_cons (pv 1) pa_nil))))
      (fun a => pss_one (ps_set (i := 2) scRefused.nd rfl (Or.inl rfl) (pv 3)))))
    (pss_cons (ps_if (PW.pt (pw_or (pt_not (pt_val (pe_callB (r := rIsX K) call_isinstX rfl G.isi PyProof.Rows.boot_isinstance (pa_cons (pv 2) (pa_cons (pe_glob (v := .ref N) rfl L.nt rfl) pa_nil))))) (pw_or1 (pt_not (pt_val (pe_callB (r := rIsX K) call_isinstX rfl G.isi PyProof.Rows.boot_isinstance (pa_cons (pv 2) (pa_cons (pe_bltn (v := .ty "ValueError") rfl L.ve (by decide +kernel) rfl) pa_nil)))))))) (pss_one (ps_ret pe_bl)) pss_nil)
    (pss_cons (ps_if (PW.pt (pw_or (pt_val (pe_callB (r := rNotX K) call_isinstN rfl G.isi PyProof.Rows.boot_isinstance (pa_cons (pv 2) (pa_cons (pe_glob (v := .ref D1) rfl m1 rfl) pa_nil)))) (pw_or (pt_val (pe_callB (r := rNotX K) call_isinstN rfl G.isi PyProof.Rows.boot_isinstance (pa_cons (pv 2) (pa_cons (pe_glob (v := .ref D2) rfl m2 rfl) pa_nil)))) (pw_or1 (pt_val (pe_callB (r := rNotX K) call_isinstN rfl G.isi PyProof.Rows.boot_isinstance (pa_cons (pv 2) (pa_cons (pe_glob (v := .ref D3) rfl m3 rfl) pa_nil)))))))) (pss_one (ps_ret pe_bl)) pss_nil)
    (pss_cons (ps_if (PW.pt (pw_or (pt_val (pe_callB (r := rNotX K) call_isinstN rfl G.isi PyProof.Rows.boot_isinstance (pa_cons (pv 2) (pa_cons (pe_glob (v := .ref D4) rfl m4 rfl) pa_nil)))) (pw_or (pt_val (pe_callB (r := rNotX K) call_isinstN rfl G.isi PyProof.Rows.boot_isinstance (pa_cons (pv 2) (pa_cons (pe_glob (v := .ref D5) rfl m5 rfl) pa_nil)))) (pw_or1 (pt_val (pe_callB (r := rNotX K) call_isinstN rfl G.isi PyProof.Rows.boot_isinstance (pa_cons (pv 2) (pa_cons (pe_glob (v := .ref D6) rfl m6 rfl) pa_nil)))))))) (pss_one (ps_ret pe_bl)) pss_nil)
    (pss_one (ps_ret (pe_and (pe_not (pe_callB (r := rNotX K) call_isinstN rfl G.isi PyProof.Rows.boot_isinstance (pa_cons (pv 2) (pa_cons (pe_glob (v := .ref D7) rfl m7 rfl) pa_nil)))) (pe_one (pe_not (pe_callB (r := rNotX K) call_isinstN rfl G.isi PyProof.Rows.boot_isinstance (pa_cons (pv 2) (pa_cons (pe_glob (v := .ref D8) rfl m8 rfl) pa_nil))))))))))))), ?_⟩
  refine ⟨fun σ' H' => ∃ a : Addr, Same H H' ∧ H' a = some (ExcO a (.ref N)) ∧ σ' = [some (.ref g), some v, some (.ref a), none], ?_, ?_⟩
  · refine ⟨fun σ' cls _ H' => cls = .ref N ∧ σ' = [some (.ref g), some v, some .non, none] ∧ Same H H', ?_, ?_⟩
    · exact ⟨g, fdA, ps, k, rfl, hk, a1, a2, a3, _, rfl, v, rfl, hv, fun H' x => ⟨rfl, rfl, x⟩⟩
    · rintro σ' cls H' ⟨rfl, rfl, x⟩
      refine ⟨rfl, fun a ha => ?_⟩
      have ga := same_new ha (ExcO a (.ref N))
      exact ⟨_, rfl, a, x.trans ga, upd_same, rfl⟩
  rintro σ' H1 ⟨a, g1, ha, rfl⟩
  refine ⟨_, rfl, a, .ref N, .ref N, .ref N, rfl, ha, rfl, L.i1, _, rfl, iteF ?_⟩
  refine ⟨_, rfl, a, .ref N, .ty "ValueError", .type "ValueError", rfl, ha, rfl, L.i2, _, rfl, iteF ?_⟩
  refine ⟨_, rfl, a, N, .ref D1, .ref D1, rfl, ha, rfl, L.xk, j1, _, rfl, iteF ?_⟩
  refine ⟨_, rfl, a, N, .ref D2, .ref D2, rfl, ha, rfl, L.xk, j2, _, rfl, iteF ?_⟩
  refine ⟨_, rfl, a, N, .ref D3, .ref D3, rfl, ha, rfl, L.xk, j3, _, rfl, iteF ?_⟩
  refine ⟨_, rfl, a, N, .ref D4, .ref D4, rfl, ha, rfl, L.xk, j4, _, rfl, iteF ?_⟩
  refine ⟨_, rfl, a, N, .ref D5, .ref D5, rfl, ha, rfl, L.xk, j5, _, rfl, iteF ?_⟩
  refine ⟨_, rfl, a, N, .ref D6, .ref D6, rfl, ha, rfl, L.xk, j6, _, rfl, iteF ?_⟩
  refine ⟨_, rfl, a, N, .ref D7, .ref D7, rfl, ha, rfl, L.xk, j7, _, rfl, _, rfl, iteT ?_⟩
  exact ⟨_, rfl, a, N, .ref D8, .ref D8, rfl, ha, rfl, L.xk, j8, _, rfl, q _ g1⟩
end
end K4
namespace L2
open PySem PySem.Spec PyProof.Rows
def compX (X : Cx) (N' : List Str) (scope : Scope) (cl : List (Str × Addr)) (C : Addr) (fp : List Addr) (s₀ : Shared) (H₀ : Hp) : Cx :=
  { X with N := N', s₀ := s₀, H₀ := H₀, env := compEnvC scope cl C X.env, outer := X.stack, ex := fp, fn := fun _ => false, pn := [], xe := fun _ _ => False }
def PF (X : Cx) (ifs : List Expr) (t : TT) : Prop :=
  ∀ (pins : List (Addr × Obj)) (s : Shared) (σ : St) (H : Hp) (Q : Bool → Hp → Prop), Inv X pins σ H s → t σ H Q →
    wpAny (model X.prog X.w) X.A (forIn ifs true fun c r => if r = true then do let ok ← isTrue c X.env (eval c X.env); pure (ForInStep.yield ok) else pure (ForInStep.yield r)) (TP X pins σ Q) X.xe s
theorem pf_nil {X : Cx} : PF X [] (fun _ H Q => Q true H) := by
  intro pins s σ H Q I h
  rw [List.forIn_nil]
  exact wpAny_pure ⟨H, I, h⟩
structure OwnAt (X : Cx) (pins : List (Addr × Obj)) (H : Hp) (s : Shared) (C : Addr) : Prop where
  ns : ∃ m, s.heap.Ns C m
  free : H C = none
  loc : C ≠ X.env.locals
  above : X.s₀.heap.objs.size ≤ C
  cells : ∀ x c, X.env.cells.lookup x = some c → c ≠ C
  pins : ∀ p ∈ X.pn ++ pins, p.1 ≠ C
theorem OwnAt.go {X : Cx} {pins : List (Addr × Obj)} {σ : St} {H : Hp} {s : Shared} {C : Addr} {h' : Heap} (I : Inv X pins σ H s) (o : OwnAt X pins H s C) (hb : Heap.SameBut C s.heap h') : Inv X pins σ H { s with heap := h' } :=
  I.turned (t' := s.toks) (fun b u hb' e => (hb.2 b hb').trans e) o.free o.loc (.inr o.above) o.cells o.pins
def compW (n : Nat) (Pv : Nat → List V → Hp → Prop) : Nat → Nat → Hp → Prop := fun i m H => m = n - i ∧ i ≤ n ∧ ∃ ys, Pv i ys H
def compN (n : Nat) (Pv : Nat → List V → Hp → Prop) (acc : Addr) (i m : Nat) : VK := fun y H5 => ∃ ys, H5 acc = some (.lst ys) ∧ ys.length < sizeLine ∧ ∃ m', m' < m ∧ compW n Pv (i + 1) m' (upd H5 acc (.lst (ys ++ [y])))
theorem comp_next {n : Nat} {Pv : Nat → List V → Hp → Prop} {acc : Addr} {i : Nat} {y : V} {H5 : Hp} {ys : List V} (hi : i < n) (hacc : H5 acc = some (.lst ys)) (hl : ys.length < 5000) (hP : Pv (i + 1) (ys ++ [y]) (upd H5 acc (.lst (ys ++ [y])))) : compN n Pv acc i (n - i) y H5 :=
  ⟨ys, hacc, Nat.lt_trans hl (by decide), n - (i + 1), by omega, rfl, hi, _, hP⟩
end L2
namespace L2
open PySem PySem.Spec PyProof.Rows
end L2
namespace L2
open PySem PySem.Spec PyProof.Rows
section
variable {X : Cx}
end
end L2
namespace L2
open PySem PySem.Spec PyProof.Rows
section
variable {X : Cx}
end
section
variable {prog : Program} {w : World} {A : Around} {R : Result → Shared → Prop} {I : Addr} {fp wr : List Addr} {n : Nat} {P : Nat → Value → Prop} {St : Nat → Heap → Prop}
end
section
variable {prog : Program} {w : World} {A : Around} {E : Value → Shared → Prop} {s : Shared}
end
end L2
namespace L2
open PySem PySem.Spec PyProof.Rows
section
variable {prog : Program} {w : World} {A : Around} {E : Value → Shared → Prop} {s : Shared}
end
section
variable {X : Cx} {e : Expr} {te : TE} {p pos p2 pos2 : Pos}
end
end L2
namespace L2
open PySem PySem.Spec PyProof.Rows
section
variable {X : Cx}
end
end L2
namespace Srt
open PySem PySem.W PyProof.Rows
variable {α β : Type} {O : KeyOrd} {key : Nat → O.α} {n : Nat}
def Ok (O : KeyOrd) (key : Nat → O.α) (n : Nat) (Q : α → Prop) : KasT α → Prop
  | .ret a => Q a
  | .ask i j k => i < n ∧ j < n ∧ Ok O key n Q (k (O.blt (key i) (key j)))
variable (key) in
def kk (p : Array Nat) (i : Nat) : O.α := key (p.getD i 0)
end Srt
namespace L2
open PySem PySem.Spec PyProof.Rows PySem.W
section
variable {prog : Program} {w : World} {A : Around} {E : Value → Shared → Prop} {s : Shared}
end
section
variable {X : Cx}
end
end L2
namespace L2
open PySem PySem.Spec PyProof.Rows PySem.W
section
variable {prog : Program} {w : World} {A : Around} {E : Value → Shared → Prop} {s : Shared}
end
section
variable {prog : Program} {w : World} {A : Around} {E : Value → Shared → Prop} {s : Shared}
end
section
variable {X : Cx}
end
end L2
namespace L2
open PySem PySem.Spec PyProof.Rows
section
variable {prog : Program} {w : World} {A : Around} {E : Value → Shared → Prop} {s : Shared}
end
section
variable {X : Cx}
end
end L2
namespace L2
open PySem PySem.Spec PyProof.Rows PySem.W
section
variable {X : Cx}
end
section
variable {prog : Program} {w : World} {A : Around} {E : Value → Shared → Prop} {s : Shared}
end
section
variable {X : Cx}
end
end L2
namespace L2
open PySem PySem.Spec PyProof.Rows PySem.W
theorem strs_of_vals : ∀ {ss : List Str} {us : List Value}, Vals (ss.map V.str) us → StrsAre us ss
  | [], _, .nil => .nil
  | x :: r, _, .cons h t => by
    obtain ⟨k, rfl⟩ := (show ∃ t, _ = Value.str x t from h)
    exact .cons x k (strs_of_vals t)
section
variable {X : Cx}
theorem mt_join : MtR X "str.join" (fun x vs H Q => ∃ (sep : Str) (l : Addr) (ss : List Str), x = .str sep ∧ vs = [.ref l] ∧ SqL X.K H l (ss.map V.str) ∧ (ss.map (·.length)).sum + ss.length * sep.length ≤ 16777216 ∧ Q (.str (Txt.join sep ss)) H) := by
  intro pins s σ H x xs v us Q I rx rv h
  obtain ⟨sep, l, ss, rfl, rfl, hl, hz, q⟩ := h
  obtain ⟨t, rfl⟩ := (show ∃ t, v = Value.str sep t from rx)
  obtain ⟨u, rfl, ru⟩ := rv.one
  obtain rfl : u = Value.ref l := ru
  obtain ⟨its, r, p, _⟩ := I.list hl
  exact join_list p.isList (strs_of_vals r) hz fun t' k => ⟨.str _, H, I.tok _, ⟨_, rfl⟩, q⟩
end
section
variable {prog : Program} {w : World} {A : Around} {E : Value → Shared → Prop} {s : Shared}
end
section
variable {X : Cx} {tg : Expr}
end
end L2
namespace K4
open PySem L2 K3
theorem str_sh (i : Int) : Str.ofString (toString i) = S (sh i) := by
  cases i with
  | ofNat n =>
    show Str.ofString (toString ((n : Nat) : Int)) = _
    rw [← S_self (Str.ofString (toString ((n : Nat) : Int))), PySem.W.KIN.signs_num]
    unfold sh
    rw [if_neg (by show ¬ ((n : Nat) : Int) < 0; omega)]
    rfl
  | negSucc n =>
    rw [← S_self (Str.ofString (toString (Int.negSucc n))), PyProof.Rows.signs_ofString]
    have e : toString (Int.negSucc n) = "-" ++ Nat.repr (n + 1) := rfl
    rw [e, String.toList_append, List.map_append, Nat.toList_repr]
    unfold sh
    rw [if_pos (by omega)]
    rfl
theorem log_sh {i : Int} (h : i.natAbs < 10 ^ 60) : i.natAbs.log2 < 1920 := log_small (Nat.lt_trans h (by decide))
def gl (sep : List Nat) : List (List Nat) → List Nat
  | [] => []
  | x :: r => x ++ r.flatMap fun y => sep ++ y
theorem gl_fold (sep : List Nat) : ∀ (r : List (List Nat)) (acc : List Nat), (r.map S).foldl (fun a p => a ++ (S sep).cps ++ p.cps) acc.toArray = (acc ++ r.flatMap fun y => sep ++ y).toArray
  | [], acc => by simp
  | y :: r, acc => by
    rw [List.map_cons, List.foldl_cons]
    have e : acc.toArray ++ (S sep).cps ++ (S y).cps = (acc ++ (sep ++ y)).toArray := by
      apply Array.toList_inj.mp
      simp [S]
    rw [e, gl_fold sep r]
    simp [List.flatMap_cons]
theorem join_S (sep : List Nat) (xs : List (List Nat)) : Txt.join (S sep) (xs.map S) = S (gl sep xs) := by
  show Builtin.Str.glued (S sep) (xs.map S) = _
  unfold Builtin.Str.glued
  cases xs with
  | nil => rfl
  | cons x r =>
    have := gl_fold sep r x
    show (⟨((r.map S).foldl (fun a p => a ++ (S sep).cps ++ p.cps) (S x).cps)⟩ : Str) = _
    rw [show (S x).cps = x.toArray from rfl, this]
    rfl
theorem gl_two (sep x y : List Nat) (r : List (List Nat)) : gl sep (x :: y :: r) = x ++ (sep ++ gl sep (y :: r)) := by
  simp [gl, List.flatMap_cons, List.append_assoc]
theorem gl_bound (sep : List Nat) (m : Nat) : ∀ xs : List (List Nat), (∀ x ∈ xs, x.length ≤ m) → (gl sep xs).length ≤ xs.length * (m + sep.length)
  | [], _ => by simp [gl]
  | [x], h => by
    have := h x List.mem_cons_self
    simp [gl]; omega
  | x :: y :: r, h => by
    have h1 := h x List.mem_cons_self
    have h2 := gl_bound sep m (y :: r) fun z hz => h z (List.mem_cons_of_mem _ hz)
    rw [gl_two, List.length_append, List.length_append]
    simp only [List.length_cons] at h2 ⊢
    rw [Nat.succ_mul (r.length + 1)]
    omega
theorem writ_gl : ∀ (ws : List (List Nat)), (∀ w ∈ ws, Word w) → Writ (gl [32] ws) ws
  | [], _ => .nil
  | [w], h => by
    have e : gl [32] [w] = w ++ [] := by simp [gl]
    rw [e]; exact .word (h w List.mem_cons_self) (Sep.nil w) .nil
  | w :: u :: r, h => by
    rw [gl_two]
    exact .word (h w List.mem_cons_self) (Sep.blank _ _) (.blank (writ_gl (u :: r) fun x hx => h x (List.mem_cons_of_mem _ hx)))
def BadP (b : List Nat) : Prop := ∀ r : List Nat, (r = [] ∨ ∃ r', r = 32 :: r') → BadH (b ++ r)
theorem rest_no {L r : List Nat} (h32 : 32 ∉ L) (h : r = [] ∨ ∃ r', r = 32 :: r') : ∀ b, r[0]? = some b → b ∉ L := by
  rintro b hb
  rcases h with rfl | ⟨r', rfl⟩
  · cases hb
  · have e : 32 = b := by simpa using hb
    subst e
    exact h32
theorem badp_sign {c : Nat} (h : c ∈ badL) : BadP [c] := fun r _ => .sign h
theorem no_run {c : Nat} {r : List Nat} (h : c ∉ figL) : run figL (c :: r) = [] := by
  show List.takeWhile _ (c :: r) = []
  rw [List.takeWhile_cons, if_neg (by simpa using h)]
theorem not_num_nil : ¬ Num [] := fun h => h.ne rfl
theorem badp_minus {t : List Nat} (h : t = [] ∨ ∃ c t', t = c :: t' ∧ c ∉ figL) : BadP (45 :: t) := fun r hr => by
  have e : run figL (t ++ r) = [] := by
    rcases h with rfl | ⟨c, t', rfl, hc⟩
    · rcases hr with rfl | ⟨r', rfl⟩
      · rfl
      · exact no_run (by decide)
    · exact no_run hc
  rw [List.cons_append]
  exact .minus (.inl (by rw [e]; exact not_num_nil)) (by rw [e]; exact Nat.zero_le _)
theorem badp_lets {u : List Nat} (h : ∀ c ∈ u, c ∈ letL) (h1 : 8 < u.length) (h2 : u.length ≤ 400) : BadP u := fun r hr => by
  have e : run letL (u ++ r) = u := run_eq h (rest_no n32.1 hr)
  cases u with
  | nil => exact absurd h1 (by simp)
  | cons c u =>
    rw [List.cons_append] at e ⊢
    exact .lets (h c List.mem_cons_self) (by rw [e]; exact h1) (by rw [e]; exact h2)
theorem badp_figs {u : List Nat} (h : ∀ c ∈ u, c ∈ figL) (h0 : u ≠ []) (h1 : ¬ Num u) (h2 : u.length ≤ 400) : BadP u := fun r hr => by
  have e : run figL (u ++ r) = u := run_eq h (rest_no n32.2 hr)
  cases u with
  | nil => exact absurd rfl h0
  | cons c u =>
    rw [List.cons_append] at e ⊢
    exact .figs (h c List.mem_cons_self) (by rw [e]; exact h1) (by rw [e]; exact h2)
theorem badp_neg {u : List Nat} (h : ∀ c ∈ u, c ∈ figL) (h1 : ¬ Num u ∨ u = [48]) (h2 : u.length ≤ 400) : BadP (45 :: u) := fun r hr => by
  have e : run figL (u ++ r) = u := run_eq h (rest_no n32.2 hr)
  rw [List.cons_append]
  exact .minus (by rw [e]; exact h1) (by rw [e]; exact h2)
theorem badp_sgn {s u : List Nat} (hs : s = [] ∨ s = [45]) (h : ∀ c ∈ u, c ∈ figL) (h0 : u ≠ []) (h1 : ¬ Num u) (h2 : u.length ≤ 400) : BadP (s ++ u) := by
  rcases hs with rfl | rfl
  · exact badp_figs h h0 h1 h2
  · exact badp_neg h (.inl h1) h2
theorem bad_gl : ∀ (ws : List (List Nat)) (b : List Nat) (vs : List (List Nat)), (∀ w ∈ ws, Word w) → BadP b → Bad (gl [32] (ws ++ b :: vs))
  | [], b, [], _, hb => by
    have : gl [32] ([] ++ [b]) = b ++ [] := by simp [gl]
    rw [this]
    exact .here (hb [] (.inl rfl))
  | [], b, v :: vs, _, hb => by
    have : gl [32] ([] ++ b :: v :: vs) = b ++ (32 :: gl [32] (v :: vs)) := gl_two [32] b v vs
    rw [this]
    exact .here (hb _ (.inr ⟨_, rfl⟩))
  | w :: ws, b, vs, hw, hb => by
    obtain ⟨x, r, e⟩ : ∃ x r, ws ++ b :: vs = x :: r := by
      cases ws with
      | nil => exact ⟨_, _, rfl⟩
      | cons y ys => exact ⟨_, _, rfl⟩
    have ih := bad_gl ws b vs (fun x hx => hw x (List.mem_cons_of_mem _ hx)) hb
    rw [List.cons_append, e, gl_two]
    rw [e] at ih
    exact .word (hw w List.mem_cons_self) (Sep.blank _ _) (.blank ih)
def spCell (K : PySem.W.Frag) : Sp := fun vs H Q _ => ∃ (a : Addr) (ns : List Int) (k : Nat), vs = [.ref a, .int k] ∧ SqL K H a (ns.map V.int) ∧ ∀ c : Int, Q (.int c) H
def spWordBy : Sp := fun vs H Q _ => ∃ c : Int, vs = [.int c] ∧ ∀ (w : List Nat), Word w → Q (.str (S w)) H
def spRunOf (L : List Nat) : Sp := fun vs H Q _ => ∃ (n : Int) (k : Nat), vs = [.int n, .int (k : Int)] ∧ k ≤ 100 ∧ ∀ u : List Nat, u.length = k → (∀ c ∈ u, c ∈ L) → Q (.str (S u)) H
theorem at_mod {L : List Nat} {x : Str} (hx : x.cps.toList = L) (n : Int) {m : Nat} (hm : L.length = m) (h0 : 0 < m) : ∃ c, atI x.cps.toList (n % (m : Int)) = some c ∧ c ∈ L := by
  have x0 : 0 ≤ n % (m : Int) := Int.emod_nonneg _ (by omega)
  have x1 : n % (m : Int) < (m : Int) := Int.emod_lt_of_pos _ (by omega)
  obtain ⟨i, hi⟩ : ∃ i : Nat, n % (m : Int) = (i : Int) := ⟨_, (Int.toNat_of_nonneg x0).symm⟩
  have hl : i < L.length := by omega
  refine ⟨L[i], ?_, List.getElem_mem _⟩
  rw [hi, hx]
  exact atI_nat (List.getElem?_eq_getElem hl)
section
variable {P : Program} {w : World} {K : PySem.W.Frag} {mg : Str → Option Value} {base : Heap} {f : Addr} {fd : FuncData}
theorem scCell : FnScope ["_law_script", "_law_k"] ["_law_script", "_law_k"] (defScope sCell) := ⟨rfl, rfl, rfl, by decide +kernel, rfl, by decide +kernel, by decide +kernel⟩
theorem ok_cell (F : Fun K "_law_cell_at" "_law_cell_at" sCell f fd) (G : Gm mg) : FnOk P w K mg base CX0 1 f fd ["_law_script", "_law_k"] (spCell K) := by
  refine F.ok scCell (fun vs H Q E h => ?_) (fun cdv A outer s H vs Q E hr h => ?_)
  · obtain ⟨a, ns, k, rfl, _⟩ := h
    rfl
  obtain ⟨a, ns, k, rfl, hS, q⟩ := h
  refine ⟨_, pss_cons (ps_if (pt_cmpR op_lt (pv 1) (pe_callB call_len_seq rfl G.len PySem.boot_len (pa_cons (pv 0) pa_nil)) (nomark _)) (pss_one (ps_ret (pe_ix ix_list (pv 0) (pv 1) (fun _ _ => rfl)))) pss_nil)
    (pss_one (ps_ret pe_int)), ?_⟩
  refine ⟨_, rfl, _, rfl, a, _, rfl, .inl hS, _, _, rfl, rfl, _, rfl, ite2 (fun c => ?_) (fun c => ?_)⟩
  · have c' : (k : Int) < (((ns.map V.int).length : Nat) : Int) := of_decide_eq_true c
    rw [List.length_map] at c'
    have hk : k < ns.length := by omega
    exact ⟨_, rfl, _, rfl, a, _, k, .int ns[k], rfl, rfl, hS, atI_nat (by rw [List.getElem?_map, List.getElem?_eq_getElem hk]; rfl), q _⟩
  · exact q 0
theorem scWordBy : FnScope ["_law_cell", "_law_number"] ["_law_cell"] (defScope sWordBy) := ⟨rfl, rfl, rfl, by decide +kernel, rfl, by decide +kernel, by decide +kernel⟩
theorem ok_wordBy (F : Fun K "_law_word_by" "_law_word_by" sWordBy f fd) (G : Gm mg) : FnOk P w K mg base CX0 1 f fd ["_law_cell"] spWordBy := by
  refine F.ok scWordBy (fun vs H Q E h => ?_) (fun cdv A outer s H vs Q E hr h => ?_)
  · obtain ⟨c, rfl, _⟩ := h
    rfl
  obtain ⟨c, rfl, q⟩ := h
  refine ⟨_, (pss_cons (ps_set (i := 1) scWordBy.nd rfl (Or.inl rfl) (pe_op op_mod (pv 0) (pe_op op_pow pe_int pe_int)))
    (pss_cons (ps_if (pt_cmpR op_eq (pe_op op_mod (pv 1) pe_int) pe_int (nomark _)) (pss_one (ps_ret (pe_ix ix_str pe_str (pe_op op_mod (pe_op op_fdiv (pv 1) pe_int) pe_int) (fun _ _ => rfl)))) pss_nil)
    (pss_cons (ps_if (pt_cmpR op_eq (pe_op op_mod (pv 1) pe_int) pe_int (nomark _)) (pss_one (ps_ret (pe_callTy call_str_int rfl G.str PyProof.Rows.boot_str (pa_cons (pe_op op_sub (pe_op op_mod (pe_op op_fdiv (pv 1) pe_int) (pe_op op_pow pe_int pe_int)) (pe_op op_pow pe_int pe_int)) pa_nil)))) pss_nil)
    (pss_one (ps_ret (pe_ix ix_str pe_str (pe_op op_mod (pe_op op_fdiv (pv 1) pe_int) pe_int) (fun _ _ => rfl))))))), ?_⟩
  refine ⟨_, rfl, _, _, rfl, rfl, ⟨by decide, by decide, by decide⟩, _, _, rfl, rfl, (by show (0 : Int) < 10 ^ 64; decide), ?_⟩
  dsimp only
  have hn0 : 0 ≤ c % 10 ^ Int.toNat 64 := Int.emod_nonneg _ (by decide)
  generalize c % 10 ^ Int.toNat 64 = n at hn0
  refine ⟨_, rfl, _, _, rfl, rfl, (by show (0 : Int) < 3; decide), rfl, _, rfl, ite2 (fun g1 => ?_) (fun g1 => ?_)⟩
  · obtain ⟨ch, hat, hcm⟩ := at_mod let_cps (n / 3) (m := 26) rfl (by decide)
    exact ⟨_, rfl, _, _, rfl, rfl, ⟨(by show (0 : Int) < 3; decide), (by show (3 : Int) < 1073741824; decide)⟩, _, _, rfl, rfl, (by show (0 : Int) < 26; decide), LETS, _, ch, rfl, rfl, (by rw [let_eq, S_len]; exact line_of (by decide)), hat, q [ch] (.name (by simp) (by simp) (fun x hx => by rw [List.mem_singleton.mp hx]; exact hcm))⟩
  refine ⟨_, rfl, _, _, rfl, rfl, (by show (0 : Int) < 3; decide), rfl, _, rfl, ite2 (fun g2 => ?_) (fun g2 => ?_)⟩
  · have x0 : 0 ≤ n / 3 % 10 ^ 60 := Int.emod_nonneg _ (by decide)
    have x1 : n / 3 % 10 ^ 60 < 10 ^ 60 := Int.emod_lt_of_pos _ (by decide)
    have hcase : ∀ i : Int, i.natAbs < 10 ^ 60 → Q (.str (toString i)) H := fun i hi => by
      have := q (sh i) (sh_word hi)
      rw [← str_sh] at this; exact this
    refine ⟨_, rfl, _, _, rfl, rfl, ⟨(by show (0 : Int) < 3; decide), (by show (3 : Int) < 1073741824; decide)⟩, _, _, rfl, rfl, ⟨by decide, by decide, by decide⟩, _, _, rfl, rfl, (by show (0 : Int) < 10 ^ 60; decide), _, _, rfl, rfl, ⟨by decide, by decide, by decide⟩, _, _, rfl, rfl, _, rfl, ?_, ?_⟩
    · show (n / 3 % 10 ^ 60 - 10 ^ 30).natAbs.log2 < 1920
      exact log_sh (by omega)
    · show Q (.str (toString (n / 3 % 10 ^ 60 - 10 ^ 30))) _
      exact hcase _ (by omega)
  · obtain ⟨ch, hat, hcm⟩ := at_mod sgn_cps (n / 3) (m := 7) rfl (by decide)
    exact ⟨_, rfl, _, _, rfl, rfl, ⟨(by show (0 : Int) < 3; decide), (by show (3 : Int) < 1073741824; decide)⟩, _, _, rfl, rfl, (by show (0 : Int) < 7; decide), SGNS, _, ch, rfl, rfl, (by rw [sgn_eq, S_len]; exact line_of (by decide)), hat, q [ch] (.sign hcm)⟩
theorem scFigs : FnScope ["_law_number", "_law_lots", "_law_found", "_law_k"] ["_law_number", "_law_lots"] (defScope sFigs) := ⟨rfl, rfl, rfl, by decide +kernel, rfl, by decide +kernel, by decide +kernel⟩
theorem ok_figs (F : Fun K "_law_figures" "_law_figures" sFigs f fd) (G : Gm mg) : FnOk P w K mg base CX0 1 f fd ["_law_number", "_law_lots"] (spRunOf figL) := by
  refine F.ok scFigs (fun vs H Q E h => ?_) (fun cdv A outer s H vs Q E hr h => ?_)
  · obtain ⟨n, k, rfl, _⟩ := h
    rfl
  obtain ⟨n, k, rfl, hk, q⟩ := h
  refine ⟨_, (pss_cons (ps_set (i := 2) scFigs.nd rfl (Or.inl rfl) pe_str)
    (pss_cons (ps_for PassesOwn.never rfl (pi_range1 rfl G.rng (pa_cons (pv 1) pa_nil)) (pg_name (i := 3) scFigs.nd rfl (Or.inl rfl)) (pss_cons (ps_set (i := 0) scFigs.nd rfl (Or.inl rfl) (pe_op op_add (pe_op op_mod (pe_op op_mul (pv 0) pe_int) pe_int) pe_int))
    (pss_one (ps_set (i := 2) scFigs.nd rfl (Or.inl rfl) (pe_op op_add_str (pv 2) (pe_ix ix_str pe_str (pe_op op_mod (pv 0) pe_int) (fun _ _ => rfl)))))))
    (pss_one (ps_ret (pv 2))))), ?_⟩
  refine ⟨_, rfl, _, rfl, by omega, by omega, ?_⟩
  refine for_range (lo := 0) (n := k) (fun i σ H' => ∃ (m : Int) (u : List Nat) (c3 : Option V), σ = [some (.int m), some (.int (k : Int)), some (.str (S u)), c3] ∧ H' = H ∧ u.length = i ∧ ∀ c ∈ u, c ∈ figL)
    ⟨n, [], _, (by rw [none_eq]; rfl), rfl, rfl, fun c hc => (nomatch hc)⟩ ?_ ?_
  · rintro i σ H' hi ⟨m, u, c3, rfl, rfl, hu, hall⟩
    refine ⟨_, rfl, _, _, rfl, rfl, .inr ⟨by decide, by decide⟩, _, _, rfl, rfl, (by show (0 : Int) < 2147483647; decide), _, _, rfl, rfl, ?_⟩
    dsimp only
    generalize m * 48271 % 2147483647 + 1 = m2
    obtain ⟨ch, hat, hcm⟩ := at_mod fig_cps m2 (m := 10) rfl (by decide)
    refine ⟨_, rfl, _, rfl, _, _, rfl, rfl, (by show (0 : Int) < 10; decide), FIGS, _, ch, rfl, rfl, (by rw [fig_eq, S_len]; exact line_of (by decide)), hat, _, _, rfl, rfl, (by rw [S_len]; exact line_of (by show u.length + 1 ≤ 9000; omega)), ?_⟩
    refine ⟨m2, u ++ [ch], some (.int (0 + (i : Int))), ?_, rfl, by simp [hu], fun c hc => ?_⟩
    · rw [one_S, S_app]; rfl
    · rcases List.mem_append.mp hc with hc | hc
      · exact hall c hc
      · rw [List.mem_singleton.mp hc]; exact hcm
  rintro σ H' ⟨m, u, c3, rfl, rfl, hu, hall⟩
  exact ⟨_, rfl, q u hu hall⟩
theorem scLets : FnScope ["_law_number", "_law_lots", "_law_found", "_law_k"] ["_law_number", "_law_lots"] (defScope sLets) := ⟨rfl, rfl, rfl, by decide +kernel, rfl, by decide +kernel, by decide +kernel⟩
theorem ok_lets (F : Fun K "_law_letters" "_law_letters" sLets f fd) (G : Gm mg) : FnOk P w K mg base CX0 1 f fd ["_law_number", "_law_lots"] (spRunOf letL) := by
  refine F.ok scLets (fun vs H Q E h => ?_) (fun cdv A outer s H vs Q E hr h => ?_)
  · obtain ⟨n, k, rfl, _⟩ := h
    rfl
  obtain ⟨n, k, rfl, hk, q⟩ := h
  refine ⟨_, (pss_cons (ps_set (i := 2) scLets.nd rfl (Or.inl rfl) pe_str)
    (pss_cons (ps_for PassesOwn.never rfl (pi_range1 rfl G.rng (pa_cons (pv 1) pa_nil)) (pg_name (i := 3) scLets.nd rfl (Or.inl rfl)) (pss_cons (ps_set (i := 0) scLets.nd rfl (Or.inl rfl) (pe_op op_add (pe_op op_mod (pe_op op_mul (pv 0) pe_int) pe_int) pe_int))
    (pss_one (ps_set (i := 2) scLets.nd rfl (Or.inl rfl) (pe_op op_add_str (pv 2) (pe_ix ix_str pe_str (pe_op op_mod (pv 0) pe_int) (fun _ _ => rfl)))))))
    (pss_one (ps_ret (pv 2))))), ?_⟩
  refine ⟨_, rfl, _, rfl, by omega, by omega, ?_⟩
  refine for_range (lo := 0) (n := k) (fun i σ H' => ∃ (m : Int) (u : List Nat) (c3 : Option V), σ = [some (.int m), some (.int (k : Int)), some (.str (S u)), c3] ∧ H' = H ∧ u.length = i ∧ ∀ c ∈ u, c ∈ letL)
    ⟨n, [], _, (by rw [none_eq]; rfl), rfl, rfl, fun c hc => (nomatch hc)⟩ ?_ ?_
  · rintro i σ H' hi ⟨m, u, c3, rfl, rfl, hu, hall⟩
    refine ⟨_, rfl, _, _, rfl, rfl, .inr ⟨by decide, by decide⟩, _, _, rfl, rfl, (by show (0 : Int) < 2147483647; decide), _, _, rfl, rfl, ?_⟩
    dsimp only
    generalize m * 69621 % 2147483647 + 1 = m2
    obtain ⟨ch, hat, hcm⟩ := at_mod let_cps m2 (m := 26) rfl (by decide)
    refine ⟨_, rfl, _, rfl, _, _, rfl, rfl, (by show (0 : Int) < 26; decide), LETS, _, ch, rfl, rfl, (by rw [let_eq, S_len]; exact line_of (by decide)), hat, _, _, rfl, rfl, (by rw [S_len]; exact line_of (by show u.length + 1 ≤ 9000; omega)), ?_⟩
    refine ⟨m2, u ++ [ch], some (.int (0 + (i : Int))), ?_, rfl, by simp [hu], fun c hc => ?_⟩
    · rw [one_S, S_app]; rfl
    · rcases List.mem_append.mp hc with hc | hc
      · exact hall c hc
      · rw [List.mem_singleton.mp hc]; exact hcm
  rintro σ H' ⟨m, u, c3, rfl, rfl, hu, hall⟩
  exact ⟨_, rfl, q u hu hall⟩
end
end K4
namespace K4
open PySem L2 K3
abbrev BADS : Str := Str.ofString "!\"#$&'+,./<>?@ABCDEFGHIJKLMNOPQRSTUVWXYZ[\\]^_`{}~\n\t"
theorem bad_cps : BADS.cps.toList = badL := by decide +kernel
theorem bads_len : BADS.length = 51 := by decide +kernel
theorem two_at {x y : V} (n : Int) : ∃ v, (v = x ∨ v = y) ∧ atI [x, y] (n % 2) = some v := by
  have h0 : 0 ≤ n % 2 := Int.emod_nonneg _ (by decide)
  have h1 : n % 2 < 2 := Int.emod_lt_of_pos _ (by decide)
  rcases (show n % 2 = 0 ∨ n % 2 = 1 by omega) with h | h
  · exact ⟨x, .inl rfl, by rw [h]; rfl⟩
  · exact ⟨y, .inr rfl, by rw [h]; rfl⟩
theorem six_at {x0 x1 x2 x3 x4 x5 : V} (n : Int) : ∃ v, (v = x0 ∨ v = x1 ∨ v = x2 ∨ v = x3 ∨ v = x4 ∨ v = x5) ∧ atI [x0, x1, x2, x3, x4, x5] (n % 6) = some v := by
  have h0 : 0 ≤ n % 6 := Int.emod_nonneg _ (by decide)
  have h1 : n % 6 < 6 := Int.emod_lt_of_pos _ (by decide)
  rcases (show n % 6 = 0 ∨ n % 6 = 1 ∨ n % 6 = 2 ∨ n % 6 = 3 ∨ n % 6 = 4 ∨ n % 6 = 5 by omega) with h | h | h | h | h | h
  · exact ⟨x0, .inl rfl, by rw [h]; rfl⟩
  · exact ⟨x1, .inr (.inl rfl), by rw [h]; rfl⟩
  · exact ⟨x2, .inr (.inr (.inl rfl)), by rw [h]; rfl⟩
  · exact ⟨x3, .inr (.inr (.inr (.inl rfl))), by rw [h]; rfl⟩
  · exact ⟨x4, .inr (.inr (.inr (.inr (.inl rfl)))), by rw [h]; rfl⟩
  · exact ⟨x5, .inr (.inr (.inr (.inr (.inr rfl)))), by rw [h]; rfl⟩
theorem e7 : Str.ofString "7" = S [55] := by decide +kernel
theorem m1 : Str.ofString " 7" = S [32, 55] := by decide +kernel
theorem m2 : Str.ofString "a" = S [97] := by decide +kernel
theorem m3 : Str.ofString "-7" = S [45, 55] := by decide +kernel
theorem m4 : Str.ofString "(" = S [40] := by decide +kernel
theorem m5 : Str.ofString ")" = S [41] := by decide +kernel
theorem m6 : Str.ofString "-0" = S [45, 48] := by decide +kernel
def spBadBy : Sp := fun vs H Q _ => ∃ c : Int, vs = [.int c] ∧ ∀ (b : List Nat) (H' : Hp), Same H H' → BadP b → b.length ≤ 100 → Q (.str (S b)) H'
section
variable {P : Program} {w : World} {K : PySem.W.Frag} {mg : Str → Option Value} {base : Heap} {f : Addr} {fd : FuncData}
theorem scBadBy : FnScope ["_law_cell", "_law_number", "_law_way", "_law_sign", "_law_some"] ["_law_cell"] (defScope sBadBy) := ⟨rfl, rfl, rfl, by decide +kernel, rfl, by decide +kernel, by decide +kernel⟩
theorem ok_badBy (F : Fun K "_law_bad_by" "_law_bad_by" sBadBy f fd) (G : Gm mg) (RL : Fn P w K mg base 1 "_law_letters" ["_law_number", "_law_lots"] (spRunOf letL)) (RF : Fn P w K mg base 1 "_law_figures" ["_law_number", "_law_lots"] (spRunOf figL)) : FnOk P w K mg base CX0 2 f fd ["_law_cell"] spBadBy := by
  refine F.ok scBadBy (fun vs H Q E h => ?_) (fun cdv A outer s H vs Q E hr h => ?_)
  · obtain ⟨c, rfl, _⟩ := h
    rfl
  obtain ⟨c, rfl, q⟩ := h
  refine ⟨_, (pss_cons (ps_set (i := 1) scBadBy.nd rfl (Or.inl rfl) (pe_op op_mod (pe_op op_fdiv (pv 0) pe_int) (pe_op op_pow pe_int pe_int)))
    (pss_cons (ps_set (i := 2) scBadBy.nd rfl (Or.inl rfl) (pe_op op_mod (pv 0) pe_int))
    (pss_cons (ps_set (i := 3) scBadBy.nd rfl (Or.inl rfl) (pe_ix ix_list (pe_lst (pa_cons (pe_str) (pa_cons (pe_str) pa_nil))) (pe_op op_mod (pv 1) pe_int) (fun _ _ => rfl)))
    (pss_cons (ps_if (pt_cmpR op_eq (pv 2) pe_int (nomark _)) (pss_cons (ps_set (i := 4) scBadBy.nd rfl (Or.inl rfl) pe_str)
    (pss_one (ps_ret (pe_ix ix_str (pv 4) (pe_op op_mod (pv 1) (pe_callB call_len_str rfl G.len PySem.boot_len (pa_cons (pv 4) pa_nil))) (fun _ _ => rfl))))) pss_nil)
    (pss_cons (ps_if (pt_cmpR op_eq (pv 2) pe_int (nomark _)) (pss_one (ps_ret (pe_op op_add_str pe_str (pe_ix ix_list (pe_lst (pa_cons (pe_str) (pa_cons (pe_str) (pa_cons (pe_str) (pa_cons (pe_str) (pa_cons (pe_str) (pa_cons (pe_str) pa_nil))))))) (pe_op op_mod (pv 1) pe_int) (fun _ _ => rfl))))) pss_nil)
    (pss_cons (ps_if (pt_cmpR op_eq (pv 2) pe_int (nomark _)) (pss_one (ps_ret (pe_fn RL hr (pa_cons (pv 1) (pa_cons (pe_op op_add pe_int (pe_op op_mod (pe_op op_fdiv (pv 1) pe_int) pe_int)) pa_nil))))) pss_nil)
    (pss_cons (ps_if (pt_cmpR op_eq (pv 2) pe_int (nomark _)) (pss_one (ps_ret (pe_op op_add_str (pe_op op_add_str (pv 3) pe_str) (pe_fn RF hr (pa_cons (pv 1) (pa_cons (pe_op op_add pe_int (pe_op op_mod (pe_op op_fdiv (pv 1) pe_int) pe_int)) pa_nil)))))) pss_nil)
    (pss_cons (ps_if (pt_cmpR op_eq (pv 2) pe_int (nomark _)) (pss_one (ps_ret (pe_op op_add_str (pe_op op_add_str (pv 3) pe_str) (pe_fn RF hr (pa_cons (pv 1) (pa_cons (pe_op op_add pe_int (pe_op op_mod (pe_op op_fdiv (pv 1) pe_int) pe_int)) pa_nil)))))) pss_nil)
    (pss_one (ps_ret pe_str)))))))))), ?_⟩
  refine ⟨_, rfl, _, _, rfl, rfl, ⟨(by show (0 : Int) < 6; decide), (by show (6 : Int) < 1073741824; decide)⟩, _, _, rfl, rfl, ⟨by decide, by decide, by decide⟩, _, _, rfl, rfl, (by show (0 : Int) < 10 ^ 20; decide), ?_⟩
  dsimp only
  generalize c / 6 % 10 ^ Int.toNat 20 = n
  refine ⟨_, rfl, _, _, rfl, rfl, (by show (0 : Int) < 6; decide), ?_⟩
  dsimp only
  generalize c % 6 = way
  refine ⟨(by show 2 ≤ sizeLine; decide), fun l2 hl2 => ?_⟩
  have s2 := same_new hl2 (.lst [.str (Str.ofString ""), .str (Str.ofString "-")])
  obtain ⟨v, hv, hat⟩ := two_at (x := V.str (Str.ofString "")) (y := V.str (Str.ofString "-")) n
  refine ⟨_, rfl, _, _, rfl, rfl, (by show (0 : Int) < 2; decide), l2, _, _, v, rfl, rfl, SqL.of upd_same, hat, ?_⟩
  obtain ⟨sg, rfl, hsg⟩ : ∃ sg : List Nat, v = .str (S sg) ∧ (sg = [] ∨ sg = [45]) := by
    rcases hv with rfl | rfl
    · exact ⟨[], by rw [none_eq], .inl rfl⟩
    · exact ⟨[45], by rw [minus_eq], .inr rfl⟩
  have hsl : sg.length ≤ 1 := by rcases hsg with rfl | rfl <;> simp
  generalize upd H l2 (.lst [.str (Str.ofString ""), .str (Str.ofString "-")]) = H2 at s2
  clear hat hv
  refine ⟨_, rfl, rfl, _, rfl, ite2 (fun _ => ?_) (fun _ => ?_)⟩
  · obtain ⟨ch, hat, hcm⟩ := at_mod bad_cps n (m := 51) (by decide +kernel) (by decide)
    refine ⟨_, rfl, _, rfl, _, rfl, _, rfl, (by rw [bads_len]; exact line_of (by decide)), _, _, rfl, rfl, (by rw [bads_len]; show (0 : Int) < ((51 : Nat) : Int); decide), BADS, _, ch, rfl, rfl, (by rw [bads_len]; exact line_of (by decide)), (by rw [bads_len]; exact hat), q [ch] _ s2 (badp_sign hcm) (by simp)⟩
  refine ⟨_, rfl, rfl, _, rfl, ite2 (fun _ => ?_) (fun _ => ?_)⟩
  · refine ⟨(by show 6 ≤ sizeLine; decide), fun l3 hl3 => ?_⟩
    have s3 := s2.trans (same_new hl3 (.lst [.str (Str.ofString ""), .str (Str.ofString " 7"), .str (Str.ofString "a"), .str (Str.ofString "-7"), .str (Str.ofString "("), .str (Str.ofString ")")]))
    obtain ⟨v, hv, hat⟩ := six_at (x0 := V.str (Str.ofString "")) (x1 := V.str (Str.ofString " 7")) (x2 := V.str (Str.ofString "a")) (x3 := V.str (Str.ofString "-7")) (x4 := V.str (Str.ofString "(")) (x5 := V.str (Str.ofString ")")) n
    refine ⟨_, rfl, _, _, rfl, rfl, (by show (0 : Int) < 6; decide), l3, _, _, v, rfl, rfl, SqL.of upd_same, hat, ?_⟩
    obtain ⟨u, rfl, hul, hu⟩ : ∃ u : List Nat, v = .str (S u) ∧ u.length ≤ 2 ∧ (u = [] ∨ ∃ c t', u = c :: t' ∧ c ∉ figL) := by
      rcases hv with rfl | rfl | rfl | rfl | rfl | rfl
      · exact ⟨[], by rw [none_eq], by simp, .inl rfl⟩
      · exact ⟨_, by rw [m1], by simp, .inr ⟨_, _, rfl, by decide⟩⟩
      · exact ⟨_, by rw [m2], by simp, .inr ⟨_, _, rfl, by decide⟩⟩
      · exact ⟨_, by rw [m3], by simp, .inr ⟨_, _, rfl, by decide⟩⟩
      · exact ⟨_, by rw [m4], by simp, .inr ⟨_, _, rfl, by decide⟩⟩
      · exact ⟨_, by rw [m5], by simp, .inr ⟨_, _, rfl, by decide⟩⟩
    refine ⟨_, _, rfl, rfl, (by rw [minus_eq, S_len, S_len]; exact line_of (by simp; omega)), ?_⟩
    rw [minus_eq, S_app]
    exact q _ _ s3 (badp_minus hu) (by simp; omega)
  refine ⟨_, rfl, rfl, _, rfl, ite2 (fun _ => ?_) (fun _ => ?_)⟩
  · have x0 : 0 ≤ n / 2 % 32 := Int.emod_nonneg _ (by decide)
    have x1 : n / 2 % 32 < 32 := Int.emod_lt_of_pos _ (by decide)
    obtain ⟨k, hk⟩ : ∃ k : Nat, 9 + n / 2 % 32 = (k : Int) := ⟨_, (Int.toNat_of_nonneg (by omega)).symm⟩
    refine ⟨_, rfl, _, rfl, _, _, rfl, rfl, ⟨(by show (0 : Int) < 2; decide), (by show (2 : Int) < 1073741824; decide)⟩, _, _, rfl, rfl, (by show (0 : Int) < 32; decide), _, _, rfl, rfl, n, k, (by show [V.int n, V.int (9 + n / 2 % 32)] = _; rw [hk]), by omega, fun u hu hall => q u _ s2 (badp_lets hall (by omega) (by omega)) (by omega)⟩
  refine ⟨_, rfl, rfl, _, rfl, ite2 (fun _ => ?_) (fun _ => ?_)⟩
  · have x0 : 0 ≤ n / 2 % 30 := Int.emod_nonneg _ (by decide)
    have x1 : n / 2 % 30 < 30 := Int.emod_lt_of_pos _ (by decide)
    obtain ⟨k, hk⟩ : ∃ k : Nat, 60 + n / 2 % 30 = (k : Int) := ⟨_, (Int.toNat_of_nonneg (by omega)).symm⟩
    refine ⟨_, rfl, _, _, rfl, rfl, (by rw [e7, S_len, S_len]; exact line_of (by simp; omega)), ?_⟩
    rw [e7, S_app]
    refine ⟨_, rfl, _, rfl, _, _, rfl, rfl, ⟨(by show (0 : Int) < 2; decide), (by show (2 : Int) < 1073741824; decide)⟩, _, _, rfl, rfl, (by show (0 : Int) < 30; decide), _, _, rfl, rfl, n, k, (by show [V.int n, V.int (60 + n / 2 % 30)] = _; rw [hk]), by omega, fun u hu hall => ?_⟩
    refine ⟨_, _, rfl, rfl, (by rw [S_len, S_len]; exact line_of (by simp; omega)), ?_⟩
    rw [S_app, List.append_assoc]
    refine q _ _ s2 (badp_sgn hsg (u := [55] ++ u) (fun c hc => ?_) (by simp) (fun hn => ?_) (by simp; omega)) (by simp; omega)
    · rcases List.mem_append.mp hc with hc | hc
      · rw [List.mem_singleton.mp hc]; decide
      · exact hall c hc
    · have := hn.len
      simp at this
      omega
  refine ⟨_, rfl, rfl, _, rfl, ite2 (fun _ => ?_) (fun _ => ?_)⟩
  · have x0 : 0 ≤ n / 2 % 9 := Int.emod_nonneg _ (by decide)
    have x1 : n / 2 % 9 < 9 := Int.emod_lt_of_pos _ (by decide)
    obtain ⟨k, hk⟩ : ∃ k : Nat, 1 + n / 2 % 9 = (k : Int) := ⟨_, (Int.toNat_of_nonneg (by omega)).symm⟩
    refine ⟨_, rfl, _, _, rfl, rfl, (by rw [zero_eq, S_len, S_len]; exact line_of (by simp; omega)), ?_⟩
    rw [zero_eq, S_app]
    refine ⟨_, rfl, _, rfl, _, _, rfl, rfl, ⟨(by show (0 : Int) < 2; decide), (by show (2 : Int) < 1073741824; decide)⟩, _, _, rfl, rfl, (by show (0 : Int) < 9; decide), _, _, rfl, rfl, n, k, (by show [V.int n, V.int (1 + n / 2 % 9)] = _; rw [hk]), by omega, fun u hu hall => ?_⟩
    refine ⟨_, _, rfl, rfl, (by rw [S_len, S_len]; exact line_of (by simp; omega)), ?_⟩
    rw [S_app, List.append_assoc]
    refine q _ _ s2 (badp_sgn hsg (u := [48] ++ u) (fun c hc => ?_) (by simp) (fun hn => ?_) (by simp; omega)) (by simp; omega)
    · rcases List.mem_append.mp hc with hc | hc
      · rw [List.mem_singleton.mp hc]; decide
      · exact hall c hc
    · have := hn.lead rfl
      simp at this
      rw [this] at hu
      have e0 : ([] : List Nat).length = 0 := rfl
      omega
  · show Q (.str (Str.ofString "-0")) H2
    rw [m6]
    exact q [45, 48] _ s2 (badp_neg (u := [48]) (fun c hc => by rw [List.mem_singleton.mp hc]; decide) (.inr rfl) (by simp)) (by simp)
end
end K4
namespace L2
open PySem PySem.Spec PyProof.Rows
structure WS (X : Cx) (ss : List Stmt) (t : TS) : Prop where
  h : PSs X ss t
structure W1 (X : Cx) (st : Stmt) (t : TS) : Prop where
  h : PS X st t
structure WE (X : Cx) (e : Expr) (t : TE) : Prop where
  h : PE X e t
section
variable {X : Cx} {st : Stmt} {rest a b : List Stmt} {t u : TS} {e c : Expr} {es : List Expr} {te : TE} {ta : TA} {tc : TT} {pos : Pos}
theorem w_cons (h1 : W1 X st t) (h2 : WS X rest u) : WS X (st :: rest) (tSeq t u) := ⟨pss_cons h1.h h2.h⟩
theorem w_one (h1 : W1 X st t) : WS X [st] t := ⟨pss_one h1.h⟩
theorem w_nil : WS X [] tNext := ⟨pss_nil⟩
theorem w_st (h : PS X st t) : W1 X st t := ⟨h⟩
theorem w_if (hc : PT X c tc) (ha : WS X a t) (hb : WS X b u) : W1 X (.If c a b pos) (tIfS tc t u) := ⟨ps_if hc ha.h hb.h⟩
theorem w_ret (he : WE X e te) : W1 X (.Return (some e) pos) (tRet te) := ⟨ps_ret he.h⟩
theorem w_e (h : PE X e te) : WE X e te := ⟨h⟩
end
end L2
namespace L2
open PySem PySem.Spec PyProof.Rows
section
variable {X : Cx} {p0 p1 p2 p3 p4 p5 : Pos}
end
section
variable {X : Cx} {p0 p1 p2 p3 p4 : Pos} {e1 e2 e3 e4 : Expr} {t1 t2 t3 t4 : TE}
theorem w_cut {st : Stmt} {t : TS} (h : W1 X st t) : W1 X st (tCut t) := ⟨ps_cut h.h⟩
end
end L2
namespace L2
open PySem PySem.Spec PyProof.Rows
section
variable {X : Cx} {pins : List (Addr × Obj)} {σ : St} {H : Hp} {s : Shared} {h' : Heap}
end
section
variable {X : Cx} {elts : List Expr} {k1 : Nat} {tpos : Pos}
end
end L2
namespace L2
open PySem PySem.Spec PyProof.Rows
section
variable {X : Cx} {x : Str} {p pos : Pos} {e : Expr} {es : List Expr} {kws : List Keyword} {t tk : TA} {id : String} {ks : List Str} {r : List V → List V → Hp → VK → Prop}
end
end L2
namespace L2
open PySem PySem.Spec PyProof.Rows
structure CompG (X : Cx) (xs caps : List Str) (cap : List Nat) (scope : Scope) (cl : List (Str × Addr)) : Prop where
  clos : closureFor scope X.env = pure cl
  cell : ∀ y ∈ scope.names, y.2 ≠ .cell
  kind : scope.kind = .function
  names : ∀ y ∈ scope.names, y.2 = .local → scope.names.lookup y.1 = some .local
  lx : ∀ x ∈ xs, scope.names.lookup x = some .local
  nd : (xs ++ caps).Nodup
  from_ : ∀ y c, cl.lookup y = some c → X.env.cells.lookup y = some c
  has : ∀ y, ((relabel scope X.env).names.lookup y = some .cell ∨ (relabel scope X.env).names.lookup y = some .free) → ∃ c, cl.lookup y = some c
  len : cap.length = caps.length
  cps : ∀ (i : Nat) (y : Str), caps[i]? = some y → ∃ j, cap[i]? = some j ∧ X.N[j]? = some y ∧ X.env.scope.names.lookup y = some .cell ∧ (relabel scope X.env).names.lookup y = some .cell
def capV (cap : List Nat) (σ : St) : St := cap.map fun j => (σ[j]?).getD none
def tCompG (n : Nat) (wi : TI) (cap : List Nat) (g : TG) (tt : TT) (te : TE) : TE := fun σ H Q => wi σ H fun J H1 => ∀ acc, H1 acc = none → ∃ W : Nat → Nat → Hp → Prop, (∃ m, W 0 m (upd H1 acc (.lst []))) ∧ ∀ i m H2, W i m H2 →
  (J.stop i H2 ∧ Q (.ref acc) H2) ∨ (J.go i H2 ∧ ∀ x H3, J.yld i H2 x H3 → ∀ as : St, as.length = n → g x (as ++ capV cap σ) H3 fun σ4 H4 => (∃ bs : St, bs.length = n ∧ σ4 = bs ++ capV cap σ) ∧ tt σ4 H4 fun ok H5 => if ok = true then
    te σ4 H5 (fun y H6 => ∃ ys, H6 acc = some (.lst ys) ∧ ys.length < sizeLine ∧ ∃ m', m' < m ∧ W (i + 1) m' (upd H6 acc (.lst (ys ++ [y]))))
    else ∃ m', m' < m ∧ W (i + 1) m' H5)
theorem compG_core {X : Cx} {elt iter tg : Expr} {xs : List Str} {ifs : List Expr} {scope : Scope} {pos pos' : Pos} {wi : TI} {g : TG} {tt : TT} {te : TE} {cl : List (Str × Addr)} {caps : List Str} {cap : List Nat}
    (O : CompG X xs caps cap scope cl) (hc : X.calm = true) (hi : PI X tg iter wi) (hg : ∀ C fp s₀ H₀, PG (compX X (xs ++ caps) scope cl C fp s₀ H₀) tg g)
    (ht : ∀ C fp s₀ H₀, PF (compX X (xs ++ caps) scope cl C fp s₀ H₀) ifs tt) (he : ∀ C fp s₀ H₀, PE (compX X (xs ++ caps) scope cl C fp s₀ H₀) elt te)
    (hs : ∀ x, foldedSetIterable iter X.env x = pure x) {pins : List (Addr × Obj)} {s : Shared} {σ : St} {H : Hp} {Q : VK} {use : Option (Value → Sem Unit)} {QQ : Value → Shared → Prop} (I : Inv X pins σ H s)
    (h : tCompG xs.length wi cap g tt te σ H Q)
    (hfin : ∀ D C H' s', Inv X pins σ H' s' → OwnAt X pins H' s' C → Q (.ref D) H' → compPost (model X.prog X.w) X.A X.xe use QQ (.ref D) C (.ok .next) s') :
    wpAny (model X.prog X.w) X.A (comprehension (.ListComp elt [⟨tg, iter, ifs, 0⟩] scope pos) scope X.env pos' (newList []) false (eval iter X.env) use) QQ X.xe s := by
  refine wpAny_comprehension_free rfl hs O.clos O.kind O.names (thn (hi pins s σ H _ I h) fun v s1 h1 => thn h1 fun itv s2 h2 => ?_)
  obtain ⟨it, fp, tn, J, H1, e, I2, T, t0, f2, hR⟩ := h2
  subst e
  refine wpAny_newObj_type (wpAny_newFunctionEnv O.cell (by intro y hy; simp at hy) (fun h₁ hns hsb => ?_) O.kind)
  have hacc : H1 s2.heap.objs.size = none := I2.fresh
  obtain ⟨W, ⟨m0, w0⟩, turn⟩ := hR s2.heap.objs.size hacc
  have I3 : Inv X pins σ (upd H1 s2.heap.objs.size (.lst [])) { s2 with heap := s2.heap.push { cls := .type "list", data := .seq ([] : List Value).toArray } } := I2.lnew (t' := s2.toks) (ys := []) (its := []) .nil (Nat.zero_le _)
  generalize hs3 : ({ s2 with heap := s2.heap.push { cls := .type "list", data := .seq ([] : List Value).toArray } } : Shared) = s3 at hns hsb I3 ⊢
  generalize hD : s2.heap.objs.size = D at I3 w0 turn hacc ⊢
  generalize hH3 : upd H1 D (.lst []) = H3 at I3 w0
  have keep3 : ∀ b o, s3.heap.get? b = some o → h₁.get? b = some o := fun b o e => (hsb.2 b (Nat.ne_of_lt (Heap.lt_size e))).trans (Heap.get?_push_of_some _ e)
  have hfp3 : ∀ b ∈ fp, H3 b = none := fun b hb => by
    rw [← hH3, upd_ne]
    · exact (f2 b hb).1
    · intro z
      obtain ⟨o, e, _⟩ := T.obj _ _ t0 b hb
      exact absurd (Heap.lt_size e) (by rw [z, hD]; exact Nat.lt_irrefl _)
  have hCfresh : H3 s3.heap.objs.size = none := I3.fresh
  have hCfp : ∀ b ∈ fp, b ≠ s3.heap.objs.size := fun b hb z => by
    obtain ⟨o, e, _⟩ := T.obj _ _ t0 b hb
    have h2 : s3.heap.objs.size = s2.heap.objs.size + 1 := by rw [← hs3]; exact Heap.size_push ..
    exact absurd (Heap.lt_size e) (by rw [z, h2]; exact Nat.not_lt.mpr (Nat.le_succ _))
  have t3 : tn 0 h₁ := T.keep _ _ _ t0 fun b hb o e => keep3 b o (by rw [← hs3]; exact Heap.get?_push_of_some _ e)
  have ok' : (compX X (xs ++ caps) scope cl s3.heap.objs.size fp s3 H3).Ok := by
    refine ⟨I3.ok.mod, O.kind, I3.ok.glob, I3.ok.blt, Nat.le_refl _, fun y z c e1 e2 => I3.ok.inj y z c (O.from_ y c e1) (O.from_ z c e2), fun y hy => O.has y hy, fun y c z _ => (nomatch z), I3.ok.hd, I3.ok.frames, .inl rfl, fun b hb => ⟨hCfp b hb, fun y c e => ?_⟩, I3.bs, Nat.le_trans I3.ok.bsz I3.sz, fun b o e hb => ?_, fun b hb z => ?_, I3.stack, I3.stkFree⟩
    · exact (f2 b hb).2.2.2.2.1 y c (O.from_ y c e)
    · rcases (f2 b hb).2.2.2.1 with q | q
      · exact I3.ok.noex b o e q
      · exact absurd (Nat.lt_of_lt_of_le (Heap.lt_size e) (Nat.le_trans I3.ok.bsz q)) (Nat.lt_irrefl _)
    · rcases List.mem_cons.mp (I3.stkSub b z) with q | q
      · exact (f2 b hb).2.1 q
      · exact (f2 b hb).2.2.1 q
  have I4 : Inv (compX X (xs ++ caps) scope cl s3.heap.objs.size fp s3 H3) [] (List.replicate xs.length none ++ capV cap σ) H3 { s3 with heap := h₁, toks := s3.toks + ([] : List (Str × Value)).length } := by
    obtain ⟨m, hn, hl⟩ := id I3.loc
    refine ⟨ok', rfl, I3.bare, Un.kept keep3, ⟨_, hns, fun i y v e1 e2 e3 => ?_⟩, fun y c e => ?_, hCfresh, fun y c e => I3.freeC y c (O.from_ y c e), fun p hp => (nomatch hp), I3.hok.kept keep3, ?_⟩
    · by_cases hix : i < xs.length
      · rw [List.getElem?_append_left (by rw [List.length_replicate]; exact hix), List.getElem?_replicate, if_pos hix] at e2
        cases e2
      · have e1' : caps[i - xs.length]? = some y := by
          have e1'' : (xs ++ caps)[i]? = some y := e1
          rwa [List.getElem?_append_right (by omega)] at e1''
        obtain ⟨j, hj, hN, hk, hk'⟩ := O.cps _ y e1'
        have e2' : (σ[j]?).getD none = some v := by
          rw [List.getElem?_append_right (by rw [List.length_replicate]; omega), List.length_replicate] at e2
          unfold capV at e2
          simpa [hj] using e2
        have e2'' : σ[j]? = some (some v) := by
          cases q : σ[j]? with
          | none => rw [q] at e2'; cases e2'
          | some a => rw [q] at e2'; exact congrArg some e2'
        obtain ⟨u, r, l⟩ := hl j y v hN e2'' (.inr (.inl hk))
        refine ⟨u, r, ?_⟩
        rcases l with ⟨k, _⟩ | ⟨k, c, e, z⟩
        · have k' : X.env.scope.names.lookup y = some .local := k
          rw [hk] at k'; cases k'
        · obtain ⟨c', hc'⟩ := O.has y (.inl hk')
          have : c' = c := Option.some.inj ((O.from_ y c' hc').symm.trans e)
          subst this
          refine .inr ⟨.inl hk', c', hc', ?_⟩
          obtain ⟨o, ho, hd⟩ := z
          exact ⟨o, keep3 _ _ ho, hd⟩
    · obtain ⟨v, o, ho, hd⟩ := I3.cell y c (O.from_ y c e)
      exact ⟨v, o, keep3 _ _ ho, hd⟩
    · show (List.replicate xs.length none ++ capV cap σ).length = (xs ++ caps).length
      simp [capV, O.len]
  have fin : ∀ (H' : Hp) (σ' : St) (s' : Shared), Inv (compX X (xs ++ caps) scope cl s3.heap.objs.size fp s3 H3) [] σ' H' s' → Q (.ref D) H' →
      compPost (model X.prog X.w) X.A X.xe use QQ (.ref D) s3.heap.objs.size (.ok .next) s' := fun H' σ' s' I' q => by
    obtain ⟨m, hn, _⟩ := id I'.loc
    have hU : Un (frs X.stack) fp H3 H' s3.heap s'.heap := I'.base
    have hok2 : HOk X.prog X.w H' s'.heap := I'.hok
    have os' : s'.os = s3.os := I'.os
    have I6 : Inv X pins σ H' s' := I3.call' (ch := fp) os' hU hok2 I'.bare (fun b hb => ⟨(f2 b hb).2.2.2.1, (f2 b hb).2.1, (f2 b hb).2.2.2.2⟩)
    refine hfin D _ H' s' I6 ⟨⟨m, hn⟩, I'.free, Nat.ne_of_gt I3.lt, I3.sz, fun y c e z => ?_, fun p hp z => ?_⟩ q
    · obtain ⟨v, hv⟩ := I3.cell y c e
      exact absurd hv.lt (by rw [z]; exact Nat.lt_irrefl _)
    · exact absurd (Heap.lt_size (I3.pin p hp).1) (by rw [z]; exact Nat.lt_irrefl _)
  have stat : ∀ {H' : Hp}, (∀ b ∈ fp, H' b = none) → ∀ b ∈ fp, FpOk (compX X (xs ++ caps) scope cl s3.heap.objs.size fp s3 H3) [] H' b := fun hn b hb =>
    ⟨hn b hb, hCfp b hb, ok'.exfs b hb, .inl hb, fun y c e => (f2 b hb).2.2.2.2.1 y c (O.from_ y c e), fun p hp => (nomatch hp)⟩
  have loop : codeAny (model X.prog X.w) X.A (.compLoop (.ListComp elt [⟨tg, iter, ifs, 0⟩] scope pos) 0 (.ref it) (.ref D) (compEnvC scope cl s3.heap.objs.size X.env))
      (compPost (model X.prog X.w) X.A X.xe use QQ (.ref D) s3.heap.objs.size) { s3 with heap := h₁, toks := s3.toks + ([] : List (Str × Value)).length } := by
    refine codeAny_loop rfl (fun n s' => ∃ i as H', as.length = xs.length ∧ Inv (compX X (xs ++ caps) scope cl s3.heap.objs.size fp s3 H3) [] (as ++ capV cap σ) H' s' ∧ tn i s'.heap ∧ (∀ b ∈ fp, H' b = none) ∧ W i n H') ?_ m0 ⟨0, _, H3, List.length_replicate, I4, t3, hfp3, w0⟩
    rintro n s5 ⟨i, as, H5, has, I5, st5, fr5, w5⟩
    show wpAny _ _ ((compTurn (.ListComp elt [⟨tg, iter, ifs, 0⟩] scope pos) 0 (.ref it) (.ref D) (compEnvC scope cl s3.heap.objs.size X.env)).onRaise (fun x => do noteFrame x (compEnvC scope cl s3.heap.objs.size X.env); theTreesLotGoes x)) _ _ s5
    refine wpAny_noted ?_
    rw [compTurn_list]
    refine wpAny_bind (wpAny_standAt (wpAny_bind ?_))
    have bad : ∀ {M : Model} {A : Around} {α : Type} {t : Sem α} {P : α → Shared → Prop} {E' : Value → Shared → Prop} {s' : Shared}, wpAny M A t P (fun _ _ => False) s' → wpAny M A t P E' s' := fun h => wpAny_mono h (fun _ _ q => q) fun _ _ z => z.elim
    rcases turn i n H5 w5 with ⟨stop, qn⟩ | ⟨go, step⟩
    · refine bad (thn (T.done (compX X (xs ++ caps) scope cl s3.heap.objs.size fp s3 H3) rfl rfl rfl hc i [] s5 _ H5 (fun _ _ => False) I5 (stat fr5) st5 stop) fun r s6 ⟨hr, I6⟩ => ?_)
      subst hr
      exact wpAny_pure (fin H5 _ s6 I6 qn)
    · refine bad (thn (T.item (compX X (xs ++ caps) scope cl s3.heap.objs.size fp s3 H3) rfl rfl rfl hc i [] s5 _ H5 (fun _ _ => False) I5 (stat fr5) st5 go) fun r s6 ⟨u, hr, h6⟩ => ?_)
      subst hr
      refine wpAny_bind (bad (thn h6 fun _ s7 ⟨y, H7, I7, r7, y7, st7, fr7⟩ => ?_))
      have I7' := I7.pinned (stat fr7) (T.obj _ _ st7)
      have goal := step y H7 y7 as has
      refine wpAny_bind (bad (thn (hg s3.heap.objs.size fp s3 H3 _ s7 _ H7 y _ _ I7' r7 goal) fun _ s8 ⟨σ8, H8, I8, ⟨bs, hbs, eσ⟩, goal8⟩ => ?_))
      subst eσ
      refine wpAny_bind (bad (thn (ht s3.heap.objs.size fp s3 H3 _ s8 _ H8 _ I8 goal8) fun okb s9 ⟨H9, I9, q9⟩ => ?_))
      have again : ∀ {H10 : Hp} {s10 : Shared} {m' : Nat}, Inv (compX X (xs ++ caps) scope cl s3.heap.objs.size fp s3 H3) ([] ++ pinsAt fp s7.heap) (bs ++ capV cap σ) H10 s10 → m' < n → W (i + 1) m' H10 →
          ∃ m, m < n ∧ ∃ i as H', as.length = xs.length ∧ Inv (compX X (xs ++ caps) scope cl s3.heap.objs.size fp s3 H3) [] (as ++ capV cap σ) H' s10 ∧ tn i s10.heap ∧ (∀ b ∈ fp, H' b = none) ∧ W i m H' := fun {H10 s10 m'} I10 hm w10 => by
        refine ⟨m', hm, i + 1, bs, H10, hbs, I10.unpinned, T.keep _ _ _ st7 fun b hb o e => (I10.pin (b, o) (List.mem_append_right _ (List.mem_append_right _ (mem_pinsAt hb e)))).1, fun b hb => ?_, w10⟩
        obtain ⟨o, e, d⟩ := T.obj _ _ st7 b hb
        exact (I10.pin (b, o) (List.mem_append_right _ (List.mem_append_right _ (mem_pinsAt hb e)))).2.1
      cases okb with
      | false =>
        rw [if_neg Bool.false_ne_true] at q9
        obtain ⟨m', hm, w9⟩ := q9
        exact wpAny_pure ⟨rfl, again I9 hm w9⟩
      | true =>
        rw [if_pos rfl] at q9
        refine wpAny_bind (wpAny_bind (bad (thn (he s3.heap.objs.size fp s3 H3 _ s9 _ H9 _ I9 q9) fun yv s10 ⟨yy, H10, I10, r10, ys, hys, hlen, m', hm, w10⟩ => ?_)))
        refine wpAny_bind (bad (thn (mt_append (X := compX X (xs ++ caps) scope cl s3.heap.objs.size fp s3 H3) _ s10 _ H10 (.ref D) [yy] (.ref D) [yv] (fun _ H11 => W (i + 1) m' H11) I10 rfl (.cons r10 .nil) ⟨D, ys, yy, rfl, rfl, hys, hlen, w10⟩) fun _ s11 ⟨_, H11, I11, _, q11⟩ => ?_))
        exact wpAny_pure (wpAny_pure ⟨rfl, again I11 hm q11⟩)
  refine codeAny_compStart_list loop (T.self _ 0 _ _ _ t3 loop)
theorem ps_setG {X : Cx} {elt iter tg : Expr} {xs : List Str} {y : Str} {py : Pos} {ifs : List Expr} {scope : Scope} {pos spos : Pos} {wi : TI} {g : TG} {tt : TT} {te : TE} {cl : List (Str × Addr)} {caps : List Str} {cap : List Nat} {i : Nat}
    (O : CompG X xs caps cap scope cl) (hc : X.calm = true) (hi : PI X tg iter wi) (hg : ∀ C fp s₀ H₀, PG (compX X (xs ++ caps) scope cl C fp s₀ H₀) tg g)
    (ht : ∀ C fp s₀ H₀, PF (compX X (xs ++ caps) scope cl C fp s₀ H₀) ifs tt) (he : ∀ C fp s₀ H₀, PE (compX X (xs ++ caps) scope cl C fp s₀ H₀) elt te)
    (hN : X.N.Nodup) (hy : X.N[i]? = some y) (hl : X.env.scope.names.lookup y = some .local)
    (hsw : swapsWith (.ListComp elt [⟨tg, iter, ifs, 0⟩] scope pos) (some (.Name y py)) spos.line X.env = pure true := by rfl)
    (hs : ∀ x, foldedSetIterable iter X.env x = pure x := by intro _; rfl) :
    PS X (.Assign [.Name y py] (.ListComp elt [⟨tg, iter, ifs, 0⟩] scope pos) spos) (tAsg (tCompG xs.length wi cap g tt te) (gName i)) := by
  intro pins s σ H D I h
  rw [exec_Assign_Name_used _ _ _ _ hsw]
  refine wpAny_bind (wpAny_standAt (wpAny_bind ?_))
  show wpAny _ X.A (do let _ ← comprehension (.ListComp elt [⟨tg, iter, ifs, 0⟩] scope pos) scope X.env _ (newList []) false (eval iter X.env) (some (assign (.Name y py) X.env))) _ _ s
  refine wpAny_bind (thn (compG_core (use := some (assign (.Name y py) X.env)) (QQ := fun _ s' => SP X pins D .next s') O hc hi hg ht he hs I h fun Dd C H' s' I' o q => ?_) fun _ s' hq => wpAny_pure (wpAny_pure hq))
  obtain ⟨m, hn⟩ := o.ns
  show wpAny _ X.A (assign (.Name y py) X.env (.ref Dd)) _ _ s'
  refine wpAny_assign_Name (store_ok2 (v := .ref Dd) I' hN hy (.inl hl) rfl (fun s2 I2 sb => ?_) (.inr hl))
  obtain ⟨a, sb, ha⟩ := sb
  have hCa : C ≠ a := by
    rcases ha with z | z
    · rw [z]; exact o.loc
    · exact Ne.symm (o.cells y a z)
  have o2 : OwnAt X pins H' s2 C := ⟨⟨m, hn.sameBut sb hCa⟩, o.free, o.loc, o.above, o.cells, o.pins⟩
  refine ⟨m, hn.sameBut sb hCa, fun h' hb => ?_⟩
  exact ⟨_, H', o2.go I2 hb, q⟩
section
variable {X : Cx} {xs caps : List Str} {cap : List Nat} {scope : Scope} {cl : List (Str × Addr)}
theorem pg_c1 {x : Str} {px : Pos} (O : CompG X [x] caps cap scope cl) : ∀ C fp s₀ H₀, PG (compX X ([x] ++ caps) scope cl C fp s₀ H₀) (.Name x px) (gName 0) := fun C fp s₀ H₀ =>
  pg_name (X := compX X ([x] ++ caps) scope cl C fp s₀ H₀) (i := 0) O.nd rfl (.inl (lookup_relabel_local (O.lx x (by simp)))) (.inr (lookup_relabel_local (O.lx x (by simp))))
end
theorem lookup_in {k : NameKind} {y : Str} : ∀ {l : List (Str × NameKind)}, l.lookup y = some k → (y, k) ∈ l
  | [], h => by simp at h
  | (n, j) :: r, h => by
    cases hx : y == n with
    | true =>
      simp only [List.lookup_cons, hx] at h
      have : y = n := by simpa using hx
      cases h
      rw [this]; exact List.mem_cons_self
    | false =>
      simp only [List.lookup_cons, hx] at h
      exact List.mem_cons_of_mem _ (lookup_in h)
theorem lookupA_in {y : Str} {c : Addr} : ∀ {l : List (Str × Addr)}, l.lookup y = some c → (y, c) ∈ l
  | [], h => by simp at h
  | (n, j) :: r, h => by
    cases hx : y == n with
    | true =>
      simp only [List.lookup_cons, hx] at h
      have : y = n := by simpa using hx
      cases h
      rw [this]; exact List.mem_cons_self
    | false =>
      simp only [List.lookup_cons, hx] at h
      exact List.mem_cons_of_mem _ (lookupA_in h)
theorem in_lookupA {y : Str} {c : Addr} : ∀ {l : List (Str × Addr)}, (y, c) ∈ l → ∃ c', l.lookup y = some c'
  | [], h => by cases h
  | (n, j) :: r, h => by
    cases hx : y == n with
    | true => exact ⟨j, by simp only [List.lookup_cons, hx]⟩
    | false =>
      simp only [List.lookup_cons, hx]
      rcases List.mem_cons.mp h with z | z
      · have : y = n := congrArg Prod.fst z
        rw [this] at hx
        simp at hx
      · exact in_lookupA z
theorem relabel_free {env : Env} {y : Str} (hf : env.scope.kind = .function) (hy : env.kindOf y = some .cell) : ∀ {names : List (Str × NameKind)}, names.lookup y = some .free →
    (names.map fun (n, k) => if (k == NameKind.free && env.scope.kind == .function && env.kindOf n == some .cell) then (n, NameKind.cell) else (n, k)).lookup y = some .cell
  | [], h => by simp at h
  | (n, k) :: r, h => by
    show List.lookup y ((if (k == NameKind.free && env.scope.kind == .function && env.kindOf n == some .cell) = true then (n, NameKind.cell) else (n, k)) :: _) = _
    cases hx : y == n with
    | true =>
      simp only [List.lookup_cons, hx] at h
      have e : y = n := by simpa using hx
      cases h
      rw [← e, hf, hy]
      simp
    | false =>
      simp only [List.lookup_cons, hx] at h
      have ih := relabel_free hf hy h
      split
      · simp only [List.lookup_cons, hx]; exact ih
      · simp only [List.lookup_cons, hx]; exact ih
def frees (names : List (Str × NameKind)) : List Str := names.filterMap fun z => if z.2 == NameKind.free then some z.1 else none
theorem closure_go {env : Env} : ∀ (names : List (Str × NameKind)) (caps : List Str) (cs : List Addr) (acc : List (Str × Addr)), frees names = caps → caps.map (fun y => env.cells.lookup y) = cs.map some →
    (forIn names acc fun (x : Str × NameKind) (r : List (Str × Addr)) => (if (x.2 == NameKind.free) = true then do let a ← cellOf env x.1; pure (ForInStep.yield ((x.1, a) :: r)) else pure (ForInStep.yield r) : Sem (ForInStep (List (Str × Addr))))) = (pure ((caps.zip cs).reverse ++ acc) : Sem (List (Str × Addr)))
  | [], caps, cs, acc, h1, h2 => by
    have : caps = [] := h1.symm
    subst this
    simp
  | (n, k) :: r, caps, cs, acc, h1, h2 => by
    rw [List.forIn_cons]
    by_cases hk : (k == NameKind.free) = true
    · have e1 : caps = n :: frees r := by
        rw [← h1]; unfold frees
        rw [List.filterMap_cons]
        simp only [hk, if_true]
      subst e1
      cases cs with
      | nil => simp at h2
      | cons c cs =>
        simp only [List.map_cons, List.cons.injEq] at h2
        have hcell : cellOf env n = pure c := by unfold cellOf; rw [h2.1]
        simp only [hk, if_true, hcell, pure_bind]
        rw [closure_go r _ cs ((n, c) :: acc) rfl h2.2]
        simp
    · have e1 : caps = frees r := by
        rw [← h1]; unfold frees
        rw [List.filterMap_cons]
        simp only [hk]
        rfl
      subst e1
      simp only [hk, if_false, pure_bind]
      exact closure_go r _ cs acc rfl h2
theorem closureFor_many {env : Env} {scope : Scope} {caps : List Str} {cs : List Addr} (hf : frees scope.names = caps) (hc : caps.map (fun y => env.cells.lookup y) = cs.map some) : closureFor scope env = pure (caps.zip cs).reverse := by
  have h := closure_go (env := env) scope.names caps cs [] hf hc
  rw [List.append_nil] at h
  unfold closureFor
  simp only [bind_pure]
  exact h
theorem CompG.many {X : Cx} {xs caps : List Str} {cap : List Nat} {cs : List Addr} {scope : Scope} (hk : scope.kind = .function) (hf : X.env.scope.kind = .function) (hfr : frees scope.names = caps)
    (hnc : ∀ z ∈ scope.names, z.2 ≠ .cell) (hl : ∀ y ∈ scope.names, y.2 = .local → scope.names.lookup y.1 = some .local) (hlx : ∀ x ∈ xs, scope.names.lookup x = some .local) (hnd : (xs ++ caps).Nodup)
    (hfl : ∀ y ∈ caps, scope.names.lookup y = some .free) (hce : caps.map (fun y => X.env.scope.names.lookup y) = caps.map fun _ => some .cell) (hcs : caps.map (fun y => X.env.cells.lookup y) = cs.map some)
    (hN : cap.map (fun j => X.N[j]?) = caps.map some) : CompG X xs caps cap scope (caps.zip cs).reverse := by
  have hlen : caps.length = cs.length := by simpa using congrArg List.length hcs
  have at_cs : ∀ (i : Nat) (y : Str), caps[i]? = some y → ∃ c, cs[i]? = some c ∧ X.env.cells.lookup y = some c := fun i y h => by
    have e := congrArg (fun l => l[i]?) hcs
    simp only [List.getElem?_map, h] at e
    cases q : cs[i]? with
    | none => rw [q] at e; simp at e
    | some c => rw [q] at e; exact ⟨c, rfl, by simpa using e⟩
  refine ⟨closureFor_many hfr hcs, hnc, hk, hl, hlx, hnd, fun y c h => ?_, fun y h => ?_, ?_, fun i y h => ?_⟩
  · have hm := lookupA_in h
    rw [List.mem_reverse] at hm
    obtain ⟨i, hi, e⟩ := List.getElem_of_mem hm
    have hi1 : i < caps.length := by rw [List.length_zip] at hi; omega
    have hi2 : i < cs.length := by rw [List.length_zip] at hi; omega
    rw [List.getElem_zip] at e
    obtain ⟨c', e1, e2⟩ := at_cs i caps[i] (List.getElem?_eq_getElem hi1)
    have e3 : caps[i] = y := congrArg Prod.fst e
    have e4 : cs[i] = c := congrArg Prod.snd e
    rw [List.getElem?_eq_getElem hi2, e4] at e1
    cases e1
    rw [← e3]; exact e2
  · have hm : y ∈ caps := by
      have aux : ∀ k : NameKind, (k = .cell ∨ k = .free) → (relabel scope X.env).names.lookup y = some k → y ∈ caps := fun k hk h => by
        have h1 := lookup_in h
        obtain ⟨z, hz, e⟩ := List.mem_map.mp h1
        obtain ⟨n, kk⟩ := z
        have hfree : kk = .free ∧ n = y := by
          dsimp only at e
          split at e
          · rename_i q
            simp only [Bool.and_eq_true] at q
            exact ⟨by simpa using q.1.1, congrArg Prod.fst e⟩
          · have e2 : kk = k := congrArg Prod.snd e
            refine ⟨?_, congrArg Prod.fst e⟩
            rcases hk with z | z
            · exact absurd (e2.trans z) (hnc _ hz)
            · exact e2.trans z
        rw [← hfr]
        refine List.mem_filterMap.mpr ⟨(n, kk), hz, ?_⟩
        rw [hfree.1, hfree.2]; rfl
      rcases h with h | h
      · exact aux _ (.inl rfl) h
      · exact aux _ (.inr rfl) h
    obtain ⟨i, hi, e⟩ := List.getElem_of_mem hm
    have hi2 : i < cs.length := by omega
    refine in_lookupA (c := cs[i]) ?_
    rw [List.mem_reverse]
    have hiz : i < (caps.zip cs).length := by rw [List.length_zip]; omega
    have := List.getElem_mem hiz
    rw [List.getElem_zip, e] at this
    exact this
  · have := congrArg List.length hN
    simpa using this
  · have e := congrArg (fun l => l[i]?) hN
    simp only [List.getElem?_map, h] at e
    have hm := List.mem_of_getElem? h
    cases q : cap[i]? with
    | none => rw [q] at e; simp at e
    | some j =>
      rw [q] at e
      have hcell : X.env.scope.names.lookup y = some .cell := by
        have e2 := congrArg (fun l => l[i]?) hce
        simpa only [List.getElem?_map, h, Option.map_some, Option.some.injEq] using e2
      exact ⟨j, rfl, by simpa using e, hcell, relabel_free hf hcell (hfl y hm)⟩
theorem compG_drive {J : It} {n N : Nat} {cs : St} {g : TG} {tt : TT} {te : TE} {H1 : Hp} {acc : Addr} {Q : Hp → Prop} (Pv : Nat → List V → Hp → Prop) (h0 : Pv 0 [] (upd H1 acc (.lst [])))
    (hstop : ∀ ys H, Pv N ys H → J.stop N H ∧ Q H)
    (hstep : ∀ i ys H, i < N → Pv i ys H → J.go i H ∧ ∀ x H3, J.yld i H x H3 → ∀ as : St, as.length = n → g x (as ++ cs) H3 fun σ4 H4 => (∃ bs : St, bs.length = n ∧ σ4 = bs ++ cs) ∧ tt σ4 H4 fun ok H5 => if ok = true then te σ4 H5 (compN N Pv acc i (N - i)) else ∃ m', m' < N - i ∧ compW N Pv (i + 1) m' H5) :
    ∃ W : Nat → Nat → Hp → Prop, (∃ m, W 0 m (upd H1 acc (.lst []))) ∧ ∀ i m H2, W i m H2 →
      (J.stop i H2 ∧ Q H2) ∨ (J.go i H2 ∧ ∀ x H3, J.yld i H2 x H3 → ∀ as : St, as.length = n → g x (as ++ cs) H3 fun σ4 H4 => (∃ bs : St, bs.length = n ∧ σ4 = bs ++ cs) ∧ tt σ4 H4 fun ok H5 => if ok = true then
        te σ4 H5 (fun y H6 => ∃ ys, H6 acc = some (.lst ys) ∧ ys.length < sizeLine ∧ ∃ m', m' < m ∧ W (i + 1) m' (upd H6 acc (.lst (ys ++ [y]))))
        else ∃ m', m' < m ∧ W (i + 1) m' H5) := by
  refine ⟨compW N Pv, ⟨N - 0, rfl, Nat.zero_le _, [], h0⟩, ?_⟩
  rintro i m H2 ⟨rfl, hi, ys, p⟩
  by_cases h : i < N
  · exact .inr (hstep i ys H2 h p)
  · have e : i = N := by omega
    subst e
    exact .inl (hstop ys H2 p)
abbrev CKon (N : Nat) (Pv : Nat → List V → Hp → Prop) (acc : Addr) (i : Nat) (te : TE) (σ : St) : Bool → Hp → Prop := fun ok H5 => if ok = true then te σ H5 (compN N Pv acc i (N - i)) else ∃ m', m' < N - i ∧ compW N Pv (i + 1) m' H5
abbrev CGoal (J : It) (n : Nat) (cs : St) (g : TG) (tt : TT) (te : TE) (H1 : Hp) (acc : Addr) (Q : Hp → Prop) : Prop :=
  ∃ W : Nat → Nat → Hp → Prop, (∃ m, W 0 m (upd H1 acc (.lst []))) ∧ ∀ i m H2, W i m H2 →
      (J.stop i H2 ∧ Q H2) ∨ (J.go i H2 ∧ ∀ x H3, J.yld i H2 x H3 → ∀ as : St, as.length = n → g x (as ++ cs) H3 fun σ4 H4 => (∃ bs : St, bs.length = n ∧ σ4 = bs ++ cs) ∧ tt σ4 H4 fun ok H5 => if ok = true then
        te σ4 H5 (fun y H6 => ∃ ys, H6 acc = some (.lst ys) ∧ ys.length < sizeLine ∧ ∃ m', m' < m ∧ W (i + 1) m' (upd H6 acc (.lst (ys ++ [y]))))
        else ∃ m', m' < m ∧ W (i + 1) m' H5)
section
variable {K : PySem.W.Frag} {a b acc : Addr} {xs zs : List V} {tt : TT} {te : TE} {cs : St} {H1 : Hp} {Q : Hp → Prop}
theorem c1_list (Pv : Nat → List V → Hp → Prop) (h0 : Pv 0 [] (upd H1 acc (.lst []))) (hl : ∀ i ys H, i ≤ xs.length → Pv i ys H → SqL K H a xs)
    (hs : ∀ i x ys H, i < xs.length → xs[i]? = some x → Pv i ys H → tt (some x :: cs) H (CKon xs.length Pv acc i te (some x :: cs))) (hd : ∀ ys H, Pv xs.length ys H → Q H) : CGoal (Itl K a) 1 cs (gName 0) tt te H1 acc Q := by
  refine compG_drive Pv h0 (fun ys H p => ⟨⟨xs, hl _ _ _ (Nat.le_refl _) p, Nat.le_refl _⟩, hd ys H p⟩) fun i ys H hi p => ⟨⟨xs, xs[i], hl _ _ _ (Nat.le_of_lt hi) p, List.getElem?_eq_getElem hi⟩, ?_⟩
  rintro x H3 ⟨rfl, hx⟩ as has
  obtain ⟨a0, rfl⟩ : ∃ a0, as = [a0] := List.length_eq_one_iff.mp has
  exact ⟨⟨[some x], rfl, rfl⟩, hs i x ys _ hi (hx xs (hl _ _ _ (Nat.le_of_lt hi) p)) p⟩
end
end L2
namespace K4
open PySem L2 K3
section
variable {X : Cx} {a b : Expr} {ta tb : TE} {pos : Pos}
theorem w_cmp {op : CmpOp} {r : R2} (ho : OpR X (compareOp op) r) (ha : WE X a ta) (hb : WE X b tb) (hm : behindInMarks op b = false) : WE X (.Compare a [op] [b] pos) (tOp r ta tb) := ⟨pe_cmpR ho ha.h hb.h hm⟩
theorem WS.read {ss : List Stmt} {t : TS} {R : TS → Prop} (h : WS X ss t) (k : R t) : ∃ t, PSs X ss t ∧ R t := ⟨t, h.h, k⟩
end
section
variable {K : PySem.W.Frag}
abbrev dat (ws : List (List Nat)) : PyData := .list (ws.map fun u => .str (S u))
theorem rd_W {H : Hp} : ∀ ws : List (List Nat), RdAll K H (W ws) (ws.map fun u => PyData.str (S u))
  | [] => .nil
  | u :: r => .cons (.str _) (rd_W r)
theorem lay_W : ∀ ws : List (List Nat), (∀ u ∈ ws, Word u) → PyData.canLayAll0 (ws.map fun u => PyData.str (S u)) = true
  | [], _ => by simp [PyData.canLayAll0]
  | u :: r, h => by
    have hu := (h u (by simp)).low
    have h1 : PyData.strOk (S u) = true := by
      unfold PyData.strOk
      rw [Array.all_eq_true_iff_forall_mem]
      intro c hc
      have : c ∈ u := by simpa [S] using hc
      have := hu c this
      simp; omega
    simp only [List.map_cons, PyData.canLayAll0, PyData.canLay0, Bool.and_eq_true]
    exact ⟨h1, lay_W r fun v hv => h v (by simp [hv])⟩
theorem lay_dat {ws : List (List Nat)} (h : ∀ u ∈ ws, Word u) : (dat ws).canLay0 = true := by
  show PyData.canLay0 (.list _) = true
  simp only [PyData.canLay0]
  exact lay_W ws h
theorem depth_dat (ws : List (List Nat)) : (dat ws).depth = 1 := by
  have e : (ws.map fun u => PyData.str (S u)) = (ws.map S).map PyData.str := by simp
  show PyData.depth (.list _) = 1
  simp only [PyData.depth, e, depth_strs]
end
theorem W_strs (ws : List (List Nat)) : W ws = (ws.map S).map V.str := by unfold W; rw [List.map_map]; rfl
theorem cells_cut (ns : List Int) : ∃ cs : List Int, cutV (ns.map V.int) (some 3) (some 15) = cs.map V.int ∧ cs.length ≤ 12 := by
  refine ⟨(ns.drop (min 3 ns.length)).take (min 15 ns.length - min 3 ns.length), ?_, ?_⟩
  · unfold cutV
    rw [show (some (3 : Int)) = some ((3 : Nat) : Int) from rfl, show (some (15 : Int)) = some ((15 : Nat) : Int) from rfl, HT.sIx_nat, HT.sIx_nat, List.length_map, List.map_take, List.map_drop]
  · rw [List.length_take]; omega
theorem W_take (ws : List (List Nat)) (k : Nat) : (W ws).take k = W (ws.take k) := by unfold W; rw [List.map_take]
theorem W_drop (ws : List (List Nat)) (k : Nat) : (W ws).drop k = W (ws.drop k) := by unfold W; rw [List.map_drop]
theorem join_bound (m : Nat) : ∀ ws : List (List Nat), (∀ w ∈ ws, w.length ≤ m) → ((ws.map S).map (·.length)).sum ≤ ws.length * m
  | [], _ => by simp
  | w :: r, h => by
    have h1 := h w List.mem_cons_self
    have h2 := join_bound m r fun x hx => h x (List.mem_cons_of_mem _ hx)
    simp only [List.map_cons, List.sum_cons, List.length_cons]
    have e : (S w).length = w.length := S_len w
    rw [e, Nat.succ_mul]; omega
def spLaw (K : PySem.W.Frag) : Sp := fun vs H Q _ => ∃ (a : Addr) (ns : List Int), vs = [.ref a] ∧ SqL K H a (ns.map V.int) ∧ ns.length ≤ 63 ∧ ∀ H', Q (.bl true) H'
def AskAt (P : Program) (w : World) (K : PySem.W.Frag) (mg : Str → Option Value) (base : Heap) (N : Addr) (x : Str) : Prop := ∃ f, mg x = some (.ref f) ∧ Asks P w K mg base N f
theorem asks_of {P : Program} {w : World} {K : PySem.W.Frag} {mg : Str → Option Value} {base : Heap} {N : Addr} {x : Str} {k : Nat} {ps : List Str} (F : FnX P w K mg base k x ps (spNo K N)) (hk : k ≤ 9 := by decide) : AskAt P w K mg base N x := by
  obtain ⟨f, fd, h1, h2, h3, h4⟩ := F.ex
  exact ⟨f, h4, fd, ps, k, hk, h1, h2, h3⟩
theorem kt1 {K : PySem.W.Frag} : PySem.W.kitOne K (.type "NoneType") (.type "str") = some false := by kernel_rfl
theorem kt2 {K : PySem.W.Frag} : PySem.W.kitOne K (.type "int") (.type "str") = some false := by kernel_rfl
theorem kt3 {K : PySem.W.Frag} : PySem.W.kitOne K (.type "bool") (.type "str") = some false := by kernel_rfl
theorem kt4 {K : PySem.W.Frag} : PySem.W.kitOne K (.type "list") (.type "str") = some false := by kernel_rfl
theorem kt5 {K : PySem.W.Frag} : PySem.W.kitOne K (.type "tuple") (.type "str") = some false := by kernel_rfl
theorem kt6 {K : PySem.W.Frag} : PySem.W.kitOne K (.type "dict") (.type "str") = some false := by kernel_rfl
section
variable {P : Program} {w : World} {K : PySem.W.Frag} {mg : Str → Option Value} {base : Heap} {f : Addr} {fd : FuncData} {N : Addr}
theorem scLaw : FnScope ["_law_script", "_law_row", "_law_where", "_law_thing", "_law_number"] ["_law_script"] (defScope sLaw) := ⟨rfl, rfl, rfl, by decide +kernel, rfl, by decide +kernel, by decide +kernel⟩
theorem ok_law (F : Fun K "law" "law" sLaw f fd) (G : Gm mg) (RC : Fn P w K mg base 1 "_law_cell_at" ["_law_script", "_law_k"] (spCell K)) (RWB : Fn P w K mg base 1 "_law_word_by" ["_law_cell"] spWordBy) (RB : Fn P w K mg base 2 "_law_bad_by" ["_law_cell"] spBadBy) (RR : Fn P w K mg base 10 "_law_refused" ["_law_ask", "_law_thing"] (spRef P w K mg base N)) (RW : Fn P w K mg base 5 "words" ["text"] spWords)
    (A1 : AskAt P w K mg base N "words") (A2 : AskAt P w K mg base N "read_tree") (A3 : AskAt P w K mg base N "read_wood") (A4 : AskAt P w K mg base N "_law_read") : FnOk P w K mg base CX0 11 f fd ["_law_script"] (spLaw K) := by
  obtain ⟨f1, hm1, as1⟩ := A1
  obtain ⟨f2, hm2, as2⟩ := A2
  obtain ⟨f3, hm3, as3⟩ := A3
  obtain ⟨f4, hm4, as4⟩ := A4
  refine F.ok scLaw (fun vs H Q E h => ?_) (fun cdv A outer s H vs Q E hr h => ?_)
  · obtain ⟨a, ns, rfl, _⟩ := h
    rfl
  obtain ⟨a, ns, rfl, hS, h63, q⟩ := h
  have room : ∀ n : Nat, n ≤ 4 → (A.deeper (PyProof.Rows.envOfC "law" (defScope sLaw) s.heap.objs.size f cdv)).units + n < cLine := fun n hn => by have := hr.un; omega
  refine WS.read (w_cons (w_st (ps_setG (i := 1) (CompG.many (xs := ["_law_cell"]) (caps := []) (cap := []) (cs := []) rfl rfl (by decide +kernel) (by decide +kernel) (by decide +kernel) (by decide +kernel) (by decide +kernel) (by decide +kernel) rfl rfl rfl) rfl (pi_list (pe_slice sl_list (pv 0) (po_some pe_int) (po_some pe_int))) (pg_c1 (CompG.many (xs := ["_law_cell"]) (caps := []) (cap := []) (cs := []) rfl rfl (by decide +kernel) (by decide +kernel) (by decide +kernel) (by decide +kernel) (by decide +kernel) (by decide +kernel) rfl rfl rfl)) (fun _ _ _ _ => pf_nil) (fun _ _ _ _ => pe_fn RWB hr (pa_cons (pv 0) pa_nil)) scLaw.nd rfl rfl))
    (w_cons (w_st (ps_set (i := 2) scLaw.nd rfl (Or.inl rfl) (pe_op op_mod (pe_fn RC hr (pa_cons (pv 0) (pa_cons (pe_int) pa_nil))) (pe_op op_add (pe_callB call_len_seq rfl G.len PySem.boot_len (pa_cons (pv 1) pa_nil)) pe_int))))
    (w_cons (w_st (ps_set (i := 3) scLaw.nd rfl (Or.inl rfl) (pe_bm PySem.F.plainAttrs_str PySem.F.slot_str_join PySem.F.type_str_join mt_join pe_str (pa_cons (pe_op op_catL (pe_op op_catL (pe_slice sl_list (pv 1) po_none (po_some (pv 2))) (pe_lst (pa_cons (pe_fn RB hr (pa_cons (pe_fn RC hr (pa_cons (pv 0) (pa_cons (pe_int) pa_nil))) pa_nil)) pa_nil))) (pe_slice sl_list (pv 1) (po_some (pv 2)) po_none)) pa_nil))))
    (w_cons (w_cut (w_if (pt_cmpR op_eq (pe_op op_mod (pe_fn RC hr (pa_cons (pv 0) (pa_cons (pe_int) pa_nil))) pe_int) pe_int (nomark _)) (w_cons (w_st (ps_set (i := 4) scLaw.nd rfl (Or.inl rfl) (pe_op op_mod (pe_fn RC hr (pa_cons (pv 0) (pa_cons (pe_int) pa_nil))) (pe_op op_pow pe_int pe_int))))
    (w_one (w_st (ps_set (i := 3) scLaw.nd rfl (Or.inl rfl) (pe_ix ix_list (pe_lst (pa_cons (pe_non) (pa_cons (pv 4) (pa_cons (pe_bl) (pa_cons (pv 1) (pa_cons ((pe_tup (pa_cons (pe_str) pa_nil))) (pa_cons (pe_disp (pps_cons pe_str pe_str pps_nil) rfl rfl (by simp) (by decide)) pa_nil))))))) (pe_op op_mod (pe_op op_fdiv (pv 4) pe_int) pe_int) (fun _ _ => rfl)))))) w_nil))
    (w_cons (w_if (PW.pt (pw_or (pt_not (pt_val (pe_fn RR hr (pa_cons (pe_glob (v := .ref f1) rfl hm1 rfl) (pa_cons (pv 3) pa_nil))))) (pw_or1 (pt_not (pt_val (pe_fn RR hr (pa_cons (pe_glob (v := .ref f2) rfl hm2 rfl) (pa_cons (pv 3) pa_nil)))))))) (w_one (w_st (ps_ret pe_bl))) w_nil)
    (w_cons (w_if (PW.pt (pw_or (pt_not (pt_val (pe_fn RR hr (pa_cons (pe_glob (v := .ref f3) rfl hm3 rfl) (pa_cons (pv 3) pa_nil))))) (pw_or1 (pt_not (pt_val (pe_fn RR hr (pa_cons (pe_glob (v := .ref f4) rfl hm4 rfl) (pa_cons (pv 3) pa_nil)))))))) (w_one (w_st (ps_ret pe_bl))) w_nil)
    (w_one (w_ret (w_cmp op_eqD (w_e (pe_fn RW hr (pa_cons (pe_bm PySem.F.plainAttrs_str PySem.F.slot_str_join PySem.F.type_str_join mt_join pe_str (pa_cons (pv 1) pa_nil)) pa_nil))) (w_e (pv 1)) (nomark _)))))))))) ?_
  obtain ⟨cs, hcs, hcl⟩ := cells_cut ns
  have e32 : Str.ofString " " = S [32] := by decide +kernel
  refine ⟨_, rfl, _, rfl, _, rfl, a, _, rfl, hS, fun p0 hp0 => ⟨p0, rfl, ⟨_, SqL.of upd_same⟩, fun lr hlr => ?_⟩⟩
  rw [hcs] at hlr ⊢
  have s0 := same_new hp0 (.lst (cs.map V.int))
  have b0 : upd H p0 (.lst (cs.map V.int)) p0 = some (.lst (cs.map V.int)) := upd_same
  generalize upd H p0 (.lst (cs.map V.int)) = H0 at s0 b0 hlr ⊢
  refine c1_list (K := K) (xs := cs.map V.int) (cs := []) (tt := fun _ H Q => Q true H) (te := tCall spWordBy [] E0 (tCons (tVar 0) tNil)) (fun j ys H' => ∃ ws : List (List Nat), ws.length = j ∧ (∀ w ∈ ws, Word w) ∧ ys = W ws ∧ H' lr = some (.lst ys) ∧ Same H0 H')
    ⟨[], rfl, fun w hw => (nomatch hw), rfl, upd_same, same_new hlr _⟩ ?_ ?_ ?_
  · rintro j ys H' _ ⟨_, _, _, _, _, g⟩
    exact SqL.of (g _ _ b0)
  · rintro j x ys H' hj hx ⟨ws, hwl, hwk, rfl, hy, g⟩
    rw [List.length_map] at hj
    obtain rfl : x = .int cs[j] := by
      rw [List.getElem?_map, List.getElem?_eq_getElem hj] at hx
      exact (Option.some.inj hx).symm
    refine iteT ⟨_, rfl, _, rfl, fun u hu => ?_⟩
    rw [List.length_map]
    refine comp_next hj hy (by rw [W_len]; omega) ⟨ws ++ [u], by simp [hwl], fun w hw => ?_, by rw [W_app]; rfl, upd_same, fun c v e => ?_⟩
    · rcases List.mem_append.mp hw with hw | hw
      · exact hwk w hw
      · obtain rfl := List.mem_singleton.mp hw; exact hu
    · rw [upd_ne (ne_of_none e hlr)]; exact g _ _ e
  rintro ys H1 ⟨ws, hwl, hwk, rfl, hy1, g1⟩
  rw [List.length_map] at hwl
  have g01 := s0.trans g1
  have w12 : ws.length ≤ 12 := by omega
  clear hwl hlr
  refine ⟨_, rfl, a, ns, 0, rfl, g01.seq hS, fun c0 => ⟨_, rfl, lr, _, rfl, .inl (SqL.of hy1), _, _, rfl, rfl, _, _, rfl, rfl, ?_, ?_⟩⟩
  · show (0 : Int) < (((W ws).length : Nat) : Int) + 1
    omega
  dsimp only
  obtain ⟨k, hk⟩ : ∃ k : Nat, c0 % ((((W ws).length : Nat) : Int) + 1) = (k : Int) := ⟨_, (Int.toNat_of_nonneg (Int.emod_nonneg _ (by omega))).symm⟩
  rw [hk]
  clear hk
  refine ⟨rfl, _, rfl, _, rfl, _, rfl, lr, _, rfl, SqL.of hy1, fun p1 hp1 => ?_⟩
  rw [cutTo, W_take]
  have g2 := same_new hp1 (.lst (W (ws.take k)))
  have y1 : upd H1 p1 (.lst (W (ws.take k))) p1 = some (.lst (W (ws.take k))) := upd_same
  generalize upd H1 p1 (.lst (W (ws.take k))) = H2 at g2 y1 ⊢
  refine ⟨_, rfl, a, ns, 1, rfl, (g01.trans g2).seq hS, fun c1 => ⟨c1, rfl, fun b H3 g3 hb hbl => ⟨(by show 1 ≤ sizeLine; decide), fun p2 hp2 => ?_⟩⟩⟩
  have g4 := same_new hp2 (.lst [.str (S b)])
  have y2 : upd H3 p2 (.lst [.str (S b)]) p2 = some (.lst [.str (S b)]) := upd_same
  generalize upd H3 p2 (.lst [.str (S b)]) = H4 at g4 y2 ⊢
  have g14 := g2.trans (g3.trans g4)
  have y1' := g4 _ _ (g3 _ _ y1)
  refine ⟨p1, p2, _, _, rfl, rfl, SqL.of y1', SqL.of y2, ?_, fun p3 hp3 => ?_⟩
  · rw [W_len, List.length_take]
    show _ + 1 ≤ _
    exact K4.line_of (by omega)
  have hh : W (ws.take k) ++ [.str (S b)] = W (ws.take k ++ [b]) := by rw [W_app]; rfl
  rw [hh]
  have g5 := same_new hp3 (.lst (W (ws.take k ++ [b])))
  have y3 : upd H4 p3 (.lst (W (ws.take k ++ [b]))) p3 = some (.lst (W (ws.take k ++ [b]))) := upd_same
  generalize upd H4 p3 (.lst (W (ws.take k ++ [b]))) = H5 at g5 y3 ⊢
  have g15 := g14.trans g5
  refine ⟨_, rfl, _, rfl, _, rfl, lr, _, rfl, SqL.of (g15 _ _ hy1), fun p4 hp4 => ?_⟩
  rw [cutFrom, W_drop]
  have g6 := same_new hp4 (.lst (W (ws.drop k)))
  have y4 : upd H5 p4 (.lst (W (ws.drop k))) p4 = some (.lst (W (ws.drop k))) := upd_same
  generalize upd H5 p4 (.lst (W (ws.drop k))) = H6 at g6 y4 ⊢
  refine ⟨p3, p4, _, _, rfl, rfl, SqL.of (g6 _ _ y3), SqL.of y4, ?_, fun p5 hp5 => ?_⟩
  · rw [W_len, W_len, List.length_append, List.length_take, List.length_drop]
    show _ + 1 + _ ≤ _
    exact K4.line_of (by omega)
  rw [← W_app]
  have er : ws.take k ++ [b] ++ ws.drop k = ws.take k ++ b :: ws.drop k := by rw [List.append_assoc]; rfl
  rw [er]
  have hB : Bad (gl [32] (ws.take k ++ b :: ws.drop k)) := bad_gl _ _ _ (fun x hx => hwk x (List.mem_of_mem_take hx)) hb
  have hrl : (ws.take k ++ b :: ws.drop k).length ≤ 13 := by
    rw [List.length_append, List.length_take, List.length_cons, List.length_drop]; omega
  have hr100 : ∀ x ∈ ws.take k ++ b :: ws.drop k, x.length ≤ 100 := fun x hx => by
    rcases List.mem_append.mp hx with hx | hx
    · have := (hwk x (List.mem_of_mem_take hx)).len; omega
    · rcases List.mem_cons.mp hx with rfl | hx
      · exact hbl
      · have := (hwk x (List.mem_of_mem_drop hx)).len; omega
  generalize ws.take k ++ b :: ws.drop k = row at hB hrl hr100 ⊢
  have g7 := same_new hp5 (.lst (W row))
  have y5 : upd H6 p5 (.lst (W row)) p5 = some (.lst (W row)) := upd_same
  generalize upd H6 p5 (.lst (W row)) = H7 at g7 y5 ⊢
  have g17 := g15.trans (g6.trans g7)
  have hgl : (gl [32] row).length ≤ 9000 := by
    have h1 := gl_bound [32] 100 row hr100
    have h2 : row.length * (100 + [32].length) ≤ 13 * 101 := Nat.mul_le_mul_right _ hrl
    omega
  have jb : ∀ (vs : List (List Nat)), (∀ x ∈ vs, x.length ≤ 100) → vs.length ≤ 13 → ((vs.map S).map (·.length)).sum + (vs.map S).length * (S [32]).length ≤ 16777216 := fun vs h1 h2 => by
    have h3 := join_bound 100 vs h1
    have h4 : vs.length * 100 ≤ 13 * 100 := Nat.mul_le_mul_right _ h2
    rw [List.length_map, S_len]
    show _ + vs.length * 1 ≤ _
    omega
  refine ⟨S [32], p5, row.map S, (by rw [← e32]), rfl, (by rw [← W_strs]; exact SqL.of y5), jb row hr100 hrl, ?_⟩
  rw [join_S]
  have gA := g01.trans g17
  have hyA := g17 _ _ hy1
  clear y1 y1' y2 y3 y4 y5 g2 g3 g4 g5 g6 g7 g14 g15 g17 hp1 hp2 hp3 hp4 hp5
  refine ⟨fun σ' H' => ∃ (v : V) (c4 : Option V), σ' = [some (.ref a), some (.ref lr), some (.int (k : Int)), some v, c4] ∧ Same H H' ∧ H' lr = some (.lst (W ws)) ∧ NoT K H' v, ?_, ?_⟩
  · refine ⟨_, rfl, a, ns, 2, rfl, gA.seq hS, fun c2 => ⟨_, _, rfl, rfl, (by show (0 : Int) < 5; decide), rfl, _, rfl, ite2 (fun _ => ?_) (fun _ => ?_)⟩⟩
    · refine ⟨_, rfl, a, ns, 2, rfl, gA.seq hS, fun c3 => ⟨_, _, rfl, rfl, ⟨by decide, by decide, by decide⟩, _, _, rfl, rfl, (by show (0 : Int) < 10 ^ 9; decide), ?_⟩⟩
      dsimp only
      generalize c3 % 10 ^ Int.toNat 9 = n
      refine ⟨_, rfl, _, rfl, (by show 1 ≤ sizeLine; decide), fun q1 hq1 => ?_⟩
      have s1 := same_new hq1 (.tup [.str (Str.ofString "a")])
      have z1 : upd H7 q1 (.tup [.str (Str.ofString "a")]) q1 = some (.tup [.str (Str.ofString "a")]) := upd_same
      generalize upd H7 q1 (.tup [.str (Str.ofString "a")]) = H8 at s1 z1 ⊢
      intro q2 hq2
      refine ⟨upd_same, [(.inr (Str.ofString "a"), .str (Str.ofString "b"))], rfl, by decide, ?_⟩
      have s2 : Same H8 (upd (upd H8 q2 (.dK [])) q2 (.dK (mergeK [] [(.inr (Str.ofString "a"), .str (Str.ofString "b"))]))) := fun c o e => by rw [upd_ne (ne_of_none e hq2), upd_ne (ne_of_none e hq2)]; exact e
      have z2 : upd (upd H8 q2 (.dK [])) q2 (.dK (mergeK [] [(.inr (Str.ofString "a"), .str (Str.ofString "b"))])) q2 = some (.dK (mergeK [] [(.inr (Str.ofString "a"), .str (Str.ofString "b"))])) := upd_same
      generalize upd (upd H8 q2 (.dK [])) q2 (.dK (mergeK [] [(.inr (Str.ofString "a"), .str (Str.ofString "b"))])) = H9 at s2 z2 ⊢
      refine ⟨(by show 6 ≤ sizeLine; decide), fun q3 hq3 => ?_⟩
      have s3 := same_new hq3 (.lst [.non, .int n, .bl true, .ref lr, .ref q1, .ref q2])
      obtain ⟨v, hv, hat⟩ := six_at (x0 := V.non) (x1 := V.int n) (x2 := V.bl true) (x3 := V.ref lr) (x4 := V.ref q1) (x5 := V.ref q2) (n / 5)
      refine ⟨_, rfl, _, _, rfl, rfl, ⟨(by show (0 : Int) < 5; decide), (by show (5 : Int) < 1073741824; decide)⟩, _, _, rfl, rfl, (by show (0 : Int) < 6; decide), q3, _, _, v, rfl, rfl, SqL.of upd_same, hat, ?_⟩
      have s13 := s1.trans (s2.trans s3)
      refine ⟨v, _, rfl, gA.trans s13, s13 _ _ hyA, .inl ?_⟩
      rcases hv with rfl | rfl | rfl | rfl | rfl | rfl
      · exact ⟨_, .non, kt1⟩
      · exact ⟨_, .int n, kt2⟩
      · exact ⟨_, .bl true, kt3⟩
      · exact ⟨_, .lst (s13 _ _ hyA), kt4⟩
      · exact ⟨_, .tup (s3 _ _ (s2 _ _ z1)), kt5⟩
      · exact ⟨_, .dK (s3 _ _ z2), kt6⟩
    · exact ⟨_, _, rfl, gA, hyA, .inr ⟨_, rfl, hgl, hB⟩⟩
  rintro σ' H8 ⟨v, c4, rfl, g8, hy8, hv⟩
  refine ⟨_, rfl, f1, v, rfl, as1, hv, fun H9 k1 => ⟨_, rfl, iteF ?_⟩⟩
  refine ⟨_, rfl, f2, v, rfl, as2, hv.same k1, fun H10 k2 => ⟨_, rfl, iteF ?_⟩⟩
  have k12 := k1.trans k2
  refine ⟨_, rfl, f3, v, rfl, as3, hv.same k12, fun H11 k3 => ⟨_, rfl, iteF ?_⟩⟩
  have k13 := k12.trans k3
  refine ⟨_, rfl, f4, v, rfl, as4, hv.same k13, fun H12 k4 => ⟨_, rfl, iteF ?_⟩⟩
  have k14 := k13.trans k4
  have h61 : ∀ x ∈ ws, x.length ≤ 100 := fun x hx => by have := (hwk x hx).len; omega
  refine ⟨rfl, _, rfl, S [32], lr, ws.map S, (by rw [← e32]), rfl, (by rw [← W_strs]; exact SqL.of (k14 _ _ hy8)), jb ws h61 (by omega), ?_⟩
  rw [join_S]
  have hgw : (gl [32] ws).length ≤ 9000 := by
    have h1 := gl_bound [32] 100 ws h61
    have h2 : ws.length * (100 + [32].length) ≤ 13 * 101 := Nat.mul_le_mul_right _ (by omega)
    omega
  have lay := lay_dat hwk
  try delta tNil
  dsimp only [List.append_nil]
  refine ⟨_, ws, rfl, hgw, writ_gl ws hwk, fun l2 H13 g13 hl13 _ => ?_⟩
  refine ⟨_, rfl, dat ws, dat ws, .lst (SqL.of hl13) (rd_W ws), .lst (SqL.of (g13 _ _ (k14 _ _ hy8))) (rd_W ws), lay, lay, ?_, ?_⟩
  · rw [depth_dat]
    exact room _ (Nat.le_trans (Nat.min_le_left _ _) (by decide))
  rw [if_neg Bool.false_ne_true, eqv_self _ lay]
  exact q _
end
end K4
namespace L2
theorem ln1 {α : Type} {us : List α} (h : us.length = 1) : ∃ a, us = [a] := List.length_eq_one_iff.mp h
theorem ln2 {α : Type} {us : List α} (h : us.length = 2) : ∃ a b, us = [a, b] := by
  match us, h with
  | [a, b], _ => exact ⟨a, b, rfl⟩
theorem ln3 {α : Type} {us : List α} (h : us.length = 3) : ∃ a b c, us = [a, b, c] := by
  match us, h with
  | [a, b, c], _ => exact ⟨a, b, c, rfl⟩
end L2
namespace L2
open PySem
structure MethAt (K : PySem.W.Frag) (C : Addr) (m qual : Str) (st : Stmt) : Prop where
  ex : ∃ (f : Addr) (oc : Value) (od : Option Addr) (kV doc pm : Value) (an : Option Addr) (cdv ct : Value) (osl : Array (Option Value)),
    PySem.W.findIn K (.ref C) m = some (some (.ref f)) ∧ PySem.W.isFn K (.ref f) = true ∧ K.lookup f = some ⟨oc, od, .func (PySem.W.fnOf m qual (defArgs st) (defBody st) (defScope st) .none kV doc pm an cdv ct), osl⟩ ∧ PySem.W.codeIn K cdv qual = true ∧ PySem.W.keepIn K (.ref f) = true
theorem MethAt.mk' {K : PySem.W.Frag} {C : Addr} {m qual : Str} {st : Stmt} {f : Addr} {oc : Value} {od : Option Addr} {kV doc pm : Value} {an : Option Addr} {cdv ct : Value} {osl : Array (Option Value)}
    (a : PySem.W.findIn K (.ref C) m = some (some (.ref f))) (i : PySem.W.isFn K (.ref f) = true) (l : K.lookup f = some ⟨oc, od, .func (PySem.W.fnOf m qual (defArgs st) (defBody st) (defScope st) .none kV doc pm an cdv ct), osl⟩) (c : PySem.W.codeIn K cdv qual = true) (k : PySem.W.keepIn K (.ref f) = true) : MethAt K C m qual st :=
  ⟨f, oc, od, kV, doc, pm, an, cdv, ct, osl, a, i, l, c, k⟩
end L2
namespace K4
open PySem L2 K3
structure RdK (K : PySem.W.Frag) : Prop where
  ex : ∃ C : Addr, PySem.W.nsIn K mainGlobals "Reader" = some (some (.ref C)) ∧ PySem.W.makesIn K C = true ∧ PySem.W.keepIn K (.ref C) = true ∧ MethAt K C "__init__" "Reader.__init__" sInit
theorem RdK.mk' {K : PySem.W.Frag} {C : Addr} (aC : PySem.W.nsIn K mainGlobals "Reader" = some (some (.ref C))) (mk : PySem.W.makesIn K C = true) (kc : PySem.W.keepIn K (.ref C) = true) (m1 : MethAt K C "__init__" "Reader.__init__" sInit) : RdK K := ⟨C, aC, mk, kc, m1⟩
theorem RdK.m {P : Program} {w : World} {K : PySem.W.Frag} {mg : Str → Option Value} {h base : Heap} {NT : Addr} (S : RdK K) (X : K.In h) (N : h.Ns mainGlobals mg) (RW : FnX P w K mg base 5 "words" ["text"] (spNo K NT)) :
    ∃ (C fI : Addr) (fdI : FuncData), mg "Reader" = some (.ref C) ∧ Mk K C fI ∧ FnOk P w K mg base (CX1 P w) 6 fI fdI ["self", "text"] (spInit K NT) ∧ Binds K fdI ["self", "text"] [] := by
  obtain ⟨C, aC, mk, kc, m1⟩ := S.ex
  obtain ⟨f, oc, od, kV, doc, pm, an, cdv, ct, osl, a, i, l, c, kp⟩ := m1.ex
  have F := fun_mk (st := sInit) l c kp
  exact ⟨C, f, _, PySem.W.mg_of X N aC, ⟨mk, a, i, kc⟩, ok_initX F RW, F.binds fun _ _ _ _ _ _ us hl => by obtain ⟨a1, a2, rfl⟩ := ln2 hl; rfl⟩
end K4
namespace K4
open PySem L2
theorem all_mk {l : PySem.W.OpenLaw} {w : World} {K : PySem.W.Frag} {h : Heap} {mg : Str → Option Value} {fa : Addr} (X : K.In h) (N : h.Ns mainGlobals mg) (hfa : mg "law" = some (.ref fa))
    (d1 : DefAt K "words" sWords) (d2 : DefAt K "word_at" sWordAt) (d3 : DefAt K "name_at" sNameAt) (d4 : DefAt K "below_zero_at" sBelow) (d5 : DefAt K "figures_at" sFigures) (d6 : DefAt K "run_at" sRun) (d7 : DefAt K "read_tree" sReadT) (d8 : DefAt K "read_wood" sReadW) (d9 : DefAt K "read_turning" sReadU) (d10 : DefAt K "_law_cell_at" sCell) (d11 : DefAt K "_law_word_by" sWordBy) (d12 : DefAt K "_law_figures" sFigs) (d13 : DefAt K "_law_letters" sLets) (d14 : DefAt K "_law_bad_by" sBadBy) (d15 : DefAt K "_law_refused" sRefused) (d16 : DefAt K "_law_read" sLRead) (d17 : DefAt K "law" sLaw)
    (z1 : PySem.W.nsIn K mainGlobals "len" = some none) (z2 : PySem.W.nsIn K mainGlobals "isinstance" = some none) (z3 : PySem.W.nsIn K mainGlobals "str" = some none) (z4 : PySem.W.nsIn K mainGlobals "list" = some none) (z5 : PySem.W.nsIn K mainGlobals "range" = some none) (z6 : PySem.W.nsIn K mainGlobals "tuple" = some none) (z7 : PySem.W.nsIn K mainGlobals "int" = some none) (z8 : PySem.W.nsIn K mainGlobals "sum" = some none) (y1 : PySem.W.nsIn K mainGlobals "ValueError" = some none) {tA tB tC tD tE : Tok} {NT CT D1 D2 D3 D4 D5 D6 D7 D8 : Addr} (gA : PySem.W.nsIn K mainGlobals "LETTERS" = some (some (.str LETS tA))) (gB : PySem.W.nsIn K mainGlobals "FIGURES" = some (some (.str FIGS tB))) (gC : PySem.W.nsIn K mainGlobals "SIGNS" = some (some (.str SGNS tC))) (gD : PySem.W.nsIn K mainGlobals "MOST_LETTERS" = some (some (.int 8 tD))) (gE : PySem.W.nsIn K mainGlobals "MOST_FIGURES" = some (some (.int 60 tE))) (gN : PySem.W.nsIn K mainGlobals "NoText" = some (some (.ref NT))) (gT : PySem.W.nsIn K mainGlobals "TurnError" = some (some (.ref CT))) (g1 : PySem.W.nsIn K mainGlobals "NoWood" = some (some (.ref D1))) (g2 : PySem.W.nsIn K mainGlobals "NoTurning" = some (some (.ref D2))) (g3 : PySem.W.nsIn K mainGlobals "NoTree" = some (some (.ref D3))) (g4 : PySem.W.nsIn K mainGlobals "TooGreat" = some (some (.ref D4))) (g5 : PySem.W.nsIn K mainGlobals "OtherWood" = some (some (.ref D5))) (g6 : PySem.W.nsIn K mainGlobals "Strays" = some (some (.ref D6))) (g7 : PySem.W.nsIn K mainGlobals "NoRow" = some (some (.ref D7))) (g8 : PySem.W.nsIn K mainGlobals "NoName" = some (some (.ref D8))) (qN : PySem.W.excIn K NT mroV "ValueError.__new__" = true) (qX : PySem.W.exmOne K (.ref NT) (.ref CT) = some true) (i1 : PySem.W.kitOne K (.ref NT) (.ref NT) = some true) (i2 : PySem.W.kitOne K (.ref NT) (.type "ValueError") = some true) (e1 : PySem.W.findIn K (.ref NT) "__getattribute__" = some (some (.builtin "BaseException.__getattribute__"))) (e2 : PySem.W.findIn K (.ref NT) "__getattr__" = some none) (e3 : PySem.W.findIn K (.ref NT) "__class__" = some (some (.builtin "object.__class__"))) (e4 : PySem.W.mroIn K NT (.type "BaseException") = some true) (e5 : PySem.W.mroIn K NT (.type "object") = some true) (j1 : PySem.W.kitOne K (.ref NT) (.ref D1) = some false) (j2 : PySem.W.kitOne K (.ref NT) (.ref D2) = some false) (j3 : PySem.W.kitOne K (.ref NT) (.ref D3) = some false) (j4 : PySem.W.kitOne K (.ref NT) (.ref D4) = some false) (j5 : PySem.W.kitOne K (.ref NT) (.ref D5) = some false) (j6 : PySem.W.kitOne K (.ref NT) (.ref D6) = some false) (j7 : PySem.W.kitOne K (.ref NT) (.ref D7) = some false) (j8 : PySem.W.kitOne K (.ref NT) (.ref D8) = some false) (s1 : RdK K)  :
    ∃ fd : FuncData, (∀ (s : Shared) (v : Value), BindsTo s fd ⟨[v], []⟩ [("_law_script", v)]) ∧ ∀ base : Heap, K.In base → base.Ns mainGlobals mg → FnOk l.prog w K mg base CX0 11 fa fd ["_law_script"] (spLaw K) := by
  have G : Gm mg := ⟨PySem.W.mg_none_of X N z1, PySem.W.mg_none_of X N z2, PySem.W.mg_none_of X N z3, PySem.W.mg_none_of X N z4, PySem.W.mg_none_of X N z5, PySem.W.mg_none_of X N z6, PySem.W.mg_none_of X N z7, PySem.W.mg_none_of X N z8, ⟨_, PySem.W.mg_of X N gA⟩, ⟨_, PySem.W.mg_of X N gB⟩, ⟨_, PySem.W.mg_of X N gC⟩, ⟨_, PySem.W.mg_of X N gD⟩, ⟨_, PySem.W.mg_of X N gE⟩⟩
  obtain ⟨f, oc, od, kV, doc, pm, an, cdv, ct, osl, a, lk, c, kp⟩ := d17.ex
  have e := hfa.symm.trans (PySem.W.mg_of X N a)
  cases e
  have F := fun_mk (st := sLaw) lk c kp
  refine ⟨PySem.W.fnOf "law" "law" (defArgs sLaw) (defBody sLaw) (defScope sLaw) .none kV doc pm an cdv ct, fun s v => .of_eq rfl, fun base _ _ => ?_⟩
  have hve : mg "ValueError" = none := PySem.W.mg_none_of X N y1
  have RN : Rs K mg "NoText" NT := ⟨PySem.W.mg_of X N gN, qN⟩
  have LC : Cs K mg NT CT := ⟨PySem.W.mg_of X N gN, PySem.W.mg_of X N gT, hve, qX, ⟨e1, e2, e3, e4, e5⟩, i1, i2, ⟨_, PySem.W.mg_of X N g1, j1⟩, ⟨_, PySem.W.mg_of X N g2, j2⟩, ⟨_, PySem.W.mg_of X N g3, j3⟩, ⟨_, PySem.W.mg_of X N g4, j4⟩, ⟨_, PySem.W.mg_of X N g5, j5⟩, ⟨_, PySem.W.mg_of X N g6, j6⟩, ⟨_, PySem.W.mg_of X N g7, j7⟩, ⟨_, PySem.W.mg_of X N g8, j8⟩⟩
  have w1 : Fn l.prog w K mg base 1 "run_at" ["text", "start", "signs"] spRun := d6.fn X N (fun f fd F => ok_run F G) fun _ _ _ _ _ _ us hl => by obtain ⟨a1, a2, a3, rfl⟩ := ln3 hl; rfl
  have w2 : Fn l.prog w K mg base 2 "figures_at" ["text", "start"] spFig := d5.fn X N (fun f fd F => ok_fig F G w1) fun _ _ _ _ _ _ us hl => by obtain ⟨a1, a2, rfl⟩ := ln2 hl; rfl
  have w3 : Fn l.prog w K mg base 3 "below_zero_at" ["text", "start"] spBelow := d4.fn X N (fun f fd F => ok_below F w2) fun _ _ _ _ _ _ us hl => by obtain ⟨a1, a2, rfl⟩ := ln2 hl; rfl
  have w4 : Fn l.prog w K mg base 2 "name_at" ["text", "start"] spNameAt := d3.fn X N (fun f fd F => ok_nameAt F G w1) fun _ _ _ _ _ _ us hl => by obtain ⟨a1, a2, rfl⟩ := ln2 hl; rfl
  have w5 : Fn l.prog w K mg base 4 "word_at" ["text", "start"] spWordAt := d2.fn X N (fun f fd F => ok_wordAt F G w4 w2 w3) fun _ _ _ _ _ _ us hl => by obtain ⟨a1, a2, rfl⟩ := ln2 hl; rfl
  have w6 : Fn l.prog w K mg base 5 "words" ["text"] spWords := d1.fn X N (fun f fd F => ok_words F G w5) fun _ _ _ _ _ _ us hl => by obtain ⟨a1, rfl⟩ := ln1 hl; rfl
  have x2 : FnX l.prog w K mg base 2 "figures_at" ["text", "start"] (spFigX NT) := by
    obtain ⟨f, oc, od, kV, doc, pm, an, cdv, ct, osl, a, lk, c, kp⟩ := d5.ex
    have F := fun_mk (st := sFigures) lk c kp
    have hb : Binds K _ ["text", "start"] [] := F.binds fun _ _ _ _ _ _ us hl => by obtain ⟨a1, a2, rfl⟩ := ln2 hl; rfl
    exact ⟨⟨f, _, ok_figX F G RN w1, hb, kp, PySem.W.mg_of X N a⟩⟩
  have x3 : FnX l.prog w K mg base 3 "below_zero_at" ["text", "start"] (spBelX NT) := by
    obtain ⟨f, oc, od, kV, doc, pm, an, cdv, ct, osl, a, lk, c, kp⟩ := d4.ex
    have F := fun_mk (st := sBelow) lk c kp
    have hb : Binds K _ ["text", "start"] [] := F.binds fun _ _ _ _ _ _ us hl => by obtain ⟨a1, a2, rfl⟩ := ln2 hl; rfl
    exact ⟨⟨f, _, ok_belX F RN x2, hb, kp, PySem.W.mg_of X N a⟩⟩
  have x4 : FnX l.prog w K mg base 2 "name_at" ["text", "start"] (spNmX NT) := by
    obtain ⟨f, oc, od, kV, doc, pm, an, cdv, ct, osl, a, lk, c, kp⟩ := d3.ex
    have F := fun_mk (st := sNameAt) lk c kp
    have hb : Binds K _ ["text", "start"] [] := F.binds fun _ _ _ _ _ _ us hl => by obtain ⟨a1, a2, rfl⟩ := ln2 hl; rfl
    exact ⟨⟨f, _, ok_nmX F G RN w1, hb, kp, PySem.W.mg_of X N a⟩⟩
  have x5 : FnX l.prog w K mg base 4 "word_at" ["text", "start"] (spWdX NT) := by
    obtain ⟨f, oc, od, kV, doc, pm, an, cdv, ct, osl, a, lk, c, kp⟩ := d2.ex
    have F := fun_mk (st := sWordAt) lk c kp
    have hb : Binds K _ ["text", "start"] [] := F.binds fun _ _ _ _ _ _ us hl => by obtain ⟨a1, a2, rfl⟩ := ln2 hl; rfl
    exact ⟨⟨f, _, ok_wdX F G RN x4 x2 x3, hb, kp, PySem.W.mg_of X N a⟩⟩
  have x6 : FnX l.prog w K mg base 5 "words" ["text"] (spNo K NT) := by
    obtain ⟨f, oc, od, kV, doc, pm, an, cdv, ct, osl, a, lk, c, kp⟩ := d1.ex
    have F := fun_mk (st := sWords) lk c kp
    have hb : Binds K _ ["text"] [] := F.binds fun _ _ _ _ _ _ us hl => by obtain ⟨a1, rfl⟩ := ln1 hl; rfl
    exact ⟨⟨f, _, ok_wordsX F G RN x5, hb, kp, PySem.W.mg_of X N a⟩⟩
  obtain ⟨C, fI, fdI, hC, mkI, FI, bI⟩ := s1.m (P := l.prog) (w := w) (base := base) X N x6
  have r1 : FnX l.prog w K mg base 8 "read_tree" ["text"] (spNo K NT) := by
    obtain ⟨f, oc, od, kV, doc, pm, an, cdv, ct, osl, a, lk, c, kp⟩ := d7.ex
    have F := fun_mk (st := sReadT) lk c kp
    have hb : Binds K _ ["text"] [] := F.binds fun _ _ _ _ _ _ us hl => by obtain ⟨a1, rfl⟩ := ln1 hl; rfl
    exact ⟨⟨f, _, ok_readT F hC mkI FI bI, hb, kp, PySem.W.mg_of X N a⟩⟩
  have r2 : FnX l.prog w K mg base 8 "read_wood" ["text"] (spNo K NT) := by
    obtain ⟨f, oc, od, kV, doc, pm, an, cdv, ct, osl, a, lk, c, kp⟩ := d8.ex
    have F := fun_mk (st := sReadW) lk c kp
    have hb : Binds K _ ["text"] [] := F.binds fun _ _ _ _ _ _ us hl => by obtain ⟨a1, rfl⟩ := ln1 hl; rfl
    exact ⟨⟨f, _, ok_readW F hC mkI FI bI, hb, kp, PySem.W.mg_of X N a⟩⟩
  have r3 : FnX l.prog w K mg base 8 "read_turning" ["wood", "text"] (spReadU K NT) := by
    obtain ⟨f, oc, od, kV, doc, pm, an, cdv, ct, osl, a, lk, c, kp⟩ := d9.ex
    have F := fun_mk (st := sReadU) lk c kp
    have hb : Binds K _ ["wood", "text"] [] := F.binds fun _ _ _ _ _ _ us hl => by obtain ⟨a1, a2, rfl⟩ := ln2 hl; rfl
    exact ⟨⟨f, _, ok_readU F hC mkI FI bI, hb, kp, PySem.W.mg_of X N a⟩⟩
  have r4 : FnX l.prog w K mg base 9 "_law_read" ["_law_thing"] (spNo K NT) := by
    obtain ⟨f, oc, od, kV, doc, pm, an, cdv, ct, osl, a, lk, c, kp⟩ := d16.ex
    have F := fun_mk (st := sLRead) lk c kp
    have hb : Binds K _ ["_law_thing"] [] := F.binds fun _ _ _ _ _ _ us hl => by obtain ⟨a1, rfl⟩ := ln1 hl; rfl
    exact ⟨⟨f, _, ok_lread F r3, hb, kp, PySem.W.mg_of X N a⟩⟩
  have l1 : Fn l.prog w K mg base 1 "_law_cell_at" ["_law_script", "_law_k"] (spCell K) := d10.fn X N (fun f fd F => ok_cell F G) fun _ _ _ _ _ _ us hl => by obtain ⟨a1, a2, rfl⟩ := ln2 hl; rfl
  have l2 : Fn l.prog w K mg base 1 "_law_word_by" ["_law_cell"] spWordBy := d11.fn X N (fun f fd F => ok_wordBy F G) fun _ _ _ _ _ _ us hl => by obtain ⟨a1, rfl⟩ := ln1 hl; rfl
  have l3 : Fn l.prog w K mg base 1 "_law_letters" ["_law_number", "_law_lots"] (spRunOf K3.letL) := d13.fn X N (fun f fd F => ok_lets F G) fun _ _ _ _ _ _ us hl => by obtain ⟨a1, a2, rfl⟩ := ln2 hl; rfl
  have l4 : Fn l.prog w K mg base 1 "_law_figures" ["_law_number", "_law_lots"] (spRunOf K3.figL) := d12.fn X N (fun f fd F => ok_figs F G) fun _ _ _ _ _ _ us hl => by obtain ⟨a1, a2, rfl⟩ := ln2 hl; rfl
  have l5 : Fn l.prog w K mg base 2 "_law_bad_by" ["_law_cell"] spBadBy := d14.fn X N (fun f fd F => ok_badBy F G l3 l4) fun _ _ _ _ _ _ us hl => by obtain ⟨a1, rfl⟩ := ln1 hl; rfl
  have l6 : Fn l.prog w K mg base 10 "_law_refused" ["_law_ask", "_law_thing"] (spRef l.prog w K mg base NT) := d15.fn X N (fun f fd F => ok_refused F G LC) fun _ _ _ _ _ _ us hl => by obtain ⟨a1, a2, rfl⟩ := ln2 hl; rfl
  exact ok_law F G l1 l2 l5 l6 w6 (asks_of x6) (asks_of r1) (asks_of r2) (asks_of r4)
theorem walk {l : PySem.W.OpenLaw} {q : Program} {loose : List Str} {XP : (Str → Option Value) → Heap → Prop} {YP : World → Heap → Prop} {d : DefRec} {K : Params → PySem.W.Frag} (hn : l.most = some 63) (hdf : d.params.defaults = [])
    (hY : ∀ (w : World) (h : Heap), YP w h → (K w.params).In h)
    (F : ∀ (w : World) (mg : Str → Option Value) (fa : Addr) (h : Heap), (K w.params).In h → h.Ns mainGlobals mg → mg d.name = some (.ref fa) →
      ∃ fd : FuncData, (∀ (s : Shared) (u : Value), BindsTo s fd ⟨[u], []⟩ [("_law_script", u)]) ∧ ∀ base : Heap, (K w.params).In base → base.Ns mainGlobals mg → FnOk l.prog w (K w.params) mg base CX0 11 fa fd ["_law_script"] (spLaw (K w.params))) :
    PySem.W.WalkO q loose XP YP l.row.toRowW d [] (fun f vs => PySem.call f vs) :=
  L2.walk_of (n := 63) (k := 11) (x := "_law_script") (CX := fun _ => CX0) (sp := fun w => spLaw (K w.params)) hn (by decide) hdf ⟨rfl, by decide, by decide⟩ hY F (fun _ _ a ns hl hO hS => ⟨a, ns, rfl, hS, hl, fun _ => rfl⟩) fun _ _ _ _ _ z => z
end K4
section
open PySem
noncomputable def K4.vS (x : String) (n : Nat) : Value := .str (Str.ofString x) n
noncomputable def K4.vR (a : Nat) : Value := .ref a
noncomputable def K4.vI (i : Int) (n : Nat) : Value := .int i n
noncomputable def K4.hE (P : Params) (x : String) (n : Nat) (v : Value) : DictEntry := ⟨PyData.keyHash P (Str.ofString x), .str (Str.ofString x) n, v⟩
noncomputable def K4.vN : Value := .none
noncomputable def K4.vF : Value := .type "function"
noncomputable def K4.vT : Value := .bool true
noncomputable def K4.i0 : Value := .int 0 0
noncomputable def K4.i3 : Value := .int 3 0
noncomputable def K4.i1 : Value := .int 181 0
noncomputable def K4.cP (k : Nat) : Value := .str (Str.ofString "/claim/cut.py") k
noncomputable def K4.oT (x : Array Value) : Obj := Obj.mk (Value.type "tuple") none (Data.seq x) #[]
noncomputable def K4.oC (x : Array Value) : Obj := Obj.mk (Value.type "code") none (Data.fields x) #[]
noncomputable def K4.oF (c : Value) (x y : String) (s : Stmt) (k : Nat) (pm cd : Value) : Obj := Obj.mk c none (Data.func (FuncData.mk (Str.ofString x) (Str.ofString y) (L2.defArgs s) (.stmts (L2.defBody s)) (L2.defScope s) k [] Value.none Value.none Value.none pm none cd Value.none 0)) #[]
open K4 in
noncomputable def K4.hp : Params → PySem.W.Frag := fun P => [ (2, Obj.mk vN none (Data.dict #[]) #[])
, (3, Obj.mk (Value.type "dict") none (Data.dict #[hE P "__name__" 165 (vS "law_turnery_k04_no_words" 813), hE P "__doc__" 166 vN, hE P "__package__" 167 vN, hE P "__loader__" 168 (Value.builtin "__main__.__loader__#opaque"), hE P "__spec__" 169 vN, hE P "__annotations__" 170 (vR 6), hE P "__builtins__" 171 (vR 4), hE P "__file__" 173 (cP 172), hE P "__cached__" 174 vN, hE P "TurnError" 206 (vR 24), hE P "NoText" 222 (vR 37), hE P "NoWood" 238 (vR 49), hE P "NoTurning" 254 (vR 61), hE P "NoTree" 270 (vR 73), hE P "TooGreat" 286 (vR 85), hE P "OtherWood" 302 (vR 97), hE P "Strays" 318 (vR 109), hE P "NoRow" 334 (vR 121), hE P "NoName" 350 (vR 133), hE P "LETTERS" 354 (vS "abcdefghijklmnopqrstuvwxyz" 353), hE P "FIGURES" 356 (vS "0123456789" 355), hE P "SIGNS" 358 (vS "();:=|*" 357), hE P "MOST_LETTERS" 360 (vI 8 359), hE P "MOST_FIGURES" 362 (vI 60 361), hE P "words" 372 (vR 142), hE P "word_at" 381 (vR 149), hE P "name_at" 390 (vR 156), hE P "below_zero_at" 399 (vR 163), hE P "figures_at" 408 (vR 170), hE P "run_at" 418 (vR 177), hE P "Reader" 536 (vR 271), hE P "begins_in" 544 (vR 282), hE P "size" 552 (vR 287), hE P "MOST_NAMES" 556 (vI 200 555), hE P "MOST_LEVELS" 558 (vI 40 557), hE P "read_tree" 567 (vR 294), hE P "tree_from" 579 (vR 301), hE P "is_call" 588 (vR 308), hE P "term_size" 594 (vR 313), hE P "calls_of" 603 (vR 320), hE P "keeps_mark" 609 (vR 325), hE P "with_modes" 615 (vR 330), hE P "with_parts" 623 (vR 337), hE P "MOST_KINDS" 627 (vI 6 626), hE P "MOST_ROWS" 629 (vI 16 628), hE P "MOST_BRANCHES" 631 (vI 4 630), hE P "read_wood" 637 (vR 342), hE P "kind_from" 646 (vR 349), hE P "row_from" 655 (vR 356), hE P "check_numbers" 661 (vR 445), hE P "check_numbers_woods" 662 (vR 361), hE P "check_kinds" 668 (vR 366), hE P "check_rows" 674 (vR 371), hE P "has_one_twice" 681 (vR 378), hE P "own_wood" 687 (vR 383), hE P "rows_of" 695 (vR 390), hE P "row_of" 704 (vR 397), hE P "is_sound" 712 (vR 402), hE P "rules_fit" 718 (vR 407), hE P "calls_fit" 724 (vR 412), hE P "call_fits" 734 (vR 419), hE P "MOST_RULES" 738 (vI 40 737), hE P "MOST_PUTS_AND_CALLS" 740 (vI 120 739), hE P "MOST_BRACKETS" 742 (vI 8 741), hE P "read_turning" 753 (vR 426), hE P "rule_from" 763 (vR 433), hE P "term_from" 777 (vR 440), hE P "check_numbers_turntexts" 784 (vR 445), hE P "turning_of" 790 (vR 450), hE P "mode_of" 796 (vR 455), hE P "check_mode" 802 (vR 460), hE P "numbered" 812 (vR 467), hE P "_law_cell_at" 822 (vR 474), hE P "_law_word_by" 830 (vR 481), hE P "_law_figures" 840 (vR 488), hE P "_law_letters" 850 (vR 495), hE P "_law_bad_by" 861 (vR 502), hE P "_law_refused" 871 (vR 509), hE P "_law_read" 878 (vR 516), hE P "law" 884 (vR 521)] 80) #[])
, (15, oT #[Value.type "ValueError"])
, (22, oT #[])
, (23, Obj.mk (Value.type "dict") none (Data.dict #[hE P "__module__" 196 (vS "turnery.errors" 187), hE P "__firstlineno__" 200 (vI 2 199), hE P "__static_attributes__" 201 (vR 22), hE P "__weakref__" 203 (vR 25), hE P "__doc__" 204 vN] 3) #[])
, (24, Obj.mk (Value.type "type") none (Data.cls (ClassData.mk (Str.ofString "TurnError") [Value.type "ValueError"] [vR 24, Value.type "ValueError", Value.type "Exception", Value.type "BaseException", Value.type "object"] 23 (Str.ofString "TurnError") true [] [vR 37, vR 49, vR 61, vR 73, vR 85, vR 97, vR 109, vR 121, vR 133] false none false)) #[some (vR 15), none, some (vS "TurnError" 189), some (vS "TurnError" 197), some (Value.builtin "ValueError.__new__"), some (Value.bool true)])
, (25, Obj.mk (Value.type "getset_descriptor") none (Data.fields #[vS "__weakref__" 202, vR 24, Value.builtin "ExceptionGroup.__weakref__", vN]) #[])
, (28, oT #[vR 24])
, (35, oT #[])
, (36, Obj.mk (Value.type "dict") none (Data.dict #[hE P "__module__" 214 (vS "turnery.errors" 187), hE P "__firstlineno__" 218 (vI 4 217), hE P "__static_attributes__" 219 (vR 35), hE P "__doc__" 220 vN] 2) #[])
, (37, Obj.mk (Value.type "type") none (Data.cls (ClassData.mk (Str.ofString "NoText") [vR 24] [vR 37, vR 24, Value.type "ValueError", Value.type "Exception", Value.type "BaseException", Value.type "object"] 36 (Str.ofString "NoText") true [] [] false none false)) #[some (vR 28), none, some (vS "NoText" 207), some (vS "NoText" 215), some (Value.builtin "ValueError.__new__"), some (Value.bool true)])
, (40, oT #[vR 24])
, (47, oT #[])
, (48, Obj.mk (Value.type "dict") none (Data.dict #[hE P "__module__" 230 (vS "turnery.errors" 187), hE P "__firstlineno__" 234 (vI 6 233), hE P "__static_attributes__" 235 (vR 47), hE P "__doc__" 236 vN] 2) #[])
, (49, Obj.mk (Value.type "type") none (Data.cls (ClassData.mk (Str.ofString "NoWood") [vR 24] [vR 49, vR 24, Value.type "ValueError", Value.type "Exception", Value.type "BaseException", Value.type "object"] 48 (Str.ofString "NoWood") true [] [] false none false)) #[some (vR 40), none, some (vS "NoWood" 223), some (vS "NoWood" 231), some (Value.builtin "ValueError.__new__"), some (Value.bool true)])
, (52, oT #[vR 24])
, (59, oT #[])
, (60, Obj.mk (Value.type "dict") none (Data.dict #[hE P "__module__" 246 (vS "turnery.errors" 187), hE P "__firstlineno__" 250 (vI 8 249), hE P "__static_attributes__" 251 (vR 59), hE P "__doc__" 252 vN] 2) #[])
, (61, Obj.mk (Value.type "type") none (Data.cls (ClassData.mk (Str.ofString "NoTurning") [vR 24] [vR 61, vR 24, Value.type "ValueError", Value.type "Exception", Value.type "BaseException", Value.type "object"] 60 (Str.ofString "NoTurning") true [] [] false none false)) #[some (vR 52), none, some (vS "NoTurning" 239), some (vS "NoTurning" 247), some (Value.builtin "ValueError.__new__"), some (Value.bool true)])
, (64, oT #[vR 24])
, (71, oT #[])
, (72, Obj.mk (Value.type "dict") none (Data.dict #[hE P "__module__" 262 (vS "turnery.errors" 187), hE P "__firstlineno__" 266 (vI 10 265), hE P "__static_attributes__" 267 (vR 71), hE P "__doc__" 268 vN] 2) #[])
, (73, Obj.mk (Value.type "type") none (Data.cls (ClassData.mk (Str.ofString "NoTree") [vR 24] [vR 73, vR 24, Value.type "ValueError", Value.type "Exception", Value.type "BaseException", Value.type "object"] 72 (Str.ofString "NoTree") true [] [] false none false)) #[some (vR 64), none, some (vS "NoTree" 255), some (vS "NoTree" 263), some (Value.builtin "ValueError.__new__"), some (Value.bool true)])
, (76, oT #[vR 24])
, (83, oT #[])
, (84, Obj.mk (Value.type "dict") none (Data.dict #[hE P "__module__" 278 (vS "turnery.errors" 187), hE P "__firstlineno__" 282 (vI 12 281), hE P "__static_attributes__" 283 (vR 83), hE P "__doc__" 284 vN] 2) #[])
, (85, Obj.mk (Value.type "type") none (Data.cls (ClassData.mk (Str.ofString "TooGreat") [vR 24] [vR 85, vR 24, Value.type "ValueError", Value.type "Exception", Value.type "BaseException", Value.type "object"] 84 (Str.ofString "TooGreat") true [] [] false none false)) #[some (vR 76), none, some (vS "TooGreat" 271), some (vS "TooGreat" 279), some (Value.builtin "ValueError.__new__"), some (Value.bool true)])
, (88, oT #[vR 24])
, (95, oT #[])
, (96, Obj.mk (Value.type "dict") none (Data.dict #[hE P "__module__" 294 (vS "turnery.errors" 187), hE P "__firstlineno__" 298 (vI 14 297), hE P "__static_attributes__" 299 (vR 95), hE P "__doc__" 300 vN] 2) #[])
, (97, Obj.mk (Value.type "type") none (Data.cls (ClassData.mk (Str.ofString "OtherWood") [vR 24] [vR 97, vR 24, Value.type "ValueError", Value.type "Exception", Value.type "BaseException", Value.type "object"] 96 (Str.ofString "OtherWood") true [] [] false none false)) #[some (vR 88), none, some (vS "OtherWood" 287), some (vS "OtherWood" 295), some (Value.builtin "ValueError.__new__"), some (Value.bool true)])
, (100, oT #[vR 24])
, (107, oT #[])
, (108, Obj.mk (Value.type "dict") none (Data.dict #[hE P "__module__" 310 (vS "turnery.errors" 187), hE P "__firstlineno__" 314 (vI 16 313), hE P "__static_attributes__" 315 (vR 107), hE P "__doc__" 316 vN] 2) #[])
, (109, Obj.mk (Value.type "type") none (Data.cls (ClassData.mk (Str.ofString "Strays") [vR 24] [vR 109, vR 24, Value.type "ValueError", Value.type "Exception", Value.type "BaseException", Value.type "object"] 108 (Str.ofString "Strays") true [] [] false none false)) #[some (vR 100), none, some (vS "Strays" 303), some (vS "Strays" 311), some (Value.builtin "ValueError.__new__"), some (Value.bool true)])
, (112, oT #[vR 24])
, (119, oT #[])
, (120, Obj.mk (Value.type "dict") none (Data.dict #[hE P "__module__" 326 (vS "turnery.errors" 187), hE P "__firstlineno__" 330 (vI 18 329), hE P "__static_attributes__" 331 (vR 119), hE P "__doc__" 332 vN] 2) #[])
, (121, Obj.mk (Value.type "type") none (Data.cls (ClassData.mk (Str.ofString "NoRow") [vR 24] [vR 121, vR 24, Value.type "ValueError", Value.type "Exception", Value.type "BaseException", Value.type "object"] 120 (Str.ofString "NoRow") true [] [] false none false)) #[some (vR 112), none, some (vS "NoRow" 319), some (vS "NoRow" 327), some (Value.builtin "ValueError.__new__"), some (Value.bool true)])
, (124, oT #[vR 24])
, (131, oT #[])
, (132, Obj.mk (Value.type "dict") none (Data.dict #[hE P "__module__" 342 (vS "turnery.errors" 187), hE P "__firstlineno__" 346 (vI 20 345), hE P "__static_attributes__" 347 (vR 131), hE P "__doc__" 348 vN] 2) #[])
, (133, Obj.mk (Value.type "type") none (Data.cls (ClassData.mk (Str.ofString "NoName") [vR 24] [vR 133, vR 24, Value.type "ValueError", Value.type "Exception", Value.type "BaseException", Value.type "object"] 132 (Str.ofString "NoName") true [] [] false none false)) #[some (vR 124), none, some (vS "NoName" 335), some (vS "NoName" 343), some (Value.builtin "ValueError.__new__"), some (Value.bool true)])
, (136, oT #[])
, (138, oT #[vS "text" 366, vS "told" 367, vS "start" 368, vS "word" 369])
, (139, oT #[])
, (141, oC #[vS "words" 363, vS "words" 364, cP 365, vI 28 0, vI 1 0, i0, i0, i3, vR 136, vT, i1, vR 137, vN, vR 138, vR 139, vR 140, vI 370 0, vI 28 0, cP 371])
, (142, oF vF "words" "words" (top 17) 3 (vS "turnery.words" 351) (vR 141))
, (143, oT #[])
, (145, oT #[vS "text" 376, vS "start" 377, vS "first" 378])
, (146, oT #[])
, (148, oC #[vS "word_at" 373, vS "word_at" 374, cP 375, vI 41 0, vI 2 0, i0, i0, i3, vR 143, vT, i1, vR 144, vN, vR 145, vR 146, vR 147, vI 379 0, vI 41 0, cP 380])
, (149, oF vF "word_at" "word_at" (top 18) 3 (vS "turnery.words" 351) (vR 148))
, (150, oT #[])
, (152, oT #[vS "text" 385, vS "start" 386, vS "name" 387])
, (153, oT #[])
, (155, oC #[vS "name_at" 382, vS "name_at" 383, cP 384, vI 52 0, vI 2 0, i0, i0, i3, vR 150, vT, i1, vR 151, vN, vR 152, vR 153, vR 154, vI 388 0, vI 52 0, cP 389])
, (156, oF vF "name_at" "name_at" (top 19) 3 (vS "turnery.words" 351) (vR 155))
, (157, oT #[])
, (159, oT #[vS "text" 394, vS "start" 395, vS "figures" 396])
, (160, oT #[])
, (162, oC #[vS "below_zero_at" 391, vS "below_zero_at" 392, cP 393, vI 57 0, vI 2 0, i0, i0, i3, vR 157, vT, i1, vR 158, vN, vR 159, vR 160, vR 161, vI 397 0, vI 57 0, cP 398])
, (163, oF vF "below_zero_at" "below_zero_at" (top 20) 3 (vS "turnery.words" 351) (vR 162))
, (164, oT #[])
, (166, oT #[vS "text" 403, vS "start" 404, vS "figures" 405])
, (167, oT #[])
, (169, oC #[vS "figures_at" 400, vS "figures_at" 401, cP 402, vI 62 0, vI 2 0, i0, i0, i3, vR 164, vT, i1, vR 165, vN, vR 166, vR 167, vR 168, vI 406 0, vI 62 0, cP 407])
, (170, oF vF "figures_at" "figures_at" (top 21) 3 (vS "turnery.words" 351) (vR 169))
, (171, oT #[])
, (173, oT #[vS "text" 412, vS "start" 413, vS "signs" 414, vS "end" 415])
, (174, oT #[])
, (176, oC #[vS "run_at" 409, vS "run_at" 410, cP 411, vI 71 0, vI 3 0, i0, i0, i3, vR 171, vT, i1, vR 172, vN, vR 173, vR 174, vR 175, vI 416 0, vI 71 0, cP 417])
, (177, oF vF "run_at" "run_at" (top 22) 3 (vS "turnery.words" 351) (vR 176))
, (185, oT #[])
, (187, oT #[vS "self" 436, vS "text" 437])
, (188, oT #[])
, (190, oC #[vS "__init__" 433, vS "Reader.__init__" 434, cP 435, vI 79 0, vI 2 0, i0, i0, i3, vR 185, vT, i1, vR 186, vN, vR 187, vR 188, vR 189, vI 438 0, vI 79 0, cP 439])
, (191, oF vF "__init__" "Reader.__init__" (L2.inClass (top 24) 0) 3 (vS "turnery.readers" 419) (vR 190))
, (192, oT #[])
, (194, oT #[vS "self" 444])
, (195, oT #[])
, (197, oC #[vS "ahead" 441, vS "Reader.ahead" 442, cP 443, vI 83 0, vI 1 0, i0, i0, i3, vR 192, vT, i1, vR 193, vN, vR 194, vR 195, vR 196, vI 445 0, vI 83 0, cP 446])
, (198, oF vF "ahead" "Reader.ahead" (L2.inClass (top 24) 1) 3 (vS "turnery.readers" 419) (vR 197))
, (199, oT #[])
, (201, oT #[vS "self" 451])
, (202, oT #[])
, (204, oC #[vS "at_name" 448, vS "Reader.at_name" 449, cP 450, vI 88 0, vI 1 0, i0, i0, i3, vR 199, vT, i1, vR 200, vN, vR 201, vR 202, vR 203, vI 452 0, vI 88 0, cP 453])
, (205, oF vF "at_name" "Reader.at_name" (L2.inClass (top 24) 2) 3 (vS "turnery.readers" 419) (vR 204))
, (206, oT #[])
, (208, oT #[vS "self" 458])
, (209, oT #[])
, (211, oC #[vS "at_number" 455, vS "Reader.at_number" 456, cP 457, vI 91 0, vI 1 0, i0, i0, i3, vR 206, vT, i1, vR 207, vN, vR 208, vR 209, vR 210, vI 459 0, vI 91 0, cP 460])
, (212, oF vF "at_number" "Reader.at_number" (L2.inClass (top 24) 3) 3 (vS "turnery.readers" 419) (vR 211))
, (213, oT #[])
, (215, oT #[vS "self" 465, vS "sign" 466])
, (216, oT #[])
, (218, oC #[vS "passed" 462, vS "Reader.passed" 463, cP 464, vI 94 0, vI 2 0, i0, i0, i3, vR 213, vT, i1, vR 214, vN, vR 215, vR 216, vR 217, vI 467 0, vI 94 0, cP 468])
, (219, oF vF "passed" "Reader.passed" (L2.inClass (top 24) 4) 3 (vS "turnery.readers" 419) (vR 218))
, (220, oT #[])
, (222, oT #[vS "self" 473, vS "sign" 474])
, (223, oT #[])
, (225, oC #[vS "need" 470, vS "Reader.need" 471, cP 472, vI 100 0, vI 2 0, i0, i0, i3, vR 220, vT, i1, vR 221, vN, vR 222, vR 223, vR 224, vI 475 0, vI 100 0, cP 476])
, (226, oF vF "need" "Reader.need" (L2.inClass (top 24) 5) 3 (vS "turnery.readers" 419) (vR 225))
, (227, oT #[])
, (229, oT #[vS "self" 481, vS "word" 482])
, (230, oT #[])
, (232, oC #[vS "need_end" 478, vS "Reader.need_end" 479, cP 480, vI 104 0, vI 1 0, i0, i0, i3, vR 227, vT, i1, vR 228, vN, vR 229, vR 230, vR 231, vI 483 0, vI 104 0, cP 484])
, (233, oF vF "need_end" "Reader.need_end" (L2.inClass (top 24) 6) 3 (vS "turnery.readers" 419) (vR 232))
, (234, oT #[])
, (236, oT #[vS "self" 489])
, (237, oT #[])
, (239, oC #[vS "take_name" 486, vS "Reader.take_name" 487, cP 488, vI 109 0, vI 1 0, i0, i0, i3, vR 234, vT, i1, vR 235, vN, vR 236, vR 237, vR 238, vI 490 0, vI 109 0, cP 491])
, (240, oF vF "take_name" "Reader.take_name" (L2.inClass (top 24) 7) 3 (vS "turnery.readers" 419) (vR 239))
, (241, oT #[])
, (243, oT #[vS "self" 496])
, (244, oT #[])
, (246, oC #[vS "take_number" 493, vS "Reader.take_number" 494, cP 495, vI 114 0, vI 1 0, i0, i0, i3, vR 241, vT, i1, vR 242, vN, vR 243, vR 244, vR 245, vI 497 0, vI 114 0, cP 498])
, (247, oF vF "take_number" "Reader.take_number" (L2.inClass (top 24) 8) 3 (vS "turnery.readers" 419) (vR 246))
, (248, oT #[])
, (250, oT #[vS "self" 503, vS "word" 504])
, (251, oT #[])
, (253, oC #[vS "take_word" 500, vS "Reader.take_word" 501, cP 502, vI 119 0, vI 1 0, i0, i0, i3, vR 248, vT, i1, vR 249, vN, vR 250, vR 251, vR 252, vI 505 0, vI 119 0, cP 506])
, (254, oF vF "take_word" "Reader.take_word" (L2.inClass (top 24) 9) 3 (vS "turnery.readers" 419) (vR 253))
, (255, oT #[])
, (257, oT #[vS "self" 511, vS "take_one" 512, vS "taken" 513])
, (258, oT #[])
, (260, oC #[vS "in_brackets" 508, vS "Reader.in_brackets" 509, cP 510, vI 124 0, vI 2 0, i0, i0, i3, vR 255, vT, i1, vR 256, vN, vR 257, vR 258, vR 259, vI 514 0, vI 124 0, cP 515])
, (261, oF vF "in_brackets" "Reader.in_brackets" (L2.inClass (top 24) 10) 3 (vS "turnery.readers" 419) (vR 260))
, (262, oT #[])
, (264, oT #[vS "self" 520, vS "sign" 521, vS "take_one" 522, vS "taken" 523])
, (265, oT #[])
, (267, oC #[vS "parted_by" 517, vS "Reader.parted_by" 518, cP 519, vI 132 0, vI 3 0, i0, i0, i3, vR 262, vT, i1, vR 263, vN, vR 264, vR 265, vR 266, vI 524 0, vI 132 0, cP 525])
, (268, oF vF "parted_by" "Reader.parted_by" (L2.inClass (top 24) 11) 3 (vS "turnery.readers" 419) (vR 267))
, (269, oT #[vS "found" 527, vS "spot" 528])
, (270, Obj.mk (Value.type "dict") none (Data.dict #[hE P "__module__" 428 (vS "turnery.readers" 419), hE P "__firstlineno__" 432 (vI 77 431), hE P "__init__" 440 (vR 191), hE P "ahead" 447 (vR 198), hE P "at_name" 454 (vR 205), hE P "at_number" 461 (vR 212), hE P "passed" 469 (vR 219), hE P "need" 477 (vR 226), hE P "need_end" 485 (vR 233), hE P "take_name" 492 (vR 240), hE P "take_number" 499 (vR 247), hE P "take_word" 507 (vR 254), hE P "in_brackets" 516 (vR 261), hE P "parted_by" 526 (vR 268), hE P "__static_attributes__" 529 (vR 269), hE P "__dict__" 531 (vR 272), hE P "__weakref__" 533 (vR 273), hE P "__doc__" 534 vN] 4) #[])
, (271, Obj.mk (Value.type "type") none (Data.cls (ClassData.mk (Str.ofString "Reader") [Value.type "object"] [vR 271, Value.type "object"] 270 (Str.ofString "Reader") true [] [] false none false)) #[none, none, some (vS "Reader" 421), some (vS "Reader" 429), some (Value.builtin "object.__new__"), some (Value.bool true)])
, (272, Obj.mk (Value.type "getset_descriptor") none (Data.fields #[vS "__dict__" 530, vR 271, Value.builtin "function.__dict__", Value.builtin "function.__dict__#set"]) #[])
, (273, Obj.mk (Value.type "getset_descriptor") none (Data.fields #[vS "__weakref__" 532, vR 271, Value.builtin "ExceptionGroup.__weakref__", vN]) #[])
, (276, oT #[])
, (278, oT #[vS "word" 540, vS "signs" 541])
, (279, oT #[])
, (281, oC #[vS "begins_in" 537, vS "begins_in" 538, cP 539, vI 137 0, vI 2 0, i0, i0, i3, vR 276, vT, i1, vR 277, vN, vR 278, vR 279, vR 280, vI 542 0, vI 137 0, cP 543])
, (282, oF vF "begins_in" "begins_in" (top 25) 3 (vS "turnery.readers" 419) (vR 281))
, (283, oT #[])
, (286, oC #[vS "size" 547, vS "size" 548, cP 549, vI 140 0, vI 1 0, i0, i0, i3, vR 283, vT, i1, vR 284, vN, vN, vN, vR 285, vI 550 0, vI 140 0, cP 551])
, (287, oF vF "size" "size" (top 27) 3 (vS "turnery.trees" 545) (vR 286))
, (288, oT #[])
, (290, oT #[vS "text" 562, vS "reader" 563, vS "tree" 564])
, (291, oT #[])
, (293, oC #[vS "read_tree" 559, vS "read_tree" 560, cP 561, vI 145 0, vI 1 0, i0, i0, i3, vR 288, vT, i1, vR 289, vN, vR 290, vR 291, vR 292, vI 565 0, vI 145 0, cP 566])
, (294, oF vF "read_tree" "read_tree" (top 31) 3 (vS "turnery.treetexts" 553) (vR 293))
, (295, oT #[])
, (297, oT #[vS "reader" 571, vS "room" 572, vS "name" 573, vS "mark" 574])
, (298, oT #[vS "reader" 575, vS "room" 576])
, (300, oC #[vS "tree_from" 568, vS "tree_from" 569, cP 570, vI 152 0, vI 2 0, i0, i0, i3, vR 295, vT, i1, vR 296, vN, vR 297, vR 298, vR 299, vI 577 0, vI 152 0, cP 578])
, (301, oF vF "tree_from" "tree_from" (top 32) 3 (vS "turnery.treetexts" 553) (vR 300))
, (302, oT #[])
, (304, oT #[vS "term" 585])
, (305, oT #[])
, (307, oC #[vS "is_call" 582, vS "is_call" 583, cP 584, vI 159 0, vI 1 0, i0, i0, i3, vR 302, vT, i1, vR 303, vN, vR 304, vR 305, vR 306, vI 586 0, vI 159 0, cP 587])
, (308, oF vF "is_call" "is_call" (top 34) 3 (vS "turnery.terms" 580) (vR 307))
, (309, oT #[])
, (312, oC #[vS "term_size" 589, vS "term_size" 590, cP 591, vI 161 0, vI 1 0, i0, i0, i3, vR 309, vT, i1, vR 310, vN, vN, vN, vR 311, vI 592 0, vI 161 0, cP 593])
, (313, oF vF "term_size" "term_size" (top 35) 3 (vS "turnery.terms" 580) (vR 312))
, (314, oT #[])
, (316, oT #[vS "term" 598, vS "told" 599, vS "part" 600])
, (317, oT #[])
, (319, oC #[vS "calls_of" 595, vS "calls_of" 596, cP 597, vI 165 0, vI 1 0, i0, i0, i3, vR 314, vT, i1, vR 315, vN, vR 316, vR 317, vR 318, vI 601 0, vI 165 0, cP 602])
, (320, oF vF "calls_of" "calls_of" (top 36) 3 (vS "turnery.terms" 580) (vR 319))
, (321, oT #[])
, (324, oC #[vS "keeps_mark" 604, vS "keeps_mark" 605, cP 606, vI 172 0, vI 1 0, i0, i0, i3, vR 321, vT, i1, vR 322, vN, vN, vN, vR 323, vI 607 0, vI 172 0, cP 608])
, (325, oF vF "keeps_mark" "keeps_mark" (top 37) 3 (vS "turnery.terms" 580) (vR 324))
, (326, oT #[])
, (329, oC #[vS "with_modes" 610, vS "with_modes" 611, cP 612, vI 176 0, vI 2 0, i0, i0, i3, vR 326, vT, i1, vR 327, vN, vN, vN, vR 328, vI 613 0, vI 176 0, cP 614])
, (330, oF vF "with_modes" "with_modes" (top 38) 3 (vS "turnery.terms" 580) (vR 329))
, (331, oT #[])
, (333, oT #[vS "term" 619, vS "parts" 620])
, (334, oT #[])
, (336, oC #[vS "with_parts" 616, vS "with_parts" 617, cP 618, vI 180 0, vI 2 0, i0, i0, i3, vR 331, vT, i1, vR 332, vN, vR 333, vR 334, vR 335, vI 621 0, vI 180 0, cP 622])
, (337, oF vF "with_parts" "with_parts" (top 39) 3 (vS "turnery.terms" 580) (vR 336))
, (338, oT #[])
, (341, oC #[vS "read_wood" 632, vS "read_wood" 633, cP 634, vI 186 0, vI 1 0, i0, i0, i3, vR 338, vT, i1, vR 339, vN, vN, vN, vR 340, vI 635 0, vI 186 0, cP 636])
, (342, oF vF "read_wood" "read_wood" (top 44) 3 (vS "turnery.woods" 624) (vR 341))
, (343, oT #[])
, (345, oT #[vS "reader" 641, vS "kind" 642])
, (346, oT #[vS "reader" 643])
, (348, oC #[vS "kind_from" 638, vS "kind_from" 639, cP 640, vI 193 0, vI 1 0, i0, i0, i3, vR 343, vT, i1, vR 344, vN, vR 345, vR 346, vR 347, vI 644 0, vI 193 0, cP 645])
, (349, oF vF "kind_from" "kind_from" (top 45) 3 (vS "turnery.woods" 624) (vR 348))
, (350, oT #[])
, (352, oT #[vS "reader" 650, vS "name" 651])
, (353, oT #[vS "reader" 652])
, (355, oC #[vS "row_from" 647, vS "row_from" 648, cP 649, vI 197 0, vI 1 0, i0, i0, i3, vR 350, vT, i1, vR 351, vN, vR 352, vR 353, vR 354, vI 653 0, vI 197 0, cP 654])
, (356, oF vF "row_from" "row_from" (top 46) 3 (vS "turnery.woods" 624) (vR 355))
, (357, oT #[])
, (360, oC #[vS "check_numbers" 656, vS "check_numbers" 657, cP 658, vI 200 0, vI 1 0, i0, i0, i3, vR 357, vT, i1, vR 358, vN, vN, vN, vR 359, vI 659 0, vI 200 0, cP 660])
, (361, oF vF "check_numbers" "check_numbers" (L2.inClass (top 24) 7) 3 (vS "turnery.woods" 624) (vR 360))
, (362, oT #[])
, (365, oC #[vS "check_kinds" 663, vS "check_kinds" 664, cP 665, vI 210 0, vI 1 0, i0, i0, i3, vR 362, vT, i1, vR 363, vN, vN, vN, vR 364, vI 666 0, vI 210 0, cP 667])
, (366, oF vF "check_kinds" "check_kinds" (top 49) 3 (vS "turnery.woods" 624) (vR 365))
, (367, oT #[])
, (370, oC #[vS "check_rows" 669, vS "check_rows" 670, cP 671, vI 216 0, vI 3 0, i0, i0, i3, vR 367, vT, i1, vR 368, vN, vN, vN, vR 369, vI 672 0, vI 216 0, cP 673])
, (371, oF vF "check_rows" "check_rows" (top 50) 3 (vS "turnery.woods" 624) (vR 370))
, (372, oT #[])
, (374, oT #[vS "names" 678])
, (375, oT #[])
, (377, oC #[vS "has_one_twice" 675, vS "has_one_twice" 676, cP 677, vI 225 0, vI 1 0, i0, i0, i3, vR 372, vT, i1, vR 373, vN, vR 374, vR 375, vR 376, vI 679 0, vI 225 0, cP 680])
, (378, oF vF "has_one_twice" "has_one_twice" (top 51) 3 (vS "turnery.woods" 624) (vR 377))
, (379, oT #[])
, (382, oC #[vS "own_wood" 682, vS "own_wood" 683, cP 684, vI 227 0, vI 1 0, i0, i0, i3, vR 379, vT, i1, vR 380, vN, vN, vN, vR 381, vI 685 0, vI 227 0, cP 686])
, (383, oF vF "own_wood" "own_wood" (top 52) 3 (vS "turnery.woods" 624) (vR 382))
, (384, oT #[])
, (386, oT #[vS "wood" 691, vS "kind" 692])
, (387, oT #[])
, (389, oC #[vS "rows_of" 688, vS "rows_of" 689, cP 690, vI 229 0, vI 2 0, i0, i0, i3, vR 384, vT, i1, vR 385, vN, vR 386, vR 387, vR 388, vI 693 0, vI 229 0, cP 694])
, (390, oF vF "rows_of" "rows_of" (top 53) 3 (vS "turnery.woods" 624) (vR 389))
, (391, oT #[])
, (393, oT #[vS "wood" 699, vS "kind" 700, vS "name" 701])
, (394, oT #[])
, (396, oC #[vS "row_of" 696, vS "row_of" 697, cP 698, vI 231 0, vI 3 0, i0, i0, i3, vR 391, vT, i1, vR 392, vN, vR 393, vR 394, vR 395, vI 702 0, vI 231 0, cP 703])
, (397, oF vF "row_of" "row_of" (top 54) 3 (vS "turnery.woods" 624) (vR 396))
, (398, oT #[])
, (401, oC #[vS "is_sound" 707, vS "is_sound" 708, cP 709, vI 234 0, vI 3 0, i0, i0, i3, vR 398, vT, i1, vR 399, vN, vN, vN, vR 400, vI 710 0, vI 234 0, cP 711])
, (402, oF vF "is_sound" "is_sound" (top 56) 3 (vS "turnery.turnings" 705) (vR 401))
, (403, oT #[])
, (406, oC #[vS "rules_fit" 713, vS "rules_fit" 714, cP 715, vI 238 0, vI 4 0, i0, i0, i3, vR 403, vT, i1, vR 404, vN, vN, vN, vR 405, vI 716 0, vI 238 0, cP 717])
, (407, oF vF "rules_fit" "rules_fit" (top 57) 3 (vS "turnery.turnings" 705) (vR 406))
, (408, oT #[])
, (411, oC #[vS "calls_fit" 719, vS "calls_fit" 720, cP 721, vI 243 0, vI 3 0, i0, i0, i3, vR 408, vT, i1, vR 409, vN, vN, vN, vR 410, vI 722 0, vI 243 0, cP 723])
, (412, oF vF "calls_fit" "calls_fit" (top 58) 3 (vS "turnery.turnings" 705) (vR 411))
, (413, oT #[])
, (415, oT #[vS "modes" 728, vS "mode" 729, vS "branch" 730, vS "kinds" 731])
, (416, oT #[])
, (418, oC #[vS "call_fits" 725, vS "call_fits" 726, cP 727, vI 245 0, vI 4 0, i0, i0, i3, vR 413, vT, i1, vR 414, vN, vR 415, vR 416, vR 417, vI 732 0, vI 245 0, cP 733])
, (419, oF vF "call_fits" "call_fits" (top 59) 3 (vS "turnery.turnings" 705) (vR 418))
, (420, oT #[])
, (422, oT #[vS "wood" 746, vS "text" 747, vS "reader" 748, vS "start" 749, vS "rules" 750])
, (423, oT #[])
, (425, oC #[vS "read_turning" 743, vS "read_turning" 744, cP 745, vI 253 0, vI 2 0, i0, i0, i3, vR 420, vT, i1, vR 421, vN, vR 422, vR 423, vR 424, vI 751 0, vI 253 0, cP 752])
, (426, oF vF "read_turning" "read_turning" (L2.inClass (top 24) 4) 3 (vS "turnery.turntexts" 735) (vR 425))
, (427, oT #[])
, (429, oT #[vS "reader" 757, vS "mode" 758, vS "kind" 759, vS "name" 760])
, (430, oT #[])
, (432, oC #[vS "rule_from" 754, vS "rule_from" 755, cP 756, vI 262 0, vI 1 0, i0, i0, i3, vR 427, vT, i1, vR 428, vN, vR 429, vR 430, vR 431, vI 761 0, vI 262 0, cP 762])
, (433, oF vF "rule_from" "rule_from" (L2.inClass (top 24) 5) 3 (vS "turnery.turntexts" 735) (vR 432))
, (434, oT #[])
, (436, oT #[vS "reader" 767, vS "room" 768, vS "mode" 769, vS "name" 770, vS "kept" 771, vS "add" 772])
, (437, oT #[vS "reader" 773, vS "room" 774])
, (439, oC #[vS "term_from" 764, vS "term_from" 765, cP 766, vI 268 0, vI 2 0, i0, i0, i3, vR 434, vT, i1, vR 435, vN, vR 436, vR 437, vR 438, vI 775 0, vI 268 0, cP 776])
, (440, oF vF "term_from" "term_from" (L2.inClass (top 24) 6) 3 (vS "turnery.turntexts" 735) (vR 439))
, (441, oT #[])
, (444, oC #[vS "check_numbers" 778, vS "check_numbers" 779, cP 780, vI 278 0, vI 2 0, i0, i0, i3, vR 441, vT, i1, vR 442, vN, vN, vN, vR 443, vI 781 0, vI 278 0, cP 782])
, (445, oF vF "check_numbers" "check_numbers" (L2.inClass (top 24) 7) 3 (vS "turnery.turntexts" 735) (vR 444))
, (446, oT #[])
, (449, oC #[vS "turning_of" 785, vS "turning_of" 786, cP 787, vI 284 0, vI 3 0, i0, i0, i3, vR 446, vT, i1, vR 447, vN, vN, vN, vR 448, vI 788 0, vI 284 0, cP 789])
, (450, oF vF "turning_of" "turning_of" (L2.inClass (top 24) 9) 3 (vS "turnery.turntexts" 735) (vR 449))
, (451, oT #[])
, (454, oC #[vS "mode_of" 791, vS "mode_of" 792, cP 793, vI 295 0, vI 3 0, i0, i0, i3, vR 451, vT, i1, vR 452, vN, vN, vN, vR 453, vI 794 0, vI 295 0, cP 795])
, (455, oF vF "mode_of" "mode_of" (L2.inClass (top 24) 10) 3 (vS "turnery.turntexts" 735) (vR 454))
, (456, oT #[])
, (459, oC #[vS "check_mode" 797, vS "check_mode" 798, cP 799, vI 300 0, vI 4 0, i0, i0, i3, vR 456, vT, i1, vR 457, vN, vN, vN, vR 458, vI 800 0, vI 300 0, cP 801])
, (460, oF vF "check_mode" "check_mode" (L2.inClass (top 24) 11) 3 (vS "turnery.turntexts" 735) (vR 459))
, (461, oT #[])
, (463, oT #[vS "term" 806, vS "numbers" 807, vS "mode" 808, vS "branch" 809])
, (464, oT #[])
, (466, oC #[vS "numbered" 803, vS "numbered" 804, cP 805, vI 312 0, vI 2 0, i0, i0, i3, vR 461, vT, i1, vR 462, vN, vR 463, vR 464, vR 465, vI 810 0, vI 312 0, cP 811])
, (467, oF vF "numbered" "numbered" (L2.inClass (top 24) 12) 3 (vS "turnery.turntexts" 735) (vR 466))
, (468, oT #[])
, (470, oT #[vS "_law_script" 818, vS "_law_k" 819])
, (471, oT #[])
, (473, oC #[vS "_law_cell_at" 815, vS "_law_cell_at" 816, cP 817, vI 318 0, vI 2 0, i0, i0, i3, vR 468, vT, i1, vR 469, vN, vR 470, vR 471, vR 472, vI 820 0, vI 318 0, cP 821])
, (474, oF vF "_law_cell_at" "_law_cell_at" (L2.inClass (top 24) 14) 3 (vS "law_turnery_k04_no_words" 813) (vR 473))
, (475, oT #[])
, (477, oT #[vS "_law_cell" 826, vS "_law_number" 827])
, (478, oT #[])
, (480, oC #[vS "_law_word_by" 823, vS "_law_word_by" 824, cP 825, vI 322 0, vI 1 0, i0, i0, i3, vR 475, vT, i1, vR 476, vN, vR 477, vR 478, vR 479, vI 828 0, vI 322 0, cP 829])
, (481, oF vF "_law_word_by" "_law_word_by" (L2.inClass (top 24) 15) 3 (vS "law_turnery_k04_no_words" 813) (vR 480))
, (482, oT #[])
, (484, oT #[vS "_law_number" 834, vS "_law_lots" 835, vS "_law_found" 836, vS "_law_k" 837])
, (485, oT #[])
, (487, oC #[vS "_law_figures" 831, vS "_law_figures" 832, cP 833, vI 329 0, vI 2 0, i0, i0, i3, vR 482, vT, i1, vR 483, vN, vR 484, vR 485, vR 486, vI 838 0, vI 329 0, cP 839])
, (488, oF vF "_law_figures" "_law_figures" (L2.inClass (top 24) 16) 3 (vS "law_turnery_k04_no_words" 813) (vR 487))
, (489, oT #[])
, (491, oT #[vS "_law_number" 844, vS "_law_lots" 845, vS "_law_found" 846, vS "_law_k" 847])
, (492, oT #[])
, (494, oC #[vS "_law_letters" 841, vS "_law_letters" 842, cP 843, vI 335 0, vI 2 0, i0, i0, i3, vR 489, vT, i1, vR 490, vN, vR 491, vR 492, vR 493, vI 848 0, vI 335 0, cP 849])
, (495, oF vF "_law_letters" "_law_letters" (L2.inClass (top 24) 17) 3 (vS "law_turnery_k04_no_words" 813) (vR 494))
, (496, oT #[])
, (498, oT #[vS "_law_cell" 854, vS "_law_number" 855, vS "_law_way" 856, vS "_law_sign" 857, vS "_law_some" 858])
, (499, oT #[])
, (501, oC #[vS "_law_bad_by" 851, vS "_law_bad_by" 852, cP 853, vI 341 0, vI 1 0, i0, i0, i3, vR 496, vT, i1, vR 497, vN, vR 498, vR 499, vR 500, vI 859 0, vI 341 0, cP 860])
, (502, oF vF "_law_bad_by" "_law_bad_by" (L2.inClass (top 24) 18) 3 (vS "law_turnery_k04_no_words" 813) (vR 501))
, (503, oT #[])
, (505, oT #[vS "_law_ask" 865, vS "_law_thing" 866, vS "_law_error" 867, vS "e" 868])
, (506, oT #[])
, (508, oC #[vS "_law_refused" 862, vS "_law_refused" 863, cP 864, vI 357 0, vI 2 0, i0, i0, i3, vR 503, vT, i1, vR 504, vN, vR 505, vR 506, vR 507, vI 869 0, vI 357 0, cP 870])
, (509, oF vF "_law_refused" "_law_refused" (L2.inClass (top 24) 19) 3 (vS "law_turnery_k04_no_words" 813) (vR 508))
, (510, oT #[])
, (512, oT #[vS "_law_thing" 875])
, (513, oT #[])
, (515, oC #[vS "_law_read" 872, vS "_law_read" 873, cP 874, vI 370 0, vI 1 0, i0, i0, i3, vR 510, vT, i1, vR 511, vN, vR 512, vR 513, vR 514, vI 876 0, vI 370 0, cP 877])
, (516, oF vF "_law_read" "_law_read" (L2.inClass (top 24) 20) 3 (vS "law_turnery_k04_no_words" 813) (vR 515))
, (517, oT #[])
, (520, oC #[vS "law" 879, vS "law" 880, cP 881, vI 372 0, vI 1 0, i0, i0, i3, vR 517, vT, i1, vR 518, vN, vN, vN, vR 519, vI 882 0, vI 372 0, cP 883])
, (521, oF vF "law" "law" (L2.inClass (top 24) 21) 3 (vS "law_turnery_k04_no_words" 813) (vR 520)) ]
end
noncomputable def PySem.W.Fast.tw1057619159957507017 : PySem.Params → PySem.W.Frag := K4.hp
theorem PySem.W.Fast.te1057619159957507017 : K4.hp = PySem.W.Fast.tw1057619159957507017 := rfl
namespace PySem.W.Fast
open PySem K4
noncomputable def tw12847488278386890388 : Params → Obj := fun P => oF vN "at_number" "Reader.at_number" (L2.inClass (top 24) 3) 0 vN vN
theorem te12847488278386890388 : tw12847488278386890388 = tw12847488278386890388 := rfl
noncomputable def tw16608998772495446653 : Params → Obj := fun P => oF vN "rows_of" "rows_of" (top 53) 0 vN vN
theorem te16608998772495446653 : tw16608998772495446653 = tw16608998772495446653 := rfl
noncomputable def tw13322587055769013944 : Params → Obj := fun P => oF vN "term_size" "term_size" (top 35) 0 vN vN
theorem te13322587055769013944 : tw13322587055769013944 = tw13322587055769013944 := rfl
noncomputable def tw14917031652322641587 : Params → Obj := fun P => oF vF "at_name" "Reader.at_name" (L2.inClass (top 24) 2) 3 (vS "turnery.readers" 419) (vR 204)
theorem te14917031652322641587 : tw14917031652322641587 = tw14917031652322641587 := rfl
noncomputable def tw16146594909745331196 : Params → Obj := fun P => oF vF "check_mode" "check_mode" (L2.inClass (top 24) 11) 3 (vS "turnery.turntexts" 735) (vR 459)
theorem te16146594909745331196 : tw16146594909745331196 = tw16146594909745331196 := rfl
noncomputable def tw5535717929715453981 : Params → Obj := fun P => oF vF "need" "Reader.need" (L2.inClass (top 24) 5) 3 (vS "turnery.readers" 419) (vR 225)
theorem te5535717929715453981 : tw5535717929715453981 = tw5535717929715453981 := rfl
noncomputable def tw4405816358503669342 : Params → Obj := fun P => oF vN "rules_fit" "rules_fit" (top 57) 0 vN vN
theorem te4405816358503669342 : tw4405816358503669342 = tw4405816358503669342 := rfl
noncomputable def tw11258370950477300298 : Params → Obj := fun P => oF vF "has_one_twice" "has_one_twice" (top 51) 3 (vS "turnery.woods" 624) (vR 377)
theorem te11258370950477300298 : tw11258370950477300298 = tw11258370950477300298 := rfl
noncomputable def tw10774120585978092521 : Params → Obj := fun P => oF vN "kind_from" "kind_from" (top 45) 0 vN vN
theorem te10774120585978092521 : tw10774120585978092521 = tw10774120585978092521 := rfl
noncomputable def tw16725197187957423017 : Params → Obj := fun P => oF vF "_law_read" "_law_read" (L2.inClass (top 24) 20) 3 (vS "law_turnery_k04_no_words" 813) (vR 515)
theorem te16725197187957423017 : tw16725197187957423017 = tw16725197187957423017 := rfl
noncomputable def tw11885240942038937845 : Params → Obj := fun P => oF vN "numbered" "numbered" (L2.inClass (top 24) 12) 0 vN vN
theorem te11885240942038937845 : tw11885240942038937845 = tw11885240942038937845 := rfl
noncomputable def tw4726151568358577714 : Params → Obj := fun P => oF vF "mode_of" "mode_of" (L2.inClass (top 24) 10) 3 (vS "turnery.turntexts" 735) (vR 454)
theorem te4726151568358577714 : tw4726151568358577714 = tw4726151568358577714 := rfl
noncomputable def tw1590979704775141861 : Params → Obj := fun P => oF vN "in_brackets" "Reader.in_brackets" (L2.inClass (top 24) 10) 0 vN vN
theorem te1590979704775141861 : tw1590979704775141861 = tw1590979704775141861 := rfl
noncomputable def tw2410532906652494128 : Params → Obj := fun P => oF vF "_law_cell_at" "_law_cell_at" (L2.inClass (top 24) 14) 3 (vS "law_turnery_k04_no_words" 813) (vR 473)
theorem te2410532906652494128 : tw2410532906652494128 = tw2410532906652494128 := rfl
noncomputable def tw4584065609632657730 : Params → Obj := fun P => oF vF "rows_of" "rows_of" (top 53) 3 (vS "turnery.woods" 624) (vR 389)
theorem te4584065609632657730 : tw4584065609632657730 = tw4584065609632657730 := rfl
noncomputable def tw2013149589756991295 : Params → Obj := fun P => oF vF "own_wood" "own_wood" (top 52) 3 (vS "turnery.woods" 624) (vR 382)
theorem te2013149589756991295 : tw2013149589756991295 = tw2013149589756991295 := rfl
noncomputable def tw1789634921050818623 : Params → Obj := fun P => oF vN "tree_from" "tree_from" (top 32) 0 vN vN
theorem te1789634921050818623 : tw1789634921050818623 = tw1789634921050818623 := rfl
noncomputable def tw13086993497846946042 : Params → Obj := fun P => oF vN "__init__" "Reader.__init__" (L2.inClass (top 24) 0) 0 vN vN
theorem te13086993497846946042 : tw13086993497846946042 = tw13086993497846946042 := rfl
noncomputable def tw10686890057886845443 : Params → Obj := fun P => oF vN "_law_cell_at" "_law_cell_at" (L2.inClass (top 24) 14) 0 vN vN
theorem te10686890057886845443 : tw10686890057886845443 = tw10686890057886845443 := rfl
noncomputable def tw1383776389941738654 : Params → Obj := fun P => oF vF "row_of" "row_of" (top 54) 3 (vS "turnery.woods" 624) (vR 396)
theorem te1383776389941738654 : tw1383776389941738654 = tw1383776389941738654 := rfl
noncomputable def tw6630672090269025613 : Params → Obj := fun P => oF vF "take_name" "Reader.take_name" (L2.inClass (top 24) 7) 3 (vS "turnery.readers" 419) (vR 239)
theorem te6630672090269025613 : tw6630672090269025613 = tw6630672090269025613 := rfl
noncomputable def tw10268069573607775316 : Params → Obj := fun P => oF vF "take_number" "Reader.take_number" (L2.inClass (top 24) 8) 3 (vS "turnery.readers" 419) (vR 246)
theorem te10268069573607775316 : tw10268069573607775316 = tw10268069573607775316 := rfl
noncomputable def tw2903888976327490994 : Params → Obj := fun P => oF vN "name_at" "name_at" (top 19) 0 vN vN
theorem te2903888976327490994 : tw2903888976327490994 = tw2903888976327490994 := rfl
noncomputable def tw12806152287571156118 : Params → Obj := fun P => oF vF "run_at" "run_at" (top 22) 3 (vS "turnery.words" 351) (vR 176)
theorem te12806152287571156118 : tw12806152287571156118 = tw12806152287571156118 := rfl
noncomputable def tw17976659998155796826 : Params → Obj := fun P => oF vN "with_modes" "with_modes" (top 38) 0 vN vN
theorem te17976659998155796826 : tw17976659998155796826 = tw17976659998155796826 := rfl
noncomputable def tw7354599818537410 : Params → Obj := fun P => oF vN "take_number" "Reader.take_number" (L2.inClass (top 24) 8) 0 vN vN
theorem te7354599818537410 : tw7354599818537410 = tw7354599818537410 := rfl
noncomputable def tw15528878084186079441 : Params → Obj := fun P => oF vF "_law_refused" "_law_refused" (L2.inClass (top 24) 19) 3 (vS "law_turnery_k04_no_words" 813) (vR 508)
theorem te15528878084186079441 : tw15528878084186079441 = tw15528878084186079441 := rfl
noncomputable def tw8212374017048642458 : Params → Obj := fun P => oF vF "begins_in" "begins_in" (top 25) 3 (vS "turnery.readers" 419) (vR 281)
theorem te8212374017048642458 : tw8212374017048642458 = tw8212374017048642458 := rfl
noncomputable def tw964232136197431296 : Params → Obj := fun P => oF vF "with_parts" "with_parts" (top 39) 3 (vS "turnery.terms" 580) (vR 336)
theorem te964232136197431296 : tw964232136197431296 = tw964232136197431296 := rfl
noncomputable def tw11893913621684966113 : Params → Obj := fun P => oF vF "is_sound" "is_sound" (top 56) 3 (vS "turnery.turnings" 705) (vR 401)
theorem te11893913621684966113 : tw11893913621684966113 = tw11893913621684966113 := rfl
noncomputable def tw6495483295815764742 : Params → Obj := fun P => oF vN "size" "size" (top 27) 0 vN vN
theorem te6495483295815764742 : tw6495483295815764742 = tw6495483295815764742 := rfl
noncomputable def tw10704586916825475720 : Params → Obj := fun P => oF vN "check_mode" "check_mode" (L2.inClass (top 24) 11) 0 vN vN
theorem te10704586916825475720 : tw10704586916825475720 = tw10704586916825475720 := rfl
noncomputable def tw173308458636827653 : Params → Obj := fun P => oF vN "begins_in" "begins_in" (top 25) 0 vN vN
theorem te173308458636827653 : tw173308458636827653 = tw173308458636827653 := rfl
noncomputable def tw9207311853242923931 : Params → Obj := fun P => oF vN "law" "law" (L2.inClass (top 24) 21) 0 vN vN
theorem te9207311853242923931 : tw9207311853242923931 = tw9207311853242923931 := rfl
noncomputable def tw14575587251650133835 : Params → Obj := fun P => oF vN "run_at" "run_at" (top 22) 0 vN vN
theorem te14575587251650133835 : tw14575587251650133835 = tw14575587251650133835 := rfl
noncomputable def tw17459535078112377760 : Params → Obj := fun P => oF vF "parted_by" "Reader.parted_by" (L2.inClass (top 24) 11) 3 (vS "turnery.readers" 419) (vR 267)
theorem te17459535078112377760 : tw17459535078112377760 = tw17459535078112377760 := rfl
noncomputable def tw17484794608437078447 : Params → Obj := fun P => oF vN "term_from" "term_from" (L2.inClass (top 24) 6) 0 vN vN
theorem te17484794608437078447 : tw17484794608437078447 = tw17484794608437078447 := rfl
noncomputable def tw911284879262907330 : Params → Obj := fun P => oF vF "term_size" "term_size" (top 35) 3 (vS "turnery.terms" 580) (vR 312)
theorem te911284879262907330 : tw911284879262907330 = tw911284879262907330 := rfl
noncomputable def tw11796320559590009836 : Params → Obj := fun P => oF vF "check_numbers" "check_numbers" (L2.inClass (top 24) 7) 3 (vS "turnery.turntexts" 735) (vR 444)
theorem te11796320559590009836 : tw11796320559590009836 = tw11796320559590009836 := rfl
noncomputable def tw5202228521912640399 : Params → Obj := fun P => oF vN "_law_read" "_law_read" (L2.inClass (top 24) 20) 0 vN vN
theorem te5202228521912640399 : tw5202228521912640399 = tw5202228521912640399 := rfl
noncomputable def tw16606405633716175249 : Params → Obj := fun P => oF vN "_law_word_by" "_law_word_by" (L2.inClass (top 24) 15) 0 vN vN
theorem te16606405633716175249 : tw16606405633716175249 = tw16606405633716175249 := rfl
noncomputable def tw10402796235956577146 : Params → Obj := fun P => oF vF "at_number" "Reader.at_number" (L2.inClass (top 24) 3) 3 (vS "turnery.readers" 419) (vR 211)
theorem te10402796235956577146 : tw10402796235956577146 = tw10402796235956577146 := rfl
noncomputable def tw6768140485086403519 : Params → Obj := fun P => oF vF "words" "words" (top 17) 3 (vS "turnery.words" 351) (vR 141)
theorem te6768140485086403519 : tw6768140485086403519 = tw6768140485086403519 := rfl
noncomputable def tw2688069891210554313 : Params → Obj := fun P => oF vF "_law_word_by" "_law_word_by" (L2.inClass (top 24) 15) 3 (vS "law_turnery_k04_no_words" 813) (vR 480)
theorem te2688069891210554313 : tw2688069891210554313 = tw2688069891210554313 := rfl
noncomputable def tw3960864312401364562 : Params → Obj := fun P => oF vN "_law_bad_by" "_law_bad_by" (L2.inClass (top 24) 18) 0 vN vN
theorem te3960864312401364562 : tw3960864312401364562 = tw3960864312401364562 := rfl
noncomputable def tw13661766747024885683 : Params → Obj := fun P => oF vN "need_end" "Reader.need_end" (L2.inClass (top 24) 6) 0 vN vN
theorem te13661766747024885683 : tw13661766747024885683 = tw13661766747024885683 := rfl
noncomputable def tw16241622201670456743 : Params → Obj := fun P => oF vN "row_of" "row_of" (top 54) 0 vN vN
theorem te16241622201670456743 : tw16241622201670456743 = tw16241622201670456743 := rfl
noncomputable def tw5555012148001907480 : Params → Obj := fun P => oF vN "need" "Reader.need" (L2.inClass (top 24) 5) 0 vN vN
theorem te5555012148001907480 : tw5555012148001907480 = tw5555012148001907480 := rfl
noncomputable def tw1967173567671687701 : Params → Obj := fun P => oF vN "below_zero_at" "below_zero_at" (top 20) 0 vN vN
theorem te1967173567671687701 : tw1967173567671687701 = tw1967173567671687701 := rfl
noncomputable def tw15051233214675048469 : Params → Obj := fun P => oF vF "keeps_mark" "keeps_mark" (top 37) 3 (vS "turnery.terms" 580) (vR 324)
theorem te15051233214675048469 : tw15051233214675048469 = tw15051233214675048469 := rfl
noncomputable def tw1580078103386748038 : Params → Obj := fun P => oF vF "call_fits" "call_fits" (top 59) 3 (vS "turnery.turnings" 705) (vR 418)
theorem te1580078103386748038 : tw1580078103386748038 = tw1580078103386748038 := rfl
noncomputable def tw9832271358128453407 : Params → Obj := fun P => oF vF "read_wood" "read_wood" (top 44) 3 (vS "turnery.woods" 624) (vR 341)
theorem te9832271358128453407 : tw9832271358128453407 = tw9832271358128453407 := rfl
noncomputable def tw13359370384714686602 : Params → Obj := fun P => oF vF "name_at" "name_at" (top 19) 3 (vS "turnery.words" 351) (vR 155)
theorem te13359370384714686602 : tw13359370384714686602 = tw13359370384714686602 := rfl
noncomputable def tw15515767114347987888 : Params → Obj := fun P => oF vN "read_tree" "read_tree" (top 31) 0 vN vN
theorem te15515767114347987888 : tw15515767114347987888 = tw15515767114347987888 := rfl
noncomputable def tw13425581692989669849 : Params → Obj := fun P => oF vF "read_turning" "read_turning" (L2.inClass (top 24) 4) 3 (vS "turnery.turntexts" 735) (vR 425)
theorem te13425581692989669849 : tw13425581692989669849 = tw13425581692989669849 := rfl
noncomputable def tw6671227549929005228 : Params → Obj := fun P => oF vN "_law_letters" "_law_letters" (L2.inClass (top 24) 17) 0 vN vN
theorem te6671227549929005228 : tw6671227549929005228 = tw6671227549929005228 := rfl
noncomputable def tw15930528616373458831 : Params → Obj := fun P => oF vN "own_wood" "own_wood" (top 52) 0 vN vN
theorem te15930528616373458831 : tw15930528616373458831 = tw15930528616373458831 := rfl
noncomputable def tw2300473831048316589 : Params → Obj := fun P => oF vN "call_fits" "call_fits" (top 59) 0 vN vN
theorem te2300473831048316589 : tw2300473831048316589 = tw2300473831048316589 := rfl
noncomputable def tw16280182705043141253 : Params → Obj := fun P => oF vN "passed" "Reader.passed" (L2.inClass (top 24) 4) 0 vN vN
theorem te16280182705043141253 : tw16280182705043141253 = tw16280182705043141253 := rfl
noncomputable def tw2066288674276846869 : Params → Obj := fun P => oF vF "read_tree" "read_tree" (top 31) 3 (vS "turnery.treetexts" 553) (vR 293)
theorem te2066288674276846869 : tw2066288674276846869 = tw2066288674276846869 := rfl
noncomputable def tw5771016333707246659 : Params → Obj := fun P => oF vN "is_call" "is_call" (top 34) 0 vN vN
theorem te5771016333707246659 : tw5771016333707246659 = tw5771016333707246659 := rfl
noncomputable def tw4159654982162382936 : Params → Obj := fun P => oF vF "word_at" "word_at" (top 18) 3 (vS "turnery.words" 351) (vR 148)
theorem te4159654982162382936 : tw4159654982162382936 = tw4159654982162382936 := rfl
noncomputable def tw7789199412488200816 : Params → Obj := fun P => oF vN "_law_figures" "_law_figures" (L2.inClass (top 24) 16) 0 vN vN
theorem te7789199412488200816 : tw7789199412488200816 = tw7789199412488200816 := rfl
noncomputable def tw16996755311496612895 : Params → Obj := fun P => oF vF "calls_of" "calls_of" (top 36) 3 (vS "turnery.terms" 580) (vR 319)
theorem te16996755311496612895 : tw16996755311496612895 = tw16996755311496612895 := rfl
noncomputable def tw14049671507969111161 : Params → Obj := fun P => oF vF "calls_fit" "calls_fit" (top 58) 3 (vS "turnery.turnings" 705) (vR 411)
theorem te14049671507969111161 : tw14049671507969111161 = tw14049671507969111161 := rfl
noncomputable def tw2746619367693530067 : Params → Obj := fun P => oF vN "ahead" "Reader.ahead" (L2.inClass (top 24) 1) 0 vN vN
theorem te2746619367693530067 : tw2746619367693530067 = tw2746619367693530067 := rfl
noncomputable def tw18200328011912035785 : Params → Obj := fun P => oF vF "rule_from" "rule_from" (L2.inClass (top 24) 5) 3 (vS "turnery.turntexts" 735) (vR 432)
theorem te18200328011912035785 : tw18200328011912035785 = tw18200328011912035785 := rfl
noncomputable def tw4422876536193753772 : Params → Obj := fun P => oF vN "with_parts" "with_parts" (top 39) 0 vN vN
theorem te4422876536193753772 : tw4422876536193753772 = tw4422876536193753772 := rfl
noncomputable def tw2340485197538171026 : Params → Obj := fun P => oF vN "calls_fit" "calls_fit" (top 58) 0 vN vN
theorem te2340485197538171026 : tw2340485197538171026 = tw2340485197538171026 := rfl
noncomputable def tw7308594903501532276 : Params → Obj := fun P => oF vF "row_from" "row_from" (top 46) 3 (vS "turnery.woods" 624) (vR 355)
theorem te7308594903501532276 : tw7308594903501532276 = tw7308594903501532276 := rfl
noncomputable def tw12346317989989118413 : Params → Obj := fun P => oF vN "take_word" "Reader.take_word" (L2.inClass (top 24) 9) 0 vN vN
theorem te12346317989989118413 : tw12346317989989118413 = tw12346317989989118413 := rfl
noncomputable def tw17751082633366364987 : Params → Obj := fun P => oF vF "check_numbers" "check_numbers" (L2.inClass (top 24) 7) 3 (vS "turnery.woods" 624) (vR 360)
theorem te17751082633366364987 : tw17751082633366364987 = tw17751082633366364987 := rfl
noncomputable def tw4827867054945776730 : Params → Obj := fun P => oF vN "check_kinds" "check_kinds" (top 49) 0 vN vN
theorem te4827867054945776730 : tw4827867054945776730 = tw4827867054945776730 := rfl
noncomputable def tw16065577390888926346 : Params → Obj := fun P => oF vN "check_numbers" "check_numbers" (L2.inClass (top 24) 7) 0 vN vN
theorem te16065577390888926346 : tw16065577390888926346 = tw16065577390888926346 := rfl
noncomputable def tw2125690286610383637 : Params → Obj := fun P => oF vN "parted_by" "Reader.parted_by" (L2.inClass (top 24) 11) 0 vN vN
theorem te2125690286610383637 : tw2125690286610383637 = tw2125690286610383637 := rfl
noncomputable def tw7708625424272230584 : Params → Obj := fun P => oF vN "calls_of" "calls_of" (top 36) 0 vN vN
theorem te7708625424272230584 : tw7708625424272230584 = tw7708625424272230584 := rfl
noncomputable def tw4362897077429206632 : Params → Obj := fun P => oF vN "keeps_mark" "keeps_mark" (top 37) 0 vN vN
theorem te4362897077429206632 : tw4362897077429206632 = tw4362897077429206632 := rfl
noncomputable def tw7948126570044441519 : Params → Obj := fun P => oF vN "turning_of" "turning_of" (L2.inClass (top 24) 9) 0 vN vN
theorem te7948126570044441519 : tw7948126570044441519 = tw7948126570044441519 := rfl
noncomputable def tw15201230262081743784 : Params → Obj := fun P => oF vN "check_rows" "check_rows" (top 50) 0 vN vN
theorem te15201230262081743784 : tw15201230262081743784 = tw15201230262081743784 := rfl
noncomputable def tw9316216584124828914 : Params → Obj := fun P => oF vF "law" "law" (L2.inClass (top 24) 21) 3 (vS "law_turnery_k04_no_words" 813) (vR 520)
theorem te9316216584124828914 : tw9316216584124828914 = tw9316216584124828914 := rfl
noncomputable def tw9688278876735014347 : Params → Obj := fun P => oF vN "row_from" "row_from" (top 46) 0 vN vN
theorem te9688278876735014347 : tw9688278876735014347 = tw9688278876735014347 := rfl
noncomputable def tw11292885843624371380 : Params → Obj := fun P => oF vF "ahead" "Reader.ahead" (L2.inClass (top 24) 1) 3 (vS "turnery.readers" 419) (vR 197)
theorem te11292885843624371380 : tw11292885843624371380 = tw11292885843624371380 := rfl
noncomputable def tw12766407761327560478 : Params → Obj := fun P => oF vF "_law_bad_by" "_law_bad_by" (L2.inClass (top 24) 18) 3 (vS "law_turnery_k04_no_words" 813) (vR 501)
theorem te12766407761327560478 : tw12766407761327560478 = tw12766407761327560478 := rfl
noncomputable def tw16496174896128186484 : Params → Obj := fun P => oF vN "read_wood" "read_wood" (top 44) 0 vN vN
theorem te16496174896128186484 : tw16496174896128186484 = tw16496174896128186484 := rfl
noncomputable def tw10548226853817124099 : Params → Obj := fun P => oF vN "mode_of" "mode_of" (L2.inClass (top 24) 10) 0 vN vN
theorem te10548226853817124099 : tw10548226853817124099 = tw10548226853817124099 := rfl
noncomputable def tw13144449816129030133 : Params → Obj := fun P => oF vF "take_word" "Reader.take_word" (L2.inClass (top 24) 9) 3 (vS "turnery.readers" 419) (vR 253)
theorem te13144449816129030133 : tw13144449816129030133 = tw13144449816129030133 := rfl
noncomputable def tw2418640447161289966 : Params → Obj := fun P => oF vN "figures_at" "figures_at" (top 21) 0 vN vN
theorem te2418640447161289966 : tw2418640447161289966 = tw2418640447161289966 := rfl
noncomputable def tw5455941660912591707 : Params → Obj := fun P => oF vF "_law_letters" "_law_letters" (L2.inClass (top 24) 17) 3 (vS "law_turnery_k04_no_words" 813) (vR 494)
theorem te5455941660912591707 : tw5455941660912591707 = tw5455941660912591707 := rfl
noncomputable def tw13806256383343822045 : Params → Obj := fun P => oF vN "read_turning" "read_turning" (L2.inClass (top 24) 4) 0 vN vN
theorem te13806256383343822045 : tw13806256383343822045 = tw13806256383343822045 := rfl
noncomputable def tw5044889295112516660 : Params → Obj := fun P => oF vF "__init__" "Reader.__init__" (L2.inClass (top 24) 0) 3 (vS "turnery.readers" 419) (vR 190)
theorem te5044889295112516660 : tw5044889295112516660 = tw5044889295112516660 := rfl
noncomputable def tw15611331116055308283 : Params → Obj := fun P => oF vF "numbered" "numbered" (L2.inClass (top 24) 12) 3 (vS "turnery.turntexts" 735) (vR 466)
theorem te15611331116055308283 : tw15611331116055308283 = tw15611331116055308283 := rfl
noncomputable def tw14947594615914942661 : Params → Obj := fun P => oF vN "has_one_twice" "has_one_twice" (top 51) 0 vN vN
theorem te14947594615914942661 : tw14947594615914942661 = tw14947594615914942661 := rfl
noncomputable def tw6830983027767559472 : Params → Obj := fun P => oF vF "check_kinds" "check_kinds" (top 49) 3 (vS "turnery.woods" 624) (vR 365)
theorem te6830983027767559472 : tw6830983027767559472 = tw6830983027767559472 := rfl
noncomputable def tw17909815805201379157 : Params → Obj := fun P => oF vN "at_name" "Reader.at_name" (L2.inClass (top 24) 2) 0 vN vN
theorem te17909815805201379157 : tw17909815805201379157 = tw17909815805201379157 := rfl
noncomputable def tw18170377909260753803 : Params → Obj := fun P => oF vN "_law_refused" "_law_refused" (L2.inClass (top 24) 19) 0 vN vN
theorem te18170377909260753803 : tw18170377909260753803 = tw18170377909260753803 := rfl
noncomputable def tw3437775149338786018 : Params → Obj := fun P => oF vF "tree_from" "tree_from" (top 32) 3 (vS "turnery.treetexts" 553) (vR 300)
theorem te3437775149338786018 : tw3437775149338786018 = tw3437775149338786018 := rfl
noncomputable def tw11798906554061454086 : Params → Obj := fun P => oF vF "passed" "Reader.passed" (L2.inClass (top 24) 4) 3 (vS "turnery.readers" 419) (vR 218)
theorem te11798906554061454086 : tw11798906554061454086 = tw11798906554061454086 := rfl
noncomputable def tw220792772835587119 : Params → Obj := fun P => oF vN "take_name" "Reader.take_name" (L2.inClass (top 24) 7) 0 vN vN
theorem te220792772835587119 : tw220792772835587119 = tw220792772835587119 := rfl
noncomputable def tw6334083205815565046 : Params → Obj := fun P => oF vF "is_call" "is_call" (top 34) 3 (vS "turnery.terms" 580) (vR 307)
theorem te6334083205815565046 : tw6334083205815565046 = tw6334083205815565046 := rfl
noncomputable def tw3201644545451435147 : Params → Obj := fun P => oF vF "turning_of" "turning_of" (L2.inClass (top 24) 9) 3 (vS "turnery.turntexts" 735) (vR 449)
theorem te3201644545451435147 : tw3201644545451435147 = tw3201644545451435147 := rfl
noncomputable def tw13212924221935837668 : Params → Obj := fun P => oF vF "size" "size" (top 27) 3 (vS "turnery.trees" 545) (vR 286)
theorem te13212924221935837668 : tw13212924221935837668 = tw13212924221935837668 := rfl
noncomputable def tw6246463968684018025 : Params → Obj := fun P => oF vF "check_rows" "check_rows" (top 50) 3 (vS "turnery.woods" 624) (vR 370)
theorem te6246463968684018025 : tw6246463968684018025 = tw6246463968684018025 := rfl
noncomputable def tw17471933510069569475 : Params → Obj := fun P => oF vF "_law_figures" "_law_figures" (L2.inClass (top 24) 16) 3 (vS "law_turnery_k04_no_words" 813) (vR 487)
theorem te17471933510069569475 : tw17471933510069569475 = tw17471933510069569475 := rfl
noncomputable def tw7776120052571125374 : Params → Obj := fun P => oF vN "words" "words" (top 17) 0 vN vN
theorem te7776120052571125374 : tw7776120052571125374 = tw7776120052571125374 := rfl
noncomputable def tw17588289558839159779 : Params → Obj := fun P => oF vF "need_end" "Reader.need_end" (L2.inClass (top 24) 6) 3 (vS "turnery.readers" 419) (vR 232)
theorem te17588289558839159779 : tw17588289558839159779 = tw17588289558839159779 := rfl
noncomputable def tw4722860807533435385 : Params → Obj := fun P => oF vN "is_sound" "is_sound" (top 56) 0 vN vN
theorem te4722860807533435385 : tw4722860807533435385 = tw4722860807533435385 := rfl
noncomputable def tw17910257043629120396 : Params → Obj := fun P => oF vF "in_brackets" "Reader.in_brackets" (L2.inClass (top 24) 10) 3 (vS "turnery.readers" 419) (vR 260)
theorem te17910257043629120396 : tw17910257043629120396 = tw17910257043629120396 := rfl
noncomputable def tw863168541930807374 : Params → Obj := fun P => oF vF "figures_at" "figures_at" (top 21) 3 (vS "turnery.words" 351) (vR 169)
theorem te863168541930807374 : tw863168541930807374 = tw863168541930807374 := rfl
noncomputable def tw5172058443533037129 : Params → Obj := fun P => oF vF "term_from" "term_from" (L2.inClass (top 24) 6) 3 (vS "turnery.turntexts" 735) (vR 439)
theorem te5172058443533037129 : tw5172058443533037129 = tw5172058443533037129 := rfl
noncomputable def tw15390773118479028668 : Params → Obj := fun P => oF vF "rules_fit" "rules_fit" (top 57) 3 (vS "turnery.turnings" 705) (vR 406)
theorem te15390773118479028668 : tw15390773118479028668 = tw15390773118479028668 := rfl
noncomputable def tw10569064100410655589 : Params → Obj := fun P => oF vF "with_modes" "with_modes" (top 38) 3 (vS "turnery.terms" 580) (vR 329)
theorem te10569064100410655589 : tw10569064100410655589 = tw10569064100410655589 := rfl
noncomputable def tw12812912269842991025 : Params → Obj := fun P => oF vF "kind_from" "kind_from" (top 45) 3 (vS "turnery.woods" 624) (vR 348)
theorem te12812912269842991025 : tw12812912269842991025 = tw12812912269842991025 := rfl
noncomputable def tw17132327371306994428 : Params → Obj := fun P => oF vN "word_at" "word_at" (top 18) 0 vN vN
theorem te17132327371306994428 : tw17132327371306994428 = tw17132327371306994428 := rfl
noncomputable def tw14518800581194598816 : Params → Obj := fun P => oF vF "below_zero_at" "below_zero_at" (top 20) 3 (vS "turnery.words" 351) (vR 162)
theorem te14518800581194598816 : tw14518800581194598816 = tw14518800581194598816 := rfl
noncomputable def tw6011768693649270089 : Params → Obj := fun P => oF vN "check_numbers" "check_numbers" (L2.inClass (top 24) 7) 0 vN vN
theorem te6011768693649270089 : tw6011768693649270089 = tw6011768693649270089 := rfl
noncomputable def tw2163762531257441487 : Params → Obj := fun P => oF vN "rule_from" "rule_from" (L2.inClass (top 24) 5) 0 vN vN
theorem te2163762531257441487 : tw2163762531257441487 = tw2163762531257441487 := rfl
end PySem.W.Fast
noncomputable def PySem.W.Fast.tw15655104337579246224 : PySem.Program := PySem.Challenge.pw_turnery_k04_no_words
theorem PySem.W.Fast.te15655104337579246224 : (PySem.Challenge.pw_turnery_k04_no_words : PySem.Program) = PySem.W.Fast.tw15655104337579246224 := rfl
noncomputable def PySem.W.Fast.tw10346895654023533540 : PySem.Program := { PySem.Challenge.pw_turnery_k04_no_words with main := { PySem.Challenge.pw_turnery_k04_no_words.main with body := [K4.top 1, K4.top 2, K4.top 3, K4.top 4, K4.top 5, K4.top 6, K4.top 7, K4.top 8, K4.top 9, K4.top 10, K4.top 12, K4.top 13, K4.top 14, K4.top 15, K4.top 16, K4.top 17, K4.top 18, K4.top 19, K4.top 20, K4.top 21, K4.top 22, K4.top 24, K4.top 25, K4.top 27, K4.top 29, K4.top 30, K4.top 31, K4.top 32, K4.top 34, K4.top 35, K4.top 36, K4.top 37, K4.top 38, K4.top 39, K4.top 41, K4.top 42, K4.top 43, K4.top 44, K4.top 45, K4.top 46, K4.top 48, K4.top 49, K4.top 50, K4.top 51, K4.top 52, K4.top 53, K4.top 54, K4.top 56, K4.top 57, K4.top 58, K4.top 59, K4.top 61, K4.top 62, K4.top 63, K4.top 64, K4.top 65, K4.top 66, K4.top 67, K4.top 68, K4.top 69, K4.top 70, K4.top 71, K4.top 72, K4.top 74, K4.top 75, K4.top 76, K4.top 77, K4.top 78, K4.top 79, K4.top 80, K4.top 81] } }
theorem PySem.W.Fast.te10346895654023533540 : ({ PySem.Challenge.pw_turnery_k04_no_words with main := { PySem.Challenge.pw_turnery_k04_no_words.main with body := [K4.top 1, K4.top 2, K4.top 3, K4.top 4, K4.top 5, K4.top 6, K4.top 7, K4.top 8, K4.top 9, K4.top 10, K4.top 12, K4.top 13, K4.top 14, K4.top 15, K4.top 16, K4.top 17, K4.top 18, K4.top 19, K4.top 20, K4.top 21, K4.top 22, K4.top 24, K4.top 25, K4.top 27, K4.top 29, K4.top 30, K4.top 31, K4.top 32, K4.top 34, K4.top 35, K4.top 36, K4.top 37, K4.top 38, K4.top 39, K4.top 41, K4.top 42, K4.top 43, K4.top 44, K4.top 45, K4.top 46, K4.top 48, K4.top 49, K4.top 50, K4.top 51, K4.top 52, K4.top 53, K4.top 54, K4.top 56, K4.top 57, K4.top 58, K4.top 59, K4.top 61, K4.top 62, K4.top 63, K4.top 64, K4.top 65, K4.top 66, K4.top 67, K4.top 68, K4.top 69, K4.top 70, K4.top 71, K4.top 72, K4.top 74, K4.top 75, K4.top 76, K4.top 77, K4.top 78, K4.top 79, K4.top 80, K4.top 81] } } : PySem.Program) = PySem.W.Fast.tw10346895654023533540 := rfl
noncomputable def PySem.W.Fast.tw3160978540710929632 : List PySem.Stmt := (PySem.Challenge.pw_turnery_k04_no_words.main.body.drop 0).take 2
theorem PySem.W.Fast.te3160978540710929632 : ((PySem.Challenge.pw_turnery_k04_no_words.main.body.drop 0).take 2 : List PySem.Stmt) = PySem.W.Fast.tw3160978540710929632 := rfl
noncomputable def PySem.W.Fast.tw14628982645445583033 : List PySem.Stmt := (PySem.Challenge.pw_turnery_k04_no_words.main.body.drop 2).take 1
theorem PySem.W.Fast.te14628982645445583033 : ((PySem.Challenge.pw_turnery_k04_no_words.main.body.drop 2).take 1 : List PySem.Stmt) = PySem.W.Fast.tw14628982645445583033 := rfl
noncomputable def PySem.W.Fast.tw16234714663972024562 : List PySem.Stmt := (PySem.Challenge.pw_turnery_k04_no_words.main.body.drop 3).take 1
theorem PySem.W.Fast.te16234714663972024562 : ((PySem.Challenge.pw_turnery_k04_no_words.main.body.drop 3).take 1 : List PySem.Stmt) = PySem.W.Fast.tw16234714663972024562 := rfl
noncomputable def PySem.W.Fast.tw496332098323198488 : List PySem.Stmt := (PySem.Challenge.pw_turnery_k04_no_words.main.body.drop 4).take 1
theorem PySem.W.Fast.te496332098323198488 : ((PySem.Challenge.pw_turnery_k04_no_words.main.body.drop 4).take 1 : List PySem.Stmt) = PySem.W.Fast.tw496332098323198488 := rfl
noncomputable def PySem.W.Fast.tw7772572523893246700 : List PySem.Stmt := (PySem.Challenge.pw_turnery_k04_no_words.main.body.drop 5).take 1
theorem PySem.W.Fast.te7772572523893246700 : ((PySem.Challenge.pw_turnery_k04_no_words.main.body.drop 5).take 1 : List PySem.Stmt) = PySem.W.Fast.tw7772572523893246700 := rfl
noncomputable def PySem.W.Fast.tw17668875426032023539 : List PySem.Stmt := (PySem.Challenge.pw_turnery_k04_no_words.main.body.drop 6).take 1
theorem PySem.W.Fast.te17668875426032023539 : ((PySem.Challenge.pw_turnery_k04_no_words.main.body.drop 6).take 1 : List PySem.Stmt) = PySem.W.Fast.tw17668875426032023539 := rfl
noncomputable def PySem.W.Fast.tw1786409143487720314 : List PySem.Stmt := (PySem.Challenge.pw_turnery_k04_no_words.main.body.drop 7).take 1
theorem PySem.W.Fast.te1786409143487720314 : ((PySem.Challenge.pw_turnery_k04_no_words.main.body.drop 7).take 1 : List PySem.Stmt) = PySem.W.Fast.tw1786409143487720314 := rfl
noncomputable def PySem.W.Fast.tw11920415636888165338 : List PySem.Stmt := (PySem.Challenge.pw_turnery_k04_no_words.main.body.drop 8).take 1
theorem PySem.W.Fast.te11920415636888165338 : ((PySem.Challenge.pw_turnery_k04_no_words.main.body.drop 8).take 1 : List PySem.Stmt) = PySem.W.Fast.tw11920415636888165338 := rfl
noncomputable def PySem.W.Fast.tw5877853441469881690 : List PySem.Stmt := (PySem.Challenge.pw_turnery_k04_no_words.main.body.drop 9).take 1
theorem PySem.W.Fast.te5877853441469881690 : ((PySem.Challenge.pw_turnery_k04_no_words.main.body.drop 9).take 1 : List PySem.Stmt) = PySem.W.Fast.tw5877853441469881690 := rfl
noncomputable def PySem.W.Fast.tw15673627929133954789 : List PySem.Stmt := (PySem.Challenge.pw_turnery_k04_no_words.main.body.drop 10).take 11
theorem PySem.W.Fast.te15673627929133954789 : ((PySem.Challenge.pw_turnery_k04_no_words.main.body.drop 10).take 11 : List PySem.Stmt) = PySem.W.Fast.tw15673627929133954789 := rfl
noncomputable def PySem.W.Fast.tw1670528587993148263 : List PySem.Stmt := (PySem.Challenge.pw_turnery_k04_no_words.main.body.drop 21).take 3
theorem PySem.W.Fast.te1670528587993148263 : ((PySem.Challenge.pw_turnery_k04_no_words.main.body.drop 21).take 3 : List PySem.Stmt) = PySem.W.Fast.tw1670528587993148263 := rfl
noncomputable def PySem.W.Fast.tw6694604989136241093 : List PySem.Stmt := (PySem.Challenge.pw_turnery_k04_no_words.main.body.drop 24).take 1
theorem PySem.W.Fast.te6694604989136241093 : ((PySem.Challenge.pw_turnery_k04_no_words.main.body.drop 24).take 1 : List PySem.Stmt) = PySem.W.Fast.tw6694604989136241093 := rfl
noncomputable def PySem.W.Fast.tw15435550075768148660 : List PySem.Stmt := (PySem.Challenge.pw_turnery_k04_no_words.main.body.drop 25).take 20
theorem PySem.W.Fast.te15435550075768148660 : ((PySem.Challenge.pw_turnery_k04_no_words.main.body.drop 25).take 20 : List PySem.Stmt) = PySem.W.Fast.tw15435550075768148660 := rfl
noncomputable def PySem.W.Fast.tw7504626233430438702 : List PySem.Stmt := (PySem.Challenge.pw_turnery_k04_no_words.main.body.drop 45).take 16
theorem PySem.W.Fast.te7504626233430438702 : ((PySem.Challenge.pw_turnery_k04_no_words.main.body.drop 45).take 16 : List PySem.Stmt) = PySem.W.Fast.tw7504626233430438702 := rfl
noncomputable def PySem.W.Fast.tw6479890877405397753 : List PySem.Stmt := (PySem.Challenge.pw_turnery_k04_no_words.main.body.drop 61).take 16
theorem PySem.W.Fast.te6479890877405397753 : ((PySem.Challenge.pw_turnery_k04_no_words.main.body.drop 61).take 16 : List PySem.Stmt) = PySem.W.Fast.tw6479890877405397753 := rfl
noncomputable def PySem.W.Fast.tw8947099849289188817 : List PySem.Stmt := (PySem.Challenge.pw_turnery_k04_no_words.main.body.drop 77).take 5
theorem PySem.W.Fast.te8947099849289188817 : ((PySem.Challenge.pw_turnery_k04_no_words.main.body.drop 77).take 5 : List PySem.Stmt) = PySem.W.Fast.tw8947099849289188817 := rfl
open PySem PySem.W PyProof.Rows
set_option maxRecDepth 100000 in
set_option maxHeartbeats 0 in
theorem PySem.Challenge.cw_turnery_k04_no_words_holds : PySem.Challenge.rw_turnery_k04_no_words.Holds := by
  w_on; o_law; k_head; (case hw => w_witness2)
  k_fill
  refine K4.walk (l := PySem.Challenge.rw_turnery_k04_no_words) rfl rfl (fun w h Y => PySem.W.km_in_of Y) ?F
  case F =>
    intro w mg fa h KX G hmg
    refine' K4.all_mk KX G hmg ?d1 ?d2 ?d3 ?d4 ?d5 ?d6 ?d7 ?d8 ?d9 ?d10 ?d11 ?d12 ?d13 ?d14 ?d15 ?d16 ?d17 ?z1 ?z2 ?z3 ?z4 ?z5 ?z6 ?z7 ?z8 ?y1 ?gA ?gB ?gC ?gD ?gE ?gN ?gT ?g1 ?g2 ?g3 ?g4 ?g5 ?g6 ?g7 ?g8 ?qN ?qX ?i1 ?i2 ?e1 ?e2 ?e3 ?e4 ?e5 ?j1 ?j2 ?j3 ?j4 ?j5 ?j6 ?j7 ?j8 ?s1
    (case d1 => refine' L2.DefAt.mk' ?a ?l ?c ?k; (case a => k_is); (case l => k_is); (case c => k_is); (case k => k_is))
    (case d2 => refine' L2.DefAt.mk' ?a ?l ?c ?k; (case a => k_is); (case l => k_is); (case c => k_is); (case k => k_is))
    (case d3 => refine' L2.DefAt.mk' ?a ?l ?c ?k; (case a => k_is); (case l => k_is); (case c => k_is); (case k => k_is))
    (case d4 => refine' L2.DefAt.mk' ?a ?l ?c ?k; (case a => k_is); (case l => k_is); (case c => k_is); (case k => k_is))
    (case d5 => refine' L2.DefAt.mk' ?a ?l ?c ?k; (case a => k_is); (case l => k_is); (case c => k_is); (case k => k_is))
    (case d6 => refine' L2.DefAt.mk' ?a ?l ?c ?k; (case a => k_is); (case l => k_is); (case c => k_is); (case k => k_is))
    (case d7 => refine' L2.DefAt.mk' ?a ?l ?c ?k; (case a => k_is); (case l => k_is); (case c => k_is); (case k => k_is))
    (case d8 => refine' L2.DefAt.mk' ?a ?l ?c ?k; (case a => k_is); (case l => k_is); (case c => k_is); (case k => k_is))
    (case d9 => refine' L2.DefAt.mk' ?a ?l ?c ?k; (case a => k_is); (case l => k_is); (case c => k_is); (case k => k_is))
    (case d10 => refine' L2.DefAt.mk' ?a ?l ?c ?k; (case a => k_is); (case l => k_is); (case c => k_is); (case k => k_is))
    (case d11 => refine' L2.DefAt.mk' ?a ?l ?c ?k; (case a => k_is); (case l => k_is); (case c => k_is); (case k => k_is))
    (case d12 => refine' L2.DefAt.mk' ?a ?l ?c ?k; (case a => k_is); (case l => k_is); (case c => k_is); (case k => k_is))
    (case d13 => refine' L2.DefAt.mk' ?a ?l ?c ?k; (case a => k_is); (case l => k_is); (case c => k_is); (case k => k_is))
    (case d14 => refine' L2.DefAt.mk' ?a ?l ?c ?k; (case a => k_is); (case l => k_is); (case c => k_is); (case k => k_is))
    (case d15 => refine' L2.DefAt.mk' ?a ?l ?c ?k; (case a => k_is); (case l => k_is); (case c => k_is); (case k => k_is))
    (case d16 => refine' L2.DefAt.mk' ?a ?l ?c ?k; (case a => k_is); (case l => k_is); (case c => k_is); (case k => k_is))
    (case d17 => refine' L2.DefAt.mk' ?a ?l ?c ?k; (case a => k_is); (case l => k_is); (case c => k_is); (case k => k_is))
    (case z1 => k_is); (case z2 => k_is); (case z3 => k_is); (case z4 => k_is); (case z5 => k_is); (case z6 => k_is); (case z7 => k_is); (case z8 => k_is)
    (case y1 => k_is)
    (case gA => k_is)
    (case gB => k_is)
    (case gC => k_is)
    (case gD => k_is)
    (case gE => k_is)
    (case gN => k_is)
    (case gT => k_is)
    (case g1 => k_is)
    (case g2 => k_is)
    (case g3 => k_is)
    (case g4 => k_is)
    (case g5 => k_is)
    (case g6 => k_is)
    (case g7 => k_is)
    (case g8 => k_is)
    (case qN => kernel_rfl)
    (case qX => kernel_rfl)
    (case i1 => kernel_rfl)
    (case i2 => kernel_rfl)
    (case e1 => kernel_rfl)
    (case e2 => kernel_rfl)
    (case e3 => kernel_rfl)
    (case e4 => kernel_rfl)
    (case e5 => kernel_rfl)
    (case j1 => kernel_rfl)
    (case j2 => kernel_rfl)
    (case j3 => kernel_rfl)
    (case j4 => kernel_rfl)
    (case j5 => kernel_rfl)
    (case j6 => kernel_rfl)
    (case j7 => kernel_rfl)
    (case j8 => kernel_rfl)
    case s1 =>
      refine' K4.RdK.mk' ?aC ?mk ?kc ?m1
      (case aC => k_is); (case mk => k_is); (case kc => k_is)
      (case m1 => refine' L2.MethAt.mk' ?a ?i ?l ?c ?k; (case a => k_is); (case i => k_is); (case l => k_is); (case c => k_is); (case k => k_is))
